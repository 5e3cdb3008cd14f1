import PyProof.Rows.All
import Wide.All
import OpenK.AllK
import Wide.FinOn
import PyProof.EqAt
import PyProof.EqKinds
import PyProof.TupleCall
import HandS.Base
import HandS.Call
import HandS.List
import HandS.Comp
import HandS.Ends
import HandS.Words
import PyProof.ReprReads
import PyProof.ReprRoads
import HandS.Dict
import HandS.Exc
import HandS.ExcInit
import KE.KExcInit
import KE.KExcIs
import HandS.ExcValue
import HandS.MakeKwOnly
import HandS.IsInst
import HandS.ForMost
import HandS.Evl
import HandS.Iter
import HandS.Walk
import HandS.Text
import HandS.FStr
import HandS.Steps
import HandS.Codes
import HandS.SlotsOwn
import HandS.Property
import HandS.More
import KE.KEqNest
import KE.KRevSl
import HandS.EndTab
import HandS.Lambda
import HandS.Style
import HandS.WordsExc
import HandS.StrMore
import PySem.Challenge.RW_maskededits_k72_whole_written_scripts_re
import PyProof.StrLawsFrom
import HandS.RaiseMore
import HandS.Zip
import HandS.Star
import HandS.ClsMeth
import KE.KCallOwn
import HandS.GenYield
import HandS.GenList
import HandS.Wide
import KE.IntTextText
import KE.KNestM
import HandS.HeadHook3
import KE.KLam
set_option Elab.async false
set_option linter.all false
set_option maxRecDepth 100000
set_option maxHeartbeats 4000000
/-! a def's promise for calls under which no guarded builtin runs; repr of data -/
namespace My
open PySem PySem.Spec PyProof.Rows L2

/-- as FnOk, asked only where no guard runs below -/
structure FnG (P : Program) (w : World) (K : PySem.W.Frag) (mg : Str → Option Value) (base : Heap) (CX : CXT) (k : Nat) (f : Addr) (fd : FuncData)
    (ps : List Str) (sp : Sp) : Prop where
  len : ∀ vs H Q E, sp vs H Q E → vs.length = ps.length
  run : ∀ (A : Around) (outer : List Env) (s : Shared) (H : Hp) (args : Args) (us : List Value) (vs : List V) (Q : VK) (E : XK),
    A.guards = some [] → Room k A → Env0 P w K mg base A outer s H → BindsTo s fd args (ps.zip us) → Vals vs us → sp vs H Q E →
    codeAny (model P w) A (.call (.ref f) args) (CR CX outer P w H s Q E) s

section
variable {P : Program} {w : World} {K : PySem.W.Frag} {mg : Str → Option Value} {base : Heap} {CX : CXT} {k : Nat} {f : Addr} {fd : FuncData}
  {ps : List Str} {sp : Sp}
theorem FnG.of (F : FnOk P w K mg base CX k f fd ps sp) : FnG P w K mg base CX k f fd ps sp :=
  ⟨F.len, fun A outer s H args us vs Q E _ hr e0 hb r hs => F.run A outer s H args us vs Q E hr e0 hb r hs⟩

/-- by the body, its guards known -/
theorem FnG.byBody {x qual : Str} {st : Stmt} {N : List Str} (F : Fun K x qual st f fd) (S : FnScope N ps (defScope st))
    (len : ∀ vs H Q E, sp vs H Q E → vs.length = ps.length)
    (body : ∀ (cdv : Value) (A : Around) (outer : List Env) (s : Shared) (H : Hp) (vs : List V) (Q : VK) (E : XK),
      A.guards = some [] → Room k (A.deeper (envOfC qual (defScope st) s.heap.objs.size f cdv)) → sp vs H Q E →
      ∃ t, PSs (cxOf CX P w K mg base N qual (defScope st) f cdv A outer s H E) (defBody st) t ∧
        t { nx := fun _ H' => Q .non H', rt := Q } (start N vs) H) :
    FnG P w K mg base CX (k + 1) f fd ps sp := by
  obtain ⟨oc, od, kV, doc, pm, an, cdv, ct, osl, rfl, lk, code⟩ := F.ex
  refine ⟨len, fun A outer s H args us vs Q E hg hr e0 hb r hsp => ?_⟩
  have inK : K.In s.heap := e0.mod.kin.keeps fun b o e => (e0.bs b o e).1
  have free : s.heap.NoLimit := e0.mod.nolimit.keeps fun b o e => (e0.bs b o e).1
  refine codeAny_call_function hr.depth (inK _ _ lk) rfl S.co S.gen rfl
    (PySem.W.codeRec_of inK code) (hb _ _ _ _ ?_)
  have kinds : ∀ y ∈ ps.zip us, (defScope st).names.lookup y.1 = some .local ∨
      ((defScope st).names.lookup y.1 = some .cell ∧ ((cellsFrom (s.heap.objs.size + 1) (defScope st).names []).lookup y.1).isSome = true) := by
    rintro ⟨n, v⟩ hy
    cases S.par n (List.of_mem_zip hy).1 with
    | inl q => exact Or.inl q
    | inr q => exact Or.inr ⟨q, PySem.W.cellsFrom_some _ _ _ (Or.inl q)⟩
  refine wpAny_newFunctionEnv_cells S.kind kinds fun env he s1 x => ?_
  subst he
  refine ⟨free.keeps x.toInCall.keep, codeAny_func ?_⟩
  obtain ⟨t, ht, hq⟩ := body cdv A outer s H vs Q E hg (hr.deeper _) hsp
  have I0 : Inv (cxOf CX P w K mg base N qual (defScope st) f cdv A outer s H E) [] (start N vs) H s1 :=
    inv_start S hr.hd e0 (len _ _ _ _ hsp) r x
  refine wpAny_mono (ht.run [] s1 (start N vs) H _ I0 hq) (fun fl s' hs => ?_) fun e s' hs => hs
  match fl, hs with
  | .ret u, hs =>
    obtain ⟨v, σ', H', J, rv, q⟩ := hs
    exact ⟨v, H', J.os, J.bare, J.base, J.hok, rv, q⟩
  | .next, hs =>
    obtain ⟨σ', H', J, q⟩ := hs
    exact ⟨V.non, H', J.os, J.bare, J.base, J.hok, rfl, q⟩
  | .brk, hs =>
    obtain ⟨_, _, _, q⟩ := hs
    exact False.elim q
  | .cont, hs =>
    obtain ⟨_, _, _, q⟩ := hs
    exact False.elim q
end

/-! ### the law's own call, no guard below -/
/-- the script, if it is no object of the written part -/
def onlyScript (K : PySem.W.Frag) (a : Addr) (o : Obj) (xs : List V) : Hp := fun b =>
  if b = a ∧ (K.lookup a).isNone = true then some (.frz o (.lst xs)) else none
theorem onlyScript_at {K : PySem.W.Frag} {a b : Addr} {o : Obj} {xs : List V} {u : HO} (h : onlyScript K a o xs b = some u) :
    b = a ∧ K.lookup a = none ∧ u = .frz o (.lst xs) := by
  unfold onlyScript at h
  split at h
  · next q => exact ⟨q.1, Option.isNone_iff_eq_none.mp q.2, (Option.some.inj h).symm⟩
  · cases h
theorem onlyScript_only {K : PySem.W.Frag} {a : Addr} {o : Obj} {xs : List V} : Only (onlyScript K a o xs) := fun b => by
  cases e : onlyScript K a o xs b with
  | none => exact Or.inl rfl
  | some u =>
    obtain ⟨_, _, rfl⟩ := onlyScript_at e
    exact Or.inr ⟨_, _, rfl⟩

theorem lawCall {P : Program} {w : World} {K : PySem.W.Frag} {mg mb : Str → Option Value} {k : Nat} {fa a : Addr} {fd : FuncData} {x : Str} {sp : Sp}
    {s₁ : Shared} {vs : List Value} {ns : List Int}
    (inK : K.In s₁.heap) (glob : s₁.heap.Ns mainGlobals mg) (blt : s₁.heap.Ns builtinsNs mb) (bltIs : ∀ x : Str, x ≠ "__name__" → mb x = bootBuiltins x)
    (free : s₁.heap.NoLimit) (gens : s₁.gens = #[]) (ha : s₁.heap.get? a = some { cls := .type "list", data := .seq vs.toArray }) (areInts : IntsAre vs ns)
    (len : ns.length ≤ sizeLine) (room : Room k callerA)
    (F : ∀ base : Heap, K.In base → base.Ns mainGlobals mg → FnG P w K mg base CX0 k fa fd [x] sp)
    (binds : ∀ (s : Shared) (u : Value), BindsTo s fd ⟨[u], []⟩ [(x, u)])
    (promise : ∀ H : Hp, Only H → SqL K H a (ns.map V.int) → sp [.ref a] H (fun v _ => v = .bl true) fun _ _ _ => False) :
    codeAny (model P w) callerA (.call (.ref fa) ⟨[.ref a], []⟩)
      (fun r s' => r = .ok (.ret (.bool true)) ∧ OldK s₁.heap s'.heap ∧ s'.os = s₁.os ∧ AllBare s'.gens) s₁ := by
  have rv := vals_ints areInts
  have lenV := areInts.length
  let ob : Obj := { cls := .type "list", data := .seq vs.toArray }
  let H := onlyScript K a ob (ns.map V.int)
  have objOk : ObjOk P w H s₁.heap a (.frz ob (.lst (ns.map V.int))) :=
    ⟨ha, by rw [List.length_map]; exact len, vs, _, rv, ha⟩
  have hok : HOk P w H s₁.heap := fun b u e => by
    obtain ⟨rfl, _, rfl⟩ := onlyScript_at e
    exact objOk
  have hS : SqL K H a (ns.map V.int) := by
    cases e : K.lookup a with
    | none => exact Or.inl (Or.inr ⟨ob, if_pos ⟨rfl, by rw [e]; rfl⟩⟩)
    | some o =>
      have q := inK a o e
      rw [ha] at q
      cases q
      exact Or.inr ⟨_, vs.toArray, _, e, rfl, rfl, rfl, by rw [List.size_toArray, lenV]; exact len, by simpa using rv⟩
  have freeAt : ∀ {b : Addr} {o : Obj}, s₁.heap.get? b = some o → (b = a → False) → H b = none := fun {b o} _ n => by
    cases e : H b with
    | none => rfl
    | some u => exact (n (onlyScript_at e).1).elim
  have under : ∀ {b : Addr} {o : Obj}, s₁.heap.get? b = some o → H b = none → (hidT s₁.heap H).get? b = some o := fun e n => hidT_get e n
  have maps : ∀ {b : Addr} {m : Str → Option Value}, s₁.heap.Ns b m → (hidT s₁.heap H).Ns b m := by
    rintro b m ⟨o, es, ep, e, d, r⟩
    refine ⟨o, es, ep, under e (freeAt e ?_), d, r⟩
    rintro rfl
    rw [ha] at e
    cases e
    cases d
  have inBase : K.In (hidT s₁.heap H) := fun b o e => under (inK b o e) (by
    cases q : H b with
    | none => rfl
    | some u =>
      obtain ⟨rfl, z, _⟩ := onlyScript_at q
      rw [z] at e
      cases e)
  have md : Mod K mg (hidT s₁.heap H) := by
    obtain ⟨mc, q1, q2⟩ := free
    exact ⟨inBase, maps glob, ⟨mb, maps blt, bltIs⟩, ⟨mc, maps q1, q2⟩⟩
  have nil : ∀ b : Addr, b ∈ frs [] → False := fun b z => by
    have z' : b ∈ ([] : List Addr) := z
    cases z'
  have e0 : Env0 P w K mg (hidT s₁.heap H) callerA [] s₁ H :=
    ⟨rfl, md, fun b o e => of_hidT e, Nat.le_of_eq (hidT_size _ _), trivial, fun b hb => (nil b hb).elim, hok, .of_eq gens⟩
  have run := (F _ inBase (maps glob)).run callerA [] s₁ H ⟨[.ref a], []⟩ [.ref a] [.ref a] _ _ rfl room e0 (binds s₁ (.ref a)) (.cons rfl .nil)
    (promise H onlyScript_only hS)
  refine codeAny_mono run fun r s' h => ?_
  match r, h with
  | .error e, h => exact False.elim h
  | .ok (.ret u), h =>
    obtain ⟨v, H', os, bare, un, hok', r', q⟩ := h
    obtain rfl : v = .bl true := q
    obtain rfl : u = Value.bool true := r'
    refine ⟨rfl, OldK.of_keep fun b o e => ?_, os, bare⟩
    cases q : H b with
    | none => exact un.keep b o e q (fun z => nil b z) (by simp)
    | some u =>
      obtain ⟨rfl, _, rfl⟩ := onlyScript_at q
      have q2 := un.frzs _ _ _ q
      obtain ⟨e2, _⟩ := hok' _ _ q2
      rw [ha] at e
      cases e
      exact e2
  | .ok .next, h => exact False.elim h
  | .ok .brk, h => exact False.elim h
  | .ok .cont, h => exact False.elim h

/-- what the head leaves to the law's promise -/
theorem walkG {l : PySem.W.OpenLaw} {n k : Nat} {q : Program} {loose : List Str} {XP : (Str → Option Value) → Heap → Prop} {YP : World → Heap → Prop}
    {d : DefRec} {K : Params → PySem.W.Frag} {sp : World → Sp} {x : Str}
    (most : l.most = some n) (small : n ≤ sizeLine) (hdf : d.params.defaults = []) (room : Room k callerA)
    (hY : ∀ (w : World) (h : Heap), YP w h → (K w.params).In h)
    (F : ∀ (w : World) (mg : Str → Option Value) (fa : Addr) (h : Heap), (K w.params).In h → h.Ns mainGlobals mg → mg d.name = some (.ref fa) →
      ∃ fd : FuncData, (∀ (s : Shared) (u : Value), BindsTo s fd ⟨[u], []⟩ [(x, u)]) ∧
        ∀ base : Heap, (K w.params).In base → base.Ns mainGlobals mg → FnG l.prog w (K w.params) mg base CX0 k fa fd [x] (sp w))
    (promise : ∀ (w : World) (H : Hp) (a : Addr) (ns : List Int), ns.length ≤ n → Only H → SqL (K w.params) H a (ns.map V.int) →
      sp w [.ref a] H (fun v _ => v = .bl true) fun _ _ _ => False) :
    PySem.W.WalkO q loose XP YP l.row.toRowW d [] (fun f vs => PySem.call f vs) := by
  refine Att.attach_call most hdf fun w s₀ s₁ mg mb fa o pm cd doc a vs ns G Y ho hd hcd hmg hobj hints hlen hg => ?_
  have inK := hY w _ Y
  obtain ⟨fd, binds, hF⟩ := F w mg fa _ inK G.T.g hmg
  exact lawCall inK G.T.g G.T.b G.T.builtins G.T.nolimit hg hobj hints (Nat.le_trans hlen small) room hF binds
    fun H hO hS => promise w H a ns hlen hO hS
end My
set_option maxHeartbeats 4000000
/-! values that stand for data, and what repr makes of them -/
namespace My
open PySem PySem.Spec PyProof.Rows L2

mutual
/-- v stands for the datum d: an empty dict may be among it -/
inductive Dd (K : PySem.W.Frag) (H : Hp) : V → PyData → Prop
  | non : Dd K H .non .none
  | bl (b : Bool) : Dd K H (.bl b) (.bool b)
  | int (i : Int) : Dd K H (.int i) (.int i)
  | str (x : Str) : Dd K H (.str x) (.str x)
  | lst {a : Addr} {xs : List V} {ds : List PyData} : SqL K H a xs → Dds K H xs ds → Dd K H (.ref a) (.list ds)
  | tup {a : Addr} {xs : List V} {ds : List PyData} : SqT K H a xs → Dds K H xs ds → Dd K H (.ref a) (.tuple ds)
  | dct {a : Addr} : H a = some (.dK []) → Dd K H (.ref a) (.dict [])
inductive Dds (K : PySem.W.Frag) (H : Hp) : List V → List PyData → Prop
  | nil : Dds K H [] []
  | cons {v : V} {vs : List V} {d : PyData} {ds : List PyData} : Dd K H v d → Dds K H vs ds → Dds K H (v :: vs) (d :: ds)
end

/-! it stands as long as the tracked objects do -/
mutual
theorem Dd.ext {K : PySem.W.Frag} {H H' : Hp} (e : ∀ b o, H b = some o → H' b = some o) : ∀ (d : PyData) (v : V), Dd K H v d → Dd K H' v d
  | .none, _, h => by cases h; exact .non
  | .bool b, _, h => by cases h; exact .bl b
  | .int i, _, h => by cases h; exact .int i
  | .str x, _, h => by cases h; exact .str x
  | .list ds, _, h => by
    cases h with
    | lst hs ha => exact .lst (Same.seq e hs) (Dds.ext e ds _ ha)
  | .tuple ds, _, h => by
    cases h with
    | tup hs ha =>
      refine .tup ?_ (Dds.ext e ds _ ha)
      rcases hs with (h | ⟨o, h⟩) | h
      · exact .inl (.inl (e _ _ h))
      · exact .inl (.inr ⟨o, e _ _ h⟩)
      · exact .inr h
  | .dict kvs, _, h => by
    cases h with
    | dct h => exact .dct (e _ _ h)
theorem Dds.ext {K : PySem.W.Frag} {H H' : Hp} (e : ∀ b o, H b = some o → H' b = some o) : ∀ (ds : List PyData) (vs : List V), Dds K H vs ds → Dds K H' vs ds
  | [], _, h => by cases h; exact .nil
  | d :: ds, _, h => by
    cases h with
    | cons h1 h2 => exact .cons (Dd.ext e d _ h1) (Dds.ext e ds _ h2)
end

section
variable {X : Cx} {pins : List (Addr × Obj)} {σ : L2.St} {H : Hp} {s : Shared}
mutual
theorem Dd.reads (I : Inv X pins σ H s) : ∀ (d : PyData) (v : V) (u : Value), Dd X.K H v d → RelV v u →
    ∃ as, Reads s.heap u d as ∧ (d = .dict [] → sysModules ∉ as)
  | .none, _, _, h, r => by
    cases h
    cases r
    exact ⟨_, Reads.none, by simp⟩
  | .bool b, _, _, h, r => by
    cases h
    cases r
    exact ⟨_, Reads.bool b, by simp⟩
  | .int i, _, _, h, r => by
    cases h
    obtain ⟨t, rfl⟩ := r
    exact ⟨_, Reads.int i t, by simp⟩
  | .str x, _, _, h, r => by
    cases h
    obtain ⟨t, rfl⟩ := r
    exact ⟨_, Reads.str x t, by simp⟩
  | .list ds, _, _, h, r => by
    cases h with
    | lst hs ha =>
      cases r
      obtain ⟨its, rv, ⟨o, m, ho, hc, _, hd⟩, _⟩ := I.list hs
      obtain ⟨as, hr⟩ := Dds.reads I ds _ its ha rv
      exact ⟨_, Reads.list ho hc hd hr, fun z => by cases z⟩
  | .tuple ds, _, _, h, r => by
    cases h with
    | tup hs ha =>
      cases r
      obtain ⟨its, rv, ⟨o, ho, hc, n, hd⟩, _⟩ := I.tuple hs
      obtain ⟨as, hr⟩ := Dds.reads I ds _ its ha rv
      exact ⟨_, Reads.tuple ho hc hd hr, fun z => by cases z⟩
  | .dict kvs, _, _, h, r => by
    cases h with
    | @dct a h =>
      cases r
      obtain ⟨z, hne, vs, rel, dd⟩ := dk_of I.hok h
      cases rel
      obtain ⟨o, es, ep, ho, hx, hd, _, hes, _⟩ := dd
      have e0 : es.toList = [] := by
        cases q : es.toList with
        | nil => rfl
        | cons e r =>
          rw [q] at hes
          cases hes
      refine ⟨_, Reads.dict (kvs := []) ho hx.1 hd (by rw [e0]; exact .nil) (by rw [e0]; exact .nil), fun _ hm => ?_⟩
      have e1 : sysModules = a := by simpa using hm
      rw [e1] at hne
      simp at hne
theorem Dds.reads (I : Inv X pins σ H s) : ∀ (ds : List PyData) (vs : List V) (us : List Value), Dds X.K H vs ds → Vals vs us →
    ∃ as, ReadsAll s.heap us ds as
  | [], _, _, h, r => by
    cases h
    cases r
    exact ⟨_, ReadsAll.nil⟩
  | d :: ds, _, _, h, r => by
    cases h with
    | cons h1 h2 =>
      cases r with
      | cons r1 r2 =>
        obtain ⟨as, q1, _⟩ := Dd.reads I d _ _ h1 r1
        obtain ⟨bs, q2⟩ := Dds.reads I ds _ _ h2 r2
        exact ⟨_, ReadsAll.cons q1 q2⟩
end
mutual
theorem Dp.plain {K : PySem.W.Frag} {H : Hp} : ∀ (d : PyData) (v : V), Dp K H v d → d.hasDict = false
  | .none, _, _ => by simp only [PyData.hasDict]
  | .bool _, _, _ => by simp only [PyData.hasDict]
  | .int _, _, _ => by simp only [PyData.hasDict]
  | .str _, _, _ => by simp only [PyData.hasDict]
  | .list ds, _, h => by
    cases h with
    | lst hs ha =>
      simp only [PyData.hasDict]
      exact DpAll.plain ds _ ha
  | .tuple ds, _, h => by
    cases h with
    | tup hs ha =>
      simp only [PyData.hasDict]
      exact DpAll.plain ds _ ha
  | .dict _, _, h => by cases h
theorem DpAll.plain {K : PySem.W.Frag} {H : Hp} : ∀ (ds : List PyData) (vs : List V), DpAll K H vs ds → PyData.hasDictAll ds = false
  | [], _, _ => by simp only [PyData.hasDictAll]
  | d :: ds, _, h => by
    cases h with
    | cons h1 h2 => simp only [PyData.hasDictAll, Dp.plain d _ h1, DpAll.plain ds _ h2, Bool.or_self]
end
/-- what repr of a value asks: that it stands for a datum, without dicts or with -/
def rRepr (K : PySem.W.Frag) : List V → Hp → VK → Prop := fun xs H Q => ∃ v d, xs = [v] ∧ (Dp K H v d ∨ Dd K H v d ∧ (d.hasDict = false ∨ d = .dict [])) ∧
  d.showable = true ∧ d.shown.length ≤ sizeLine ∧ d.depth ≤ 64 ∧ Q (.str d.shown) H
theorem call_reprU (hg : X.A.guards = some []) (un : X.A.units + 200 < cLine) : CallR X (.builtin "repr") (rRepr X.K) := by
  intro pins s σ H xs us Q I r h
  obtain ⟨v, d, rfl, hd, sh, sz, dp, q⟩ := h
  obtain ⟨u, rfl, ru⟩ := vals1 r
  have rd : ∃ as, Reads s.heap u d as ∧ (d.hasDict = true → sysModules ∉ as) := by
    rcases hd with hd | hd
    · obtain ⟨as, q⟩ := Dp.reads I d v u hd ru
      exact ⟨as, q, fun z => by rw [Dp.plain d v hd] at z; cases z⟩
    · obtain ⟨as, q, n⟩ := Dd.reads I d v u hd.1 ru
      exact ⟨as, q, fun z => n (hd.2.resolve_left fun z2 => by rw [z2] at z; cases z)⟩
  obtain ⟨as, rd, nd⟩ := rd
  have base : ∀ {x : Str} {t' : Nat} {tk : Tok}, x = d.shown → EP X pins σ Q (.str x tk) { s with toks := t' } := fun {x t' tk} e => by
    subst e
    exact ⟨.str _, H, I.tok _, ⟨tk, rfl⟩, q⟩
  cases rd with
  | none => exact PySem.P.repr_of_none (base (by simp only [PyData.shown]))
  | bool b => exact PySem.P.repr_of_bool (base (by simp only [PyData.shown]))
  | int i t => exact PySem.P.repr_of_int (by simpa [PyData.showable] using sh) (base (by simp only [PyData.shown]))
  | str x t => exact PySem.P.repr_of_str (base (by simp only [PyData.shown])) (by simpa only [PyData.shown] using sz)
  | list h1 h2 h3 h4 =>
    exact repr_of_reads' (.list h1 h2 h3 h4) sh nd hg (by omega) (fun _ _ z => z)
      (fun h' u tk hk => ⟨.str _, H, I.kept (t' := tk) hk, ⟨u, rfl⟩, q⟩) sz
  | tuple h1 h2 h3 h4 =>
    exact repr_of_reads' (.tuple h1 h2 h3 h4) sh nd hg (by omega) (fun _ _ z => z)
      (fun h' u tk hk => ⟨.str _, H, I.kept (t' := tk) hk, ⟨u, rfl⟩, q⟩) sz
  | dict h1 h2 h3 h4 h5 =>
    exact repr_of_reads' (.dict h1 h2 h3 h4 h5) sh nd hg (by omega) (fun _ _ z => z)
      (fun h' u tk hk => ⟨.str _, H, I.kept (t' := tk) hk, ⟨u, rfl⟩, q⟩) sz

theorem call_repr {k : Nat} (hg : X.A.guards = some []) (hr : Room k X.A) : CallR X (.builtin "repr") (rRepr X.K) := call_reprU hg (by have := hr.un; omega)

/-- a written list, its address not that of sys.modules -/
def tLstB (t : TA) : TE := fun σ H Q => t σ H fun xs H1 => xs.length ≤ sizeLine ∧ ∀ p, H1 p = none → p ≠ sysModules → Q (.ref p) (upd H1 p (.lst xs))
theorem pe_lstB {es : List Expr} {t : TA} {pos : Pos} (h : PA X es t) : PE X (.List es pos) (tLstB t) := by
  refine ⟨fun pins s σ H Q I hq => ?_⟩
  refine wpAny_List_spliced (thn (h.run pos pins s σ H _ I hq) ?_)
  rintro us s1 ⟨xs, H1, I1, r, z, q⟩
  have new : H1 s1.heap.objs.size = none := I1.hok.fresh (Nat.le_refl _)
  refine ⟨by rw [← r.length]; exact z, .ref s1.heap.objs.size, upd H1 s1.heap.objs.size (.lst xs), ?_, rfl, q _ new (Nat.ne_of_gt I1.big)⟩
  exact I1.laid (t' := s1.toks) (fun b u e => Heap.get?_push_of_some _ e) (Nat.le_refl _) ⟨z, us, 0, r, Heap.get?_push_size _ rfl⟩
end
end My
set_option maxHeartbeats 4000000
/-! own exceptions over any built-in base, made by place or by name, kept as values -/
namespace My
open PySem PySem.W PySem.Calls PyProof.Rows PySem.HandSPX

section
variable {M : Model} {A : Around} {E : Value → Shared → Prop} {h : Heap} {g : Array GenState} {d : Drawn} {t : Nat} {os : OsState}
variable {nm q : Str} {C N : Addr} {bs bm bmB : List Value} {hdct : Bool} {sn : List Str} {sub : List Value} {ab : Bool} {col : Option Bool} {dd : Option Addr}
  {k0 k1 k2 k3 k5 : Option Value} {B newId initId : String} {rest : List Value} {kw : List (Str × Value)}

/-- the mro behind the own class: it has the base that makes, and is no AttributeError, no NameError -/
structure Makes (bm : List Value) (B : String) : Prop where
  base : bm.contains (.type B) = true
  noAttr : bm.contains (.type "AttributeError") = false
  noName : bm.contains (.type "NameError") = false

theorem checkNew (F : ExcBaseFacts B newId initId bmB) (m : Makes bm B) {Q : Unit → Shared → Prop}
    (hC : h.get? C = some (excClassObj nm q C N bs bm hdct sn sub ab col dd k0 k1 k2 k3 k5 newId)) (hq : Q () ⟨h, g, d, t, os⟩) :
    wpAny M A (checkBuiltinCall newId ⟨.ref C :: rest, kw⟩) Q E ⟨h, g, d, t, os⟩ := by
  have has : (Value.ref C :: bm).contains (.type B) = true := by rw [List.contains_cons, m.base, Bool.or_true]
  have star := F.noStar
  simp only [checkBuiltinCall, F.newKind, F.newSplit, F.newRow]
  repeat (first
    | refine wpAny_loadPart_at hC ?_
    | (refine wpAny_isSubtype_exc hC ?_; rw [has])
    | refine wpAny_staticBase_exc hC ?_
    | refine wpAny_madeBy_exc hC ?_
    | simp only [bne_self_eq_false, Bool.false_eq_true, if_false]
    | wp_step)
  exact hq
end

section
variable {prog : Program} {w : World} {A : Around} {E : Value → Shared → Prop} {R : Result → Shared → Prop} {h : Heap} {g : Array GenState} {d : Drawn} {t : Nat} {os : OsState}
variable {nm q : Str} {C N fI : Addr} {bs bm bmB : List Value} {hdct : Bool} {sn : List Str} {sub : List Value} {ab : Bool} {col : Option Bool} {dd : Option Addr}
  {k0 k1 k2 k3 k5 : Option Value} {B newId initId : String} {rest : List Value} {kw : List (Str × Value)}

/-- the bare exception, its arguments laid before it -/
def bare2 (h : Heap) (C : Addr) (rest : List Value) : Heap := (h.push (kdv_tup rest)).push (excO C h.objs.size)
theorem bare2_keeps {b : Addr} {o : Obj} (e : h.get? b = some o) : (bare2 h C rest).get? b = some o :=
  Heap.get?_push_of_some _ (Heap.get?_push_of_some _ e)
theorem bare2_at : (bare2 h C rest).get? (h.objs.size + 1) = some (excO C h.objs.size) := by
  unfold bare2
  heap_get

theorem newOwn (F : ExcBaseFacts B newId initId bmB) (m : Makes bm B) (small : rest.length ≤ sizeLine)
    (hC : h.get? C = some (excClassObj nm q C N bs bm hdct sn sub ab col dd k0 k1 k2 k3 k5 newId))
    (hq : R (.ok (.ret (.ref (h.objs.size + 1)))) ⟨bare2 h C rest, g, d, t, os⟩) :
    codeAny (model prog w) A (.builtin newId ⟨.ref C :: rest, kw⟩) R ⟨h, g, d, t, os⟩ := by
  have ends := F.ends
  have has : ∀ {X : String} {b : Bool}, bm.contains (.type X) = b → (Value.ref C :: bm).contains (.type X) = b := fun {X b} e => by
    rw [List.contains_cons, e]
    rfl
  have isB := has m.base
  have noA := has m.noAttr
  have noN := has m.noName
  refine codeAny_builtinAt F.entry ?_
  unfold Builtin.«BaseException.__new__»
  refine PySem.wpAt_bind ?_
  show PySem.wpAt _ _ _ (stack >>= _) _ _ _
  refine PySem.wpAt_bind (PySem.wpAt_stack fun p below => PySem.wpAt_of_wpAny ?_)
  wp_walk
  refine PySem.wpAt_of_wpAny ?_
  rw [F.owner]
  repeat (first
    | with_reducible refine wpAny_madeHere_exc F.canon hC ?_
    | with_reducible refine wpAny_loadPart_at hC ?_
    | (with_reducible refine wpAny_isSubtype_exc hC ?_; first | rw [isB] | rw [noA] | rw [noN])
    | wp_step)
  show R _ _
  rw [Heap.size_push]
  exact hq

theorem typeCallOwn (F : ExcBaseFacts B newId initId bmB) (m : Makes bm B) (small : rest.length ≤ sizeLine) {Q : Fin → Shared → Prop}
    (hC : h.get? C = some (excClassObj nm q C N bs bm hdct sn sub ab col dd k0 k1 k2 k3 k5 newId))
    (hi : Looks (model prog w) h (typeLookup (.ref C) "__init__") (some (.ref fI)))
    (hb : ∀ self, Looks (model prog w) h (bindSpecial (.ref fI) self) (.ref fI, [self]))
    (hq : codeAny (model prog w) A (.call (.ref fI) ⟨.ref (h.objs.size + 1) :: rest, kw⟩)
      (fun r s' => match r with
        | .ok (.ret v) => v = .none ∧ Q (.done (.ret (.ref (h.objs.size + 1)))) s'
        | .ok _ => False
        | .error e => E e s') ⟨bare2 h C rest, g, d, t, os⟩) :
    wpAny (model prog w) A (Builtin.«type.__call__» ⟨.ref C :: rest, kw⟩) Q E ⟨h, g, d, t, os⟩ := by
  repeat (first
    | with_reducible refine wpAny_loadPart_at hC ?_
    | with_reducible refine wpAny_madeBy_exc hC ?_
    | wp_step)
  refine codeAny_call_builtin_code (Code.quiet_builtin _ F.quiet) (checkNew F m hC ?_)
  refine newOwn F m small hC ?_
  show wpAny _ _ _ _ _ _
  have hC1 : (bare2 h C rest).get? C = _ := bare2_keeps hC
  have at1 : (bare2 h C rest).get? (h.objs.size + 1) = some (excO C h.objs.size) := bare2_at
  have own : (Value.ref C :: bm).contains (.ref C) = true := by simp
  have i1 := hi.keeps (h' := bare2 h C rest) fun b o e => bare2_keeps e
  have b1 := (hb (.ref (h.objs.size + 1))).keeps (h' := bare2 h C rest) fun b o e => bare2_keeps e
  unfold isInstance
  repeat (first
    | with_reducible refine wpAny_loadPart_at at1 ?_
    | (with_reducible refine wpAny_isSubtype_exc hC1 ?_; rw [own])
    | wp_step)
  show wpAny _ _ (typeLookup (.ref C) _) _ _ _
  refine i1.at ?_
  refine wpAny_holding (wpAny_bind (b1.at ?_))
  refine wpAny_bind (wpAny_call (codeAny_mono hq fun r s' z => ?_))
  match r, z with
  | .error e, z => exact z
  | .ok (.ret v), z =>
    obtain ⟨rfl, z⟩ := z
    first
      | exact wpAny_pure (wpAny_pure z)
      | (wp_walk; exact z)
  | .ok .next, z => exact z.elim
  | .ok .brk, z => exact z.elim
  | .ok .cont, z => exact z.elim

theorem callOwn (F : ExcBaseFacts B newId initId bmB) (m : Makes bm B) (small : rest.length ≤ sizeLine)
    (hC : h.get? C = some (excClassObj nm q C N bs bm hdct sn sub ab col dd k0 k1 k2 k3 k5 newId))
    (hi : Looks (model prog w) h (typeLookup (.ref C) "__init__") (some (.ref fI)))
    (hb : ∀ self, Looks (model prog w) h (bindSpecial (.ref fI) self) (.ref fI, [self]))
    (hq : codeAny (model prog w) (A.under (.builtin "type.__call__" ⟨.ref C :: rest, kw⟩)) (.call (.ref fI) ⟨.ref (h.objs.size + 1) :: rest, kw⟩)
      (InitBack (h.objs.size + 1) R) ⟨bare2 h C rest, g, d, t, os⟩) :
    codeAny (model prog w) A (.call (.ref C) ⟨rest, kw⟩) R ⟨h, g, d, t, os⟩ := by
  have f1 := tc_lookup
  have f2 := tc_bind (.ref C)
  have isType : (⟨h, g, d, t, os⟩ : Shared).TypeIs (.ref C) "type" := ⟨_, hC, rfl⟩
  refine codeAny_of_tree ?_
  show wpAny _ _ (callAny (.ref C) _) _ _ _
  repeat (any_goals (first | assumption | with_reducible refine wpAny_loadPart_at hC ?_ | wp_step))
  refine ⟨rfl, ?_⟩
  refine codeAny_call_builtin_at (Code.quiet_builtin _ (by decide +kernel)) entry_typeCall
    (wpAny_check_type_call_sub hC (typeCallOwn F m small hC hi hb ?_))
  refine codeAny_mono hq fun r s' z => ?_
  match r, z with
  | .error e, z => exact z
  | .ok (.ret v), z => exact z
  | .ok .next, z => exact z
  | .ok .brk, z => exact z
  | .ok .cont, z => exact z
end
end My
set_option maxHeartbeats 4000000
/-! self.f = v on own exceptions over any built-in base -/
namespace My
open PySem PySem.W PySem.Calls PyProof.Rows PySem.HandSPX PySem.OEX

/-- what the store asks of the class's mro -/
structure MroOk (l : List Value) : Prop where
  ne : l.isEmpty = false
  obj : l.contains (.type "object") = true
  pass : ∀ self : Value, refuseLoop self "__setattr__" l = pure ()
theorem MroOk.cons {C : Addr} {l : List Value} (m : MroOk l) : MroOk (.ref C :: l) :=
  ⟨rfl, by rw [List.contains_cons, m.obj, Bool.or_true], fun self => by rw [refuseLoop_ref]; exact m.pass self⟩
theorem mroValue : MroOk [.type "ValueError", .type "Exception", .type "BaseException", .type "object"] :=
  ⟨rfl, by decide +kernel, fun self => by kernel_rfl⟩
theorem mroKey : MroOk [.type "KeyError", .type "LookupError", .type "Exception", .type "BaseException", .type "object"] :=
  ⟨rfl, by decide +kernel, fun self => by kernel_rfl⟩
theorem mroRuntime : MroOk [.type "RuntimeError", .type "Exception", .type "BaseException", .type "object"] :=
  ⟨rfl, by decide +kernel, fun self => by kernel_rfl⟩

section
open Builtin Builtin.ObjectAttr
variable {prog : Program} {w : World} {A : Around} {E : Value → Shared → Prop} {R : Result → Shared → Prop} {hp : Heap} {g : Array GenState} {d : Drawn} {t : Nat} {os : OsState}
variable {K : W.Frag} {name : Str} {tk : Tok} {v : Value} {x C dx : Addr} {fv : Array Value} {cd : ClassData}

/-- the first attribute: the exception gets its dict -/
theorem storeNew (inK : K.In hp) (hx : hp.get? x = some { cls := .ref C, data := .fields fv }) (hcd : W.clsIn K C = some cd) (m : MroOk cd.mro)
    (hh : cd.hasDict = true) (no : W.findIn K (.ref C) name = some none)
    (hq : ∀ h' tk' dx, (∀ b o, b ≠ x → hp.get? b = some o → h'.get? b = some o) → hp.objs.size ≤ dx → dx ≠ x →
      h'.get? x = some { cls := .ref C, dict := some dx, data := .fields fv } → h'.Ns1 dx (fun y => if y = name then some v else none) →
      R (.ok (.ret .none)) ⟨h', g, d, tk', os⟩) :
    codeAny (model prog w) A (.call (.builtin "object.__setattr__") ⟨[.ref x, .str name tk, v], []⟩) R ⟨hp, g, d, t, os⟩ := by
  have inst : W.InstAt hp x { cls := .ref C, data := .fields fv } C none := ⟨hx, rfl, rfl, trivial⟩
  have SF := F.store_object
  have apart : x ≠ hp.objs.size := Nat.ne_of_lt (Heap.lt_size hx)
  have sub : W.Looks (model prog w) hp (isInstance (.ref x) (.type "object")) true :=
    inst.type.andThen (W.looks_mroIn inK (by
      unfold W.mroIn
      rw [hcd, Option.bind_some, if_neg (by rw [m.ne]; decide), m.obj]))
  refine codeAny_call_builtin SF.slot.plain SF.entry (@W.check_slot (model prog w) _ _ ⟨hp, g, d, t, os⟩ "object.__setattr__" "object" "__setattr__"
    (.ref x) [.str name tk, v] [] _ SF.kind SF.split sub (SF.args (.ref x) (.str name tk) v) ?_)
  have mroL : W.Looks (model prog w) hp (mroOf (.ref C)) cd.mro := (W.looks_clsIn inK hcd).andThen .now
  have taker : W.Looks (model prog w) hp (storeTaker? none) none := .now
  have clsL : W.Looks (model prog w) hp (classData C) cd := W.looks_clsIn inK hcd
  rw [W.osa_eq, refuse_eq]
  refine wpAny_bind (wpAny_bind (inst.type.at (wpAny_bind (mroL.at ?_))))
  rw [m.pass]
  refine wpAny_pure (wpAny_bind (inst.type.at (wpAny_bind ((W.looks_findIn inK no).at (wpAny_bind (taker.at ?_))))))
  show wpAny _ _ (storeInOwnDict (.ref x) (.ref C) (.str name tk) name v false) _ _ _
  obtain ⟨nm, bs, mro, ns, qn, hd, sn, sb, ab, col, del⟩ := cd
  dsimp only at hh
  subst hh
  unfold storeInOwnDict ownDictForStores
  repeat (first
    | with_reducible refine store_in_new ?_ ?_
    | with_reducible refine wpAny_loadPart_at hx ?_
    | with_reducible refine clsL.at ?_
    | wp_step)
  · exact ⟨_, #[], _, (Heap.get?_update_ne _ _ _ _ apart.symm).trans (Heap.get?_push_at rfl rfl), rfl, fun e he => absurd he (by simp), fun _ => rfl⟩
  · intro h' tk' hn' hs
    have hx1 : (hp.push { cls := .type "dict", data := .dict #[] }).get? x = some { cls := .ref C, data := .fields fv } := Heap.get?_push_of_some _ hx
    refine hq h' tk' hp.objs.size (fun b o hb ho => ?_) (Nat.le_refl _) apart.symm ?_ hn'
    · exact (hs.2 b (Nat.ne_of_lt (Heap.lt_size ho))).trans ((Heap.get?_update_ne _ _ _ _ hb).trans (Heap.get?_push_of_some _ ho))
    · exact (hs.2 x apart).trans (Heap.get?_update_self _ hx1 rfl)

/-- a further attribute -/
theorem storeMore {m0 : Str → Option Value} {nl : List Str} (inK : K.In hp) (hx : hp.get? x = some { cls := .ref C, dict := some dx, data := .fields fv })
    (hns : hp.Ns1 dx m0) (hw : Within m0 nl) (few : nl.length ≤ 1000) (hcd : W.clsIn K C = some cd) (m : MroOk cd.mro) (hh : cd.hasDict = true)
    (no : W.findIn K (.ref C) name = some none)
    (hq : ∀ h' tk', (∀ b o, b ≠ dx → hp.get? b = some o → h'.get? b = some o) → h'.Ns1 dx (fun y => if y = name then some v else m0 y) →
      R (.ok (.ret .none)) ⟨h', g, d, tk', os⟩) :
    codeAny (model prog w) A (.call (.builtin "object.__setattr__") ⟨[.ref x, .str name tk, v], []⟩) R ⟨hp, g, d, t, os⟩ := by
  obtain ⟨oD, esD, epD, hoD, hdD, _⟩ := hns.count hw
  have inst : W.InstAt hp x { cls := .ref C, dict := some dx, data := .fields fv } C (some oD) := ⟨hx, rfl, rfl, hoD⟩
  have SF := F.store_object
  have sub : W.Looks (model prog w) hp (isInstance (.ref x) (.type "object")) true :=
    inst.type.andThen (W.looks_mroIn inK (by
      unfold W.mroIn
      rw [hcd, Option.bind_some, if_neg (by rw [m.ne]; decide), m.obj]))
  refine codeAny_call_builtin SF.slot.plain SF.entry (@W.check_slot (model prog w) _ _ ⟨hp, g, d, t, os⟩ "object.__setattr__" "object" "__setattr__"
    (.ref x) [.str name tk, v] [] _ SF.kind SF.split sub (SF.args (.ref x) (.str name tk) v) ?_)
  have mroL : W.Looks (model prog w) hp (mroOf (.ref C)) cd.mro := (W.looks_clsIn inK hcd).andThen .now
  have taker : W.Looks (model prog w) hp (storeTaker? none) none := .now
  have clsL : W.Looks (model prog w) hp (classData C) cd := W.looks_clsIn inK hcd
  rw [W.osa_eq, refuse_eq]
  refine wpAny_bind (wpAny_bind (inst.type.at (wpAny_bind (mroL.at ?_))))
  rw [m.pass]
  refine wpAny_pure (wpAny_bind (inst.type.at (wpAny_bind ((W.looks_findIn inK no).at (wpAny_bind (taker.at ?_))))))
  show wpAny _ _ (storeInOwnDict (.ref x) (.ref C) (.str name tk) name v false) _ _ _
  obtain ⟨nm, bs, mro, ns, qn, hd, sn, sb, ab, col, del⟩ := cd
  dsimp only at hh
  subst hh
  unfold storeInOwnDict ownDictForStores
  repeat (first
    | with_reducible refine store_in_old hns hw few ?_
    | with_reducible refine wpAny_loadPart_at hx ?_
    | with_reducible refine clsL.at ?_
    | wp_step)
  intro h' tk' hn' hs
  exact hq h' tk' (fun b o hb ho => (hs.2 b hb).trans ho) hn'
end
end My
set_option maxHeartbeats 4000000
/-! own exceptions made as values, by place or by name; their __init__ walked as a def -/
namespace My
open PySem PySem.Spec PyProof.Rows L2

/-- what the written part says of an own exception class, whatever built-in it stands on -/
structure ExG (K : PySem.W.Frag) (C : Addr) : Prop where
  cls : ∃ nm q N bs bm sn sub ab col dd k0 k1 k2 k3 k5 B newId initId bmB,
    K.lookup C = some (excClassObj nm q C N bs bm true sn sub ab col dd k0 k1 k2 k3 k5 newId) ∧ ExcBaseFacts B newId initId bmB ∧ Makes bm B ∧ MroOk bm
  sa : PySem.W.findIn K (.ref C) "__setattr__" = some (some (.builtin "object.__setattr__"))
  kC : PySem.W.keepIn K (.ref C) = true

section
variable {X : Cx} {pins : List (Addr × Obj)} {σ : L2.St} {H : Hp} {s : Shared} {a C dx : Addr} {f : Str} {y : V} {u : Value} {fs : List (Str × V)}
  {Q : Unit → Shared → Prop} {E : Value → Shared → Prop} {A : Around}
/-- a heap may be read without one object that is new -/
theorem Inv.grow {h' : Heap} {b : Addr} {o : HO} {t' : Nat} {G : Heap} (I : Inv X pins σ H { s with heap := G }) (k : ∀ c u, G.get? c = some u → h'.get? c = some u)
    (gone : G.get? b = none) (hn : H b = none) (new : ObjOk X.prog X.w (upd H b o) h' b o) : Inv X pins σ (upd H b o) { s with heap := h', toks := t' } :=
  L2.Inv.laidN (s := { s with heap := G }) I k gone hn new

theorem selfNew (T : ExG X.K C) (I : Inv X pins σ H s) (e : H a = some (exo a C none)) (no : PySem.W.findIn X.K (.ref C) f = some none) (ry : L2.RelV y u)
    (h : ∀ dx s', H dx = none → dx ≠ a → Inv X pins σ (upd (upd H a (exo a C (some dx))) dx (exd dx [(f, y)])) s' → Q () s') :
    wpAny (model X.prog X.w) A (setAttr (.ref a) f u) Q E s := by
  obtain ⟨nm, q, N, bs, bm, sn, sub, ab, col, dd, k0, k1, k2, k3, k5, B, newId, initId, bmB, hC, _, _, mro⟩ := T.cls
  have hcl : PySem.W.clsIn X.K C = some { name := nm, bases := bs, mro := .ref C :: bm, ns := N, qualname := q, hasDict := true, slotNames := sn, subclasses := sub, abstract := ab, collection := col, hasDel := false } := by
    unfold PySem.W.clsIn
    rw [hC]
    all_goals rfl
  obtain ⟨t1, ho⟩ := exo_at I.hok e
  have I0 := I
  obtain ⟨hp, g, d, t, os⟩ := s
  refine PySem.W.set_plain I.kIn (ox := { cls := .ref C, dict := none, data := .fields #[.ref t1, .none, .none, .none, .bool false, .none] }) (od := none) ⟨ho, rfl, rfl, trivial⟩ T.sa ?_
  refine storeNew I.kIn ho hcl mro.cons rfl no (fun h' tk' dx k dn dne hx hn => ?_)
  have hnd : H dx = none := I.hok.fresh dn
  obtain ⟨G, g1, g2⟩ := restrict h' fun b => decide (b ≠ dx)
  have same : ∀ b, b ≠ dx → G.get? b = h'.get? b := fun b hb => g1 b (decide_eq_true hb)
  have gone : G.get? dx = none := g2 dx (by simp)
  have sub' : ∀ c o, G.get? c = some o → h'.get? c = some o := fun c o z => by
    by_cases hc : c = dx
    · rw [hc, gone] at z
      cases z
    · rw [← same c hc]
      exact z
  have old : ∀ c o, hp.get? c = some o → c ≠ dx := fun c o z => Nat.ne_of_lt (Nat.lt_of_lt_of_le (Heap.lt_size z) dn)
  have hxG : G.get? a = some { cls := .ref C, dict := some dx, data := .fields #[.ref t1, .none, .none, .none, .bool false, .none] } := by
    rw [same a (Ne.symm dne)]
    exact hx
  have I1 : Inv X pins σ (upd H a (exo a C (some dx))) { (⟨hp, g, d, t, os⟩ : Shared) with heap := G, toks := tk' } :=
    I0.write (t' := tk') (x := a) (e := a) (o := exo a C (some dx)) (by rw [e]; exact True.intro) (.inl rfl)
      (fun b o hb z => by rw [same b (old b o z)]; exact k b o hb z) ⟨_, hxG⟩ (exo_ok hxG)
  have hn1 : upd H a (exo a C (some dx)) dx = none := by
    rw [upd_ne dne]
    exact hnd
  exact h dx _ hnd dne (L2.Inv.laidN (s := { (⟨hp, g, d, t, os⟩ : Shared) with heap := G, toks := tk' }) (t' := tk') I1 sub' gone hn1
    (exd_ok hn (relO_put (fs := []) ry fun g => True.intro)))

theorem selfMore (T : ExG X.K C) (I : Inv X pins σ H s) (e : H a = some (exo a C (some dx))) (ed : H dx = some (exd dx fs)) (few : fs.length ≤ 900)
    (no : PySem.W.findIn X.K (.ref C) f = some none) (ry : L2.RelV y u) (h : ∀ s', Inv X pins σ (upd H dx (exd dx ((f, y) :: fs))) s' → Q () s') :
    wpAny (model X.prog X.w) A (setAttr (.ref a) f u) Q E s := by
  obtain ⟨nm, q, N, bs, bm, sn, sub, ab, col, dd, k0, k1, k2, k3, k5, B, newId, initId, bmB, hC, _, _, mro⟩ := T.cls
  have hcl : PySem.W.clsIn X.K C = some { name := nm, bases := bs, mro := .ref C :: bm, ns := N, qualname := q, hasDict := true, slotNames := sn, subclasses := sub, abstract := ab, collection := col, hasDel := false } := by
    unfold PySem.W.clsIn
    rw [hC]
    all_goals rfl
  obtain ⟨t1, ho⟩ := exo_at I.hok e
  obtain ⟨mA, hns, rel⟩ := exd_at I.hok ed
  have hw := within_of rel
  have I0 := I
  obtain ⟨hp, g, d, t, os⟩ := s
  obtain ⟨oD, _, _, hoD, _, _⟩ := hns.count hw
  refine PySem.W.set_plain I.kIn (ox := { cls := .ref C, dict := some dx, data := .fields #[.ref t1, .none, .none, .none, .bool false, .none] }) (od := some oD) ⟨ho, rfl, rfl, hoD⟩ T.sa ?_
  refine storeMore I.kIn ho hns hw (by rw [List.length_map]; omega) hcl mro.cons rfl no (fun h' tk' k hn => ?_)
  have hd : ∃ o, h'.get? dx = some o := by
    obtain ⟨o, _, _, e', _⟩ := hn
    exact ⟨o, e'⟩
  exact h _ (I0.write (t' := tk') (x := dx) (e := dx) (o := exd dx ((f, y) :: fs)) (by rw [ed]; exact True.intro) (.inl rfl) k hd (exd_ok hn (relO_put ry rel)))
end

/-- self.f = e -/
def tSelf (K : PySem.W.Frag) (f : Str) (to te : TE) : TS := fun D σ H => te σ H fun y H1 => to σ H1 fun x H2 => ∃ a C : Addr, x = .ref a ∧ ExG K C ∧ PySem.W.findIn K (.ref C) f = some none ∧
  ((H2 a = some (exo a C none) ∧ ∀ dx, H2 dx = none → dx ≠ a → D.nx σ (upd (upd H2 a (exo a C (some dx))) dx (exd dx [(f, y)]))) ∨
    ∃ (dx : Addr) (fs : List (Str × V)), H2 a = some (exo a C (some dx)) ∧ H2 dx = some (exd dx fs) ∧ fs.length ≤ 900 ∧ D.nx σ (upd H2 dx (exd dx ((f, y) :: fs))))
section
variable {X : Cx} {o e : Expr} {to te : TE} {f : Str} {p' pos : Pos}
theorem ps_self (ho : PE X o to) (he : PE X e te) (hs : swapsWith e (some (.Attribute o f p')) pos.line X.env = pure false := by rfl) :
    PS X (.Assign [.Attribute o f p'] e pos) (tSelf X.K f to te) := by
  refine ⟨fun pins s σ H D I h => ?_⟩
  refine plainObj_wpAny_Assign_Attribute (thn (he.run pins s σ H _ I h) ?_) hs
  rintro v s1 ⟨y, H1, I1, r1, q1⟩
  refine thn (ho.run pins s1 σ H1 _ I1 q1) ?_
  rintro u s2 ⟨x, H2, I2, r2, a, C, ex, T, no, q⟩
  subst ex
  obtain rfl : u = Value.ref a := r2
  rcases q with ⟨ea, q⟩ | ⟨dx, fs, ea, ed, few, q⟩
  · exact selfNew T I2 ea no r1 fun dx s' n ne J => ⟨σ, _, J, q dx n ne⟩
  · exact selfMore T I2 ea ed few no r1 fun s' J => ⟨σ, _, J, q⟩
end

/-! ### C(e, ..), C(.., k = v) as a value -/
def tMadeK (C : Addr) (n m : Nat) (sp : Sp) (gV : List V → List V → List V) (t tk : TA) : TE := fun σ H Q => t σ H fun vs H1 => tk σ H1 fun zs H2 => vs.length = n ∧ zs.length = m ∧ n ≤ 1000 ∧
  ∀ a, H2 a = none → sp (gV (.ref a :: vs) zs) (upd H2 a (exo a C none)) (fun v H3 => v = .non ∧ Q (.ref a) H3) (fun _ _ _ => False)
section
variable {X : Cx} {CX : CXT} {k n : Nat} {fI C : Addr} {fd : FuncData} {ps ks : List Str} {sp : Sp} {x : Str} {p pos : Pos} {e : Expr} {es : List Expr} {kws : List Keyword}
  {t tk : TA} {g : List Value → List Value → List Value} {gV : List V → List V → List V}
theorem runMade {pins : List (Addr × Obj)} {σ : L2.St} {H : Hp} {s : Shared} {Q : VK} {us ws : List Value} {vs zs : List V} (T : ExG X.K C)
    (iC : PySem.W.findIn X.K (.ref C) "__init__" = some (some (.ref fI))) (tI : PySem.W.typeIn X.K (.ref fI) = some (.type "function"))
    (F : FnOk X.prog X.w X.K X.mg X.base CX k fI fd ps sp) (hr : Room (k + 1) X.A) (hb : KBn X.K fd ps (n + 1) ks g gV) (hx : Passes CX X (fun _ _ _ => False))
    (I : Inv X pins σ H s) (r : Vals vs us) (rz : Vals zs ws) (l1 : vs.length = n) (l2 : zs.length = ks.length) (few : n ≤ 1000)
    (h : ∀ a, H a = none → sp (gV (.ref a :: vs) zs) (upd H a (exo a C none)) (fun v H3 => v = .non ∧ Q (.ref a) H3) (fun _ _ _ => False)) :
    wpAny (model X.prog X.w) X.A (call (.ref C) us (ks.zip ws)) (EP X pins σ Q) X.xe s := by
  obtain ⟨nm, q, N, bs, bm, sn, sub, ab, col, dd, k0, k1, k2, k3, k5, B, newId, initId, bmB, hC, FB, mk, _⟩ := T.cls
  obtain ⟨hp, gg, dr, tok, os⟩ := s
  have sz : hp.objs.size ≤ hp.objs.size + 1 := Nat.le_succ _
  have hq := h (hp.objs.size + 1) (I.hok.fresh sz)
  have I2 : Inv X pins σ (upd H (hp.objs.size + 1) (exo (hp.objs.size + 1) C none)) ⟨bare2 hp C us, gg, dr, tok, os⟩ :=
    I.laid (t' := tok) (a := hp.objs.size + 1) (o := exo (hp.objs.size + 1) C none) (h' := bare2 hp C us) (fun b o z => bare2_keeps z) sz (exo_ok bare2_at)
  have r1 : Vals (V.ref (hp.objs.size + 1) :: vs) (Value.ref (hp.objs.size + 1) :: us) := .cons rfl r
  have r2 := hb.rel r1 rz
  have n1 : (Value.ref (hp.objs.size + 1) :: us).length = n + 1 := by
    rw [List.length_cons, ← r.length, l1]
  have small : us.length ≤ sizeLine := by
    rw [← Paired.length r, l1, sizeLine_eq]
    omega
  refine wpAny_call (callOwn FB mk small (I.kIn _ _ hC) (PySem.W.looks_findIn I.kIn iC) (fun self => PySem.W.bind_fn I.kIn self tI)
    (codeAny_mono (F.run _ X.stack _ _ ⟨Value.ref (hp.objs.size + 1) :: us, ks.zip ws⟩ (g (Value.ref (hp.objs.size + 1) :: us) ws) _ _ (fun _ _ _ => False)
      (hr.make C us (ks.zip ws)) (I2.env0.make C us (ks.zip ws)) (hb.to _ (Value.ref (hp.objs.size + 1) :: us) ws I2.kIn n1 (rz.length.symm.trans l2)) r2 hq) fun r s' hq' => ?_))
  match r, hq' with
  | .error e, hq' => exact hx pins σ _ _ e s' I2 hq'
  | .ok (.ret u), hq' =>
    obtain ⟨v, H', I3, rv, ev, q3⟩ := I2.after hq'
    subst ev
    exact ⟨rv, ⟨V.ref (hp.objs.size + 1), H', I3, rfl, q3⟩⟩
  | .ok .next, hq' => exact False.elim hq'
  | .ok .brk, hq' => exact False.elim hq'
  | .ok .cont, hq' => exact False.elim hq'

theorem pe_madeK0 (T : ExG X.K C) (iC : PySem.W.findIn X.K (.ref C) "__init__" = some (some (.ref fI))) (tI : PySem.W.typeIn X.K (.ref fI) = some (.type "function"))
    (F : FnOk X.prog X.w X.K X.mg X.base CX k fI fd ps sp) (hr : Room (k + 1) X.A) (hg : Gl X x) (hm : X.mg x = some (.ref C)) (hb : KBn X.K fd ps 1 ks g gV)
    (hx : Passes CX X (fun _ _ _ => False)) (hkw : PK X kws tk) (hall : (backToKw pos (keywordEach kws X.env)).all (·.1.isSome) = true := by rfl)
    (hks : (backToKw pos (keywordEach kws X.env)).filterMap (·.1) = ks := by rfl) (hdb : (x == ("__debug__" : Str)) = false := by decide)
    (hpl : ((backTo pos (starEach [] X.env)).any (·.1) || (backToKw pos (keywordEach kws X.env)).any (·.1.isNone)) = false := by rfl) :
    PE X (.Call (.Name x p) [] kws pos) (tMadeK C 0 ks.length sp gV tNil tk) := by
  refine ⟨fun pins s σ H Q I h => ?_⟩
  refine wpAny_Call_Name_kw (ld_glob I hg hm ?_ hdb)
  refine PySem.W.callWith_KW0 (h₀ := X.base) I.ok.mod.kin T.kC hall ?_ hpl
  refine thn (hkw.run pos pins s σ H _ I h) ?_
  rintro ws s2 ⟨zs, H2, I2, rz, l1, l2, l3, q2⟩
  refine ⟨I2.kIn, ?_⟩
  rw [hks]
  exact runMade (us := []) (vs := []) T iC tI F hr hb hx I2 .nil rz rfl l2 l3 q2

theorem pe_madeK (T : ExG X.K C) (iC : PySem.W.findIn X.K (.ref C) "__init__" = some (some (.ref fI))) (tI : PySem.W.typeIn X.K (.ref fI) = some (.type "function"))
    (F : FnOk X.prog X.w X.K X.mg X.base CX k fI fd ps sp) (hr : Room (k + 1) X.A) (hg : Gl X x) (hm : X.mg x = some (.ref C)) (hb : KBn X.K fd ps (n + 1) ks g gV)
    (hx : Passes CX X (fun _ _ _ => False)) (ha : PA X (e :: es) t) (hkw : PK X kws tk) (hall : (backToKw pos (keywordEach kws X.env)).all (·.1.isSome) = true := by rfl)
    (hks : (backToKw pos (keywordEach kws X.env)).filterMap (·.1) = ks := by rfl) (hdb : (x == ("__debug__" : Str)) = false := by decide)
    (he : starEach (e :: es) X.env = (false, eval e X.env) :: starEach es X.env := by rfl)
    (hpl : ((backTo pos (starEach (e :: es) X.env)).any (·.1) || (backToKw pos (keywordEach kws X.env)).any (·.1.isNone)) = false := by rfl) :
    PE X (.Call (.Name x p) (e :: es) kws pos) (tMadeK C n ks.length sp gV t tk) := by
  refine ⟨fun pins s σ H Q I h => ?_⟩
  refine wpAny_Call_Name_kw (ld_glob I hg hm ?_ hdb)
  refine PySem.W.callWith_KW (h₀ := X.base) I.ok.mod.kin T.kC hall (thn (ha.run pos pins s σ H _ I h) ?_) hpl he
  rintro us s1 ⟨vs, H1, I1, r, q⟩
  refine thn (hkw.run pos pins s1 σ H1 _ I1 q) ?_
  rintro ws s2 ⟨zs, H2, I2, rz, l1, l2, l3, q2⟩
  refine ⟨I2.kIn, ?_⟩
  rw [hks]
  exact runMade T iC tI F hr hb hx I2 r rz l1 l2 l3 q2
end
end My
set_option maxHeartbeats 4000000
/-! own exceptions as values: an attribute read, isinstance asked -/
namespace My
open PySem PySem.Spec PyProof.Rows L2

/-- what the class says of attributes read and of isinstance -/
structure ExR (K : PySem.W.Frag) (C : Addr) : Prop where
  ga : PySem.W.findIn K (.ref C) "__getattribute__" = some (some (.builtin "BaseException.__getattribute__"))
  gg : PySem.W.findIn K (.ref C) "__getattr__" = some none
  exC : PySem.W.subIn K (.ref C) (.type "BaseException") = some true
  hd : PySem.W.hasDictIn K C = true
  ha : PySem.W.findIn K (.ref C) "__class__" = some (some (.builtin "object.__class__"))
  hn : PySem.W.specialIn K (.builtin "object.__class__") "__get__" = some (some (.builtin "getset_descriptor.__get__"))
  ht : PySem.W.takesIn K (.builtin "object.__class__") = some true
  hm : PySem.W.mroIn K C (.type "object") = some true

/-- e.f, e an exception that has it -/
def tExAt (K : PySem.W.Frag) (f : Str) (te : TE) : TE := fun σ H Q => te σ H fun x H1 => ∃ (a C dx : Addr) (fs : List (Str × V)) (v : V), x = .ref a ∧ ExR K C ∧
  PySem.W.findIn K (.ref C) f = some none ∧ H1 a = some (exo a C (some dx)) ∧ H1 dx = some (exd dx fs) ∧ fs.lookup f = some v ∧ Q v H1
section
variable {X : Cx} {e : Expr} {te : TE} {f : Str} {pos : Pos}
theorem pe_exAt (he : PE X e te) (hb : attributeBase e f X.env (eval e X.env) = eval e X.env := by rfl) : PE X (.Attribute e f pos) (tExAt X.K f te) := by
  refine ⟨fun pins s σ H Q I h => ?_⟩
  refine attr_of hb (thn (he.run pins s σ H _ I h) ?_)
  rintro u s1 ⟨x, H1, I1, rx, a, C, dx, fs, v, ex, R, no, ea, ed, el, q⟩
  subst ex
  obtain rfl : u = Value.ref a := rx
  obtain ⟨t1, ho⟩ := exo_at I1.hok ea
  obtain ⟨mA, hns, rel⟩ := exd_at I1.hok ed
  obtain ⟨od, hod, hl⟩ := lookIn_ns hns
  obtain ⟨u', hu, ru⟩ := RelO.some_of (v := v) (o := mA f) (by rw [← el]; exact rel f)
  have J : PySem.W.InstAt s1.heap a { cls := .ref C, dict := some dx, data := .fields #[.ref t1, .none, .none, .none, .bool false, .none] } C (some od) := ⟨ho, rfl, rfl, hod⟩
  exact HandSPX.exc_get I1.kIn J R.ga R.gg R.exC (PySem.W.findObj_own R.hd no rfl (by rw [hl, hu])) (handed_of ru) ⟨v, H1, I1.tok _, ru, q⟩

/-- isinstance(e, c), e an exception kept as a value -/
def rIsX (K : PySem.W.Frag) : List V → Hp → VK → Prop := fun xs H Q => ∃ (a D : Addr) (d : Option Addr) (c : V) (cv : Value) (b : Bool), xs = [.ref a, c] ∧ ExR K D ∧
  H a = some (exo a D d) ∧ (∀ dx, d = some dx → ∃ fs, H dx = some (exd dx fs)) ∧ ClsV c cv ∧ PySem.W.kitOne K (.ref D) cv = some b ∧ Q (.bl b) H
theorem call_isX : CallR X (.builtin "isinstance") (rIsX X.K) := by
  intro pins s σ H xs us Q I r h
  obtain ⟨a, D, d, c, cv, b, rfl, R, ea, ed, hc, e, q⟩ := h
  obtain ⟨u1, u2, rfl, r1, r2⟩ := vals2 r
  obtain rfl : u1 = Value.ref a := r1
  have e2 := hc.eq r2
  subst e2
  obtain ⟨t1, ho⟩ := exo_at I.hok ea
  obtain ⟨cdD, hcD, _⟩ := PySem.W.any_some R.hd
  have isCls : (PySem.W.clsIn X.K D).isSome = true := by
    rw [hcD]
    rfl
  have done : ∀ tk, EP X pins σ Q (.bool b) { s with toks := tk } := fun tk => ⟨.bl b, H, I.tok _, rfl, q⟩
  cases d with
  | none =>
    have J : PySem.W.InstAt s.heap a { cls := .ref D, dict := none, data := .fields #[.ref t1, .none, .none, .none, .bool false, .none] } D none := ⟨ho, rfl, rfl, trivial⟩
    exact PySem.W.kia_one (PySem.W.kitx_exc isCls R.ga R.gg R.exC R.ha R.hn R.ht R.hm) I.kIn J e (fun z => nomatch z) done
  | some dx =>
    obtain ⟨fs, ed'⟩ := ed dx rfl
    obtain ⟨mA, hns, rel⟩ := exd_at I.hok ed'
    obtain ⟨od, hod, hl⟩ := lookIn_ns hns
    have J : PySem.W.InstAt s.heap a { cls := .ref D, dict := some dx, data := .fields #[.ref t1, .none, .none, .none, .bool false, .none] } D (some od) := ⟨ho, rfl, rfl, hod⟩
    exact PySem.W.kia_one (PySem.W.kitx_exc isCls R.ga R.gg R.exC R.ha R.hn R.ht R.hm) I.kIn J e (fun z => nomatch z) done
end
end My
set_option maxHeartbeats 4000000
/-! the __init__ of own exceptions, by their shapes -/
namespace My
open PySem PySem.Spec PyProof.Rows L2

theorem visOf {N ps : List Str} {sc : Scope} (S : FnScope N ps sc) {x : Str} (h : x ∈ ps) : Vis sc x := by
  rcases S.par x h with k | k
  · exact .inl k
  · exact .inr (.inl k)

/-- one attribute: self.f = f -/
def spOne (C : Addr) (f : Str) : Sp := fun vs H Q _ => ∃ (a : Addr) (v : V), vs = [.ref a, v] ∧ H a = some (exo a C none) ∧
  ∀ dx, H dx = none → dx ≠ a → Q .non (upd (upd H a (exo a C (some dx))) dx (exd dx [(f, v)]))
/-- two: self.f = f, self.g = g -/
def spTwo (C : Addr) (f g : Str) : Sp := fun vs H Q _ => ∃ (a : Addr) (v u : V), vs = [.ref a, v, u] ∧ H a = some (exo a C none) ∧
  ∀ dx, H dx = none → dx ≠ a → Q .non (upd (upd (upd H a (exo a C (some dx))) dx (exd dx [(f, v)])) dx (exd dx [(g, u), (f, v)]))
/-- none: B.__init__(self, a text) -/
def spNil (C : Addr) : Sp := fun vs H Q _ => ∃ a : Addr, vs = [.ref a] ∧ H a = some (exo a C none) ∧ Q .non H

section
variable {P : Program} {w : World} {K : PySem.W.Frag} {mg : Str → Option Value} {base : Heap} {st : Stmt} {qual f g : Str} {C fI : Addr} {fd : FuncData}
theorem ok_one (F : Fun K "__init__" qual st fI fd) (S : FnScope ["self", f] ["self", f] (defScope st))
    (hb : ∃ p1 p2 p3 p4, defBody st = [.Assign [.Attribute (.Name "self" p1) f p2] (.Name f p3) p4])
    (hf : (f == ("__debug__" : Str)) = false) (hf2 : (f == ("__classdict__" : Str)) = false) (T : ExG K C) (no : PySem.W.findIn K (.ref C) f = some none) :
    FnOk P w K mg base CX0 1 fI fd ["self", f] (spOne C f) := by
  obtain ⟨p1, p2, p3, p4, hb⟩ := hb
  refine F.ok S (fun vs H Q E h => ?_) (fun cdv A outer s H vs Q E hr h => ?_)
  · obtain ⟨a, v, rfl, _⟩ := h
    rfl
  · obtain ⟨a, v, rfl, ha, k⟩ := h
    rw [hb]
    refine ⟨_, pss_one (ps_self (pv 0 (hv := visOf S (by simp))) (pv 1 (hv := visOf S (by simp)) (hd := hf) (hcd := hf2))), ?_⟩
    exact ⟨v, rfl, .ref a, rfl, a, C, rfl, T, no, .inl ⟨ha, fun dx n ne => k dx n ne⟩⟩
theorem ok_two (F : Fun K "__init__" qual st fI fd) (S : FnScope ["self", f, g] ["self", f, g] (defScope st))
    (hb : ∃ p1 p2 p3 p4 q1 q2 q3 q4, defBody st = [.Assign [.Attribute (.Name "self" p1) f p2] (.Name f p3) p4, .Assign [.Attribute (.Name "self" q1) g q2] (.Name g q3) q4])
    (hf : (f == ("__debug__" : Str)) = false) (hf2 : (f == ("__classdict__" : Str)) = false) (hg : (g == ("__debug__" : Str)) = false) (hg2 : (g == ("__classdict__" : Str)) = false)
    (T : ExG K C) (no : PySem.W.findIn K (.ref C) f = some none) (no2 : PySem.W.findIn K (.ref C) g = some none) :
    FnOk P w K mg base CX0 1 fI fd ["self", f, g] (spTwo C f g) := by
  obtain ⟨p1, p2, p3, p4, q1, q2, q3, q4, hb⟩ := hb
  refine F.ok S (fun vs H Q E h => ?_) (fun cdv A outer s H vs Q E hr h => ?_)
  · obtain ⟨a, v, u, rfl, _⟩ := h
    rfl
  · obtain ⟨a, v, u, rfl, ha, k⟩ := h
    rw [hb]
    refine ⟨_, pss_cons (ps_self (pv 0 (hv := visOf S (by simp))) (pv 1 (hv := visOf S (by simp)) (hd := hf) (hcd := hf2)))
      (pss_one (ps_self (pv 0 (hv := visOf S (by simp))) (pv 2 (hv := visOf S (by simp)) (hd := hg) (hcd := hg2)))), ?_⟩
    refine ⟨v, rfl, .ref a, rfl, a, C, rfl, T, no, .inl ⟨ha, fun dx n ne => ?_⟩⟩
    exact ⟨u, rfl, .ref a, rfl, a, C, rfl, T, no2, .inr ⟨dx, _, by rw [upd_ne (Ne.symm ne), upd_same], upd_same, by simp, k dx n ne⟩⟩
end

/-! ### RuntimeError.__init__(self, ..) -/
theorem typRE : typeOf (.type "RuntimeError") = pure (.type "type") := by kernel_rfl
structure ExRt (K : PySem.W.Frag) (C : Addr) : Prop where
  cls : ∃ nm q N bs sn sub ab col dd k0 k1 k2 k3 k5, K.lookup C = some (excClassObj nm q C N bs [.type "RuntimeError", .type "Exception", .type "BaseException", .type "object"] true sn sub ab col dd k0 k1 k2 k3 k5 "RuntimeError.__new__")
section
variable {X : Cx} {pins : List (Addr × Obj)} {σ : L2.St} {H : Hp} {s : Shared} {a C : Addr} {A : Around} {E : Value → Shared → Prop}
theorem initRt {us : List Value} {Q : Value → Shared → Prop} (T : ExRt X.K C) (I : Inv X pins σ H s) (e : H a = some (exo a C none)) (hl : us.length ≤ sizeLine)
    (h : ∀ s', Inv X pins σ H s' → Q .none s') : wpAny (model X.prog X.w) A (call (.builtin "RuntimeError.__init__") (.ref a :: us)) Q E s := by
  obtain ⟨nm, q, N, bs, sn, sub, ab, col, dd, k0, k1, k2, k3, k5, hC⟩ := T.cls
  obtain ⟨t1, ho⟩ := exo_at I.hok e
  have I0 := I
  obtain ⟨hp, g, d, t, os⟩ := s
  refine wpAny_call (PySem.HandSPX.init_base F.excBase_RuntimeError (fun Y => rfl) (I.kIn _ _ hC) ho hl fun h' t2 k hx => ?_)
  have J := I0.write (t' := t) (x := a) (e := a) (o := exo a C none) (by rw [e]; exact True.intro) (.inl rfl) k ⟨_, hx⟩ (exo_ok hx)
  have eu : upd H a (exo a C none) = H := by
    funext b
    by_cases hb : b = a
    · rw [hb, upd_same, e]
    · rw [upd_ne hb]
  rw [eu] at J
  exact h _ J
end
def tRtI (K : PySem.W.Frag) (ta : TA) : TE := fun σ H Q => ta σ H fun vs H1 => ∃ (a C : Addr) (ws : List V), vs = .ref a :: ws ∧ ws.length ≤ 1000 ∧ ExRt K C ∧ H1 a = some (exo a C none) ∧ Q .non H1
section
variable {X : Cx} {e : Expr} {es : List Expr} {ta : TA} {p1 p2 pos : Pos}
theorem pe_rtinit {pl : Sem Bool} (hg : Gl X "RuntimeError") (hm : X.mg "RuntimeError" = none)
    (vV : PySem.W.findCls X.K (.type "RuntimeError") (.type "type") "__init__" = some (.val (.builtin "RuntimeError.__init__"))) (ha : PA X (e :: es) ta)
    (hc : eval (.Call (.Attribute (.Name "RuntimeError" p1) "__init__" p2) (e :: es) [] pos) X.env = (do
      let ov ← eval (.Name "RuntimeError" p1) X.env
      standAt p2.atName
      let (f, first) ← holding [ov] (getMethod ov "__init__" pl)
      callWith pos f first (backTo pos (starEach (e :: es) X.env)) (backToKw pos (keywordEach [] X.env))) := by rfl)
    (he : starEach (e :: es) X.env = (false, eval e X.env) :: starEach es X.env := by rfl) (hpl : (backTo pos (starEach es X.env)).any (·.1) = false := by rfl) :
    PE X (.Call (.Attribute (.Name "RuntimeError" p1) "__init__" p2) (e :: es) [] pos) (tRtI X.K ta) := by
  refine ⟨fun pins s σ H Q I h => ?_⟩
  refine PySem.W.methodCall_KW (ld_blt I hg hm PyProof.Rows.Boot.«RuntimeError» ?_ (by decide) (by decide)) hc
  obtain ⟨m, fr⟩ := I.fr
  refine PySem.W.method_type fr I.ok.mod.kin typRE (by decide +kernel) vV (by decide +kernel) ?_
  show wpAny _ _ (callWith pos (Value.builtin "RuntimeError.__init__") [] (backTo pos (starEach (e :: es) X.env)) []) _ _ _
  refine PyProof.Rows.callWith_method1 (thn (ha.run pos pins _ σ H _ (I.tok _) h) ?_) he hpl
  rintro us s1 ⟨vs, H1, I1, r1, a, C, ws, ev, few, T, ea, q⟩
  subst ev
  cases r1 with
  | @cons _ u0 _ ur ra rw' =>
    obtain rfl : u0 = Value.ref a := ra
    have small : ur.length ≤ sizeLine := by
      rw [← Paired.length rw', sizeLine_eq]
      omega
    exact initRt T I1 ea small fun s' J => ⟨.non, H1, J, rfl, q⟩
end
end My
set_option maxHeartbeats 4000000
/-! short words for own exceptions made as values -/
namespace My
open PySem PySem.Spec PyProof.Rows L2 Evl

theorem peImp {X : Cx} {e : Expr} {t t' : TE} (h : PE X e t) (k : ∀ σ H Q, t' σ H Q → t σ H Q) : PE X e t' := ⟨fun pins s σ H Q I q => h.run pins s σ H Q I (k σ H Q q)⟩

section
variable {K : PySem.W.Frag} {fd : FuncData} {ps : List Str}
theorem kbPos (b : Binds K fd ps []) : KBn K fd ps ps.length [] (fun us _ => us) (fun vs _ => vs) where
  to := fun s us ws inK l1 _ => by
    have q := b s us inK (by rw [List.append_nil]; exact l1)
    rw [List.append_nil] at q
    exact q
  rel := fun r _ => r
end

/-- a class whose __init__ keeps one field -/
structure Mkr (P : Program) (w : World) (K : PySem.W.Frag) (mg : Str → Option Value) (base : Heap) (C : Addr) (f : Str) : Prop where
  ex : ∃ (fI : Addr) (fd : FuncData), ExG K C ∧ PySem.W.findIn K (.ref C) "__init__" = some (some (.ref fI)) ∧ PySem.W.typeIn K (.ref fI) = some (.type "function") ∧
    FnOk P w K mg base CX0 1 fI fd ["self", f] (spOne C f) ∧ KBn K fd ["self", f] 2 [] (fun us _ => us) (fun vs _ => vs) ∧
    KBn K fd ["self", f] 1 [f] (fun us ws => us ++ ws) (fun vs zs => vs ++ zs)
/-- a class whose __init__ keeps two -/
structure Mkr2 (P : Program) (w : World) (K : PySem.W.Frag) (mg : Str → Option Value) (base : Heap) (C : Addr) (f g : Str) : Prop where
  ex : ∃ (fI : Addr) (fd : FuncData), ExG K C ∧ PySem.W.findIn K (.ref C) "__init__" = some (some (.ref fI)) ∧ PySem.W.typeIn K (.ref fI) = some (.type "function") ∧
    FnOk P w K mg base CX0 1 fI fd ["self", f, g] (spTwo C f g) ∧ KBn K fd ["self", f, g] 3 [] (fun us _ => us) (fun vs _ => vs) ∧
    KBn K fd ["self", f, g] 1 [f, g] (fun us ws => us ++ ws) (fun vs zs => vs ++ zs) ∧
    KBn K fd ["self", f, g] 1 [g, f] (fun us ws => us ++ ws.reverse) (fun vs zs => vs ++ zs.reverse)
/-- a class whose __init__ keeps none -/
structure Mkr0 (P : Program) (w : World) (K : PySem.W.Frag) (mg : Str → Option Value) (base : Heap) (C : Addr) : Prop where
  ex : ∃ (fI : Addr) (fd : FuncData), ExG K C ∧ PySem.W.findIn K (.ref C) "__init__" = some (some (.ref fI)) ∧ PySem.W.typeIn K (.ref fI) = some (.type "function") ∧
    FnOk P w K mg base CX0 1 fI fd ["self"] (spNil C) ∧ KBn K fd ["self"] 1 [] (fun us _ => us) (fun vs _ => vs)

/-- what comes of it: a new exception of C, its dict told -/
def EvX (te : TE) (σ : L2.St) (H : Hp) (C : Addr) (fs : List (Str × V)) : Prop := ∀ H1, Ex H H1 → ∀ Q : VK,
  (∀ a dx H2, H1 a = none → Ex H1 H2 → H2 a = some (exo a C (some dx)) → H2 dx = some (exd dx fs) → Q (.ref a) H2) → te σ H1 Q
def EvX0 (te : TE) (σ : L2.St) (H : Hp) (C : Addr) : Prop := ∀ H1, Ex H H1 → ∀ Q : VK, (∀ a H2, H1 a = none → Ex H1 H2 → H2 a = some (exo a C none) → Q (.ref a) H2) → te σ H1 Q

section
variable {σ : L2.St} {H : Hp} {C a : Addr} {f g : Str} {v u : V} {te tu : TE} {Q : VK} {E : XK}
theorem spOneOf (ha : H a = none) (q : ∀ dx H2, Ex H H2 → H2 a = some (exo a C (some dx)) → H2 dx = some (exd dx [(f, v)]) → Q (.ref a) H2) :
    spOne C f [.ref a, v] (upd H a (exo a C none)) (fun w H3 => w = .non ∧ Q (.ref a) H3) E := by
  refine ⟨a, v, rfl, upd_same, fun dx n ne => ⟨rfl, ?_⟩⟩
  rw [upd_upd]
  rw [upd_ne ne] at n
  have n1 : upd H a (exo a C (some dx)) dx = none := by
    rw [upd_ne ne]
    exact n
  exact q dx _ ((Ex.new ha).trans (Ex.new n1)) (by rw [upd_ne (Ne.symm ne), upd_same]) upd_same
theorem spTwoOf (ha : H a = none) (q : ∀ dx H2, Ex H H2 → H2 a = some (exo a C (some dx)) → H2 dx = some (exd dx [(g, u), (f, v)]) → Q (.ref a) H2) :
    spTwo C f g [.ref a, v, u] (upd H a (exo a C none)) (fun w H3 => w = .non ∧ Q (.ref a) H3) E := by
  refine ⟨a, v, u, rfl, upd_same, fun dx n ne => ⟨rfl, ?_⟩⟩
  rw [upd_upd, upd_upd]
  rw [upd_ne ne] at n
  have n1 : upd H a (exo a C (some dx)) dx = none := by
    rw [upd_ne ne]
    exact n
  exact q dx _ ((Ex.new ha).trans (Ex.new n1)) (by rw [upd_ne (Ne.symm ne), upd_same]) upd_same
theorem ex_one (h : Ev te σ H v) : EvX (tMadeK C 1 0 (spOne C f) (fun vs _ => vs) (tCons te tNil) tNil) σ H C [(f, v)] := fun H1 e Q q =>
  h H1 e _ fun H2 e2 => ⟨rfl, rfl, by decide, fun a ha => spOneOf ha fun dx H3 e3 h1 h2 => q a dx H3 (fresh_back e2 ha) (e2.trans e3) h1 h2⟩
theorem ex_oneK (h : Ev te σ H v) : EvX (tMadeK C 0 1 (spOne C f) (fun vs zs => vs ++ zs) tNil (tCons te tNil)) σ H C [(f, v)] := fun H1 e Q q =>
  h H1 e _ fun H2 e2 => ⟨rfl, rfl, by decide, fun a ha => spOneOf ha fun dx H3 e3 h1 h2 => q a dx H3 (fresh_back e2 ha) (e2.trans e3) h1 h2⟩
theorem ex_two (h : Ev te σ H v) (h' : Ev tu σ H u) : EvX (tMadeK C 2 0 (spTwo C f g) (fun vs _ => vs) (tCons te (tCons tu tNil)) tNil) σ H C [(g, u), (f, v)] := fun H1 e Q q =>
  h H1 e _ fun H2 e2 => h' H2 (e.trans e2) _ fun H3 e3 => ⟨rfl, rfl, by decide, fun a ha => spTwoOf ha fun dx H4 e4 h1 h2 => q a dx H4 (fresh_back (e2.trans e3) ha) ((e2.trans e3).trans e4) h1 h2⟩
theorem ex_twoK (h : Ev te σ H v) (h' : Ev tu σ H u) : EvX (tMadeK C 0 2 (spTwo C f g) (fun vs zs => vs ++ zs) tNil (tCons te (tCons tu tNil))) σ H C [(g, u), (f, v)] := fun H1 e Q q =>
  h H1 e _ fun H2 e2 => h' H2 (e.trans e2) _ fun H3 e3 => ⟨rfl, rfl, by decide, fun a ha => spTwoOf ha fun dx H4 e4 h1 h2 => q a dx H4 (fresh_back (e2.trans e3) ha) ((e2.trans e3).trans e4) h1 h2⟩
theorem ex_twoR (h : Ev te σ H v) (h' : Ev tu σ H u) : EvX (tMadeK C 0 2 (spTwo C f g) (fun vs zs => vs ++ zs.reverse) tNil (tCons tu (tCons te tNil))) σ H C [(g, u), (f, v)] := fun H1 e Q q =>
  h' H1 e _ fun H2 e2 => h H2 (e.trans e2) _ fun H3 e3 => ⟨rfl, rfl, by decide, fun a ha => spTwoOf ha fun dx H4 e4 h1 h2 => q a dx H4 (fresh_back (e2.trans e3) ha) ((e2.trans e3).trans e4) h1 h2⟩
theorem ex_nil : EvX0 (tMadeK C 0 0 (spNil C) (fun vs _ => vs) tNil tNil) σ H C := fun H1 e Q q =>
  ⟨rfl, rfl, by decide, fun a ha => ⟨a, rfl, upd_same, rfl, q a _ ha (Ex.new ha) upd_same⟩⟩
end

section
variable {X : Cx} {C : Addr} {x f g : Str} {e d : Expr} {te tu : TE} {p pos kp kq : Pos}
theorem passN : Passes CX0 X (fun _ _ _ => False) := fun _ _ _ _ _ _ _ z => z.elim
/-- C(e) -/
theorem pe_mk1 (M : Mkr X.prog X.w X.K X.mg X.base C f) (hr : Room 2 X.A) (hg : Gl X x) (hm : X.mg x = some (.ref C)) (he : PE X e te) (hdb : (x == ("__debug__" : Str)) = false := by decide)
    (hs : starEach [e] X.env = (false, eval e X.env) :: starEach [] X.env := by rfl) :
    PE X (.Call (.Name x p) [e] [] pos) (tMadeK C 1 0 (spOne C f) (fun vs _ => vs) (tCons te tNil) tNil) := by
  obtain ⟨fI, fd, T, iC, tI, F, b0, b1⟩ := M.ex
  refine pe_madeK (n := 1) (ks := []) T iC tI F hr hg hm b0 passN (pa_cons he pa_nil hs) pk_nil rfl rfl hdb hs ?_
  rw [hs]
  rfl
/-- C(f = e) -/
theorem pe_mk1K (M : Mkr X.prog X.w X.K X.mg X.base C f) (hr : Room 2 X.A) (hg : Gl X x) (hm : X.mg x = some (.ref C)) (he : PE X e te) (hdb : (x == ("__debug__" : Str)) = false := by decide) :
    PE X (.Call (.Name x p) [] [⟨some f, e, kp⟩] pos) (tMadeK C 0 1 (spOne C f) (fun vs zs => vs ++ zs) tNil (tCons te tNil)) := by
  obtain ⟨fI, fd, T, iC, tI, F, b0, b1⟩ := M.ex
  exact pe_madeK0 (ks := [f]) T iC tI F hr hg hm b1 passN (pk_cons he pk_nil) rfl rfl hdb rfl
/-- C(e, d) -/
theorem pe_mk2 (M : Mkr2 X.prog X.w X.K X.mg X.base C f g) (hr : Room 2 X.A) (hg : Gl X x) (hm : X.mg x = some (.ref C)) (he : PE X e te) (hd : PE X d tu) (hdb : (x == ("__debug__" : Str)) = false := by decide)
    (hs : starEach [e, d] X.env = (false, eval e X.env) :: starEach [d] X.env := by rfl) (hs2 : starEach [d] X.env = (false, eval d X.env) :: starEach [] X.env := by rfl) :
    PE X (.Call (.Name x p) [e, d] [] pos) (tMadeK C 2 0 (spTwo C f g) (fun vs _ => vs) (tCons te (tCons tu tNil)) tNil) := by
  obtain ⟨fI, fd, T, iC, tI, F, b0, b1, b2⟩ := M.ex
  refine pe_madeK (n := 2) (ks := []) T iC tI F hr hg hm b0 passN (pa_cons he (pa_cons hd pa_nil hs2) hs) pk_nil rfl rfl hdb hs ?_
  rw [hs, hs2]
  rfl
/-- C(f = e, g = d) -/
theorem pe_mk2K (M : Mkr2 X.prog X.w X.K X.mg X.base C f g) (hr : Room 2 X.A) (hg : Gl X x) (hm : X.mg x = some (.ref C)) (he : PE X e te) (hd : PE X d tu) (hdb : (x == ("__debug__" : Str)) = false := by decide) :
    PE X (.Call (.Name x p) [] [⟨some f, e, kp⟩, ⟨some g, d, kq⟩] pos) (tMadeK C 0 2 (spTwo C f g) (fun vs zs => vs ++ zs) tNil (tCons te (tCons tu tNil))) := by
  obtain ⟨fI, fd, T, iC, tI, F, b0, b1, b2⟩ := M.ex
  exact pe_madeK0 (ks := [f, g]) T iC tI F hr hg hm b1 passN (pk_cons he (pk_cons hd pk_nil)) rfl rfl hdb rfl
/-- C(g = d, f = e) -/
theorem pe_mk2R (M : Mkr2 X.prog X.w X.K X.mg X.base C f g) (hr : Room 2 X.A) (hg : Gl X x) (hm : X.mg x = some (.ref C)) (he : PE X e te) (hd : PE X d tu) (hdb : (x == ("__debug__" : Str)) = false := by decide) :
    PE X (.Call (.Name x p) [] [⟨some g, d, kq⟩, ⟨some f, e, kp⟩] pos) (tMadeK C 0 2 (spTwo C f g) (fun vs zs => vs ++ zs.reverse) tNil (tCons tu (tCons te tNil))) := by
  obtain ⟨fI, fd, T, iC, tI, F, b0, b1, b2⟩ := M.ex
  exact pe_madeK0 (ks := [g, f]) T iC tI F hr hg hm b2 passN (pk_cons hd (pk_cons he pk_nil)) rfl rfl hdb rfl
/-- C() -/
theorem pe_mk0 (M : Mkr0 X.prog X.w X.K X.mg X.base C) (hr : Room 2 X.A) (hg : Gl X x) (hm : X.mg x = some (.ref C)) (hdb : (x == ("__debug__" : Str)) = false := by decide) :
    PE X (.Call (.Name x p) [] [] pos) (tMadeK C 0 0 (spNil C) (fun vs _ => vs) tNil tNil) := by
  obtain ⟨fI, fd, T, iC, tI, F, b0⟩ := M.ex
  exact pe_madeK0 (ks := []) T iC tI F hr hg hm b0 passN pk_nil rfl rfl hdb rfl
end
end My
set_option maxHeartbeats 4000000
/-! what repr, attributes, comparisons and enumerate come to, in the words of Evl -/
namespace My
open PySem PySem.Spec PyProof.Rows L2 Evl

/-- v stands for d, and d can be shown in short -/
structure Gd (K : PySem.W.Frag) (H : Hp) (v : V) (d : PyData) : Prop where
  dd : Dd K H v d
  sh : d.showable = true
  sz : d.shown.length ≤ 2000
  dp : d.depth ≤ 10
  nd : d.hasDict = false ∨ d = .dict []
section
variable {K : PySem.W.Frag} {H H' : Hp} {σ : L2.St} {v x y : V} {d : PyData} {te ta tb : TE}
theorem Gd.ext (g : Gd K H v d) (e : Ex H H') : Gd K H' v d := ⟨Dd.ext e d v g.dd, g.sh, g.sz, g.dp, g.nd⟩
theorem ev_repr (h : Ev te σ H v) (g : Gd K H v d) : Ev (tCB (rRepr K) (tCons te tNil)) σ H (.str d.shown) := fun H1 e Q q =>
  h H1 e _ fun H2 e2 => ⟨v, d, rfl, .inr ⟨(g.ext (e.trans e2)).dd, g.nd⟩, g.sh, Nat.le_trans g.sz (by decide), Nat.le_trans g.dp (by decide), q H2 e2⟩
/-- repr of a list that is written there -/
theorem ev_reprL {ta : TA} {vs : List V} {ds : List PyData} (h : EvA ta σ H vs) (hd : Dds K H vs ds) (hz : vs.length ≤ 1000) (sh : (PyData.list ds).showable = true) (sz : (PyData.list ds).shown.length ≤ 10000) (dp : (PyData.list ds).depth ≤ 30) (nd : (PyData.list ds).hasDict = false) :
    Ev (tCB (rRepr K) (tCons (tLstB ta) tNil)) σ H (.str (PyData.list ds).shown) := fun H1 e Q q =>
  h H1 e _ fun H2 e2 => ⟨sz_of (by omega), fun p hp np => by
    have eN : Ex H2 (upd H2 p (.lst vs)) := Ex.new hp
    exact ⟨.ref p, .list ds, rfl, .inr ⟨.lst (SqL.of upd_same) (Dds.ext ((e.trans e2).trans eN) ds vs hd), .inl nd⟩, sh, Nat.le_trans sz (by decide), Nat.le_trans dp (by decide), q _ (e2.trans eN)⟩⟩
theorem ev_exAt {a C dx : Addr} {f : Str} {fs : List (Str × V)} (h : Ev te σ H (.ref a)) (R : ExR K C) (no : PySem.W.findIn K (.ref C) f = some none)
    (h1 : H a = some (exo a C (some dx))) (h2 : H dx = some (exd dx fs)) (el : fs.lookup f = some v) : Ev (tExAt K f te) σ H v := fun H1 e Q q =>
  h H1 e _ fun H2 e2 => ⟨a, C, dx, fs, v, rfl, R, no, e2 _ _ (e _ _ h1), e2 _ _ (e _ _ h2), el, q H2 e2⟩
theorem rv_neSame (h1 : ∀ H', Ex H H' → Dp K H' x d) (h2 : ∀ H', Ex H H' → Dp K H' y d) (s : SeqAt.shaped d = true) : RV (rNeD K) x y H (.bl false) := fun H1 e Q q =>
  ⟨d, d, h1 H1 e, h2 H1 e, s, s, by
    rw [PySem.SeqAt.eqv_refl d (PySem.SeqAt.canLay_of_shaped s)]
    exact q H1 (Ex.refl H1)⟩
theorem rv_eqSame (h1 : ∀ H', Ex H H' → Dp K H' x d) (h2 : ∀ H', Ex H H' → Dp K H' y d) (s : SeqAt.shaped d = true) : RV (rEqD K) x y H (.bl true) := fun H1 e Q q =>
  ⟨d, d, h1 H1 e, h2 H1 e, s, s, by
    rw [PySem.SeqAt.eqv_refl d (PySem.SeqAt.canLay_of_shaped s)]
    exact q H1 (Ex.refl H1)⟩
theorem dpBools : ∀ (bs : List Bool), DpAll K H (bs.map V.bl) (bs.map PyData.bool)
  | [] => .nil
  | b :: r => .cons (.bl b) (dpBools r)
theorem dpInts : ∀ (ns : List Int), DpAll K H (ns.map V.int) (ns.map PyData.int)
  | [] => .nil
  | b :: r => .cons (.int b) (dpInts r)
theorem dp_bools {p : Addr} {bs : List Bool} (h : H p = some (.lst (bs.map V.bl))) : Dp K H (.ref p) (.list (bs.map PyData.bool)) := .lst (SqL.of h) (dpBools bs)
theorem dp_ints {p : Addr} {ns : List Int} (h : H p = some (.lst (ns.map V.int))) : Dp K H (.ref p) (.list (ns.map PyData.int)) := .lst (SqL.of h) (dpInts ns)
theorem ev_min2 {i j : Int} (ha : Ev ta σ H (.int i)) (hb : Ev tb σ H (.int j)) : Ev (tCB (fun xs H Q => ∃ i j, xs = [.int i, .int j] ∧ Q (.int (if j < i then j else i)) H) (tCons ta (tCons tb tNil))) σ H (.int (if j < i then j else i)) := fun H1 e Q q =>
  ha H1 e _ fun H2 e2 => hb H2 (e.trans e2) _ fun H3 e3 => ⟨i, j, rfl, q H3 (e2.trans e3)⟩
end

/-- for i, x in enumerate(a list that stands) -/
theorem for_enum {K : PySem.W.Frag} {a : Addr} {xs : List V} {g : TG} {tb : TS} {D : Ends} {σ : L2.St} {H : Hp} (Pv : Nat → L2.St → Hp → Prop) (h0 : Pv 0 σ H) (hl : ∀ i σ H, i ≤ xs.length → Pv i σ H → SqL K H a xs)
    (hs : ∀ i x σ H T, xs[i]? = some x → Pv i σ H → H T = none → g (.ref T) σ (upd H T (.tup [.int (i : Nat), x])) fun σ2 H2 => tb { D with nx := Pv (i + 1), ct := Pv (i + 1), bk := D.nx } σ2 H2) (hd : ∀ σ H, Pv xs.length σ H → D.nx σ H) :
    ∃ W : Nat → Nat → L2.St → Hp → Prop, (∃ m, W 0 m σ H) ∧ ∀ i m σ H, W i m σ H →
      ((Ite K a).stop i H ∧ D.nx σ H) ∨ ((Ite K a).go i H ∧ ∃ N : L2.St → Hp → Prop, (∀ σ' H', N σ' H' → ∃ m', m' < m ∧ W (i + 1) m' σ' H') ∧
        ∀ x H', (Ite K a).yld i H x H' → g x σ H' fun σ2 H2 => tb { D with nx := N, ct := N, bk := D.nx } σ2 H2) := by
  refine ⟨fun i m σ H => m = xs.length - i ∧ i ≤ xs.length ∧ Pv i σ H, ⟨xs.length, by simp, Nat.zero_le _, h0⟩, ?_⟩
  rintro i m σ H ⟨rfl, hi, p⟩
  have q := hl i σ H hi p
  by_cases lt : i < xs.length
  · refine .inr ⟨⟨xs, xs[i], q, by simp [lt]⟩, Pv (i + 1), fun σ' H' p' => ⟨xs.length - (i + 1), by omega, rfl, lt, p'⟩, ?_⟩
    rintro x H' ⟨T, y, rfl, hT, rfl, hy⟩
    exact hs i y σ H T (hy xs q) p hT
  · have e : i = xs.length := by omega
    subst e
    exact .inl ⟨⟨xs, q, Nat.le_refl _⟩, hd σ H p⟩
end My
namespace My
open PySem PySem.Spec PyProof.Rows L2 Evl
/-- a def of the module, its promise, as a constant -/
structure Df (P : Program) (w : World) (K : PySem.W.Frag) (mg : Str → Option Value) (base : Heap) (x : Str) (ps : List Str) (k : Nat) (sp : Sp) : Prop where
  ex : ∃ (f : Addr) (fd : FuncData), mg x = some (.ref f) ∧ PySem.W.keepIn K (.ref f) = true ∧ FnOk P w K mg base CX0 k f fd ps sp ∧ Binds K fd ps []
theorem pe_df {X : Cx} {x : Str} {ps : List Str} {k : Nat} {sp : Sp} {e : Expr} {es : List Expr} {t : TA} {p pos : Pos} (D : Df X.prog X.w X.K X.mg X.base x ps k sp) (hr : Room k X.A) (hg : Gl X x) (ha : PA X (e :: es) t)
    (hdb : (x == ("__debug__" : Str)) = false := by decide) (he : starEach (e :: es) X.env = (false, eval e X.env) :: starEach es X.env := by rfl) (hpl : (backTo pos (starEach es X.env)).any (·.1) = false := by rfl) :
    PE X (.Call (.Name x p) (e :: es) [] pos) (tCall sp [] E0 t) := by
  obtain ⟨f, fd, hm, hk, F, b⟩ := D.ex
  exact pe_call F hr hg hm hk b .nil pass0 ha hdb he hpl
section
variable {σ : L2.St} {H : Hp} {ta tb : TE} {xs : List V}
theorem el_rep {k : Int} (ha : EvL ta σ H xs) (hb : ∀ H1, Ex H H1 → Ev tb σ H1 (.int k)) (h : -(2 ^ 63) ≤ k ∧ k < 2 ^ 63) (z : xs.length * k.toNat ≤ 100000) : EvL (tOp rRep ta tb) σ H (List.replicate k.toNat xs).flatten := fun H1 e Q q =>
  ha H1 e _ fun l H2 _ e2 h2 => hb H2 (e.trans e2) H2 (Ex.refl H2) _ fun H3 e3 =>
    ⟨l, k, xs, rfl, rfl, e3 l _ h2, h.1, h.2, sz_of z, fun r hr => q r _ (fresh_back (e2.trans e3) hr) ((e2.trans e3).trans (Ex.new hr)) upd_same⟩
end
end My
namespace My
open PySem PySem.Spec PyProof.Rows L2 Evl
/-- a row of new exceptions of one class, all with the same fields -/
def EvXr (C : Addr) (ta : TA) (σ : L2.St) (H : Hp) (fs : List (Str × V)) (n : Nat) : Prop := ∀ H1, Ex H H1 → ∀ Q : List V → Hp → Prop,
  (∀ (as : List Addr) (H2 : Hp), Ex H1 H2 → as.length = n → (∀ (m : Nat) (a : Addr), as[m]? = some a → ∃ dx, H2 a = some (exo a C (some dx)) ∧ H2 dx = some (exd dx fs)) → Q (as.map V.ref) H2) → ta σ H1 Q
section
variable {C : Addr} {te : TE} {ta : TA} {σ : L2.St} {H : Hp} {fs : List (Str × V)} {n : Nat} {K : PySem.W.Frag} {tu tz : TS} {D : Ends} {j : Nat}
theorem exr_nil : EvXr C tNil σ H fs 0 := fun H1 e Q q => q [] H1 (Ex.refl H1) rfl fun m a h => by simp at h
theorem exr_cons (h : EvX te σ H C fs) (hr : EvXr C ta σ H fs n) : EvXr C (tCons te ta) σ H fs (n + 1) := fun H1 e Q q =>
  h H1 e _ fun a dx H2 _ e2 h1 h2 => hr H2 (e.trans e2) _ fun bs H3 e3 hl x => q (a :: bs) H3 (e2.trans e3) (by rw [List.length_cons, hl]) fun k b hb => by
    cases k with
    | zero =>
      have z : a = b := by simpa using hb
      subst z
      exact ⟨dx, e3 _ _ h1, e3 _ _ h2⟩
    | succ k => exact x k b (by simpa using hb)
/-- for e in [C(..), C(..)] -/
theorem s_forX (h : EvXr C ta σ H fs n) (hn : n ≤ 1000) (S : L2.St → Prop) (s0 : S σ)
    (hs : ∀ a dx σ' H', Ex H H' → H' a = some (exo a C (some dx)) → H' dx = some (exd dx fs) → S σ' → ∀ N : L2.St → Hp → Prop, (∀ σ2 H2, Ex H' H2 → S σ2 → N σ2 H2) →
      tu { D with nx := N, ct := N, bk := D.nx } (σ'.set j (some (.ref a))) H')
    (hd : ∀ σ' H', Ex H H' → S σ' → D.nx σ' H') : tFor (iList K (tLst ta)) (gName j) tu D σ H :=
  h H (Ex.refl H) _ fun as H1 e1 hl x => ⟨by rw [List.length_map, hl]; exact sz_of (by omega), fun L nL => ⟨L, rfl, ⟨_, SqL.of upd_same⟩,
    for_list (K := K) (a := L) (xs := as.map V.ref) (fun _ σ' H' => Ex (upd H1 L (.lst (as.map V.ref))) H' ∧ S σ') ⟨Ex.refl _, s0⟩ (fun _ σ' H' _ q => ex_l q.1 (SqL.of upd_same))
      (fun m v σ' H' hv q => by
        obtain ⟨a, ha, rfl⟩ : ∃ a, as[m]? = some a ∧ v = .ref a := by
          rw [List.getElem?_map] at hv
          cases z : as[m]? with
          | none =>
            rw [z] at hv
            cases hv
          | some u =>
            rw [z] at hv
            exact ⟨u, rfl, (Option.some.inj hv).symm⟩
        obtain ⟨dx, h1, h2⟩ := x m a ha
        have eN : Ex H1 (upd H1 L (.lst (as.map V.ref))) := Ex.new nL
        exact hs a dx σ' H' ((e1.trans eN).trans q.1) (q.1 _ _ (eN _ _ h1)) (q.1 _ _ (eN _ _ h2)) q.2 _ fun σ2 H2 e2 s2 => ⟨q.1.trans e2, s2⟩)
      fun σ' H' q => hd σ' H' ((e1.trans (Ex.new nL)).trans q.1) q.2⟩⟩
theorem q_forX (h : EvXr C ta σ H fs n) (hn : n ≤ 1000) (S : L2.St → Prop) (s0 : S σ)
    (hs : ∀ a dx σ' H', Ex H H' → H' a = some (exo a C (some dx)) → H' dx = some (exd dx fs) → S σ' → ∀ N : L2.St → Hp → Prop, (∀ σ2 H2, Ex H' H2 → S σ2 → N σ2 H2) →
      tu { D with nx := N, ct := N, bk := tz D } (σ'.set j (some (.ref a))) H')
    (hd : ∀ σ' H', Ex H H' → S σ' → tz D σ' H') : tSeq (tFor (iList K (tLst ta)) (gName j) tu) tz D σ H := s_forX (D := { D with nx := tz D }) h hn S s0 hs hd
end
end My
set_option maxHeartbeats 4000000
/-! evaluation told in data: which datum a value stands for, not where it lies -/
namespace My
open PySem PySem.Spec PyProof.Rows L2 Evl
/-- the class of a datum -/
def tyD : PyData → String
  | .none => "NoneType"
  | .bool _ => "bool"
  | .int _ => "int"
  | .str _ => "str"
  | .list _ => "list"
  | .tuple _ => "tuple"
  | .dict _ => "dict"
theorem Dd.ty {K : PySem.W.Frag} {H : Hp} {v : V} {d : PyData} (h : Dd K H v d) : TyX K H v (.type (tyD d)) := by
  cases h with
  | non => exact .base .non
  | bl b => exact .base (.bl b)
  | int i => exact .base (.int i)
  | str x => exact .base (.str x)
  | lst hs ha =>
    rcases hs with (h | ⟨o, h⟩) | ⟨o, its, n, hk, hc, _⟩
    · exact .base (.lst h)
    · exact .base (.frz h)
    · exact .kList hk hc
  | tup hs ha =>
    rcases hs with (h | ⟨o, h⟩) | ⟨o, its, n, hk, hc, _⟩
    · exact .base (.tup h)
    · exact .fTuple h
    · exact .kTuple hk hc
  | dct h => exact .base (.dK h)
theorem Dds.len {K : PySem.W.Frag} {H : Hp} : ∀ {vs : List V} {ds : List PyData}, Dds K H vs ds → vs.length = ds.length
  | _, _, .nil => rfl
  | _, _, .cons _ t => by rw [List.length_cons, List.length_cons, t.len]
theorem Dds.get {K : PySem.W.Frag} {H : Hp} : ∀ {vs : List V} {ds : List PyData}, Dds K H vs ds → ∀ {i : Nat} {v : V}, vs[i]? = some v → ∃ d, ds[i]? = some d ∧ Dd K H v d
  | _, _, .nil, i, v, h => by simp at h
  | _, _, .cons h t, 0, v, e => by
    simp at e
    subst e
    exact ⟨_, rfl, h⟩
  | _, _, .cons h t, i + 1, v, e => by
    simp at e
    obtain ⟨d, e1, e2⟩ := t.get e
    exact ⟨d, by simpa using e1, e2⟩
theorem Dds.at {K : PySem.W.Frag} {H : Hp} : ∀ {vs : List V} {ds : List PyData}, Dds K H vs ds → ∀ {i : Nat} {d : PyData}, ds[i]? = some d → ∃ v, vs[i]? = some v ∧ Dd K H v d
  | _, _, .nil, i, d, h => by simp at h
  | _, _, .cons h t, 0, d, e => by
    simp at e
    subst e
    exact ⟨_, rfl, h⟩
  | _, _, .cons h t, i + 1, d, e => by
    simp at e
    obtain ⟨v, e1, e2⟩ := t.at e
    exact ⟨v, by simpa using e1, e2⟩
theorem Dds.app {K : PySem.W.Frag} {H : Hp} : ∀ {vs ws : List V} {ds es : List PyData}, Dds K H vs ds → Dds K H ws es → Dds K H (vs ++ ws) (ds ++ es)
  | _, _, _, _, .nil, t => t
  | _, _, _, _, .cons h r, t => .cons h (Dds.app r t)
theorem Dds.strs {K : PySem.W.Frag} {H : Hp} : ∀ (ys : List Str), Dds K H (ys.map V.str) (ys.map PyData.str)
  | [] => .nil
  | y :: ys => .cons (.str y) (Dds.strs ys)
theorem Dds.bls {K : PySem.W.Frag} {H : Hp} : ∀ {vs : List V} {bs : List Bool}, Dds K H vs (bs.map PyData.bool) → vs = bs.map V.bl
  | _, [], .nil => rfl
  | _, b :: bs, .cons h t => by
    cases h
    rw [List.map_cons, t.bls]
theorem Dds.txts {K : PySem.W.Frag} {H : Hp} : ∀ {vs : List V} {ys : List Str}, Dds K H vs (ys.map PyData.str) → vs = ys.map V.str
  | _, [], .nil => rfl
  | _, y :: ys, .cons h t => by
    cases h
    rw [List.map_cons, t.txts]

mutual
/-- no list, no dict within -/
def noList : PyData → Bool
  | .none => true
  | .bool _ => true
  | .int _ => true
  | .str _ => true
  | .tuple ds => noLists ds
  | .list _ => false
  | .dict _ => false
def noLists : List PyData → Bool
  | [] => true
  | d :: ds => noList d && noLists ds
end
mutual
/-- such a datum does not hang on what a list holds -/
theorem Dd.upd {K : PySem.W.Frag} {H : Hp} {a : Addr} {xs : List V} {o : HO} (h : H a = some (.lst xs)) : ∀ (d : PyData) (v : V), noList d = true → Dd K H v d → Dd K (L2.upd H a o) v d
  | .none, _, _, g => by
    cases g
    exact .non
  | .bool b, _, _, g => by
    cases g
    exact .bl b
  | .int i, _, _, g => by
    cases g
    exact .int i
  | .str x, _, _, g => by
    cases g
    exact .str x
  | .tuple ds, _, n, g => by
    cases g with
    | @tup b ys _ hs ha =>
      refine .tup ?_ (Dds.upd h ds _ n ha)
      have ne : ∀ {u : HO}, H b = some u → (∀ zs, u ≠ .lst zs) → L2.upd H a o b = some u := fun {u} hb nz => by
        rw [upd_ne (fun z => ?_)]
        · exact hb
        · rw [z, h] at hb
          exact nz xs (Option.some.inj hb).symm
      rcases hs with (hb | ⟨ob, hb⟩) | hb
      · exact .inl (.inl (ne hb (fun _ z => nomatch z)))
      · exact .inl (.inr ⟨ob, ne hb (fun _ z => nomatch z)⟩)
      · exact .inr hb
  | .list _, _, n, _ => by cases n
  | .dict _, _, n, _ => by cases n
theorem Dds.upd {K : PySem.W.Frag} {H : Hp} {a : Addr} {xs : List V} {o : HO} (h : H a = some (.lst xs)) : ∀ (ds : List PyData) (vs : List V), noLists ds = true → Dds K H vs ds → Dds K (L2.upd H a o) vs ds
  | [], _, _, g => by
    cases g
    exact .nil
  | d :: ds, _, n, g => by
    cases g with
    | cons g1 g2 =>
      have n2 : (noList d && noLists ds) = true := n
      rw [Bool.and_eq_true] at n2
      exact .cons (Dd.upd h d _ n2.1 g1) (Dds.upd h ds _ n2.2 g2)
end
theorem noLists_of : ∀ {ds : List PyData}, (∀ d ∈ ds, noList d = true) → noLists ds = true
  | [], _ => rfl
  | d :: ds, h => by
    show (noList d && noLists ds) = true
    rw [h d (List.mem_cons_self ..), noLists_of fun d' h' => h d' (List.mem_cons_of_mem _ h')] <;> rfl

def EvD (K : PySem.W.Frag) (te : TE) (σ : L2.St) (H : Hp) (d : PyData) : Prop := ∀ H1, Ex H H1 → ∀ Q : VK, (∀ v H2, Ex H1 H2 → Dd K H2 v d → Q v H2) → te σ H1 Q
def EvDs (K : PySem.W.Frag) (ta : TA) (σ : L2.St) (H : Hp) (ds : List PyData) : Prop := ∀ H1, Ex H H1 → ∀ Q : List V → Hp → Prop, (∀ vs H2, Ex H1 H2 → Dds K H2 vs ds → Q vs H2) → ta σ H1 Q
/-- a new list of these data -/
def EvDL (K : PySem.W.Frag) (te : TE) (σ : L2.St) (H : Hp) (ds : List PyData) : Prop := ∀ H1, Ex H H1 → ∀ Q : VK, (∀ p xs H2, H1 p = none → Ex H1 H2 → H2 p = some (.lst xs) → Dds K H2 xs ds → Q (.ref p) H2) → te σ H1 Q
/-- a def that answers a datum to data -/
def SpD (K : PySem.W.Frag) (sp : Sp) (ds : List PyData) (r : PyData) : Prop := ∀ vs H, Dds K H vs ds → ∀ Q : VK, (∀ v H', Ex H H' → Dd K H' v r → Q v H') → ∀ E : XK, sp vs H Q E
def spD (K : PySem.W.Frag) (ok : List PyData → Prop) (F : List PyData → PyData) : Sp := fun vs H Q _ => ∃ ds, Dds K H vs ds ∧ ok ds ∧ ∀ v H', Ex H H' → Dd K H' v (F ds) → Q v H'
theorem spD_ok {K : PySem.W.Frag} {ok : List PyData → Prop} {F : List PyData → PyData} {ds : List PyData} {r : PyData} (h : ok ds) (e : F ds = r) : SpD K (spD K ok F) ds r := fun vs H dd Q q E => ⟨ds, dd, h, by rw [e]; exact q⟩

section
variable {K : PySem.W.Frag} {H H' : Hp} {σ : L2.St} {v x y : V} {d : PyData} {ds : List PyData} {te ta tb : TE} {tas : TA} {i : Nat} {D : Ends}
theorem EvD.mono (e : Ex H H') (h : EvD K te σ H d) : EvD K te σ H' d := fun H1 a Q q => h H1 (e.trans a) Q q
theorem ed_of (h : Ev te σ H v) (g : Dd K H v d) : EvD K te σ H d := fun H1 e Q q => h H1 e Q fun H2 e2 => q v H2 e2 (Dd.ext (e.trans e2) d v g)
theorem ed_var (h : σ[i]? = some (some v)) (g : Dd K H v d) : EvD K (tVar i) σ H d := ed_of (ev_var h) g
theorem ed_str {z : Str} (h : Ev te σ H (.str z)) : EvD K te σ H (.str z) := ed_of h (.str z)
theorem ed_int {z : Int} (h : Ev te σ H (.int z)) : EvD K te σ H (.int z) := ed_of h (.int z)
theorem ed_bl {z : Bool} (h : Ev te σ H (.bl z)) : EvD K te σ H (.bool z) := ed_of h (.bl z)
theorem ed_non (h : Ev te σ H .non) : EvD K te σ H .none := ed_of h .non
theorem EvD.str {z : Str} (h : EvD K te σ H (.str z)) : Ev te σ H (.str z) := fun H1 e Q q => h H1 e Q fun v H2 e2 dd => by
  cases dd
  exact q H2 e2
theorem EvD.int {z : Int} (h : EvD K te σ H (.int z)) : Ev te σ H (.int z) := fun H1 e Q q => h H1 e Q fun v H2 e2 dd => by
  cases dd
  exact q H2 e2
theorem EvD.bl {z : Bool} (h : EvD K te σ H (.bool z)) : Ev te σ H (.bl z) := fun H1 e Q q => h H1 e Q fun v H2 e2 dd => by
  cases dd
  exact q H2 e2
theorem EvD.non (h : EvD K te σ H .none) : Ev te σ H .non := fun H1 e Q q => h H1 e Q fun v H2 e2 dd => by
  cases dd
  exact q H2 e2
theorem ed_is {d' : PyData} (h : EvD K te σ H d) (e : d = d') : EvD K te σ H d' := by
  subst e
  exact h
theorem eds_nil : EvDs K tNil σ H [] := fun H1 _ _ q => q [] H1 (Ex.refl H1) .nil
theorem eds_cons {tr : TA} (h : EvD K ta σ H d) (hr : EvDs K tr σ H ds) : EvDs K (tCons ta tr) σ H (d :: ds) := fun H1 e Q q =>
  h H1 e _ fun v H2 e2 g => hr H2 (e.trans e2) _ fun vs H3 e3 gs => q (v :: vs) H3 (e2.trans e3) (.cons (Dd.ext e3 _ _ g) gs)
theorem ed_tup (h : EvDs K tas σ H ds) (hl : ds.length ≤ 100000) : EvD K (tTup tas) σ H (.tuple ds) := fun H1 e Q q =>
  h H1 e _ fun vs H2 e2 g => ⟨sz_of (by rw [g.len]; exact hl), fun p hp => q (.ref p) _ (e2.trans (Ex.new hp)) (.tup (st_of upd_same) (Dds.ext (Ex.new hp) _ _ g))⟩
theorem ed_lst (h : EvDs K tas σ H ds) (hl : ds.length ≤ 100000) : EvD K (tLstB tas) σ H (.list ds) := fun H1 e Q q =>
  h H1 e _ fun vs H2 e2 g => ⟨sz_of (by rw [g.len]; exact hl), fun p hp hs => q (.ref p) _ (e2.trans (Ex.new hp)) (.lst (sq_of upd_same) (Dds.ext (Ex.new hp) _ _ g))⟩
theorem edl_lst (h : EvDs K tas σ H ds) (hl : ds.length ≤ 100000) : EvDL K (tLst tas) σ H ds := fun H1 e Q q =>
  h H1 e _ fun vs H2 e2 g => ⟨sz_of (by rw [g.len]; exact hl), fun p hp => q p vs _ (fresh_back e2 hp) (e2.trans (Ex.new hp)) upd_same (Dds.ext (Ex.new hp) _ _ g)⟩
theorem ed_call {sp : Sp} {r : PyData} {E : XK} (h : EvDs K tas σ H ds) (hs : SpD K sp ds r) : EvD K (tCall sp [] E tas) σ H r := fun H1 e Q q =>
  h H1 e _ fun vs H2 e2 g => hs (vs ++ []) H2 (by rw [List.append_nil]; exact g) Q (fun v H3 e3 g3 => q v H3 (e2.trans e3) g3) E
/-- isinstance(e, n) -/
theorem ed_isi {n : String} {b : Bool} (h : EvD K te σ H d) (e : kitB (tyD d) n = some b) : Ev (tCB (rIsi K) (tCons te (tCons (tC (.ty n)) tNil))) σ H (.bl b) := fun H1 e1 Q q =>
  h H1 e1 _ fun v H2 e2 g => ⟨v, .ty n, .type (tyD d), .type n, b, rfl, .ty n, g.ty, kit_ty e, q H2 e2⟩
/-- len(e) of a tuple or a text -/
def rLenD (K : PySem.W.Frag) : List V → Hp → VK → Prop := fun xs H Q => ∃ x n, xs = [x] ∧ LenV K x H n ∧ Q (.int n) H
theorem ed_lenT (h : EvD K te σ H (.tuple ds)) : Ev (tCB (rLenD K) (tCons te tNil)) σ H (.int (ds.length : Int)) := fun H1 e1 Q q =>
  h H1 e1 _ fun v H2 e2 g => by
    cases g with
    | tup hs ha => exact ⟨_, ds.length, rfl, .inr ⟨_, hs, ha.len.symm⟩, q H2 e2⟩
theorem ed_lenS {z : Str} (h : Ev te σ H (.str z)) (hz : z.length ≤ 100000) : Ev (tCB (rLenD K) (tCons te tNil)) σ H (.int (z.length : Int)) := fun H1 e1 Q q =>
  h H1 e1 _ fun H2 e2 => ⟨_, z.length, rfl, ⟨sz_of hz, rfl⟩, q H2 e2⟩
theorem ed_lenL {p : Addr} {xs : List V} (h : Ev te σ H (.ref p)) (hx : SqL K H p xs) : Ev (tCB (rLenD K) (tCons te tNil)) σ H (.int (xs.length : Int)) := fun H1 e1 Q q =>
  h H1 e1 _ fun H2 e2 => ⟨_, xs.length, rfl, .inl ⟨xs, ex_l (e1.trans e2) hx, rfl⟩, q H2 e2⟩
/-- e[j] of a tuple -/
theorem ed_ixT {j : Nat} (h : EvD K ta σ H (.tuple ds)) (hi : ∀ H1, Ex H H1 → Ev tb σ H1 (.int (j : Int))) (hd : ds[j]? = some d) : EvD K (tOp (rIxT K) ta tb) σ H d := fun H1 e1 Q q =>
  h H1 e1 _ fun v H2 e2 g => hi H2 (e1.trans e2) H2 (Ex.refl _) _ fun H3 e3 => by
    cases g with
    | @tup a xs _ hs ha =>
      obtain ⟨x, hx, gx⟩ := ha.at hd
      have lt : j < xs.length := (List.getElem?_eq_some_iff.mp hx).1
      exact ⟨a, xs, (j : Int), x, rfl, rfl, ex_t e3 hs, atI_nat hx, q x H3 (e2.trans e3) (Dd.ext e3 _ _ gx)⟩

/-! statements -/
theorem s_asgD (h : EvD K te σ H d) (k : ∀ v H1, Ex H H1 → Dd K H1 v d → D.nx (σ.set i (some v)) H1) : tAsg te (gName i) D σ H := h H (Ex.refl H) _ fun v H1 e g => k v H1 e g
theorem q_asgD {tz : TS} (h : EvD K te σ H d) (k : ∀ v H1, Ex H H1 → Dd K H1 v d → tz D (σ.set i (some v)) H1) : tSeq (tAsg te (gName i)) tz D σ H := s_asgD (D := { D with nx := tz D }) h k
theorem s_asgDL (h : EvDL K te σ H ds) (k : ∀ p xs H1, H p = none → Ex H H1 → H1 p = some (.lst xs) → Dds K H1 xs ds → D.nx (σ.set i (some (.ref p))) H1) : tAsg te (gName i) D σ H := h H (Ex.refl H) _ fun p xs H1 hp e h1 g => k p xs H1 hp e h1 g
theorem q_asgDL {tz : TS} (h : EvDL K te σ H ds) (k : ∀ p xs H1, H p = none → Ex H H1 → H1 p = some (.lst xs) → Dds K H1 xs ds → tz D (σ.set i (some (.ref p))) H1) : tSeq (tAsg te (gName i)) tz D σ H := s_asgDL (D := { D with nx := tz D }) h k
theorem s_retD (h : EvD K te σ H d) (k : ∀ v H1, Ex H H1 → Dd K H1 v d → D.rt v H1) : tRet te D σ H := h H (Ex.refl H) _ fun v H1 e g => k v H1 e g

/-! what is walked, by data -/
def EvIt (K : PySem.W.Frag) (wi : TI) (σ : L2.St) (H : Hp) (ds : List PyData) : Prop := ∀ H1, Ex H H1 → ∀ R : It → Hp → Prop,
  (∀ J H2, Ex H1 H2 → Walk J ds.length (fun H' => Ex H2 H') (fun i Hh x H' => H' = Hh ∧ ∃ d, ds[i]? = some d ∧ Dd K Hh x d) → R J H2) → wi σ H1 R
theorem walk_L {a : Addr} {xs : List V} (hx : SqL K H a xs) (g : Dds K H xs ds) : Walk (Itl K a) ds.length (fun H' => Ex H H') (fun i Hh x H' => H' = Hh ∧ ∃ d, ds[i]? = some d ∧ Dd K Hh x d) := by
  rw [← g.len]
  exact walk_list.mono (fun H' e => ex_l e hx) fun i Hh x H' _ e y => ⟨y.1, (Dds.ext e _ _ g).get y.2⟩
theorem walk_T {a : Addr} {xs : List V} (hx : SqT K H a xs) (g : Dds K H xs ds) : Walk (Itt K a) ds.length (fun H' => Ex H H') (fun i Hh x H' => H' = Hh ∧ ∃ d, ds[i]? = some d ∧ Dd K Hh x d) := by
  rw [← g.len]
  exact walk_tup.mono (fun H' e => ex_t e hx) fun i Hh x H' _ e y => ⟨y.1, (Dds.ext e _ _ g).get y.2⟩
def signsD (z : Str) : List PyData := z.cps.toList.map fun c => .str ⟨#[c]⟩
theorem walk_S {z : Str} : Walk (Its z) (signsD z).length (fun H' => Ex H H') (fun i Hh x H' => H' = Hh ∧ ∃ d, (signsD z)[i]? = some d ∧ Dd K Hh x d) := by
  have e : (signsD z).length = z.cps.size := by simp [signsD]
  rw [e]
  refine walk_str.mono (fun _ _ => True.intro) fun i Hh x H' _ _ y => ?_
  obtain ⟨y1, c, y2, rfl⟩ := y
  exact ⟨y1, .str ⟨#[c]⟩, by simp [signsD, y2], .str _⟩
theorem it_L {tl : TE} {a : Addr} {xs : List V} (h : Ev tl σ H (.ref a)) (hx : SqL K H a xs) (g : Dds K H xs ds) : EvIt K (iList K tl) σ H ds := fun H1 e R k =>
  h H1 e _ fun H2 e2 => ⟨a, rfl, ⟨xs, ex_l (e.trans e2) hx⟩, k _ H2 e2 (walk_L (ex_l (e.trans e2) hx) (Dds.ext (e.trans e2) _ _ g))⟩
theorem it_NL {tl : TE} (h : EvDL K tl σ H ds) : EvIt K (iList K tl) σ H ds := fun H1 e R k =>
  h H1 e _ fun p xs H2 hp e2 hx g => ⟨p, rfl, ⟨xs, sq_of hx⟩, k _ H2 e2 (walk_L (sq_of hx) g)⟩
theorem it_T {tl : TE} (h : EvD K tl σ H (.tuple ds)) : EvIt K (iTup K tl) σ H ds := fun H1 e R k =>
  h H1 e _ fun v H2 e2 g => by
    cases g with
    | @tup a xs _ hs ha => exact ⟨a, rfl, ⟨xs, hs⟩, k _ H2 e2 (walk_T hs ha)⟩
theorem it_S {tl : TE} {z : Str} (h : Ev tl σ H (.str z)) : EvIt K (iStr tl) σ H (signsD z) := fun H1 e R k => h H1 e _ fun H2 e2 => ⟨z, rfl, k _ H2 e2 walk_S⟩
theorem take_yes {p : PyData → Bool} {f : PyData → PyData} {i : Nat} (e : ds[i]? = some d) (h : p d = true) : ((ds.take (i + 1)).filter p).map f = ((ds.take i).filter p).map f ++ [f d] := by
  rw [List.take_add_one, e]
  simp [h]
theorem take_no {p : PyData → Bool} {f : PyData → PyData} {i : Nat} (e : ds[i]? = some d) (h : p d = false) : ((ds.take (i + 1)).filter p).map f = ((ds.take i).filter p).map f := by
  rw [List.take_add_one, e]
  simp [h]
/-- [f for x in .. if p] -/
theorem edl_lc {wi : TI} {tt : TT} {j : Nat} {vs : List Nat} (p : PyData → Bool) (f : PyData → PyData) (h : EvIt K wi σ H ds) (hz : ds.length ≤ 40000) (nl : ∀ d, d ∈ ds → p d = true → noList (f d) = true) (hw : ∀ x, wipe ((wipe σ vs).set j (some x)) vs = wipe σ vs)
    (ht : ∀ x d H1, Ex H H1 → d ∈ ds → Dd K H1 x d → EvT tt ((wipe σ vs).set j (some x)) H1 (p d)) (he : ∀ x d H1, Ex H H1 → d ∈ ds → Dd K H1 x d → p d = true → EvD K te ((wipe σ vs).set j (some x)) H1 (f d)) :
    EvDL K (tLc wi (gName j) tt te vs) σ H ((ds.filter p).map f) := fun H0 e Q q => h H0 e _ fun J H1 e1 w Dl hD =>
  lc_it w (fun i H' => Ex (upd H1 Dl (.lst [])) (upd H' Dl (.lst [])) ∧ ∃ acc, H' Dl = some (.lst acc) ∧ Dds K H' acc (((ds.take i).filter p).map f)) ⟨fun a o h => by rw [upd_upd]; exact h, [], upd_same, by simp; exact .nil⟩
    (fun i H' _ p' a o ha => by
      have n : a ≠ Dl := ne_of_none ha hD
      have q1 := p'.1 a o (by rw [upd_ne n]; exact ha)
      rw [upd_ne n] at q1
      exact q1)
    (fun i x H' H2 hi pv y => by
      obtain ⟨rfl, d, hd, g⟩ := y
      obtain ⟨p1, acc, p2, p3⟩ := pv
      have ex : Ex H1 H2 := fun a o ha => by
        have n : a ≠ Dl := ne_of_none ha hD
        have q1 := p1 a o (by rw [upd_ne n]; exact ha)
        rw [upd_ne n] at q1
        exact q1
      have hm : d ∈ ds := List.mem_of_getElem? hd
      have la : acc.length ≤ i := by
        rw [p3.len, List.length_map]
        refine Nat.le_trans (List.length_filter_le _ _) ?_
        rw [List.length_take]
        omega
      have exE : Ex H H2 := (e.trans e1).trans ex
      refine ⟨hw x, ht x d H2 exE hm g H2 (Ex.refl _) _ fun H3 e3 => ?_⟩
      have step : ∀ {H4 : Hp}, Ex H2 H4 → Ex (upd H1 Dl (.lst [])) (upd H4 Dl (.lst [])) := fun {H4} e4 a o ha => by
        by_cases n : a = Dl
        · subst n
          rw [upd_same] at ha ⊢
          exact ha
        · rw [upd_ne n] at ha ⊢
          exact e4 a o (ex a o ha)
      cases hp : p d with
      | true =>
        refine he x d H3 (exE.trans e3) hm (Dd.ext e3 _ _ g) hp H3 (Ex.refl _) _ fun u H4 e4 gu => ⟨acc, e4 _ _ (e3 _ _ p2), sz_lt (by omega), ?_, acc ++ [u], upd_same, ?_⟩
        · rw [upd_upd]
          exact step (e3.trans e4)
        · rw [take_yes hd hp]
          have nl1 : noLists (((ds.take i).filter p).map f) = true := noLists_of fun d' h' => by
            rw [List.mem_map] at h'
            obtain ⟨d0, h0, rfl⟩ := h'
            rw [List.mem_filter] at h0
            exact nl d0 (List.mem_of_mem_take h0.1) h0.2
          have p2' := e4 _ _ (e3 _ _ p2)
          exact Dds.app (Dds.upd p2' _ _ nl1 (Dds.ext (e3.trans e4) _ _ p3)) (.cons (Dd.upd p2' _ _ (nl d hm hp) gu) .nil)
      | false =>
        refine ⟨step e3, acc, e3 _ _ p2, ?_⟩
        rw [take_no hd hp]
        exact Dds.ext e3 _ _ p3)
    (fun H' pv => by
      obtain ⟨p1, acc, p2, p3⟩ := pv
      rw [List.take_length] at p3
      refine q Dl acc H' (fresh_back e1 hD) (e1.trans fun a o ha => ?_) p2 p3
      have n : a ≠ Dl := ne_of_none ha hD
      have q1 := p1 a o (by rw [upd_ne n]; exact ha)
      rw [upd_ne n] at q1
      exact q1)
end
end My
set_option maxHeartbeats 2000000
/-! own == on a plain instance, whatever the other side is; len of an instance -/
namespace My
open PySem PySem.Spec PyProof.Rows L2
theorem cmpback2 {P : Value → Shared → Prop} {z : V} {v : Value} {s' : Shared} (r : RelV z v) (h : P v s') : PySem.W.CmpBack P v s' := by
  cases z with
  | non => cases (show v = Value.none from r); exact h
  | bl b => cases (show v = Value.bool b from r); exact h
  | int i =>
    obtain ⟨t, e⟩ := (show ∃ t, v = Value.int i t from r)
    cases e
    exact h
  | str x =>
    obtain ⟨t, e⟩ := (show ∃ t, v = Value.str x t from r)
    cases e
    exact h
  | byt x =>
    obtain ⟨t, e⟩ := (show ∃ t, v = Value.bytes x t from r)
    cases e
    exact h
  | flt x =>
    obtain ⟨t, e⟩ := (show ∃ t, v = Value.float x t from r)
    cases e
    exact h
  | ref a => cases (show v = Value.ref a from r); exact h
  | ty n => cases (show v = Value.type n from r); exact h
section
variable {X : Cx} {CX : CXT} {k : Nat} {C g : Addr} {fd : FuncData} {ps : List Str} {sp : Sp} {E : XK}
/-- x op y, x an instance of the class at C whose def for op is at g; y of a type that is none below C -/
def rOwnI (K : PySem.W.Frag) (C : Addr) (sp : Sp) (E : XK) : R2 := fun x y H Q => ∃ a dx fs t, x = .ref a ∧ H a = some (.ins C dx fs) ∧ TyX K H y t ∧ PySem.W.notFirst K C t = true ∧ sp [x, y] H Q E
theorem op_ownI {op : CmpOp} (hop : ∀ a b, compareOp op a b = richCompare op a b) (hs : PySem.W.findIn X.K (.ref C) (cmpInfo op).2.1 = some (some (.ref g))) (hf : PySem.W.isFn X.K (.ref g) = true)
    (F : FnOk X.prog X.w X.K X.mg X.base CX k g fd ps sp) (hb : Binds X.K fd ps []) (hr : Room k X.A) (hx : Passes CX X E) : OpR X (compareOp op) (rOwnI X.K C sp E) := by
  intro pins s σ H x y v u Q I rx ry h
  obtain ⟨a, dx, fs, t, rfl, ha, ty, hn, q⟩ := h
  cases (show v = Value.ref a from rx)
  obtain ⟨mA, J, _⟩ := ins_get I.hok ha
  obtain ⟨od, J, _⟩ := J.look
  obtain ⟨P, Z, hP, _⟩ := kit_of I ry ty
  obtain ⟨m, hF⟩ := I.fr
  rw [hop]
  refine PySem.W.cmp_K (op := op) (tb := t) hr.units0 hF I.ok.mod.kin J (Z.ty _ _ I.kIn hP) hn hs hf ?_
  have r2 : Vals [V.ref a, y] [Value.ref a, u] := .cons rfl (.cons ry .nil)
  have z := run_fn (us := [.ref a, u]) (vs := [.ref a, y]) F hr hb .nil hx I r2 (by simpa using q)
  refine wpAny_mono z (fun w s' z => ?_) fun _ _ x => x
  obtain ⟨z', H', I', rz, qz⟩ := z
  exact cmpback2 rz ⟨z', H', I', rz, qz⟩
/-- len(x), x an instance with an own __len__ -/
def rLenI (C : Addr) (sp : Sp) (E : XK) : List V → Hp → VK → Prop := fun xs H Q => ∃ a dx fs, xs = [.ref a] ∧ H a = some (.ins C dx fs) ∧ sp xs H (fun v H' => ∃ n : Nat, v = .int n ∧ n < 1000000 ∧ Q (.int n) H') E
theorem call_lenI (hs : PySem.W.findIn X.K (.ref C) "__len__" = some (some (.ref g))) (hf : PySem.W.typeIn X.K (.ref g) = some (.type "function"))
    (F : FnOk X.prog X.w X.K X.mg X.base CX k g fd ps sp) (hb : Binds X.K fd ps []) (hr : Room (k + 1) X.A) (hx : Passes CX X.nox E) : CallR X (.builtin "len") (rLenI C sp E) := by
  intro pins s σ H xs us Q I r h
  obtain ⟨a, dx, fs, rfl, ha, q⟩ := h
  obtain ⟨mA, J, _⟩ := ins_get I.hok ha
  obtain ⟨od, J, _⟩ := J.look
  obtain ⟨u, rfl, ru⟩ : ∃ u, us = [u] ∧ RelV (.ref a) u := by
    cases r with
    | cons p q =>
      cases q
      exact ⟨_, rfl, p⟩
  cases (show u = Value.ref a from ru)
  obtain ⟨hp, gs, d, t, os⟩ := s
  refine Calls.call_function_entry kind_len plain_len entry_len (args_len1 _) ?_
  unfold Builtin.«len»
  refine wpAny_bind (m := oneArg "len" _) (wpAny_pure ?_)
  have hl : ([Value.ref a] : List Value).length = ps.length := by
    rw [← F.len _ _ _ _ q]
    rfl
  refine wpAny_bind (m := callSpecial? (.ref a) (Str.ofString "__len__")) (PySem.W.special_fn I.kIn J hs hf (wpAny_call (codeAny_mono (F.run X.A.in1 X.stack ⟨hp, gs, d, t, os⟩ H ⟨[.ref a], []⟩ [.ref a] [.ref a] _ E hr.in1 I.env0.in1 (by simpa using hb _ [.ref a] I.kIn hl) (.cons rfl .nil) q) fun r s' hq => ?_)))
  cases r with
  | error er => exact False.elim (hx pins σ H ⟨hp, gs, d, t, os⟩ er s' (I.wish _) hq)
  | ok fl =>
    cases fl with
    | ret u =>
      obtain ⟨v, H', I3, rv, n, rfl, hn, q3⟩ := I.after hq
      obtain ⟨tk, rfl⟩ := (show ∃ t, u = Value.int n t from rv)
      refine wpAny_bind (wpAny_holding (wpAny_pure ?_))
      refine wpAny_bind (wpAny_letGo ?_)
      show wpAny _ _ (if (n : Int) < 0 then _ else _) _ _ _
      rw [if_neg (by omega)]
      show wpAny _ _ (if (n : Int) ≥ 2 ^ 63 then _ else _) _ _ _
      rw [if_neg (by omega)]
      refine wpAny_bind (wpAny_mkInt (wpAny_pure ?_))
      exact ⟨_, rfl, V.int n, H', I3.tok _, ⟨_, rfl⟩, q3⟩
    | next => exact False.elim hq
    | brk => exact False.elim hq
    | cont => exact False.elim hq
end
end My
set_option maxHeartbeats 2000000
/-! == of dicts whose values are data -/
namespace My
open PySem PySem.Spec PyProof.Rows L2
mutual
def noDict : PyData → Bool
  | .none => true
  | .bool _ => true
  | .int _ => true
  | .str _ => true
  | .tuple ds => noDicts ds
  | .list ds => noDicts ds
  | .dict _ => false
def noDicts : List PyData → Bool
  | [] => true
  | d :: ds => noDict d && noDicts ds
end
mutual
theorem dp_ofL {K : PySem.W.Frag} {H : Hp} : ∀ (d : PyData) (v : V), noDict d = true → Dd K H v d → Dp K H v d
  | .none, _, _, g => by
    cases g
    exact .non
  | .bool b, _, _, g => by
    cases g
    exact .bl b
  | .int i, _, _, g => by
    cases g
    exact .int i
  | .str x, _, _, g => by
    cases g
    exact .str x
  | .tuple ds, _, n, g => by
    cases g with
    | tup hs ha => exact .tup hs (dps_ofL ds _ n ha)
  | .list ds, _, n, g => by
    cases g with
    | lst hs ha => exact .lst hs (dps_ofL ds _ n ha)
  | .dict _, _, n, _ => by cases n
theorem dps_ofL {K : PySem.W.Frag} {H : Hp} : ∀ (ds : List PyData) (vs : List V), noDicts ds = true → Dds K H vs ds → DpAll K H vs ds
  | [], _, _, g => by
    cases g
    exact .nil
  | d :: ds, _, n, g => by
    cases g with
    | cons g1 g2 =>
      have n2 : (noDict d && noDicts ds) = true := n
      rw [Bool.and_eq_true] at n2
      exact .cons (dp_ofL d _ n2.1 g1) (dps_ofL ds _ n2.2 g2)
end
section
variable {X : Cx}
/-- d == e, both dicts by keys; e says what the values under a key answer -/
def rEqDK (K : PySem.W.Frag) : R2 := fun x y H Q => ∃ (a b : Addr) (ka kb : List (Key × V)) (e : Key → Bool), x = .ref a ∧ y = .ref b ∧ H a = some (.dK ka) ∧ H b = some (.dK kb) ∧
  (∀ p ∈ ka, ∀ v', valV kb p.1 = some v' → ∃ d d', Dp K H p.2 d ∧ Dp K H v' d' ∧ d.canLay0 = true ∧ d'.canLay0 = true ∧ d.depth ≤ 30 ∧ e p.1 = PyData.eqv d d') ∧
  Q (.bl (ka.length == kb.length && ka.all fun p => (valV kb p.1).isSome && e p.1)) H
theorem kv_keys {κ : Type} {ka : List (κ × V)} {va : List (κ × Value)} (r : KV ka va) (f : κ → Bool) : (va.all fun p => f p.1) = ka.all fun p => f p.1 := by
  unfold KV at r
  induction r with
  | nil => rfl
  | cons h _ ih => rw [List.all_cons, List.all_cons, ih, h.1]
theorem kv_mem {κ : Type} {ka : List (κ × V)} {va : List (κ × Value)} (r : KV ka va) {k : κ} {u : Value} (h : (k, u) ∈ va) : ∃ v, (k, v) ∈ ka ∧ RelV v u := by
  unfold KV at r
  induction r with
  | nil => cases h
  | @cons p q _ _ z _ ih =>
    rcases List.mem_cons.mp h with rfl | h
    · refine ⟨p.2, ?_, z.2⟩
      have e : p.1 = k := z.1
      rw [← e]
      exact List.mem_cons_self ..
    · obtain ⟨v, h1, h2⟩ := ih h
      exact ⟨v, List.mem_cons_of_mem _ h1, h2⟩
theorem op_eqDK (hu : X.A.units + 64 < cLine) : OpR X (compareOp .Eq) (rEqDK X.K) := by
  intro pins s σ H x y v u Q I rx ry h
  obtain ⟨a, b, ka, kb, e, rfl, rfl, ea, eb, hd, q⟩ := h
  obtain rfl : v = Value.ref a := rx
  obtain rfl : u = Value.ref b := ry
  obtain ⟨_, ya, va, ra, da⟩ := (show ObjOk X.prog X.w H s.heap a (.dK ka) from I.hok a _ ea)
  obtain ⟨_, yb, vb, rb, db⟩ := (show ObjOk X.prog X.w H s.heap b (.dK kb) from I.hok b _ eb)
  have some : ∀ k, (valueAt vb k).isSome = (valV kb k).isSome := fun k => by
    have z := rb.val k
    cases h1 : valV kb k <;> cases h2 : valueAt vb k <;> rw [h1, h2] at z <;> first | rfl | exact z.elim
  refine PySem.W.eq_dictsT (n := 30) (e := e) ya yb da db (fun k v y hm hv => ?_) (by omega) ?_
  · obtain ⟨v0, hm0, rv⟩ := kv_mem ra hm
    have z := rb.val k
    rw [hv] at z
    cases h1 : valV kb k with
    | none =>
      rw [h1] at z
      exact z.elim
    | some v' =>
      rw [h1] at z
      obtain ⟨d, d', g, g', c, c', dep, ek⟩ := hd _ hm0 v' h1
      obtain ⟨as, r1⟩ := Dp.reads I d v0 v g rv
      obtain ⟨bs, r2⟩ := Dp.reads I d' v' y g' z
      rw [ek]
      exact .leaf fun A hA => SeqAt.eqAt_reads d d' A s v y as bs r1 r2 c c' (by
        have := Nat.min_le_left d.depth d'.depth
        omega)
  · have e1 : (va.all fun p => (valueAt vb p.1).isSome && e p.1) = ka.all fun p => (valV kb p.1).isSome && e p.1 := by
      rw [kv_keys ra fun k => (valueAt vb k).isSome && e k]
      simp only [some]
    have e2 : va.length = ka.length := (Paired.length ra).symm
    have e3 : vb.length = kb.length := (Paired.length rb).symm
    rw [e1, e2, e3]
    exact ⟨.bl _, H, I, rfl, q⟩
end
end My
namespace My
open PySem PySem.Spec PyProof.Rows L2
def tRev (K : PySem.W.Frag) (te : TE) (ts : TO) : TE := fun σ H Q => te σ H fun x H1 => ts σ H1 fun o H2 => o = some (-1) ∧ ∃ a xs, x = .ref a ∧ SqL K H2 a xs ∧ ∀ p, H2 p = none → Q (.ref p) (upd H2 p (.lst xs.reverse))
/-- xs[::-1] of a list -/
theorem pe_rev {X : Cx} {e st : Expr} {te : TE} {ts : TO} {p2 pos : Pos} (he : PE X e te) (hs : PO X (some st) ts) : PE X (.Subscript e (.Slice none none (some st) p2) pos) (tRev X.K te ts) := by
  refine ⟨fun pins s σ H Q I h => ?_⟩
  refine Subscript_ (thn (he.run pins s σ H _ I h) fun v s1 ⟨x, H1, I1, r1, q1⟩ => ?_)
  refine wpAny_Slice ?_
  rw [evalPart_none]
  refine wpAny_pure ?_
  refine wpAny_pure ?_
  refine thn (hs.run pins s1 σ H1 _ I1 q1) fun vk s3 ⟨o, H3, I3, pk, q3⟩ => ?_
  obtain ⟨rfl, a, xs, rfl, hx, q⟩ := q3
  cases r1
  have I4 : Inv X pins σ H3 { s3 with heap := s3.heap.push { cls := .type "slice", data := .fields #[.none, .none, vk] } } := I3.kept (t' := s3.toks) fun b ob q => Heap.get?_push_of_some _ q
  obtain ⟨its, r, ht, hz⟩ := I4.list hx
  have hlen := r.length
  show wpAny (model X.prog X.w) X.A (subscriptTail e (.Slice none none (some st) p2) (.ref a) (.ref s3.heap.objs.size)) (EP X pins σ Q) X.xe { s3 with heap := s3.heap.push { cls := .type "slice", data := .fields #[.none, .none, vk] } }
  refine tail_any (ops := [.ref a, .ref s3.heap.objs.size]) ht.isList.typeIs slot_list_getitem.lookup ?_ (by with_unfolding_all rfl)
  refine wpAny_getItem_list_slice ht.isList (Heap.IsSliceOf.new ..) .none .none pk (by decide) ?_ (by rw [List.size_toArray] <;> omega)
  rw [PySem.W.krv_pick]
  refine ⟨.ref _, _, I4.laid (t' := s3.toks) (o := .lst xs.reverse) (fun b ob q => Heap.get?_push_of_some _ q) (Nat.le_refl _) ?_, rfl, q _ (I4.hok.fresh (Nat.le_refl _))⟩
  refine ⟨by rw [List.length_reverse]; exact hz, _, 0, r.reverse, Heap.get?_push_size _ rfl⟩
end My
set_option maxHeartbeats 4000000
/-! the end of a law whose defs make lambdas: the tables of their code objects are tracked from the start, no guarded builtin runs -/
namespace My
open PySem PySem.Spec PyProof.Rows L2

/-- the script and the empty tables, nothing else -/
def scriptTabs (K : PySem.W.Frag) (ts : List Addr) (a : Addr) (o : Obj) (xs : List V) : Hp := fun b => if b ∈ ts then some (.tbl #[]) else onlyScript K a o xs b

theorem lawCallT {P : Program} {w : World} {K : PySem.W.Frag} {mg mb : Str → Option Value} {k : Nat} {fa a : Addr} {cs : List (Addr × Addr)} {fd : FuncData} {x : Str} {sp : Sp}
    {s₁ : Shared} {vs : List Value} {ns : List Int}
    (inK : K.In s₁.heap) (glob : s₁.heap.Ns mainGlobals mg) (blt : s₁.heap.Ns builtinsNs mb) (bltIs : ∀ x : Str, x ≠ "__name__" → mb x = bootBuiltins x)
    (free : s₁.heap.NoLimit) (gens : s₁.gens = #[])
    (tabs : ∀ p ∈ cs, s₁.heap.get? p.2 = some { cls := .none, data := .fields #[] }) (out : ∀ p ∈ cs, K.lookup p.2 = none) (code : ∀ p ∈ cs, PySem.W.CodeHd s₁.heap p.1 p.2)
    (modB : ∃ (bm : Addr) (ob : Obj), mg "__builtins__" = some (.ref bm) ∧ bm ≠ builtinsNs ∧ s₁.heap.get? bm = some ob ∧ ob.cls = .type "module" ∧ ob.dict = some builtinsNs ∧ ob.data = .plain)
    (ha : s₁.heap.get? a = some { cls := .type "list", data := .seq vs.toArray }) (areInts : IntsAre vs ns)
    (len : ns.length ≤ sizeLine) (room : Room k callerA)
    (F : ∀ base : Heap, K.In base → base.Ns mainGlobals mg → (∀ p ∈ cs, LamX.TabB base mg p.1 p.2) → FnG P w K mg base CX0 k fa fd [x] sp)
    (binds : ∀ (s : Shared) (u : Value), BindsTo s fd ⟨[u], []⟩ [(x, u)])
    (promise : ∀ H : Hp, (∀ p ∈ cs, H p.2 = some (.tbl #[])) → SqL K H a (ns.map V.int) → sp [.ref a] H (fun v _ => v = .bl true) fun _ _ _ => False) :
    codeAny (model P w) callerA (.call (.ref fa) ⟨[.ref a], []⟩)
      (fun r s' => r = .ok (.ret (.bool true)) ∧ OldK s₁.heap s'.heap ∧ s'.os = s₁.os ∧ AllBare s'.gens) s₁ := by
  have rv := vals_ints areInts
  have lenV := areInts.length
  let ts := cs.map (·.2)
  let ob : Obj := { cls := .type "list", data := .seq vs.toArray }
  let H := scriptTabs K ts a ob (ns.map V.int)
  have isTab : ∀ {b : Addr}, b ∈ ts → s₁.heap.get? b = some { cls := .none, data := .fields #[] } := fun {b} hb => by
    obtain ⟨p, hp, rfl⟩ := List.mem_map.mp hb
    exact tabs p hp
  have aOut : a ∉ ts := fun z => by
    have q := isTab z
    rw [ha] at q
    have q2 := congrArg Obj.data (Option.some.inj q)
    cases q2
  have Htab : ∀ {b : Addr}, b ∈ ts → H b = some (.tbl #[]) := fun hb => if_pos hb
  have Hrest : ∀ {b : Addr}, b ∉ ts → H b = onlyScript K a ob (ns.map V.int) b := fun hb => if_neg hb
  have hok : HOk P w H s₁.heap := fun b u e => by
    by_cases hb : b ∈ ts
    · rw [Htab hb] at e
      cases e
      exact isTab hb
    · rw [Hrest hb] at e
      obtain ⟨rfl, _, rfl⟩ := onlyScript_at e
      exact ⟨ha, by rw [List.length_map]; exact len, vs, _, rv, ha⟩
  have hS : SqL K H a (ns.map V.int) := by
    cases e : K.lookup a with
    | none => exact Or.inl (Or.inr ⟨ob, (Hrest aOut).trans (if_pos ⟨rfl, by rw [e]; rfl⟩)⟩)
    | some o =>
      have q := inK a o e
      rw [ha] at q
      cases q
      exact Or.inr ⟨_, vs.toArray, _, e, rfl, rfl, rfl, by rw [List.size_toArray, lenV]; exact len, by simpa using rv⟩
  have freeAt : ∀ {b : Addr}, (b = a → False) → b ∉ ts → H b = none := fun {b} n1 n2 => by
    rw [Hrest n2]
    cases e : onlyScript K a ob (ns.map V.int) b with
    | none => rfl
    | some u => exact (n1 (onlyScript_at e).1).elim
  have under : ∀ {b : Addr} {o : Obj}, s₁.heap.get? b = some o → H b = none → (hidT s₁.heap H).get? b = some o := fun e n => hidT_get e n
  -- an object that is neither a row of values nor an empty record is not tracked
  have other : ∀ {b : Addr} {o : Obj}, s₁.heap.get? b = some o → (∀ its n, o.data ≠ .seq its n) → o.data ≠ .fields #[] → (hidT s₁.heap H).get? b = some o := fun {b o} e n1 n2 => by
    refine under e (freeAt ?_ fun z => ?_)
    · rintro rfl
      rw [ha] at e
      cases e
      exact n1 _ _ rfl
    · rw [isTab z] at e
      cases e
      exact n2 rfl
  have maps : ∀ {b : Addr} {m : Str → Option Value}, s₁.heap.Ns b m → (hidT s₁.heap H).Ns b m := by
    rintro b m ⟨o, es, ep, e, d, r⟩
    exact ⟨o, es, ep, other e (fun _ _ z => by rw [d] at z; cases z) (fun z => by rw [d] at z; cases z), d, r⟩
  have inBase : K.In (hidT s₁.heap H) := fun b o e => under (inK b o e) (by
    by_cases hb : b ∈ ts
    · obtain ⟨p, hp, rfl⟩ := List.mem_map.mp hb
      rw [out p hp] at e
      cases e
    · rw [Hrest hb]
      cases q : onlyScript K a ob (ns.map V.int) b with
      | none => rfl
      | some u =>
        obtain ⟨rfl, z, _⟩ := onlyScript_at q
        rw [z] at e
        cases e)
  have md : Mod K mg (hidT s₁.heap H) := by
    obtain ⟨mc, q1, q2⟩ := free
    exact ⟨inBase, maps glob, ⟨mb, maps blt, bltIs⟩, ⟨mc, maps q1, q2⟩⟩
  have TB : ∀ p ∈ cs, LamX.TabB (hidT s₁.heap H) mg p.1 p.2 := fun p hp => by
    refine ⟨?_, ?_, ?_⟩
    · obtain ⟨o, us, file, tf, flags, tg, inF, text, tt, e1, r1, r2, rest⟩ := code p hp
      refine ⟨o, us, file, tf, flags, tg, inF, text, tt, other e1 (fun _ _ z => by rw [r2] at z; cases z) (fun z => ?_), r1, r2, rest⟩
      have z2 := r2.symm.trans z
      have us0 : us = #[] := by injection z2
      have h3 := rest.1
      rw [us0] at h3
      simp at h3
    · obtain ⟨bm, obm, b1, b2, b3, b4, b5, b6⟩ := modB
      refine ⟨bm, obm, b1, b2, ?_, ?_, other b3 (fun _ _ z => by rw [b6] at z; cases z) (fun z => by rw [b6] at z; cases z), b4, b5, b6⟩
      · rintro rfl
        obtain ⟨o, es, ep, e, d, _⟩ := glob
        rw [e] at b3
        cases b3
        rw [d] at b6
        cases b6
      · rintro rfl
        rw [tabs p hp] at b3
        cases b3
        cases b6
    · intro z
      obtain ⟨o, es, ep, e, d, _⟩ := glob
      rw [z, tabs p hp] at e
      cases e
      cases d
  have nil : ∀ b : Addr, b ∈ frs [] → False := fun b z => by
    have z' : b ∈ ([] : List Addr) := z
    cases z'
  have e0 : Env0 P w K mg (hidT s₁.heap H) callerA [] s₁ H :=
    ⟨rfl, md, fun b o e => of_hidT e, Nat.le_of_eq (hidT_size _ _), trivial, fun b hb => (nil b hb).elim, hok, .of_eq gens⟩
  have run := (F _ inBase (maps glob) TB).run callerA [] s₁ H ⟨[.ref a], []⟩ [.ref a] [.ref a] _ _ rfl room e0 (binds s₁ (.ref a)) (.cons rfl .nil)
    (promise H (fun p hp => Htab (List.mem_map_of_mem hp)) hS)
  refine codeAny_mono run fun r s' h => ?_
  match r, h with
  | .error e, h => exact False.elim h
  | .ok (.ret u), h =>
    obtain ⟨v, H', os, bare, un, hok', r', q⟩ := h
    obtain rfl : v = .bl true := q
    obtain rfl : u = Value.bool true := r'
    have same : ∀ b o, b ∉ ts → s₁.heap.get? b = some o → s'.heap.get? b = some o := fun b o nb e => by
      cases q : H b with
      | none => exact un.keep b o e q (fun z => nil b z) (by simp)
      | some u =>
        have q1 := q
        rw [Hrest nb] at q1
        obtain ⟨rfl, _, rfl⟩ := onlyScript_at q1
        have q2 := un.frzs _ _ _ q
        obtain ⟨e2, _⟩ := hok' _ _ q2
        rw [ha] at e
        cases e
        exact e2
    have bigger : ∀ p ∈ cs, ∃ more : Array Value, s'.heap.get? p.2 = some { cls := .none, data := .fields more } := fun p hp => by
      obtain ⟨more, z⟩ := un.tbls p.2 #[] (Htab (List.mem_map_of_mem hp))
      exact ⟨_, hok' p.2 _ z⟩
    refine ⟨rfl, ⟨fun b o e => ?_, fun b o e => ?_⟩, os, bare⟩
    · by_cases hb : b ∈ ts
      · obtain ⟨p, hp, rfl⟩ := List.mem_map.mp hb
        obtain ⟨more, hm⟩ := bigger p hp
        rw [tabs p hp] at e
        cases e
        refine .inr (.inl ⟨((code p hp).tab (tabs p hp)).isCodeTable, rfl, #[], more, rfl, ?_⟩)
        rw [Array.empty_append]
        exact hm
      · exact .inl (same b o hb e)
    · by_cases hb : b ∈ ts
      · obtain ⟨p, hp, rfl⟩ := List.mem_map.mp hb
        obtain ⟨more, hm⟩ := bigger p hp
        exact ⟨_, hm⟩
      · exact ⟨o, same b o hb e⟩
  | .ok .next, h => exact False.elim h
  | .ok .brk, h => exact False.elim h
  | .ok .cont, h => exact False.elim h

/-- what the head leaves to the law's promise, with tables -/
theorem walkGT {l : PySem.W.OpenLaw} {n k : Nat} {q : Program} {loose : List Str} {XP : (Str → Option Value) → Heap → Prop} {YP : World → Heap → Prop}
    {d : DefRec} {K : Params → PySem.W.Frag} {sp : World → Sp} {x : Str}
    (most : l.most = some n) (small : n ≤ sizeLine) (hdf : d.params.defaults = []) (room : Room k callerA)
    (hY : ∀ (w : World) (h : Heap), YP w h → (K w.params).In h)
    (F : ∀ (w : World) (mg : Str → Option Value) (fa : Addr) (h : Heap), YP w h → (K w.params).In h → h.Ns mainGlobals mg → mg d.name = some (.ref fa) →
      ∃ (fd : FuncData) (cs : List (Addr × Addr)), (∀ p ∈ cs, h.get? p.2 = some { cls := .none, data := .fields #[] }) ∧ (∀ p ∈ cs, (K w.params).lookup p.2 = none) ∧ (∀ p ∈ cs, PySem.W.CodeHd h p.1 p.2) ∧
        (∀ (s : Shared) (u : Value), BindsTo s fd ⟨[u], []⟩ [(x, u)]) ∧
        (∀ (H : Hp) (a : Addr) (ns : List Int), ns.length ≤ n → (∀ p ∈ cs, H p.2 = some (.tbl #[])) → SqL (K w.params) H a (ns.map V.int) → sp w [.ref a] H (fun v _ => v = .bl true) fun _ _ _ => False) ∧
        ∀ base : Heap, (K w.params).In base → base.Ns mainGlobals mg → (∀ p ∈ cs, LamX.TabB base mg p.1 p.2) → FnG l.prog w (K w.params) mg base CX0 k fa fd [x] (sp w)) :
    PySem.W.WalkO q loose XP YP l.row.toRowW d [] (fun f vs => PySem.call f vs) := by
  refine Att.attach_callB most hdf fun w s₀ s₁ mg mb fa o pm cd doc a vs ns G Y ho hd hcd hmg hobj hints hlen hbits hg => ?_
  have inK := hY w _ Y
  obtain ⟨fd, cs, tabs, out, code, binds, promise, hF⟩ := F w mg fa _ Y inK G.T.g hmg
  exact lawCallT inK G.T.g G.T.b G.T.builtins G.T.nolimit hg tabs out code G.T.bmain hobj hints (Nat.le_trans hlen small) room hF binds
    fun H hH hS => promise H a ns hlen hH hS
end My
set_option maxHeartbeats 4000000
namespace K72
open PySem PySem.Spec PyProof.Rows L2 Evl My LamX
def top (i : Nat) : Stmt := PySem.Challenge.pw_maskededits_k72_whole_written_scripts_re.main.body.getD i (.Pass ⟨0, 0, 0, 0⟩)
abbrev sEor : Stmt := top 12
abbrev sNum : Stmt := top 13
abbrev sWrd : Stmt := top 14
abbrev sTxt : Stmt := top 15
abbrev sSgn : Stmt := top 16
abbrev sTat : Stmt := top 17
abbrev sTok : Stmt := top 18
def LET : Str := "abcdefghijklmnopqrstuvwxyz"
def DIG : Str := "0123456789"
def WSG : Str := "abcdefghijklmnopqrstuvwxyz0123456789_"
def BLK : Str := " \n\t"
/-- the sign at a place -/
def sgn (t : Str) (i : Nat) : Option Nat := t.cps.toList[i]?
/-- from at on stand n signs of z, and no more of them -/
def RunAt (t z : Str) (a n : Nat) : Prop := (∀ k, k < n → ∃ c, sgn t (a + k) = some c ∧ c ∈ z.cps.toList) ∧ ∀ c, sgn t (a + n) = some c → c ∉ z.cps.toList
theorem sgn_lt {t : Str} {i c : Nat} (h : sgn t i = some c) : i < t.length := by
  have z := (List.getElem?_eq_some_iff.mp h).1
  rw [Array.length_toList] at z
  exact z
theorem sgn_none {t : Str} {i : Nat} (h : sgn t i = none) : t.length ≤ i := by
  have z := List.getElem?_eq_none_iff.mp h
  rw [Array.length_toList] at z
  exact z
theorem sgn_some {t : Str} {i : Nat} (h : i < t.length) : ∃ c, sgn t i = some c := ⟨_, List.getElem?_eq_getElem (by rw [Array.length_toList]; exact h)⟩
def spEor : Sp := fun vs H Q _ => ∃ (t z : Str) (a n : Nat), vs = [.str t, .int (a : Int), .str z] ∧ t.length ≤ 100000 ∧ a + n ≤ t.length ∧ RunAt t z a n ∧ ∀ H', Ex H H' → Q (.int ((a + n : Nat) : Int)) H'
section
variable {P : Program} {w : World} {K : PySem.W.Frag} {mg : Str → Option Value} {base : Heap} {f : Addr} {fd : FuncData}
theorem scEor : FnScope ["text", "at", "signs"] ["text", "at", "signs"] (defScope sEor) := ⟨rfl, rfl, rfl, by decide +kernel, rfl, by decide +kernel, by decide +kernel⟩
theorem ok_eor (F : Fun K "end_of_row" "end_of_row" sEor f fd) (T : mg "len" = none) : FnOk P w K mg base CX0 1 f fd ["text", "at", "signs"] spEor := by
  refine F.ok scEor (fun vs H Q E h => ?_) (fun cdv A outer s H vs Q E hr h => ?_)
  · obtain ⟨t, z, a, n, rfl, _⟩ := h
    rfl
  · obtain ⟨t, z, a, n, rfl, tl, an, run, kQ⟩ := h
    refine ⟨_, pss_cons (ps_while PassesOwn.never (PW.pt (pw_and (pt_cmpR op_lt (pv 1) (pe_callB call_len (by rfl) T (by decide +kernel) (pa_cons (pv 0) pa_nil)) (nomark _)) (pw_and1 (pt_cmpR op_in_sign (pe_ix ix_str (pv 0) (pv 1) (fun _ _ => rfl)) (pv 2) rfl))))
        (pss_one (ps_aug (i := 1) scEor.nd rfl (Or.inl rfl) pe_int ip_add)))
      (pss_one (ps_ret (pv 1))), ?_⟩
    refine q_while (fun m σ' H' => ∃ i, i + m = n ∧ σ' = [some (.str t), some (.int ((a + i : Nat) : Int)), some (.str z)] ∧ Ex H H') n ⟨0, by omega, rfl, Ex.refl H⟩ ?_
    rintro m σ' H' ⟨i, him, rfl, e⟩
    have lenE : ∀ {H1 : Hp}, Ev (tCB (fun xs H Q => ∃ x n, xs = [x] ∧ LenV K x H n ∧ Q (.int n) H) (tCons (tVar 0) tNil)) ([some (.str t), some (.int ((a + i : Nat) : Int)), some (.str z)] : L2.St) H1 (.int (t.length : Int)) := fun H2 e2 Q q => ⟨_, rfl, _, _, rfl, ⟨sz_of tl, rfl⟩, q H2 (Ex.refl _)⟩
    by_cases lt : i < n
    · obtain ⟨c, hc, mc⟩ := run.1 i lt
      have inE : Ev (tOp (fun x y H Q => ∃ (c : Nat) (z : Str), x = .str ⟨#[c]⟩ ∧ y = .str z ∧ Q (.bl (decide (c ∈ z.cps.toList))) H) (tOp rIxS (tVar 0) (tVar 1)) (tVar 2)) ([some (.str t), some (.int ((a + i : Nat) : Int)), some (.str z)] : L2.St) H' (.bl (decide (c ∈ z.cps.toList))) := fun H2 e2 Q q =>
        ⟨_, rfl, _, rfl, t, _, c, rfl, rfl, sz_of tl, atI_nat hc, _, rfl, c, z, rfl, rfl, q H2 (Ex.refl _)⟩
      refine ⟨true, et_is (et_and (a := decide (((a + i : Nat) : Int) < (t.length : Int))) (b := decide (c ∈ z.cps.toList)) (et_test (ev_op (ev_var rfl) lenE rv_I0)) fun _ => et_test inE) ?_, fun _ H1 e1 => ?_, fun z => (by cases z)⟩
      · rw [decide_eq_true (show ((a + i : Nat) : Int) < (t.length : Int) by omega), decide_eq_true mc]
        rfl
      · refine ⟨fun σ2 H2 => ∃ i', i' + (m - 1) = n ∧ σ2 = [some (.str t), some (.int ((a + i' : Nat) : Int)), some (.str z)] ∧ Ex H H2, fun σ2 H2 w => ⟨m - 1, by omega, w⟩, ?_⟩
        refine s_aug rfl ev_c fun H2 e2 => ⟨i + 1, by omega, ?_, (e.trans e1).trans e2⟩
        show ([some (.str t), some (.int (((a + i : Nat) : Int) + 1)), some (.str z)] : L2.St) = _
        rw [show ((a + i : Nat) : Int) + 1 = ((a + (i + 1) : Nat) : Int) by omega]
    · have ein : i = n := by omega
      subst ein
      refine ⟨false, ?_, fun z => (by cases z), fun _ H1 e1 => ⟨_, rfl, kQ H1 (e.trans e1)⟩⟩
      cases hs : sgn t (a + i) with
      | none =>
        have z := sgn_none hs
        exact et_is (et_and (a := decide (((a + i : Nat) : Int) < (t.length : Int))) (b := false) (et_test (ev_op (ev_var rfl) lenE rv_I0)) fun y => by
          have := of_decide_eq_true y
          omega) (by rw [Bool.and_false])
      | some c =>
        have nc := run.2 c hs
        have inE : Ev (tOp (fun x y H Q => ∃ (c : Nat) (z : Str), x = .str ⟨#[c]⟩ ∧ y = .str z ∧ Q (.bl (decide (c ∈ z.cps.toList))) H) (tOp rIxS (tVar 0) (tVar 1)) (tVar 2)) ([some (.str t), some (.int ((a + i : Nat) : Int)), some (.str z)] : L2.St) H' (.bl (decide (c ∈ z.cps.toList))) := fun H2 e2 Q q =>
          ⟨_, rfl, _, rfl, t, _, c, rfl, rfl, sz_of tl, atI_nat hs, _, rfl, c, z, rfl, rfl, q H2 (Ex.refl _)⟩
        exact et_is (et_and (a := decide (((a + i : Nat) : Int) < (t.length : Int))) (b := decide (c ∈ z.cps.toList)) (et_test (ev_op (ev_var rfl) lenE rv_I0)) fun _ => et_test inE) (by rw [decide_eq_false nc, Bool.and_false])
end
end K72
set_option maxHeartbeats 4000000
namespace K72
open PySem PySem.Spec PyProof.Rows L2 Evl My LamX
/-! what is never reached -/
def tNo : TS := fun _ _ _ => False
def eNo : TE := fun _ _ _ => False
theorem ps_no {X : Cx} {st : Stmt} : PS X st tNo := ⟨fun _ _ _ _ _ _ h => False.elim h⟩
theorem pss_no {X : Cx} {sts : List Stmt} : PSs X sts tNo := ⟨fun _ _ _ _ _ _ h => False.elim h⟩
theorem pe_no {X : Cx} {e : Expr} : PE X e eNo := ⟨fun _ _ _ _ _ _ h => False.elim h⟩
structure Gs (mg : Str → Option Value) : Prop where
  len : mg "len" = none
  int : mg "int" = none
  rng : mg "range" = none
  lets : ∃ u, mg "LETTERS" = some u ∧ RelV (.str LET) u
  digs : ∃ u, mg "DIGITS" = some u ∧ RelV (.str DIG) u
  wsgs : ∃ u, mg "WORD_SIGNS" = some u ∧ RelV (.str WSG) u
  blks : ∃ u, mg "BLANKS" = some u ∧ RelV (.str BLK) u
  mdig : ∃ u, mg "MOST_DIGITS" = some u ∧ RelV (.int 18) u
  lscr : ∃ u, mg "LONGEST_SCRIPT" = some u ∧ RelV (.int 2000) u
def sub (t : Str) (a n : Nat) : Str := ⟨((t.cps.toList.drop a).take n).toArray⟩
theorem cut_sub {t : Str} {a n : Nat} (h : a + n ≤ t.length) : cutS t (some (a : Int)) (some ((a + n : Nat) : Int)) = sub t a n := by
  unfold cutS sub
  rw [HT.sIx_nat, HT.sIx_nat]
  congr 3
  · omega
  · congr 1
    omega
/-- a token (kind, value, place) and where it ends -/
def TokQ (Q : VK) (H : Hp) (k : Str) (v : V) (a e : Nat) : Prop := ∀ p q H', Ex H H' → H' p = some (.tup [.ref q, .int (e : Int)]) → H' q = some (.tup [.str k, v, .int (a : Int)]) → Q (.ref p) H'
theorem evSub {σ : L2.St} {H : Hp} {ta tb : TE} {i j : Int} (ha : Ev ta σ H (.int i)) (hb : Ev tb σ H (.int j)) : Ev (tOp (rI0 fun i j => .int (i - j)) ta tb) σ H (.int (i - j)) := ev_op ha hb rv_I0
theorem etGt {σ : L2.St} {H : Hp} {ta tb : TE} {i j : Int} (ha : Ev ta σ H (.int i)) (hb : Ev tb σ H (.int j)) : EvT (tTest (tOp (rI0 fun i j => .bl (decide (j < i))) ta tb)) σ H (decide (j < i)) := et_test (ev_op ha hb rv_I0)
theorem tok_ret {σ : L2.St} {H : Hp} {D : Ends} {t1 t2 t3 t4 : TE} {k : Str} {v : V} {a e : Nat} (h1 : Ev t1 σ H (.str k)) (h2 : Ev t2 σ H v) (h3 : Ev t3 σ H (.int (a : Int))) (h4 : Ev t4 σ H (.int (e : Int))) (q : TokQ D.rt H k v a e) :
    tRet (tTup (tCons (tTup (tCons t1 (tCons t2 (tCons t3 tNil)))) (tCons t4 tNil))) D σ H := by
  refine h1 H (Ex.refl _) _ fun H1 e1 => h2 H1 e1 _ fun H2 e2 => h3 H2 (e1.trans e2) _ fun H3 e3 => ⟨(show 3 ≤ sizeLine by decide), fun qa nq => ?_⟩
  have e03 := (e1.trans e2).trans e3
  refine h4 _ (e03.trans (Ex.new nq)) _ fun H4 e4 => ⟨(show 2 ≤ sizeLine by decide), fun p np => ?_⟩
  have hq : H4 qa = some (.tup [.str k, v, .int (a : Int)]) := e4 _ _ upd_same
  exact q p qa _ (((e03.trans (Ex.new nq)).trans e4).trans (Ex.new np)) upd_same ((Ex.new np) _ _ hq)
def spNum : Sp := fun vs H Q _ => ∃ (t : Str) (a n : Nat) (v : Int), vs = [.str t, .int (a : Int)] ∧ t.length ≤ 100000 ∧ a + n ≤ t.length ∧ RunAt t DIG a n ∧ n ≤ 18 ∧ (n ≤ 1 ∨ ∀ c, sgn t a = some c → c ≠ 48) ∧ PySem.intText? (sub t a n) = some v ∧ TokQ Q H "number" (.int v) a (a + n)
section
variable {P : Program} {w : World} {K : PySem.W.Frag} {mg : Str → Option Value} {base : Heap} {f : Addr} {fd : FuncData}
theorem scNum : FnScope ["text", "at", "end"] ["text", "at"] (defScope sNum) := ⟨rfl, rfl, rfl, by decide +kernel, rfl, by decide +kernel, by decide +kernel⟩
theorem ok_num (F : Fun K "number_token" "number_token" sNum f fd) (G : Gs mg) (EO : Df P w K mg base "end_of_row" ["text", "at", "signs"] 1 spEor) : FnOk P w K mg base CX0 2 f fd ["text", "at"] spNum := by
  refine F.ok scNum (fun vs H Q E h => ?_) (fun cdv A outer s H vs Q E hr h => ?_)
  · obtain ⟨t, a, n, v, rfl, _⟩ := h
    rfl
  · obtain ⟨t, a, n, v, rfl, tl, an, run, n18, n0, iv, kQ⟩ := h
    have hr1 : Room 1 _ := hr
    refine ⟨_, pss_cons (ps_set (i := 2) scNum.nd rfl (Or.inl rfl) (pe_df EO hr1 rfl (pa_cons (pv 0) (pa_cons (pv 1) (pa_cons (C8.pe_gc (v := .str DIG) rfl G.digs) pa_nil)))))
      (pss_cons (ps_if (PW.pt (pw_or (pt_cmpR op_gt (pe_op op_sub (pv 2) (pv 1)) (C8.pe_gc (v := .int 18) rfl G.mdig) (nomark _)) (pw_or1 (PW.pt (pw_and (pt_cmpR op_gt (pe_op op_sub (pv 2) (pv 1)) pe_int (nomark _)) (pw_and1 (pt_cmpR op_eq (pe_ix ix_str (pv 0) (pv 1) (fun _ _ => rfl)) pe_str (nomark _)))))))) pss_no pss_nil)
      (pss_one (ps_ret (pe_tup (pa_cons (pe_tup (pa_cons pe_str (pa_cons (pe_callTy call_int_str (by rfl) G.int (by decide +kernel) (pa_cons (pe_slice sl_str (pv 0) (po_some (pv 1)) (po_some (pv 2))) pa_nil)) (pa_cons (pv 1) pa_nil)))) (pa_cons (pv 2) pa_nil)))))), ?_⟩
    refine ⟨_, rfl, _, rfl, t, DIG, a, n, rfl, tl, an, run, fun H1 e1 => ?_⟩
    have len : ∀ {H' : Hp}, Ev (tOp (rI0 fun i j => .int (i - j)) (tVar 2) (tVar 1)) ([some (.str t), some (.int (a : Int)), some (.int ((a + n : Nat) : Int))] : L2.St) H' (.int (n : Int)) := ev_is (evSub (ev_var rfl) (ev_var rfl)) (by rw [show ((a + n : Nat) : Int) - (a : Int) = (n : Int) by omega])
    have zero : decide ((1 : Int) < (n : Int)) = true → Ev (tOp rEq (tOp rIxS (tVar 0) (tVar 1)) (tC (.str "0"))) ([some (.str t), some (.int (a : Int)), some (.int ((a + n : Nat) : Int))] : L2.St) H1 (.bl false) := fun y => by
      have n1 := of_decide_eq_true y
      obtain ⟨c, hc, _⟩ := run.1 0 (by omega)
      have nc := (n0.resolve_left (by omega)) c hc
      refine fun H2 e2 Q q => ⟨_, rfl, _, rfl, t, _, c, rfl, rfl, sz_of tl, atI_nat hc, rfl, ?_⟩
      rw [show decide (V.str ⟨#[c]⟩ = V.str "0") = false from decide_eq_false fun z => nc (by
        have z2 : (⟨#[c]⟩ : Str) = "0" := V.str.inj z
        have z3 : (#[c] : Array Nat) = #[48] := by
          have := congrArg Str.cps z2
          exact this
        simpa using z3)]
      exact q H2 (Ex.refl _)
    refine q_when (b := false) (et_is (et_or (a := decide ((18 : Int) < (n : Int))) (b := decide ((1 : Int) < (n : Int)) && false) (etGt len ev_c) fun _ => et_and (a := decide ((1 : Int) < (n : Int))) (b := false) (etGt len ev_c) fun y => et_test (zero y)) ?_) (fun z => by cases z) fun _ H2 e2 => ?_
    · rw [decide_eq_false (show ¬ (18 : Int) < (n : Int) by omega), Bool.and_false]
      rfl
    · refine tok_ret (k := "number") (v := .int v) ev_c (fun H3 e3 Q q => ⟨_, rfl, _, rfl, _, rfl, _, rfl, _, rfl, t, rfl, sz_of tl, sub t a n, v, ?_, iv, ?_, q H3 (Ex.refl _)⟩) (ev_var rfl) (ev_var rfl) fun p q H' e' => kQ p q H' ((e1.trans e2).trans e')
      · show [V.str (cutS t (some (a : Int)) (some ((a + n : Nat) : Int)))] = _
        rw [cut_sub an]
      · show (((t.cps.toList.drop a).take n).toArray).size ≤ 640
        rw [List.size_toArray, List.length_take]
        omega
end
end K72
set_option maxHeartbeats 4000000
namespace K72
open PySem PySem.Spec PyProof.Rows L2 Evl My LamX
def KWS : List Str := ["if", "else", "while", "for", "in", "try", "tell", "and", "or"]
def SGS : List Str := ["==", "!=", "<=", "=", "<", "+", "-", "*", "(", ")", "{", "}", ",", ";"]
structure Gt (K : PySem.W.Frag) (mg : Str → Option Value) (pK pS : Addr) : Prop where
  g : Gs mg
  kw : mg "KEYWORDS" = some (.ref pK)
  kwT : ∀ H, SqT K H pK (KWS.map V.str)
  sg : mg "SIGNS" = some (.ref pS)
  sgT : ∀ H, SqT K H pS (SGS.map V.str)
theorem inV_strs (w : Str) : ∀ ws : List Str, inV (.str w) (ws.map V.str) = decide (w ∈ ws)
  | [] => rfl
  | x :: ws => by
    have ih := inV_strs w ws
    unfold inV at ih ⊢
    rw [List.map_cons, List.any_cons, ih]
    by_cases e : x = w
    · subst e
      simp [eqV]
    · have e2 : ¬ w = x := fun z => e z.symm
      simp [eqV, e, e2]
theorem flat_strs : ∀ ws : List Str, (ws.map V.str).all flatV = true
  | [] => rfl
  | x :: ws => by
    rw [List.map_cons, List.all_cons, flat_strs ws]
    rfl
theorem ev_cut {σ : L2.St} {H : Hp} {t0 t1 t2 : TE} {t : Str} {a n : Nat} (h0 : Ev t0 σ H (.str t)) (h1 : Ev t1 σ H (.int (a : Int))) (h2 : Ev t2 σ H (.int ((a + n : Nat) : Int))) (tl : t.length ≤ 100000) (an : a + n ≤ t.length) : Ev (tSl rSlS t0 (tPart t1) (tPart t2)) σ H (.str (sub t a n)) := fun H1 e Q q =>
  h0 H1 e _ fun H2 e2 => h1 H2 (e.trans e2) _ fun H3 e3 => ⟨_, rfl, h2 H3 ((e.trans e2).trans e3) _ fun H4 e4 => ⟨_, rfl, t, rfl, sz_of tl, by rw [cut_sub an]; exact q H4 ((e2.trans e3).trans e4)⟩⟩
def wkind (w : Str) : Str := if w ∈ KWS then "sign" else "word"
def spWrd : Sp := fun vs H Q _ => ∃ (t : Str) (a n : Nat), vs = [.str t, .int (a : Int)] ∧ t.length ≤ 100000 ∧ a + n ≤ t.length ∧ RunAt t WSG a n ∧ TokQ Q H (wkind (sub t a n)) (.str (sub t a n)) a (a + n)
section
variable {P : Program} {w : World} {K : PySem.W.Frag} {mg : Str → Option Value} {base : Heap} {f pK pS : Addr} {fd : FuncData}
theorem scWrd : FnScope ["text", "at", "end", "word"] ["text", "at"] (defScope sWrd) := ⟨rfl, rfl, rfl, by decide +kernel, rfl, by decide +kernel, by decide +kernel⟩
theorem ok_wrd (F : Fun K "word_token" "word_token" sWrd f fd) (G : Gt K mg pK pS) (EO : Df P w K mg base "end_of_row" ["text", "at", "signs"] 1 spEor) : FnOk P w K mg base CX0 2 f fd ["text", "at"] spWrd := by
  refine F.ok scWrd (fun vs H Q E h => ?_) (fun cdv A outer s H vs Q E hr h => ?_)
  · obtain ⟨t, a, n, rfl, _⟩ := h
    rfl
  · obtain ⟨t, a, n, rfl, tl, an, run, kQ⟩ := h
    have hr1 : Room 1 _ := hr
    refine ⟨_, pss_cons (ps_set (i := 2) scWrd.nd rfl (Or.inl rfl) (pe_df EO hr1 rfl (pa_cons (pv 0) (pa_cons (pv 1) (pa_cons (C8.pe_gc (v := .str WSG) rfl G.g.wsgs) pa_nil)))))
      (pss_cons (ps_set (i := 3) scWrd.nd rfl (Or.inl rfl) (pe_slice sl_str (pv 0) (po_some (pv 1)) (po_some (pv 2))))
      (pss_one (ps_ret (pe_tup (pa_cons (pe_tup (pa_cons (pe_ifExp (pt_cmpR op_in_seq (pv 3) (pe_glob (v := .ref pK) rfl G.kw rfl) rfl) pe_str pe_str) (pa_cons (pv 3) (pa_cons (pv 1) pa_nil)))) (pa_cons (pv 2) pa_nil)))))), ?_⟩
    refine ⟨_, rfl, _, rfl, t, WSG, a, n, rfl, tl, an, run, fun H1 e1 => ?_⟩
    have cut : Ev (tSl rSlS (tVar 0) (tPart (tVar 1)) (tPart (tVar 2))) ([some (.str t), some (.int (a : Int)), some (.int ((a + n : Nat) : Int)), none] : L2.St) H1 (.str (sub t a n)) := ev_cut (ev_var rfl) (ev_var rfl) (ev_var rfl) tl an
    refine q_asg cut fun H2 e2 => ?_
    have kd : Ev (tIf (tTest (tOp (rIn K false) (tVar 3) (tC (.ref pK)))) (tC (.str "sign")) (tC (.str "word"))) ([some (.str t), some (.int (a : Int)), some (.int ((a + n : Nat) : Int)), some (.str (sub t a n))] : L2.St) H2 (.str (wkind (sub t a n))) := fun H2 e2 Q q => by
      refine ⟨_, rfl, pK, _, rfl, .inr (G.kwT H2), rfl, flat_strs _, _, rfl, ?_⟩
      show if (inV (.str (sub t a n)) (KWS.map V.str)) = true then Q (.str "sign") H2 else Q (.str "word") H2
      rw [inV_strs]
      have q2 := q H2 (Ex.refl _)
      unfold wkind at q2
      by_cases h : sub t a n ∈ KWS
      · rw [decide_eq_true h, if_pos rfl]
        rw [if_pos h] at q2
        exact q2
      · rw [decide_eq_false h, if_neg (by decide)]
        rw [if_neg h] at q2
        exact q2
    exact tok_ret kd (ev_var rfl) (ev_var rfl) (ev_var rfl) fun p q H' e' => kQ p q H' ((e1.trans e2).trans e')
end
end K72
set_option maxHeartbeats 4000000
namespace K72
open PySem PySem.Spec PyProof.Rows L2 Evl My LamX
/-- from a on stand n signs between blank and tilde, none of them a quote, then a quote -/
def QuoteAt (t : Str) (a n : Nat) : Prop := (∀ k, k < n → ∃ c, sgn t (a + k) = some c ∧ c ≠ 34 ∧ 32 ≤ c ∧ c ≤ 126) ∧ sgn t (a + n) = some 34
theorem getD_sgn {t : Str} {i c : Nat} (h : sgn t i = some c) : t.cps.getD i 0 = c := by
  have lt := sgn_lt h
  have lt' : i < t.cps.size := lt
  unfold sgn at h
  rw [Array.getElem?_toList] at h
  rw [Array.getD, dif_pos lt']
  rw [Array.getElem?_eq_getElem lt'] at h
  exact Option.some.inj h
theorem find_quote {t : Str} {a n : Nat} (h : QuoteAt t a n) : Txt.find3 t ⟨#[34]⟩ (a : Int) = ((a + n : Nat) : Int) := by
  have fi : fromIndex t.length (a : Int) = a := by
    unfold fromIndex
    rw [if_neg (by omega)]
    omega
  obtain ⟨h1, h2⟩ := h
  have lt := sgn_lt h2
  rcases PySem.StrLaws.find3_spec t 34 (a : Int) with ⟨_, no⟩ | ⟨k, hk, k1, k2, k3, k4⟩
  · exact absurd (getD_sgn h2) (no (a + n) (by rw [fi]; omega) lt)
  · rw [fi] at k1
    rw [hk]
    have e : k = a + n := by
      rcases Nat.lt_trichotomy k (a + n) with l | l | l
      · obtain ⟨c, hc, nc, _⟩ := h1 (k - a) (by omega)
        rw [show a + (k - a) = k by omega] at hc
        rw [getD_sgn hc] at k3
        exact absurd k3 nc
      · exact l
      · exact absurd (getD_sgn h2) (k4 (a + n) (by rw [fi]; omega) l)
    rw [e]
theorem le1 {c d : Nat} (h : d ≤ c) : ¬ ([c] : List Nat) < [d] := fun z => by
  have := List.cons_lt_cons_iff.mp z
  rcases this with z | ⟨_, z⟩
  · omega
  · cases z
theorem etLt {σ : L2.St} {H : Hp} {ta tb : TE} {i j : Int} (ha : Ev ta σ H (.int i)) (hb : Ev tb σ H (.int j)) : EvT (tTest (tOp (rI0 fun i j => .bl (decide (i < j))) ta tb)) σ H (decide (i < j)) := et_test (ev_op ha hb rv_I0)
theorem evAdd {σ : L2.St} {H : Hp} {ta tb : TE} {i j : Int} (ha : Ev ta σ H (.int i)) (hb : Ev tb σ H (.int j)) : Ev (tOp (rI0 fun i j => .int (i + j)) ta tb) σ H (.int (i + j)) := ev_op ha hb rv_I0
def spTxt : Sp := fun vs H Q _ => ∃ (t : Str) (a n : Nat), vs = [.str t, .int (a : Int)] ∧ t.length ≤ 100000 ∧ QuoteAt t (a + 1) n ∧ TokQ Q H "text" (.str (sub t (a + 1) n)) a (a + 1 + n + 1)
section
variable {P : Program} {w : World} {K : PySem.W.Frag} {mg : Str → Option Value} {base : Heap} {f pK pS : Addr} {fd : FuncData}
theorem scTxt : FnScope ["text", "at", "end", "index"] ["text", "at"] (defScope sTxt) := ⟨rfl, rfl, rfl, by decide +kernel, rfl, by decide +kernel, by decide +kernel⟩
theorem ok_txt (F : Fun K "text_token" "text_token" sTxt f fd) (G : Gt K mg pK pS) : FnOk P w K mg base CX0 1 f fd ["text", "at"] spTxt := by
  refine F.ok scTxt (fun vs H Q E h => ?_) (fun cdv A outer s H vs Q E hr h => ?_)
  · obtain ⟨t, a, n, rfl, _⟩ := h
    rfl
  · obtain ⟨t, a, n, rfl, tl, qa, kQ⟩ := h
    have lt := sgn_lt qa.2
    refine ⟨_, pss_cons (ps_set (i := 2) scTxt.nd rfl (Or.inl rfl) (pe_bm PySem.F.plainAttrs_str PySem.F.slot_str_find PySem.F.type_str_find mt_find3 (pv 0) (pa_cons pe_str (pa_cons (pe_op op_add (pv 1) pe_int) pa_nil))))
      (pss_cons (ps_if (pt_cmpR op_lt (pv 2) pe_int (nomark _)) pss_no pss_nil)
      (pss_cons (ps_for PassesOwn.never rfl (pi_range2 rfl G.g.rng (pa_cons (pe_op op_add (pv 1) pe_int) (pa_cons (pv 2) pa_nil))) (pg_name (i := 3) scTxt.nd rfl (Or.inl rfl)) (pss_one (ps_if (pt_not (pt_chain op_le_str op_le_str pe_str (pe_ix ix_str (pv 0) (pv 3) (fun _ _ => rfl)) pe_str)) pss_no pss_nil)))
      (pss_one (ps_ret (pe_tup (pa_cons (pe_tup (pa_cons pe_str (pa_cons (pe_slice sl_str (pv 0) (po_some (pe_op op_add (pv 1) pe_int)) (po_some (pv 2))) (pa_cons (pv 1) pa_nil)))) (pa_cons (pe_op op_add (pv 2) pe_int) pa_nil))))))), ?_⟩
    have fe : Ev (tBM K "str" (fun x xs H Q => ∃ (a b : Str) (i : Int), x = .str a ∧ xs = [.str b, .int i] ∧ Q (.int (Txt.find3 a b i)) H) (tVar 0) (tCons (tC (.str "\"")) (tCons (tOp (rI0 fun i j => .int (i + j)) (tVar 1) (tC (.int 1))) tNil))) ([some (.str t), some (.int (a : Int)), none, none] : L2.St) H (.int ((a + 1 + n : Nat) : Int)) := fun H1 e1 Q q =>
      ⟨_, rfl, rfl, _, rfl, _, _, rfl, rfl, t, ⟨#[34]⟩, ((a + 1 : Nat) : Int), rfl, rfl, by rw [find_quote qa]; exact q H1 (Ex.refl _)⟩
    refine q_asg fe fun H1 e1 => ?_
    refine q_when (b := false) (et_is (etLt (i := ((a + 1 + n : Nat) : Int)) (j := 0) (ev_var rfl) ev_c) (decide_eq_false (by omega))) (fun z => by cases z) fun _ H2 e2 => ?_
    refine q_forR2 (lo := ((a + 1 : Nat) : Int)) (n := ((a + 1 + n : Nat) : Int)) (ea_cons (ev_is (evAdd (i := (a : Int)) (j := 1) (ev_var rfl) ev_c) rfl) (ea_cons (ev_var rfl) ea_nil)) ⟨by omega, by omega, by omega, by omega⟩
      (fun i σ' H' => Ex H H' ∧ ∃ o : Option V, σ' = [some (.str t), some (.int (a : Int)), some (.int ((a + 1 + n : Nat) : Int)), o]) ?_ ?_ ?_
    · intro H3 e3
      exact ⟨(e1.trans e2).trans e3, _, rfl⟩
    · rintro i σ' H' hi ⟨e, o, rfl⟩
      obtain ⟨c, hc, _, c1, c2⟩ := qa.1 i (by omega)
      have ch : Ev (tChain (fun x y H Q => ∃ i j, x = .str i ∧ y = .str j ∧ Q (.bl (!decide (j.cps.toList < i.cps.toList))) H) (fun x y H Q => ∃ i j, x = .str i ∧ y = .str j ∧ Q (.bl (!decide (j.cps.toList < i.cps.toList))) H) (tC (.str " ")) (tOp rIxS (tVar 0) (tVar 3)) (tC (.str "~"))) ([some (.str t), some (.int (a : Int)), some (.int ((a + 1 + n : Nat) : Int)), some (.int (((a + 1 : Nat) : Int) + (i : Int)))] : L2.St) H' (.bl true) := fun H1 e1 Q q => by
        refine ⟨_, rfl, _, rfl, t, _, c, rfl, rfl, sz_of tl, atI_nat (j := a + 1 + i) hc, " ", ⟨#[c]⟩, rfl, rfl, true, ?_, ?_⟩
        · rw [show decide ((⟨#[c]⟩ : Str).cps.toList < (" " : Str).cps.toList) = false from decide_eq_false (le1 c1)]
          rfl
        · rw [if_pos rfl]
          refine ⟨⟨#[c]⟩, "~", rfl, rfl, ?_⟩
          rw [show decide (("~" : Str).cps.toList < (⟨#[c]⟩ : Str).cps.toList) = false from decide_eq_false (le1 c2)]
          exact q H1 (Ex.refl _)
      exact s_when (b := !true) (et_not (et_test ch)) (fun z => by cases z) fun _ H1 e1 => ⟨e.trans e1, _, rfl⟩
    · rintro σ' H' ⟨e, o, rfl⟩
      exact tok_ret (k := "text") ev_c (ev_cut (a := a + 1) (n := n) (ev_var rfl) (ev_is (evAdd (i := (a : Int)) (j := 1) (ev_var rfl) ev_c) rfl) (ev_var rfl) tl (by omega)) (ev_var rfl) (ev_is (evAdd (i := ((a + 1 + n : Nat) : Int)) (j := 1) (ev_var rfl) ev_c) rfl) fun p q H2 e2 => kQ p q H2 (e.trans e2)
end
end K72
set_option maxHeartbeats 4000000
namespace K72
open PySem PySem.Spec PyProof.Rows L2 Evl My LamX
def cutL (t : Str) (a : Nat) (s : Str) : Str := cutS t (some (a : Int)) (some ((a : Int) + (s.length : Int)))
theorem cut_at {t s : Str} {a k c : Nat} (h : cutL t a s = s) (hk : s.cps.toList[k]? = some c) : sgn t (a + k) = some c := by
  have z := congrArg (fun z : Str => z.cps.toList[k]?) h
  have z2 : (cutL t a s).cps.toList[k]? = some c := z.trans hk
  unfold cutL cutS at z2
  rw [show (a : Int) + (s.length : Int) = ((a + s.length : Nat) : Int) by omega, HT.sIx_nat, HT.sIx_nat] at z2
  have z3 : ((t.cps.toList.drop (min a t.length)).take (min (a + s.length) t.length - min a t.length))[k]? = some c := z2
  have lt : k < min (a + s.length) t.length - min a t.length := by
    have q := (List.getElem?_eq_some_iff.mp z3).1
    rw [List.length_take] at q
    omega
  rw [List.getElem?_take_of_lt lt, List.getElem?_drop] at z3
  rw [show min a t.length = a by omega] at z3
  exact z3
/-- a sign of the list, and no earlier one, stands at a -/
def SignAt (t : Str) (a : Nat) (s : Str) : Prop := ∃ j : Nat, SGS[j]? = some s ∧ cutL t a s = s ∧ ∀ (i : Nat) (s' : Str), i < j → SGS[i]? = some s' → cutL t a s' ≠ s'
def spSgn : Sp := fun vs H Q _ => ∃ (t : Str) (a : Nat) (s : Str), vs = [.str t, .int (a : Int)] ∧ t.length ≤ 100000 ∧ SignAt t a s ∧ TokQ Q H "sign" (.str s) a (a + s.length)
section
variable {P : Program} {w : World} {K : PySem.W.Frag} {mg : Str → Option Value} {base : Heap} {f pK pS : Addr} {fd : FuncData}
theorem scSgn : FnScope ["text", "at", "sign"] ["text", "at"] (defScope sSgn) := ⟨rfl, rfl, rfl, by decide +kernel, rfl, by decide +kernel, by decide +kernel⟩
theorem ok_sgn (F : Fun K "sign_token" "sign_token" sSgn f fd) (G : Gt K mg pK pS) : FnOk P w K mg base CX0 1 f fd ["text", "at"] spSgn := by
  refine F.ok scSgn (fun vs H Q E h => ?_) (fun cdv A outer s H vs Q E hr h => ?_)
  · obtain ⟨t, a, n, rfl, _⟩ := h
    rfl
  · obtain ⟨t, a, s, rfl, tl, ⟨j, hj, hs, no⟩, kQ⟩ := h
    refine ⟨_, pss_cons (ps_for PassesOwn.never rfl (pi_tup (pe_glob (v := .ref pS) rfl G.sg rfl)) (pg_name (i := 2) scSgn.nd rfl (Or.inl rfl)) (pss_one (ps_if (pt_cmpR op_eq (pe_slice sl_str (pv 0) (po_some (pv 1)) (po_some (pe_op op_add (pv 1) (pe_callB call_len (by rfl) G.g.len (by decide +kernel) (pa_cons (pv 2) pa_nil))))) (pv 2) (nomark _))
        (pss_one (ps_ret (pe_tup (pa_cons (pe_tup (pa_cons pe_str (pa_cons (pv 2) (pa_cons (pv 1) pa_nil)))) (pa_cons (pe_op op_add (pv 1) (pe_callB call_len (by rfl) G.g.len (by decide +kernel) (pa_cons (pv 2) pa_nil))) pa_nil))))) pss_nil)))
      (pss_one ps_no), ?_⟩
    have jl : j < 14 := (List.getElem?_eq_some_iff.mp hj).1
    refine q_forT (K := K) (a := pS) (xs := SGS.map V.str) ev_c (G.sgT H) (fun i σ' H' => Ex H H' ∧ i ≤ j ∧ ∃ o : Option V, σ' = [some (.str t), some (.int (a : Int)), o]) ?_ ?_ ?_ ?_
    · intro H1 e1
      exact ⟨e1, Nat.zero_le _, _, rfl⟩
    · rintro i σ' H' _ ⟨e, _⟩
      exact G.sgT H'
    · rintro i x σ' H' hx ⟨e, ij, o, rfl⟩
      obtain ⟨s', hs', rfl⟩ : ∃ s', SGS[i]? = some s' ∧ V.str s' = x := by
        rw [List.getElem?_map] at hx
        cases hz : SGS[i]? with
        | none =>
          rw [hz] at hx
          cases hx
        | some s =>
          rw [hz] at hx
          exact ⟨s, rfl, Option.some.inj hx⟩
      have sl : s'.length ≤ 2 := (by decide +kernel : ∀ z ∈ SGS, z.length ≤ 2) s' (List.mem_of_getElem? hs')
      have lenE : ∀ {H1 : Hp}, Ev (tCB (fun xs H Q => ∃ x n, xs = [x] ∧ LenV K x H n ∧ Q (.int n) H) (tCons (tVar 2) tNil)) ([some (.str t), some (.int (a : Int)), some (.str s')] : L2.St) H1 (.int (s'.length : Int)) := fun H2 e2 Q q => ⟨_, rfl, _, _, rfl, ⟨sz_of (by omega), rfl⟩, q H2 (Ex.refl _)⟩
      have endE : ∀ {H1 : Hp}, Ev (tOp (rI0 fun i j => .int (i + j)) (tVar 1) (tCB (fun xs H Q => ∃ x n, xs = [x] ∧ LenV K x H n ∧ Q (.int n) H) (tCons (tVar 2) tNil))) ([some (.str t), some (.int (a : Int)), some (.str s')] : L2.St) H1 (.int ((a : Int) + (s'.length : Int))) := evAdd (ev_var rfl) lenE
      have eqE : Ev (tOp rEq (tSl rSlS (tVar 0) (tPart (tVar 1)) (tPart (tOp (rI0 fun i j => .int (i + j)) (tVar 1) (tCB (fun xs H Q => ∃ x n, xs = [x] ∧ LenV K x H n ∧ Q (.int n) H) (tCons (tVar 2) tNil))))) (tVar 2)) ([some (.str t), some (.int (a : Int)), some (.str s')] : L2.St) H' (.bl (decide (cutL t a s' = s'))) := fun H1 e1 Q q =>
        ⟨_, rfl, _, rfl, _, rfl, endE H1 (Ex.refl _) _ fun H2 e2 => ⟨_, rfl, t, rfl, sz_of tl, _, rfl, rfl, by
          rw [show decide (V.str (cutS t (some (a : Int)) (some ((a : Int) + (s'.length : Int)))) = V.str s') = decide (cutL t a s' = s') from by
            rw [Bool.eq_iff_iff, decide_eq_true_eq, decide_eq_true_eq]
            exact ⟨fun z => V.str.inj z, fun z => congrArg V.str z⟩]
          exact q H2 e2⟩⟩
      by_cases lt : i < j
      · exact s_when (b := false) (et_is (et_test eqE) (decide_eq_false (no i s' lt hs'))) (fun z => by cases z) fun _ H1 e1 => ⟨e.trans e1, lt, _, rfl⟩
      · have ei : i = j := by omega
        subst ei
        rw [hs'] at hj
        cases hj
        refine s_when (b := true) (et_is (et_test eqE) (decide_eq_true hs)) (fun _ H1 e1 => ?_) fun z => by cases z
        exact tok_ret (k := "sign") ev_c (ev_var rfl) (ev_var rfl) (ev_is endE (by rw [show (a : Int) + (s.length : Int) = ((a + s.length : Nat) : Int) by omega])) fun p q H2 e2 => kQ p q H2 ((e.trans e1).trans e2)
    · rintro σ' H' ⟨_, h, _⟩
      have z : (SGS.map V.str).length = 14 := rfl
      omega
end
/-- a token at a, n signs long -/
inductive Tk (t : Str) (a : Nat) : Nat → Str → V → Prop
  | num {n : Nat} {v : Int} : a + n ≤ t.length → 1 ≤ n → RunAt t DIG a n → n ≤ 18 → (n ≤ 1 ∨ ∀ c, sgn t a = some c → c ≠ 48) → PySem.intText? (sub t a n) = some v → Tk t a n "number" (.int v)
  | wrd {n c : Nat} : a + n ≤ t.length → sgn t a = some c → c ∈ LET.cps.toList → RunAt t WSG a n → Tk t a n (wkind (sub t a n)) (.str (sub t a n))
  | txt {n : Nat} : sgn t a = some 34 → QuoteAt t (a + 1) n → Tk t a (n + 2) "text" (.str (sub t (a + 1) n))
  | sgn {s : Str} {c : Nat} : sgn t a = some c → c ∉ DIG.cps.toList → c ∉ LET.cps.toList → c ≠ 34 → SignAt t a s → Tk t a s.length "sign" (.str s)
def spTat : Sp := fun vs H Q _ => ∃ (t : Str) (a n : Nat) (k : Str) (v : V), vs = [.str t, .int (a : Int)] ∧ t.length ≤ 100000 ∧ Tk t a n k v ∧ TokQ Q H k v a (a + n)
end K72
set_option maxHeartbeats 4000000
namespace K72
open PySem PySem.Spec PyProof.Rows L2 Evl My LamX
theorem TokQ.mono {Q : VK} {H H' : Hp} {k : Str} {v : V} {a e : Nat} (x : Ex H H') (h : TokQ Q H k v a e) : TokQ Q H' k v a e := fun p q H2 e2 => h p q H2 (x.trans e2)
theorem let_dig {c : Nat} (h : c ∈ LET.cps.toList) : c ∉ DIG.cps.toList := (by decide +kernel : ∀ c ∈ LET.cps.toList, c ∉ DIG.cps.toList) c h
theorem q34 : 34 ∉ DIG.cps.toList ∧ 34 ∉ LET.cps.toList := by decide +kernel
section
variable {P : Program} {w : World} {K : PySem.W.Frag} {mg : Str → Option Value} {base : Heap} {f pK pS : Addr} {fd : FuncData}
theorem ev_inS {σ : L2.St} {H : Hp} {t : Str} {a c : Nat} {z : Str} (h0 : σ[0]? = some (some (.str t))) (h1 : σ[1]? = some (some (.int (a : Int)))) (hc : sgn t a = some c) (tl : t.length ≤ 100000) :
    EvT (tTest (tOp (fun x y H Q => ∃ (c : Nat) (z : Str), x = .str ⟨#[c]⟩ ∧ y = .str z ∧ Q (.bl (decide (c ∈ z.cps.toList))) H) (tOp rIxS (tVar 0) (tVar 1)) (tC (.str z)))) σ H (decide (c ∈ z.cps.toList)) := et_test fun H2 e2 Q q =>
  ⟨_, h0, _, h1, t, _, c, rfl, rfl, sz_of tl, atI_nat hc, c, z, rfl, rfl, q H2 (Ex.refl _)⟩
theorem scTat : FnScope ["text", "at"] ["text", "at"] (defScope sTat) := ⟨rfl, rfl, rfl, by decide +kernel, rfl, by decide +kernel, by decide +kernel⟩
theorem ok_tat (F : Fun K "token_at" "token_at" sTat f fd) (G : Gt K mg pK pS) (NU : Df P w K mg base "number_token" ["text", "at"] 2 spNum) (WR : Df P w K mg base "word_token" ["text", "at"] 2 spWrd) (TX : Df P w K mg base "text_token" ["text", "at"] 1 spTxt) (SG : Df P w K mg base "sign_token" ["text", "at"] 1 spSgn) : FnOk P w K mg base CX0 3 f fd ["text", "at"] spTat := by
  refine F.ok scTat (fun vs H Q E h => ?_) (fun cdv A outer s H vs Q E hr h => ?_)
  · obtain ⟨t, a, n, k, v, rfl, _⟩ := h
    rfl
  · obtain ⟨t, a, n, k, v, rfl, tl, tk, kQ⟩ := h
    have hr2 : Room 2 _ := hr
    have hr1 : Room 1 _ := hr2.mono (by decide)
    refine ⟨_, pss_cons (ps_if (pt_cmpR op_in_sign (pe_ix ix_str (pv 0) (pv 1) (fun _ _ => rfl)) (C8.pe_gc (v := .str DIG) rfl G.g.digs) rfl) (pss_one (ps_ret (pe_df NU hr2 rfl (pa_cons (pv 0) (pa_cons (pv 1) pa_nil))))) pss_nil)
      (pss_cons (ps_if (pt_cmpR op_in_sign (pe_ix ix_str (pv 0) (pv 1) (fun _ _ => rfl)) (C8.pe_gc (v := .str LET) rfl G.g.lets) rfl) (pss_one (ps_ret (pe_df WR hr2 rfl (pa_cons (pv 0) (pa_cons (pv 1) pa_nil))))) pss_nil)
      (pss_cons (ps_if (pt_cmpR op_eq (pe_ix ix_str (pv 0) (pv 1) (fun _ _ => rfl)) pe_str (nomark _)) (pss_one (ps_ret (pe_df TX hr1 rfl (pa_cons (pv 0) (pa_cons (pv 1) pa_nil))))) pss_nil)
      (pss_one (ps_ret (pe_df SG hr1 rfl (pa_cons (pv 0) (pa_cons (pv 1) pa_nil))))))), ?_⟩
    have quote : ∀ {H1 : Hp} {c : Nat}, sgn t a = some c → EvT (tTest (tOp rEq (tOp rIxS (tVar 0) (tVar 1)) (tC (.str "\"")))) ([some (.str t), some (.int (a : Int))] : L2.St) H1 (decide (c = 34)) := fun {H1 c} hc => et_test fun H2 e2 Q q => ⟨_, rfl, _, rfl, t, _, c, rfl, rfl, sz_of tl, atI_nat hc, rfl, by
      rw [show decide (V.str ⟨#[c]⟩ = V.str "\"") = decide (c = 34) from by
        rw [Bool.eq_iff_iff, decide_eq_true_eq, decide_eq_true_eq]
        exact ⟨fun z => by
          have z3 : (#[c] : Array Nat) = #[34] := congrArg Str.cps (V.str.inj z)
          simpa using z3, fun z => by rw [z]; rfl⟩]
      exact q H2 (Ex.refl _)⟩
    cases tk with
    | num an n1 run n18 n0 iv =>
      obtain ⟨c, hc, mc⟩ := run.1 0 (by omega)
      refine q_when (b := true) (et_is (ev_inS rfl rfl hc tl) (decide_eq_true mc)) (fun _ H1 e1 => ?_) fun z => by cases z
      exact ⟨_, rfl, _, rfl, t, a, n, _, rfl, tl, an, run, n18, n0, iv, kQ.mono e1⟩
    | wrd an hc mc run =>
      refine q_when (b := false) (et_is (ev_inS rfl rfl hc tl) (decide_eq_false (let_dig mc))) (fun z => by cases z) fun _ H1 e1 => ?_
      refine q_when (b := true) (et_is (ev_inS rfl rfl hc tl) (decide_eq_true mc)) (fun _ H2 e2 => ?_) fun z => by cases z
      exact ⟨_, rfl, _, rfl, t, a, n, rfl, tl, an, run, kQ.mono (e1.trans e2)⟩
    | txt hc qa =>
      rename_i m
      refine q_when (b := false) (et_is (ev_inS rfl rfl hc tl) (decide_eq_false q34.1)) (fun z => by cases z) fun _ H1 e1 => ?_
      refine q_when (b := false) (et_is (ev_inS rfl rfl hc tl) (decide_eq_false q34.2)) (fun z => by cases z) fun _ H2 e2 => ?_
      refine q_when (b := true) (et_is (quote hc) (decide_eq_true rfl)) (fun _ H3 e3 => ?_) fun z => by cases z
      refine ⟨_, rfl, _, rfl, t, a, m, rfl, tl, qa, ?_⟩
      rw [show a + 1 + m + 1 = a + (m + 2) by omega]
      exact kQ.mono ((e1.trans e2).trans e3)
    | sgn hc d l q sa =>
      refine q_when (b := false) (et_is (ev_inS rfl rfl hc tl) (decide_eq_false d)) (fun z => by cases z) fun _ H1 e1 => ?_
      refine q_when (b := false) (et_is (ev_inS rfl rfl hc tl) (decide_eq_false l)) (fun z => by cases z) fun _ H2 e2 => ?_
      refine q_when (b := false) (et_is (quote hc) (decide_eq_false q)) (fun z => by cases z) fun _ H3 e3 => ?_
      exact ⟨_, rfl, _, rfl, t, a, _, rfl, tl, sa, kQ.mono ((e1.trans e2).trans e3)⟩
end
end K72
set_option maxHeartbeats 4000000
namespace K72
open PySem PySem.Spec PyProof.Rows L2 Evl My LamX
abbrev Tok3 := Str × V × Nat
/-- the words of a text from a on, to its end -/
inductive Lay (t : Str) : Nat → List Tok3 → Prop
  | nil : Lay t t.length []
  | cons {a n b : Nat} {k : Str} {v : V} {r : List Tok3} : Tk t a n k v → 1 ≤ n → RunAt t BLK (a + n) b → a + n + b ≤ t.length → Lay t (a + n + b) r → Lay t a ((k, v, a) :: r)
inductive TkL (H : Hp) : List V → List Tok3 → Prop
  | nil : TkL H [] []
  | cons {q : Addr} {x : Tok3} {xs : List V} {r : List Tok3} : H q = some (.tup [.str x.1, x.2.1, .int (x.2.2 : Int)]) → TkL H xs r → TkL H (.ref q :: xs) (x :: r)
theorem TkL.pres {H H' : Hp} (g : ∀ b xs, H b = some (.tup xs) → H' b = some (.tup xs)) {xs : List V} {r : List Tok3} (h : TkL H xs r) : TkL H' xs r := by
  induction h with
  | nil => exact .nil
  | cons h _ ih => exact .cons (g _ _ h) ih
theorem TkL.ext {H H' : Hp} (e : Ex H H') {xs : List V} {r : List Tok3} (h : TkL H xs r) : TkL H' xs r := h.pres fun b ys q => e b _ q
theorem TkL.app {H : Hp} {xs ys : List V} {r u : List Tok3} (h : TkL H xs r) (g : TkL H ys u) : TkL H (xs ++ ys) (r ++ u) := by
  induction h with
  | nil => exact g
  | cons h _ ih => exact .cons h ih
theorem TkL.len {H : Hp} {xs : List V} {r : List Tok3} (h : TkL H xs r) : xs.length = r.length := by
  induction h with
  | nil => rfl
  | cons _ _ ih => rw [List.length_cons, List.length_cons, ih]
theorem Lay.le {t : Str} {a : Nat} {r : List Tok3} (h : Lay t a r) : a + r.length ≤ t.length := by
  induction h with
  | nil => exact Nat.le_refl _
  | cons _ _ _ _ _ ih =>
    rw [List.length_cons]
    omega
def endT (t : Str) : Tok3 := ("end", .str "", t.length)
def spTok : Sp := fun vs H Q _ => ∃ (t : Str) (b : Nat) (items : List Tok3), vs = [.str t] ∧ t.length ≤ 2000 ∧ RunAt t BLK 0 b ∧ Lay t b items ∧ ∀ p xs H', H p = none → Ex H H' → H' p = some (.lst xs) → TkL H' xs (items ++ [endT t]) → Q (.ref p) H'
section
variable {P : Program} {w : World} {K : PySem.W.Frag} {mg : Str → Option Value} {base : Heap} {f pK pS : Addr} {fd : FuncData}
def NT : List Str := ["text", "tokens", "at", "token", "end"]
theorem scTok : FnScope NT ["text"] (defScope sTok) := ⟨rfl, rfl, rfl, by decide +kernel, rfl, by decide +kernel, by decide +kernel⟩
theorem ok_tok (F : Fun K "tokens_of" "tokens_of" sTok f fd) (G : Gs mg) (EO : Df P w K mg base "end_of_row" ["text", "at", "signs"] 1 spEor) (TA : Df P w K mg base "token_at" ["text", "at"] 3 spTat) : FnOk P w K mg base CX0 4 f fd ["text"] spTok := by
  refine F.ok scTok (fun vs H Q E h => ?_) (fun cdv A outer s H vs Q E hr h => ?_)
  · obtain ⟨t, b, items, rfl, _⟩ := h
    rfl
  · obtain ⟨t, b, items, rfl, tl, run, lay, kQ⟩ := h
    have hr3 : Room 3 _ := hr
    have hr1 : Room 1 _ := hr3.mono (by decide)
    refine ⟨_, pss_cons (ps_if (pt_cmpR op_gt (pe_callB call_len (by rfl) G.len (by decide +kernel) (pa_cons (pv 0) pa_nil)) (C8.pe_gc (v := .int 2000) rfl G.lscr) (nomark _)) pss_no pss_nil)
      (pss_cons (ps_set (i := 1) scTok.nd rfl (Or.inl rfl) (pe_lst pa_nil))
      (pss_cons (ps_set (i := 2) scTok.nd rfl (Or.inl rfl) (pe_df EO hr1 rfl (pa_cons (pv 0) (pa_cons pe_int (pa_cons (C8.pe_gc (v := .str BLK) rfl G.blks) pa_nil)))))
      (pss_cons (ps_while PassesOwn.never (pt_cmpR op_lt (pv 2) (pe_callB call_len (by rfl) G.len (by decide +kernel) (pa_cons (pv 0) pa_nil)) (nomark _))
        (pss_cons (ps_asg (pe_df TA hr3 rfl (pa_cons (pv 0) (pa_cons (pv 2) pa_nil))) (pg_tup rfl (pgs_cons (pg_name (i := 3) scTok.nd rfl (Or.inl rfl)) (pgs_cons (pg_name (i := 4) scTok.nd rfl (Or.inl rfl)) pgs_nil))))
        (pss_cons (ps_expr (pe_bm PySem.F.plainAttrs_list PySem.F.slot_list_append PySem.F.type_list_append mt_append (pv 1) (pa_cons (pv 3) pa_nil)))
        (pss_one (ps_set (i := 2) scTok.nd rfl (Or.inl rfl) (pe_df EO hr1 rfl (pa_cons (pv 0) (pa_cons (pv 4) (pa_cons (C8.pe_gc (v := .str BLK) rfl G.blks) pa_nil)))))))))
      (pss_cons (ps_expr (pe_bm PySem.F.plainAttrs_list PySem.F.slot_list_append PySem.F.type_list_append mt_append (pv 1) (pa_cons (pe_tup (pa_cons pe_str (pa_cons pe_str (pa_cons (pe_callB call_len (by rfl) G.len (by decide +kernel) (pa_cons (pv 0) pa_nil)) pa_nil)))) pa_nil)))
      (pss_one (ps_ret (pv 1))))))), ?_⟩
    have lenE : ∀ {σ : L2.St} {H1 : Hp}, σ[0]? = some (some (.str t)) → Ev (tCB (fun xs H Q => ∃ x n, xs = [x] ∧ LenV K x H n ∧ Q (.int n) H) (tCons (tVar 0) tNil)) σ H1 (.int (t.length : Int)) := fun h0 H2 e2 Q q => ⟨_, h0, _, _, rfl, ⟨sz_of (by omega), rfl⟩, q H2 (Ex.refl _)⟩
    refine q_when (b := false) (et_is (etGt (lenE rfl) ev_c) (decide_eq_false (by omega))) (fun z => by cases z) fun _ H1 e1 => ?_
    refine ⟨Nat.zero_le _, fun L nL => ?_⟩
    have nL0 : H L = none := fresh_back e1 nL
    have e2 : Ex H (upd H1 L (.lst [])) := e1.trans (Ex.new nL)
    have hL2 : (upd H1 L (.lst [])) L = some (.lst []) := upd_same
    generalize upd H1 L (.lst []) = H2 at e2 hL2 ⊢
    have bl : b ≤ t.length := by have := lay.le; omega
    refine ⟨_, rfl, t, BLK, 0, b, rfl, by omega, by omega, run, fun H3 e3 => ?_⟩
    refine q_while (fun m σ' H' => ∃ (done rest : List Tok3) (a : Nat) (xs : List V) (o3 o4 : Option V), σ' = [some (.str t), some (.ref L), some (.int (a : Int)), o3, o4] ∧ Ex H H' ∧ H' L = some (.lst xs) ∧ TkL H' xs done ∧ Lay t a rest ∧ items = done ++ rest ∧ rest.length = m) items.length ?_ ?_
    · refine ⟨[], items, b, [], none, none, ?_, e2.trans e3, e3 _ _ hL2, .nil, lay, rfl, rfl⟩
      show ([some (.str t), some (.ref L), some (.int ((0 + b : Nat) : Int)), none, none] : L2.St) = _
      rw [Nat.zero_add]
    · rintro m σ' H' ⟨done, rest, a, xs, o3, o4, rfl, e, hL, tk, ly, it, rm⟩
      cases ly with
      | nil =>
        refine ⟨false, et_is (etLt (ev_var rfl) (lenE rfl)) (decide_eq_false (by omega)), fun z => (by cases z), fun _ H4 e4 => ?_⟩
        have hL4 := e4 _ _ hL
        have tk4 := tk.ext e4
        have xl := tk.len
        have il := lay.le
        rw [it, List.length_append] at il
        refine q_appU hL4 (ev_var rfl) (eu_tup (ea_cons ev_c (ea_cons ev_c (ea_cons (lenE rfl) ea_nil))) (by simp)) (by omega) fun q H5 nq e5 hq => ?_
        have hL5 := e5 _ _ hL4
        have qL : q ≠ L := fun z => by
          rw [z, hL5] at hq
          cases hq
        have tup : ∀ b ys, H5 b = some (.tup ys) → (upd H5 L (.lst (xs ++ [.ref q]))) b = some (.tup ys) := fun b ys h => by
          rw [upd_ne (fun z => by rw [z, hL5] at h; cases h)]
          exact h
        refine ⟨_, rfl, kQ L (xs ++ [.ref q]) _ nL0 (fun b o hb => ?_) upd_same ?_⟩
        · rw [upd_ne (ne_of_none hb nL0)]
          exact ((e.trans e4).trans e5) _ _ hb
        · rw [it, List.append_nil]
          exact ((tk4.ext e5).pres tup).app (.cons (x := endT t) (tup _ _ hq) .nil)
      | cons tk1 n1 br bn ly2 =>
        rename_i n b2 k v r
        refine ⟨true, et_is (etLt (ev_var rfl) (lenE rfl)) (decide_eq_true (by omega)), fun _ H4 e4 => ?_, fun z => (by cases z)⟩
        refine ⟨fun σ2 H2 => ∃ (done rest : List Tok3) (a : Nat) (xs : List V) (o3 o4 : Option V), σ2 = [some (.str t), some (.ref L), some (.int (a : Int)), o3, o4] ∧ Ex H H2 ∧ H2 L = some (.lst xs) ∧ TkL H2 xs done ∧ Lay t a rest ∧ items = done ++ rest ∧ rest.length = r.length, fun σ2 H2 w => ⟨r.length, by rw [← rm, List.length_cons]; exact Nat.lt_succ_self _, w⟩, ?_⟩
        refine ⟨_, rfl, _, rfl, t, a, n, k, v, rfl, by omega, tk1, fun p q H5 e5 hp hq => ?_⟩
        refine ⟨p, _, rfl, st_of hp, rfl, _, _, rfl, _, _, rfl, rfl, ?_⟩
        have hL5 := (e4.trans e5) _ _ hL
        have xl := tk.len
        have il := (Lay.cons tk1 n1 br bn ly2).le
        have dl : done.length ≤ items.length := by rw [it, List.length_append]; omega
        have il2 := lay.le
        refine ⟨_, rfl, .inl ⟨rfl, _, sq_of hL5⟩, _, rfl, L, xs, .ref q, rfl, rfl, hL5, sz_lt (by omega), ?_⟩
        have tup : ∀ b ys, H5 b = some (.tup ys) → (upd H5 L (.lst (xs ++ [.ref q]))) b = some (.tup ys) := fun b ys h => by
          rw [upd_ne (fun z => by rw [z, hL5] at h; cases h)]
          exact h
        refine ⟨_, rfl, _, rfl, t, BLK, a + n, b2, rfl, by omega, bn, br, fun H6 e6 => ?_⟩
        refine ⟨done ++ [(k, v, a)], r, a + n + b2, xs ++ [.ref q], _, _, rfl, fun b o hb => ?_, e6 _ _ upd_same, ?_, ly2, ?_, rfl⟩
        · refine e6 _ _ ?_
          rw [upd_ne (ne_of_none hb nL0)]
          exact ((e.trans e4).trans e5) _ _ hb
        · exact ((((tk.ext (e4.trans e5)).pres tup).app (.cons (x := (k, v, a)) (tup _ _ hq) .nil))).ext e6
        · rw [it, List.append_assoc]
          rfl
end
end K72
set_option maxHeartbeats 4000000
namespace K72
open PySem PySem.Spec PyProof.Rows L2 Evl My LamX
/-- all but what lies at fp stands -/
def But (fp : Addr) (H H' : Hp) : Prop := ∀ b o, b ≠ fp → H b = some o → H' b = some o
theorem But.refl (fp : Addr) (H : Hp) : But fp H H := fun _ _ _ h => h
theorem But.ex {fp : Addr} {H H' H2 : Hp} (b : But fp H H') (e : Ex H' H2) : But fp H H2 := fun a o n h => e a o (b a o n h)
theorem But.upd {fp : Addr} {H H' : Hp} {o : HO} (b : But fp H H') : But fp H (L2.upd H' fp o) := fun a u n h => by
  rw [upd_ne n]
  exact b a u n h
theorem But.of {fp : Addr} {H0 H H' : Hp} (e : Ex H0 H) (n : H0 fp = none) (b : But fp H H') : Ex H0 H' := fun a o h => b a o (ne_of_none h n) (e a o h)
theorem But.trans {p : Addr} {H H1 H2 : Hp} (a : But p H H1) (b : But p H1 H2) : But p H H2 := fun x o n h => b x o n (a x o n h)
theorem But.ofEx {p : Addr} {H H' : Hp} (e : Ex H H') : But p H H' := fun x o _ h => e x o h
structure MD (P : Program) (w : World) (K : PySem.W.Frag) (mg : Str → Option Value) (base : Heap) (C : Addr) (m : Str) (ps : List Str) (k : Nat) (sp : Sp) : Prop where
  ex : ∃ (f : Addr) (fd : FuncData), Meth K C m f ∧ FnOk P w K mg base CX0 k f fd ps sp ∧ Binds K fd ps []
section
variable {X : Cx} {C : Addr} {m : Str} {ps : List Str} {k : Nat} {sp : Sp} {o e : Expr} {es : List Expr} {apos pos : Pos} {ta : TE} {t : TA} {E : XK} {pl : Sem Bool}
theorem pe_md (D : MD X.prog X.w X.K X.mg X.base C m ps k sp) (c : Cls X.K C) (hr : Room k X.A) (he : PE X o ta) (ha : PA X (e :: es) t)
    (hst : starEach (e :: es) X.env = (false, eval e X.env) :: starEach es X.env := by rfl) (hpl : (backTo pos (starEach es X.env)).any (·.1) = false := by rfl)
    (ht : eval (.Call (.Attribute o m apos) (e :: es) [] pos) X.env = (do
      let ov ← eval o X.env
      standAt apos.atName
      let (f, first) ← holding [ov] (getMethod ov m pl)
      callWith pos f first (backTo pos (starEach (e :: es) X.env)) (backToKw pos (keywordEach [] X.env))) := by rfl) :
    PE X (.Call (.Attribute o m apos) (e :: es) [] pos) (tMeth C m sp [] E0 ta t) := by
  obtain ⟨f, fd, hm, F, b⟩ := D.ex
  exact pe_meth he c hm F hr b .nil (fun _ _ _ _ _ _ _ h => h.elim) ha hst hpl ht
theorem pe_md0 (D : MD X.prog X.w X.K X.mg X.base C m ps k sp) (c : Cls X.K C) (hr : Room k X.A) (he : PE X o ta)
    (ht : eval (.Call (.Attribute o m apos) [] [] pos) X.env = (do
      let ov ← eval o X.env
      standAt apos.atName
      let (f, first) ← holding [ov] (getMethod ov m pl)
      callWith pos f first (backTo pos (starEach [] X.env)) (backToKw pos (keywordEach [] X.env))) := by rfl) :
    PE X (.Call (.Attribute o m apos) [] [] pos) (tMeth C m sp [] E0 ta tNil) := by
  obtain ⟨f, fd, hm, F, b⟩ := D.ex
  exact pe_meth0 he c hm F hr b .nil (fun _ _ _ _ _ _ _ h => h.elim) ht
end
mutual
theorem dd_ins {K : PySem.W.Frag} {H H' : Hp} {L C dx : Addr} {fs : List (Str × V)} (hL : H L = some (.ins C dx fs)) (b : But L H H') : ∀ (d : PyData) (v : V), Dd K H v d → Dd K H' v d
  | .none, _, g => by
    cases g
    exact .non
  | .bool b, _, g => by
    cases g
    exact .bl b
  | .int i, _, g => by
    cases g
    exact .int i
  | .str x, _, g => by
    cases g
    exact .str x
  | .list ds, _, g => by
    cases g with
    | @lst a xs _ hs ha =>
      refine .lst ?_ (dds_ins hL b ds _ ha)
      have go : ∀ u, H a = some u → (∀ C dx fs, u ≠ .ins C dx fs) → H' a = some u := fun u h n => b a u (fun z => n C dx fs (Option.some.inj (by rw [← h, z]; exact hL))) h
      rcases hs with (hb | ⟨ob, hb⟩) | hb
      · exact .inl (.inl (go _ hb fun _ _ _ z => nomatch z))
      · exact .inl (.inr ⟨ob, go _ hb fun _ _ _ z => nomatch z⟩)
      · exact .inr hb
  | .tuple ds, _, g => by
    cases g with
    | @tup a xs _ hs ha =>
      refine .tup ?_ (dds_ins hL b ds _ ha)
      have go : ∀ u, H a = some u → (∀ C dx fs, u ≠ .ins C dx fs) → H' a = some u := fun u h n => b a u (fun z => n C dx fs (Option.some.inj (by rw [← h, z]; exact hL))) h
      rcases hs with (hb | ⟨ob, hb⟩) | hb
      · exact .inl (.inl (go _ hb fun _ _ _ z => nomatch z))
      · exact .inl (.inr ⟨ob, go _ hb fun _ _ _ z => nomatch z⟩)
      · exact .inr hb
  | .dict kvs, _, g => by
    cases g with
    | @dct a hb => exact .dct (b a _ (fun z => by rw [z, hL] at hb; cases hb) hb)
theorem dds_ins {K : PySem.W.Frag} {H H' : Hp} {L C dx : Addr} {fs : List (Str × V)} (hL : H L = some (.ins C dx fs)) (b : But L H H') : ∀ (ds : List PyData) (vs : List V), Dds K H vs ds → Dds K H' vs ds
  | [], _, g => by
    cases g
    exact .nil
  | d :: ds, _, g => by
    cases g with
    | cons g1 g2 => exact .cons (dd_ins hL b d _ g1) (dds_ins hL b ds _ g2)
end
end K72
set_option maxHeartbeats 4000000
namespace K72
open PySem PySem.Spec PyProof.Rows L2 Evl My LamX
/-! the class Reader -/
def rdBody : List Stmt := match top 24 with
  | .ClassDef _ _ _ body .. => body
  | _ => []
def rth (i : Nat) : Stmt := rdBody.getD i (.Pass ⟨0, 0, 0, 0⟩)
abbrev rInit : Stmt := rth 0
abbrev rIs : Stmt := rth 2
abbrev rTake : Stmt := rth 3
abbrev rAll : Stmt := rth 5
abbrev rStm : Stmt := rth 8
abbrev rEnd : Stmt := rth 9
abbrev rExp : Stmt := rth 11
abbrev rRow : Stmt := rth 12
abbrev rHas : Stmt := rth 13
abbrev rOpd : Stmt := rth 14
abbrev rStep : Stmt := rth 15
abbrev rCall : Stmt := rth 16
structure RdC (K : PySem.W.Frag) (C : Addr) : Prop where
  cl : Cls K C
  nt : NoAttr K C "tokens"
  np : NoAttr K C "place"
def fsRd (T : Addr) (p : Nat) : List (Str × V) := [("tokens", .ref T), ("place", .int (p : Int))]
structure Rdr (C : Addr) (H : Hp) (R T : Addr) (xs : List V) (toks : List Tok3) (p : Nat) : Prop where
  r : ∃ dx, H R = some (.ins C dx (fsRd T p))
  t : H T = some (.lst xs)
  k : TkL H xs toks
theorem Rdr.ext {C : Addr} {H H' : Hp} {R T : Addr} {xs : List V} {toks : List Tok3} {p : Nat} (e : Ex H H') (h : Rdr C H R T xs toks p) : Rdr C H' R T xs toks p := by
  obtain ⟨⟨dx, r⟩, t, k⟩ := h
  exact ⟨⟨dx, e _ _ r⟩, e _ _ t, k.ext e⟩
theorem Rdr.set {C : Addr} {H : Hp} {R T dx : Addr} {xs : List V} {toks : List Tok3} {p q : Nat} (h : Rdr C H R T xs toks p) : Rdr C (upd H R (.ins C dx (fsRd T q))) R T xs toks q := by
  obtain ⟨⟨dx2, r⟩, t, k⟩ := h
  refine ⟨⟨dx, upd_same⟩, ?_, k.pres fun b ys hb => ?_⟩
  · rw [upd_ne (fun z => by rw [z, r] at t; cases t)]
    exact t
  · rw [upd_ne (fun z => by rw [z, r] at hb; cases hb)]
    exact hb
theorem TkL.get {H : Hp} {xs : List V} {toks : List Tok3} (h : TkL H xs toks) : ∀ {p : Nat} {x : Tok3}, toks[p]? = some x → ∃ q, xs[p]? = some (.ref q) ∧ H q = some (.tup [.str x.1, x.2.1, .int (x.2.2 : Int)]) := by
  induction h with
  | nil =>
    intro p x e
    simp at e
  | cons h _ ih =>
    intro p x e
    cases p with
    | zero =>
      cases e
      exact ⟨_, rfl, h⟩
    | succ p => exact ih (show _ = _ from e)
section
variable {K : PySem.W.Frag} {C R T : Addr} {xs : List V} {toks : List Tok3} {p : Nat} {H : Hp} {σ : L2.St}
theorem ev_toks (c : RdC K C) (h : Rdr C H R T xs toks p) (h0 : σ[0]? = some (some (.ref R))) : Ev (tFld K (tVar 0) "tokens") σ H (.ref T) := fun H1 e Q q => by
  obtain ⟨⟨dx, r⟩, _⟩ := h.ext e
  exact ⟨_, h0, R, C, dx, _, _, rfl, r, c.cl, c.nt, rfl, q H1 (Ex.refl _)⟩
theorem ev_place (c : RdC K C) (h : Rdr C H R T xs toks p) (h0 : σ[0]? = some (some (.ref R))) : Ev (tFld K (tVar 0) "place") σ H (.int (p : Int)) := fun H1 e Q q => by
  obtain ⟨⟨dx, r⟩, _⟩ := h.ext e
  exact ⟨_, h0, R, C, dx, _, _, rfl, r, c.cl, c.np, rfl, q H1 (Ex.refl _)⟩
theorem ev_tok (c : RdC K C) (h : Rdr C H R T xs toks p) {x : Tok3} (hx : toks[p]? = some x) : ∃ q, H q = some (.tup [.str x.1, x.2.1, .int (x.2.2 : Int)]) ∧ ∀ {σ : L2.St}, σ[0]? = some (some (.ref R)) → Ev (tOp (rIxL K) (tFld K (tVar 0) "tokens") (tFld K (tVar 0) "place")) σ H (.ref q) := by
  obtain ⟨q, h1, h2⟩ := h.k.get hx
  exact ⟨q, h2, fun h0 => ev_op (ev_toks c h h0) (ev_place c h h0) (rv_ixL (sq_of h.t) (atI_nat h1))⟩
/-- a, b, c = self.tokens[self.place] -/
theorem q_tok (c : RdC K C) (h : Rdr C H R T xs toks p) {x : Tok3} (hx : toks[p]? = some x) (h0 : σ[0]? = some (some (.ref R))) {i j l : Nat} {tz : TS} {D : Ends}
    (k : ∀ q, H q = some (.tup [.str x.1, x.2.1, .int (x.2.2 : Int)]) → ∀ H1, Ex H H1 → tz D (((σ.set i (some (.str x.1))).set j (some x.2.1)).set l (some (.int (x.2.2 : Int)))) H1) :
    tSeq (tAsg (tOp (rIxL K) (tFld K (tVar 0) "tokens") (tFld K (tVar 0) "place")) (gTup K 3 (gCons (gName i) (gCons (gName j) (gCons (gName l) gNil))))) tz D σ H := by
  obtain ⟨q, hq, ev⟩ := ev_tok c h hx
  refine ev h0 H (Ex.refl _) _ fun H1 e1 => ⟨q, _, rfl, st_of (e1 _ _ hq), rfl, _, _, rfl, _, _, rfl, _, _, rfl, rfl, ?_⟩
  exact k q hq H1 e1
end
/-- what a token holds: a text or an int -/
def Sc (v : V) : Prop := (∃ s, v = .str s) ∨ ∃ i, v = .int i
def spIs (C : Addr) : Sp := fun vs H Q _ => ∃ (R T : Addr) (xs : List V) (toks : List Tok3) (p : Nat) (x : Tok3) (s : Str), vs = [.ref R, .str s] ∧ Rdr C H R T xs toks p ∧ toks[p]? = some x ∧ Sc x.2.1 ∧ ∀ H', Ex H H' → Q (.bl (decide (x.1 = "sign") && decide (x.2.1 = .str s))) H'
def spTake (C : Addr) : Sp := fun vs H Q _ => ∃ (R T : Addr) (xs : List V) (toks : List Tok3) (p a : Nat) (s : Str), vs = [.ref R, .str s] ∧ Rdr C H R T xs toks p ∧ toks[p]? = some (("sign", .str s, a) : Tok3) ∧ ∀ H', But R H H' → Rdr C H' R T xs toks (p + 1) → Q .non H'
section
variable {P : Program} {w : World} {K : PySem.W.Frag} {mg : Str → Option Value} {base : Heap} {f C : Addr} {fd : FuncData}
theorem scIs : FnScope ["self", "sign", "sort", "value", "at"] ["self", "sign"] (defScope rIs) := ⟨rfl, rfl, rfl, by decide +kernel, rfl, by decide +kernel, by decide +kernel⟩
theorem ev_eqS {σ : L2.St} {H : Hp} {ta tb : TE} {v : V} {s : Str} (ha : Ev ta σ H v) (hb : Ev tb σ H (.str s)) (hv : Sc v) : Ev (tOp rEq ta tb) σ H (.bl (decide (v = .str s))) := fun H1 e Q q => ha H1 e _ fun H2 e2 => hb H2 (e.trans e2) _ fun H3 e3 => ⟨by
  rcases hv with ⟨x, rfl⟩ | ⟨i, rfl⟩ <;> rfl, q H3 (e2.trans e3)⟩
theorem dec_str {a b : Str} : decide (V.str a = V.str b) = decide (a = b) := by
  rw [Bool.eq_iff_iff, decide_eq_true_eq, decide_eq_true_eq]
  exact ⟨fun z => V.str.inj z, fun z => congrArg V.str z⟩
theorem ok_is (F : Fun K "is_next" "Reader.is_next" rIs f fd) (c : RdC K C) : FnOk P w K mg base CX0 1 f fd ["self", "sign"] (spIs C) := by
  refine F.ok scIs (fun vs H Q E h => ?_) (fun cdv A outer s H vs Q E hr h => ?_)
  · obtain ⟨R, T, xs, toks, p, x, s, rfl, _⟩ := h
    rfl
  · obtain ⟨R, T, xs, toks, p, x, s, rfl, rd, hx, sx, kQ⟩ := h
    refine ⟨_, pss_cons (ps_asg (pe_ix ix_list (pe_fld (pv 0) rfl) (pe_fld (pv 0) rfl) (fun _ _ => rfl)) (pg_tup rfl (pgs_cons (pg_name (i := 2) scIs.nd rfl (Or.inl rfl)) (pgs_cons (pg_name (i := 3) scIs.nd rfl (Or.inl rfl)) (pgs_cons (pg_name (i := 4) scIs.nd rfl (Or.inl rfl)) pgs_nil)))))
      (pss_one (ps_ret (pe_and (pe_cmpR op_eq (pv 2) pe_str (nomark _)) (pe_one (pe_cmpR op_eq (pv 3) (pv 1) (nomark _)))))), ?_⟩
    refine q_tok c rd hx rfl fun q hq H1 e1 => ?_
    refine s_ret (v := .bl (decide (x.1 = "sign") && decide (x.2.1 = .str s))) (ev_andV (a := decide (x.1 = "sign")) (b := decide (x.2.1 = .str s)) (ev_is (ev_eqS (ev_var rfl) ev_c (.inl ⟨_, rfl⟩)) (congrArg V.bl dec_str)) fun _ => ev_eqS (ev_var rfl) (ev_var rfl) sx) fun H2 e2 => kQ H2 (e1.trans e2)
theorem scTake : FnScope ["self", "sign"] ["self", "sign"] (defScope rTake) := ⟨rfl, rfl, rfl, by decide +kernel, rfl, by decide +kernel, by decide +kernel⟩
theorem ok_take (F : Fun K "take" "Reader.take" rTake f fd) (c : RdC K C) (IS : MD P w K mg base C "is_next" ["self", "sign"] 1 (spIs C)) : FnOk P w K mg base CX0 2 f fd ["self", "sign"] (spTake C) := by
  refine F.ok scTake (fun vs H Q E h => ?_) (fun cdv A outer s H vs Q E hr h => ?_)
  · obtain ⟨R, T, xs, toks, p, x, s, rfl, _⟩ := h
    rfl
  · obtain ⟨R, T, xs, toks, p, a, s, rfl, rd, hx, kQ⟩ := h
    have hr1 : Room 1 _ := hr
    refine ⟨_, pss_cons (ps_if (pt_not (pt_val (pe_md IS c.cl hr1 (pv 0) (pa_cons (pv 1) pa_nil)))) pss_no pss_nil)
      (pss_one (ps_fldaug (pv 0) pe_int in_add)), ?_⟩
    have is : Ev (tMeth C "is_next" (spIs C) [] E0 (tVar 0) (tCons (tVar 1) tNil)) ([some (.ref R), some (.str s)] : L2.St) H (.bl true) := fun H1 e1 Q q => by
      obtain ⟨⟨dx, r⟩, _⟩ := rd.ext e1
      refine ⟨_, rfl, R, dx, _, rfl, r, rfl, _, rfl, R, T, xs, toks, p, ("sign", .str s, a), s, rfl, rd.ext e1, hx, .inl ⟨s, rfl⟩, fun H2 e2 => ?_⟩
      show Q (.bl (decide (("sign" : Str) = "sign") && decide (V.str s = .str s))) H2
      rw [decide_eq_true rfl, decide_eq_true rfl]
      exact q H2 e2
    refine q_when (b := !true) (et_not (et_B is)) (fun z => by cases z) fun _ H1 e1 => ?_
    have rd1 := rd.ext e1
    obtain ⟨⟨dx, r⟩, _⟩ := id rd1
    refine ⟨_, rfl, R, C, dx, _, _, rfl, r, c.cl, c.np, rfl, (p : Int), 1, rfl, rfl, dx, _, r, (by show 2 < 1000; decide), ?_⟩
    have e : putF "place" (V.int ((p : Int) + 1)) (fsRd T p) = fsRd T (p + 1) := rfl
    exact kQ _ ((But.ofEx e1).upd) rd1.set
end
end K72
set_option maxHeartbeats 4000000
namespace K72
open PySem PySem.Spec PyProof.Rows L2 Evl My LamX
abbrev Par := List Tok3 → Nat → Nat → PyData → Prop
def spPar (K : PySem.W.Frag) (C : Addr) (args : List V) (O : Par) : Sp := fun vs H Q _ => ∃ (R T : Addr) (xs : List V) (toks : List Tok3) (p p' : Nat) (d : PyData), vs = .ref R :: args ∧ Rdr C H R T xs toks p ∧ O toks p p' d ∧ ∀ v H', But R H H' → Rdr C H' R T xs toks p' → Dd K H' v d → Q v H'
section
variable {K : PySem.W.Frag} {C R T : Addr} {xs : List V} {toks : List Tok3} {p : Nat} {H : Hp} {σ : L2.St} {s : Str} {x : Tok3}
theorem ev_isn {t : TA} (rd : Rdr C H R T xs toks p) (hx : toks[p]? = some x) (sx : Sc x.2.1) (h0 : σ[0]? = some (some (.ref R))) (ht : EvA t σ H [.str s]) : Ev (tMeth C "is_next" (spIs C) [] E0 (tVar 0) t) σ H (.bl (decide (x.1 = "sign") && decide (x.2.1 = .str s))) := fun H1 e1 Q q => by
  obtain ⟨⟨dx, r⟩, _⟩ := rd.ext e1
  exact ⟨_, h0, R, dx, _, rfl, r, rfl, ht H1 e1 _ fun H2 e2 => ⟨R, T, xs, toks, p, x, s, rfl, rd.ext (e1.trans e2), hx, sx, fun H3 e3 => q H3 (e2.trans e3)⟩⟩
theorem sc_s {x : Str} : Sc (.str x) := .inl ⟨x, rfl⟩
theorem sc_i {x : Int} : Sc (.int x) := .inr ⟨x, rfl⟩
end
def kinds3 : List Str := ["number", "text", "word"]
/-- self.place += 1 -/
theorem q_place {K : PySem.W.Frag} {C R T : Addr} {xs : List V} {toks : List Tok3} {p : Nat} {H : Hp} {σ : L2.St} {tz : TS} {D : Ends} {m : Int} {te : TE} {n : Nat} (c : RdC K C) (rd : Rdr C H R T xs toks p) (h0 : σ[0]? = some (some (.ref R))) (ht : Ev te σ H (.int m)) (hm : (p : Int) + m = ((p + n : Nat) : Int)) (k : ∀ H1, But R H H1 → Rdr C H1 R T xs toks (p + n) → tz D σ H1) : tSeq (sFldAug K (tVar 0) te rAdd "place") tz D σ H := by
  obtain ⟨⟨dx, r⟩, _⟩ := id rd
  refine ⟨_, h0, R, C, dx, _, _, rfl, r, c.cl, c.np, rfl, ht H (Ex.refl _) _ fun H1 e1 => ⟨(p : Int), m, rfl, rfl, dx, _, e1 _ _ r, (by show 2 < 1000; decide), ?_⟩⟩
  have e : putF "place" (V.int ((p : Int) + m)) (fsRd T p) = fsRd T (p + n) := by
    rw [hm]
    rfl
  rw [e]
  exact k _ ((But.ofEx e1).upd) (rd.ext e1).set
theorem ev_notin {K : PySem.W.Frag} {σ : L2.St} {H : Hp} {k : Str} (h2 : σ[2]? = some (some (.str k))) (mk : k ∈ kinds3) : Ev (tOp (rIn K true) (tVar 2) (tTup (tCons (tC (.str "number")) (tCons (tC (.str "text")) (tCons (tC (.str "word")) tNil))))) σ H (.bl false) := fun H1 e Q q =>
  ⟨_, h2, eu_tup (vs := kinds3.map V.str) (ea_cons ev_c (ea_cons ev_c (ea_cons ev_c ea_nil))) (by decide) H1 (Ex.refl _) _ fun p H2 np e2 hp => ⟨p, _, rfl, .inr (st_of hp), rfl, flat_strs kinds3, by
    show Q (.bl (!inV (.str k) (kinds3.map V.str))) H2
    rw [inV_strs, decide_eq_true mk]
    exact q H2 e2⟩⟩
/-- two parts, as a datum -/
theorem s_two {K : PySem.W.Frag} {σ : L2.St} {H : Hp} {D : Ends} {ta tb : TE} {a b : PyData} (ha : EvD K ta σ H a) (hb : EvD K tb σ H b) (k : ∀ v H1, Ex H H1 → Dd K H1 v (.tuple [a, b]) → D.rt v H1) : tRet (tTup (tCons ta (tCons tb tNil))) D σ H := ed_tup (eds_cons ha (eds_cons hb eds_nil)) (show 2 ≤ 100000 by decide) H (Ex.refl _) _ k
theorem k3_sign {k : Str} (h : k ∈ kinds3) : decide (k = "sign") = false := decide_eq_false ((by decide +kernel : ∀ k ∈ kinds3, ¬ k = "sign") k h)
theorem But.left {p : Addr} {H0 H H' : Hp} (e : Ex H0 H) (b : But p H H') : But p H0 H' := fun a o n h => b a o n (e a o h)
def ttNo : TT := fun _ _ _ => False
theorem pt_no {X : Cx} {e : Expr} : PT X e ttNo := ⟨fun _ _ _ _ _ _ h => False.elim h⟩
def GRS : List (List Str) := [["or"], ["and"], ["==", "!=", "<", "<="], ["+", "-"], ["*"]]
structure Gr (K : PySem.W.Frag) (mg : Str → Option Value) (pG : Addr) (gs : List Addr) : Prop where
  g : mg "GROUPS" = some (.ref pG)
  len : mg "len" = none
  n : gs.length = 5
  t : ∀ H, SqT K H pG (gs.map V.ref)
  at_ : ∀ (H : Hp) (i : Nat) (a : Addr), gs[i]? = some a → ∃ ws, GRS[i]? = some ws ∧ SqT K H a (ws.map V.str)
theorem but_none {R L : Addr} {H H1 : Hp} (b : But R H H1) (n : H1 L = none) (ne : L ≠ R) : H L = none := by
  cases h : H L with
  | none => rfl
  | some o =>
    rw [b _ _ ne h] at n
    cases n
theorem spPar.at {K : PySem.W.Frag} {C R T : Addr} {args : List V} {O : Par} {xs : List V} {toks : List Tok3} {p p' : Nat} {d : PyData} {H : Hp} {Q : VK} {E : XK} (rd : Rdr C H R T xs toks p) (po : O toks p p' d) (k : ∀ v H', But R H H' → Rdr C H' R T xs toks p' → Dd K H' v d → Q v H') : spPar K C args O (.ref R :: args) H Q E := ⟨R, T, xs, toks, p, p', d, rfl, rd, po, k⟩

/-- a sign of the group g -/
def opB (x : Tok3) (g : Nat) : Bool := decide (x.1 = "sign") && inV x.2.1 ((GRS.getD g []).map V.str)
/-- the sign s -/
def isB (x : Tok3) (s : Str) : Bool := decide (x.1 = "sign") && decide (x.2.1 = V.str s)
def spHas (C : Addr) : Sp := fun vs H Q _ => ∃ (R T : Addr) (xs : List V) (toks : List Tok3) (p g : Nat) (x : Tok3), vs = [.ref R, .int (g : Int)] ∧ g < 5 ∧ Rdr C H R T xs toks p ∧ toks[p]? = some x ∧ Sc x.2.1 ∧ ∀ H', Ex H H' → Q (.bl (opB x g)) H'
theorem sc_flat {v : V} (h : Sc v) : flatV v = true := by
  rcases h with ⟨s, rfl⟩ | ⟨i, rfl⟩ <;> rfl
section
variable {P : Program} {w : World} {K : PySem.W.Frag} {mg : Str → Option Value} {base : Heap} {f C pG : Addr} {gs : List Addr} {fd : FuncData}
theorem scHas : FnScope ["self", "group", "sort", "value", "at"] ["self", "group"] (defScope rHas) := ⟨rfl, rfl, rfl, by decide +kernel, rfl, by decide +kernel, by decide +kernel⟩
theorem ok_has (F : Fun K "has_operator" "Reader.has_operator" rHas f fd) (c : RdC K C) (G : Gr K mg pG gs) : FnOk P w K mg base CX0 1 f fd ["self", "group"] (spHas C) := by
  refine F.ok scHas (fun vs H Q E h => ?_) (fun cdv A outer s H vs Q E hr h => ?_)
  · obtain ⟨R, T, xs, toks, p, g, x, rfl, _⟩ := h
    rfl
  · obtain ⟨R, T, xs, toks, p, g, x, rfl, g5, rd, hx, sx, kQ⟩ := h
    refine ⟨_, pss_cons (ps_asg (pe_ix ix_list (pe_fld (pv 0) rfl) (pe_fld (pv 0) rfl) (fun _ _ => rfl)) (pg_tup rfl (pgs_cons (pg_name (i := 2) scHas.nd rfl (Or.inl rfl)) (pgs_cons (pg_name (i := 3) scHas.nd rfl (Or.inl rfl)) (pgs_cons (pg_name (i := 4) scHas.nd rfl (Or.inl rfl)) pgs_nil)))))
      (pss_one (ps_ret (pe_and (pe_cmpR op_eq (pv 2) pe_str (nomark _)) (pe_one (pe_cmpR op_in_seq (pv 3) (pe_ix ix_tup (pe_glob (v := .ref pG) rfl G.g rfl) (pv 1) (fun _ _ => rfl)) rfl))))), ?_⟩
    refine q_tok c rd hx rfl fun q hq H1 e1 => ?_
    obtain ⟨ga, hg⟩ : ∃ ga, gs[g]? = some ga := ⟨_, List.getElem?_eq_getElem (by rw [G.n]; exact g5)⟩
    have inE : Ev (tOp (rIn K false) (tVar 3) (tOp (rIxT K) (tC (.ref pG)) (tVar 1))) ([some (.ref R), some (.int (g : Int)), some (.str x.1), some x.2.1, some (.int (x.2.2 : Int))] : L2.St) H1 (.bl (inV x.2.1 ((GRS.getD g []).map V.str))) := fun H2 e2 Q q => by
      obtain ⟨ws, hw, tw⟩ := G.at_ H2 g ga hg
      have ew : GRS.getD g [] = ws := by
        rw [List.getD_eq_getElem?_getD, hw]
        rfl
      rw [ew] at q
      refine ⟨_, rfl, _, rfl, pG, _, (g : Int), .ref ga, rfl, rfl, G.t H2, atI_nat (by rw [List.getElem?_map, hg]; rfl), ga, _, rfl, .inr tw, sc_flat sx, flat_strs ws, ?_⟩
      exact q H2 (Ex.refl _)
    exact s_ret (v := .bl (opB x g)) (ev_is (ev_andV (a := decide (x.1 = "sign")) (ev_is (ev_eqS (ev_var rfl) ev_c sc_s) (congrArg V.bl dec_str)) fun _ => inE) rfl) fun H2 e2 => kQ H2 (e1.trans e2)
/-- self.has_operator(group) -/
theorem ev_has {R T : Addr} {xs : List V} {toks : List Tok3} {p g : Nat} {x : Tok3} {σ : L2.St} {H : Hp} (rd : Rdr C H R T xs toks p) (g5 : g < 5) (hx : toks[p]? = some x) (sx : Sc x.2.1) (h0 : σ[0]? = some (some (.ref R))) (h1 : σ[1]? = some (some (.int (g : Int)))) :
    Ev (tMeth C "has_operator" (spHas C) [] E0 (tVar 0) (tCons (tVar 1) tNil)) σ H (.bl (opB x g)) := fun H1 e1 Q q => by
  obtain ⟨⟨dx, r⟩, _⟩ := rd.ext e1
  exact ⟨_, h0, R, dx, _, rfl, r, rfl, _, h1, R, T, xs, toks, p, g, x, rfl, g5, rd.ext e1, hx, sx, fun H2 e2 => q H2 e2⟩
end
end K72
set_option maxHeartbeats 4000000
namespace K72
open PySem PySem.Spec PyProof.Rows L2 Evl My LamX
/-! rows of operators -/
/-- operators of the group g, each with an operand behind it -/
inductive Tl2 (g : Nat) (P : Par) (toks : List Tok3) : Nat → Nat → List Str → List PyData → Prop
  | nil {p : Nat} : Tl2 g P toks p p [] []
  | cons {p q p' a : Nat} {s : Str} {d : PyData} {ss : List Str} {ds : List PyData} : toks[p]? = some (("sign", .str s, a) : Tok3) → s ∈ GRS.getD g [] → P toks (p + 1) q d → Tl2 g P toks q p' ss ds → Tl2 g P toks p p' (s :: ss) (d :: ds)
def rowD (g : Nat) (d0 : PyData) (ss : List Str) (ds : List PyData) : PyData := match ss with
  | [] => d0
  | s :: r => .tuple [.str "row", .int (g : Int), .tuple (d0 :: ds), .tuple ((s :: r).map PyData.str)]
def RowOf (g : Nat) (P : Par) : Par := fun toks p p' d => ∃ (q : Nat) (d0 : PyData) (ss : List Str) (ds : List PyData) (x : Tok3), P toks p q d0 ∧ Tl2 g P toks q p' ss ds ∧ toks[p']? = some x ∧ Sc x.2.1 ∧ opB x g = false ∧ (g = 2 → ss.length ≤ 1) ∧ ss.length ≤ 100 ∧ d = rowD g d0 ss ds
def NlP (P : Par) : Prop := ∀ toks p p' d, P toks p p' d → noList d = true
theorem Tl2.nl {g : Nat} {P : Par} {toks : List Tok3} (hl : NlP P) {p p' : Nat} {ss : List Str} {ds : List PyData} (h : Tl2 g P toks p p' ss ds) : noLists ds = true := by
  induction h with
  | nil => rfl
  | cons _ _ hp _ ih =>
    show (noList _ && noLists _) = true
    rw [hl _ _ _ _ hp, ih]
    rfl
theorem Tl2.len {g : Nat} {P : Par} {toks : List Tok3} {p p' : Nat} {ss : List Str} {ds : List PyData} (h : Tl2 g P toks p p' ss ds) : ss.length = ds.length := by
  induction h with
  | nil => rfl
  | cons _ _ _ _ ih => rw [List.length_cons, List.length_cons, ih]
theorem nl_strs : ∀ ss : List Str, noLists (ss.map PyData.str) = true
  | [] => rfl
  | s :: ss => by
    show (true && noLists _) = true
    rw [nl_strs ss]
    rfl
theorem RowOf.nl {g : Nat} {P : Par} (hl : NlP P) : NlP (RowOf g P) := fun toks p p' d h => by
  obtain ⟨q, d0, ss, ds, x, hp, ht, _, _, _, _, _, rfl⟩ := h
  have n0 := hl _ _ _ _ hp
  cases ss with
  | nil => exact n0
  | cons s r =>
    show (true && (true && ((noList d0 && noLists ds) && (noLists ((s :: r).map PyData.str) && true)))) = true
    rw [n0, ht.nl hl, nl_strs]
    rfl
section
variable {K : PySem.W.Frag} {C R T L : Addr} {xs vs ys : List V} {toks : List Tok3} {p : Nat} {H H0 : Hp} {o : HO}
theorem Rdr.fresh (rd : Rdr C H R T xs toks p) (hL : H L = some (.lst vs)) (n : T ≠ L) : Rdr C (upd H L (.lst ys)) R T xs toks p := by
  obtain ⟨⟨dx, r⟩, t, k⟩ := rd
  refine ⟨⟨dx, ?_⟩, ?_, k.pres fun c zs hc => ?_⟩
  · rw [upd_ne (fun z => by rw [z, hL] at r; cases r)]
    exact r
  · rw [upd_ne n]
    exact t
  · rw [upd_ne (fun z => by rw [z, hL] at hc; cases hc)]
    exact hc
theorem But.fresh (b : But R H0 H) (n : H0 L = none) : But R H0 (L2.upd H L o) := fun a u na ha => by
  rw [upd_ne (ne_of_none ha n)]
  exact b a u na ha
end
theorem noList_mem : ∀ {ds : List PyData} {d : PyData}, noLists ds = true → d ∈ ds → noList d = true
  | x :: ds, d, h, m => by
    have h2 : (noList x && noLists ds) = true := h
    rw [Bool.and_eq_true] at h2
    rcases List.mem_cons.mp m with rfl | m
    · exact h2.1
    · exact noList_mem h2.2 m
theorem dec_pos {b : Bool} (h : b = true) : (!b) = false := by rw [h]; rfl
section
variable {P : Program} {w : World} {K : PySem.W.Frag} {mg : Str → Option Value} {base : Heap} {f C pG : Addr} {gs : List Addr} {fd : FuncData}
def NR : List Str := ["self", "group", "depth", "operands", "operators"]
theorem scRow : FnScope NR ["self", "group", "depth"] (defScope rRow) := ⟨rfl, rfl, rfl, by decide +kernel, rfl, by decide +kernel, by decide +kernel⟩
theorem ev_lenG {σ : L2.St} {H : Hp} (G : Gr K mg pG gs) : Ev (tCB (rLenS K) (tCons (tC (.ref pG)) tNil)) σ H (.int 5) := fun H1 e Q q => ⟨pG, _, rfl, .inr (G.t H1), by
  rw [List.length_map, G.n]
  exact q H1 (Ex.refl _)⟩
theorem ok_row5 {k : Nat} {dep : Int} {O : Par} (F : Fun K "row" "Reader.row" rRow f fd) (c : RdC K C) (G : Gr K mg pG gs) (OP : MD P w K mg base C "operand" ["self", "depth"] k (spPar K C [.int dep] O)) : FnOk P w K mg base CX0 (k + 1) f fd ["self", "group", "depth"] (spPar K C [.int 5, .int dep] O) := by
  refine F.ok scRow (fun vs H Q E h => ?_) (fun cdv A outer s H vs Q E hr h => ?_)
  · obtain ⟨R, T, xs, toks, p, p', d, rfl, _⟩ := h
    rfl
  · obtain ⟨R, T, xs, toks, p, p', d, rfl, rd, po, kQ⟩ := h
    have hrk : Room k _ := hr
    refine ⟨_, pss_cons (ps_if (pt_cmpR op_eq (pv 1) (pe_callB call_len_seq (by rfl) G.len PySem.boot_len (pa_cons (pe_glob (v := .ref pG) rfl G.g rfl) pa_nil)) (nomark _)) (pss_one (ps_ret (pe_md OP c.cl hrk (pv 0) (pa_cons (pv 2) pa_nil)))) pss_nil) pss_no, ?_⟩
    have t5 : Ev (tOp rEq (tVar 1) (tCB (rLenS K) (tCons (tC (.ref pG)) tNil))) ([some (.ref R), some (.int 5), some (.int dep), none, none] : L2.St) H (.bl true) := fun H1 e Q q => ⟨_, rfl, ev_lenG G H1 (Ex.refl _) _ fun H2 e2 => ⟨rfl, by
      rw [decide_eq_true rfl]
      exact q H2 e2⟩⟩
    refine q_when (b := true) (et_test t5) (fun _ H1 e1 => ?_) fun z => by cases z
    obtain ⟨⟨dx, r⟩, _⟩ := rd.ext e1
    exact ⟨_, rfl, R, dx, _, rfl, r, rfl, _, rfl, R, T, xs, toks, p, p', d, rfl, rd.ext e1, po, fun v H2 b2 rd2 g2 => kQ v H2 (But.left e1 b2) rd2 g2⟩
theorem ok_rowg {k g : Nat} {dep : Int} {O : Par} (g5 : g < 5) (F : Fun K "row" "Reader.row" rRow f fd) (c : RdC K C) (G : Gr K mg pG gs) (k1 : 1 ≤ k) (gt : mg "tuple" = none) (gc : ∃ u, mg "COMPARING" = some u ∧ RelV (.int 2) u) (HAS : MD P w K mg base C "has_operator" ["self", "group"] 1 (spHas C)) (RW : MD P w K mg base C "row" ["self", "group", "depth"] k (spPar K C [.int ((g + 1 : Nat) : Int), .int dep] O)) (hl : NlP O) :
    FnOk P w K mg base CX0 (k + 1) f fd ["self", "group", "depth"] (spPar K C [.int (g : Int), .int dep] (RowOf g O)) := by
  refine F.ok scRow (fun vs H Q E h => ?_) (fun cdv A outer s H vs Q E hr h => ?_)
  · obtain ⟨R, T, xs, toks, p, p', d, rfl, _⟩ := h
    rfl
  · obtain ⟨R, T, xs, toks, p, p', d, rfl, rd, ⟨q0, d0, fss, fds, xe, hp0, htl, hxe, sxe, nop, g2, l100, rfl⟩, kQ⟩ := h
    have hrk : Room k _ := hr
    have hr1 : Room 1 _ := hrk.mono k1
    refine ⟨_, pss_cons (ps_if (pt_cmpR op_eq (pv 1) (pe_callB call_len_seq (by rfl) G.len PySem.boot_len (pa_cons (pe_glob (v := .ref pG) rfl G.g rfl) pa_nil)) (nomark _)) pss_no pss_nil)
      (pss_cons (ps_set (i := 3) scRow.nd rfl (Or.inl rfl) (pe_lst (pa_cons (pe_md RW c.cl hrk (pv 0) (pa_cons (pe_op op_add (pv 1) pe_int) (pa_cons (pv 2) pa_nil))) pa_nil)))
      (pss_cons (ps_set (i := 4) scRow.nd rfl (Or.inl rfl) (pe_lst pa_nil))
      (pss_cons (ps_while PassesOwn.never (PW.pt (pw_and (pt_val (pe_md HAS c.cl hr1 (pv 0) (pa_cons (pv 1) pa_nil))) (pw_and1 (pt_not (PW.pt (pw_and (pt_cmpR op_eq (pv 1) (C8.pe_gc (v := .int 2) rfl gc) (nomark _)) (pw_and1 (pt_truth (pv 4) (fun _ => rfl)))))))))
        (pss_cons (ps_expr (pe_bm PySem.F.plainAttrs_list PySem.F.slot_list_append PySem.F.type_list_append mt_append (pv 4) (pa_cons (pe_ix ix_tup (pe_ix ix_list (pe_fld (pv 0) rfl) (pe_fld (pv 0) rfl) (fun _ _ => rfl)) pe_int (fun _ _ => rfl)) pa_nil)))
        (pss_cons (ps_fldaug (pv 0) pe_int in_add)
        (pss_one (ps_expr (pe_bm PySem.F.plainAttrs_list PySem.F.slot_list_append PySem.F.type_list_append mt_append (pv 3) (pa_cons (pe_md RW c.cl hrk (pv 0) (pa_cons (pe_op op_add (pv 1) pe_int) (pa_cons (pv 2) pa_nil))) pa_nil)))))))
      (pss_cons (ps_if (pt_not (pt_truth (pv 4) (fun _ => rfl))) (pss_one (ps_ret (pe_ix ix_list (pv 3) pe_int (fun _ _ => rfl)))) pss_nil)
      (pss_one (ps_ret (pe_tup (pa_cons pe_str (pa_cons (pv 1) (pa_cons (pe_callTy call_tuple_of (by rfl) gt (by decide +kernel) (pa_cons (pv 3) pa_nil)) (pa_cons (pe_callTy call_tuple_of (by rfl) gt (by decide +kernel) (pa_cons (pv 4) pa_nil)) pa_nil))))))))))), ?_⟩
    have t5 : Ev (tOp rEq (tVar 1) (tCB (rLenS K) (tCons (tC (.ref pG)) tNil))) ([some (.ref R), some (.int (g : Int)), some (.int dep), none, none] : L2.St) H (.bl false) := fun H1 e Q q => ⟨_, rfl, ev_lenG G H1 (Ex.refl _) _ fun H2 e2 => ⟨rfl, by
      rw [decide_eq_false (fun z => by
        have := V.int.inj z
        omega)]
      exact q H2 e2⟩⟩
    refine q_when (b := false) (et_test t5) (fun z => by cases z) fun _ H1 e1 => ?_
    obtain ⟨⟨dx, r⟩, _⟩ := rd.ext e1
    refine ⟨_, rfl, R, dx, _, rfl, r, rfl, evAdd (i := (g : Int)) (j := 1) (ev_var rfl) ev_c H1 (Ex.refl _) _ fun H2 e2 => ⟨_, rfl, R, T, xs, toks, p, q0, d0, rfl, rd.ext (e1.trans e2), hp0, fun v H3 b3 rd3 g3 => ⟨(show 1 ≤ sizeLine by decide), fun l nl => ?_⟩⟩⟩
    have b03 : But R H H3 := But.left (e1.trans e2) b3
    refine ⟨Nat.zero_le _, fun l2 nl2 => ?_⟩
    have e35 : Ex H3 (upd (upd H3 l (.lst [v])) l2 (.lst [])) := (Ex.new nl).trans (Ex.new nl2)
    have hl1 : (upd (upd H3 l (.lst [v])) l2 (.lst [])) l = some (.lst [v]) := (Ex.new nl2) _ _ upd_same
    have hl2 : (upd (upd H3 l (.lst [v])) l2 (.lst [])) l2 = some (.lst []) := upd_same
    have n12 : l ≠ l2 := fun z => by
      rw [← z, upd_same] at nl2
      cases nl2
    have nl2' : H3 l2 = none := fresh_back (Ex.new nl) nl2
    have rl : R ≠ l ∧ R ≠ l2 := by
      obtain ⟨⟨dx3, r3⟩, _⟩ := id rd3
      exact ⟨ne_of_none r3 nl, ne_of_none r3 nl2'⟩
    have tl : T ≠ l ∧ T ≠ l2 := ⟨ne_of_none rd3.t nl, ne_of_none rd3.t nl2'⟩
    have h0l : H l = none ∧ H l2 = none := ⟨but_none b03 nl (Ne.symm rl.1), but_none b03 nl2' (Ne.symm rl.2)⟩
    have b05 : But R H (upd (upd H3 l (.lst [v])) l2 (.lst [])) := b03.ex e35
    have rd5 := rd3.ext e35
    have g5' := Dd.ext e35 _ _ g3
    generalize upd (upd H3 l (.lst [v])) l2 (.lst []) = H5 at b05 rd5 g5' hl1 hl2 ⊢
    have nd0 := hl _ _ _ _ hp0
    refine q_while (fun m σ' H' => ∃ (p : Nat) (ss ss' : List Str) (ds ds' : List PyData) (vs : List V), σ' = [some (.ref R), some (.int (g : Int)), some (.int dep), some (.ref l), some (.ref l2)] ∧ But R H H' ∧ Rdr C H' R T xs toks p ∧ H' l = some (.lst vs) ∧ H' l2 = some (.lst (ss.map V.str)) ∧ Dds K H' vs (d0 :: ds) ∧ noLists (d0 :: ds) = true ∧ Tl2 g O toks p p' ss' ds' ∧ fss = ss ++ ss' ∧ fds = ds ++ ds' ∧ ss'.length = m) fss.length ⟨q0, [], fss, [], fds, [v], rfl, b05, rd5, hl1, hl2, .cons g5' .nil, by
      show (noList d0 && true) = true
      rw [nd0]
      rfl, htl, rfl, rfl, rfl⟩ ?_
    rintro m σ' H6 ⟨p6, ss, ss', ds, ds', vs, rfl, b6, rd6, hL6, hM6, gd6, nd6, tl6, efs, efd, hm⟩
    have tru : ∀ {H7 : Hp}, Ex H6 H7 → EvT (fun σ H Q => tVar 4 σ H fun x H' => ∃ k, TruV K x H' k ∧ Q k H') ([some (.ref R), some (.int (g : Int)), some (.int dep), some (.ref l), some (.ref l2)] : L2.St) H7 (!(ss.map V.str).isEmpty) := fun {H7} e7 H8 e8 Q q => ⟨_, rfl, _, .inl ⟨_, sq_of ((e7.trans e8) _ _ hM6), rfl⟩, q H8 (Ex.refl _)⟩
    cases tl6 with
    | nil =>
      refine ⟨false, et_is (et_and (a := opB xe g) (b := false) (et_B (ev_has rd6 g5 hxe sxe rfl rfl)) fun z => by rw [nop] at z; cases z) (by rw [nop]; rfl), fun z => (by cases z), fun _ H7 e7 => ?_⟩
      rw [List.append_nil] at efs efd
      subst efs efd
      refine q_when (b := !!(fss.map V.str).isEmpty) (et_not (tru e7)) (fun hb H8 e8 => ?_) (fun hb H8 e8 => ?_)
      · cases fss with
        | cons s r => cases hb
        | nil =>
          have z := htl.len
          cases fds with
          | cons y ys => cases z
          | nil =>
            cases gd6 with
            | cons ga gb =>
              cases gb
              rename_i y
              have e68 := e7.trans e8
              exact s_ret (v := y) (ev_op (ev_var rfl) ev_c (rv_ixL (i := 0) (sq_of (e68 _ _ hL6)) (atI_nat (j := 0) rfl))) fun H9 e9 => kQ y H9 (b6.ex (e68.trans e9)) (rd6.ext (e68.trans e9)) (Dd.ext (e68.trans e9) _ _ ga)
      · cases fss with
        | nil => cases hb
        | cons s r =>
          have e68 := e7.trans e8
          have tp : ∀ {i : Nat} {a : Addr} {ys : List V} {es : List PyData} {H9 : Hp}, Ex H6 H9 → ([some (.ref R), some (.int (g : Int)), some (.int dep), some (.ref l), some (.ref l2)] : L2.St)[i]? = some (some (.ref a)) → H6 a = some (.lst ys) → Dds K H6 ys es → EvD K (tCB (fun xs H Q => ∃ p ys, xs = [.ref p] ∧ ((SqL K H p ys ∧ ∀ l, H l = none → Q (.ref l) (upd H l (.tup ys))) ∨ (SqT K H p ys ∧ Q (.ref p) H))) (tCons (tVar i) tNil)) ([some (.ref R), some (.int (g : Int)), some (.int dep), some (.ref l), some (.ref l2)] : L2.St) H9 (.tuple es) := fun {i a ys es H9} e9 hi ha hg H10 e10 Q q =>
            ⟨_, hi, a, ys, rfl, .inl ⟨sq_of ((e9.trans e10) _ _ ha), fun t nt => q (.ref t) _ (Ex.new nt) (.tup (st_of upd_same) (Dds.ext ((e9.trans e10).trans (Ex.new nt)) _ _ hg))⟩⟩
          exact ed_tup (eds_cons (ed_str ev_c) (eds_cons (ed_int (ev_var rfl)) (eds_cons (tp (i := 3) e68 rfl hL6 gd6) (eds_cons (tp (i := 4) e68 rfl hM6 (Dds.strs _)) eds_nil)))) (show 4 ≤ 100000 by decide) H8 (Ex.refl _) _ fun v2 H10 e10 g10 => kQ v2 H10 (b6.ex (e68.trans e10)) (rd6.ext (e68.trans e10)) g10
    | cons hx hs hp ht =>
      rename_i q1 a1 s1 d1 ss1 ds1
      have isop : opB (("sign", .str s1, a1) : Tok3) g = true := by
        show (decide (("sign" : Str) = "sign") && inV (.str s1) ((GRS.getD g []).map V.str)) = true
        rw [decide_eq_true rfl, inV_strs, decide_eq_true hs]
        rfl
      have cmp : (decide (V.int (g : Int) = .int 2) && !(ss.map V.str).isEmpty) = false := by
        by_cases h2 : g = 2
        · have z := g2 h2
          rw [efs, List.length_append] at z
          simp only [List.length_cons] at z
          have z0 : ss = [] := List.eq_nil_of_length_eq_zero (by omega)
          rw [z0]
          simp
        · rw [decide_eq_false (fun z => h2 (by have := V.int.inj z; omega))]
          rfl
      refine ⟨true, et_is (et_and (a := true) (b := !(decide (V.int (g : Int) = .int 2) && !(ss.map V.str).isEmpty)) (et_is (et_B (ev_has rd6 g5 hx sc_s rfl rfl)) isop) fun _ => et_not (fun H7 e7 Q q => et_and (H := H7) (et_test (ev_op (ev_var rfl) ev_c (rv_eq rfl))) (fun _ => tru e7) H7 (Ex.refl _) Q q)) (by rw [cmp]; rfl), fun _ H7 e7 => ?_, fun z => (by cases z)⟩
      refine ⟨fun σ2 H2 => ∃ (p : Nat) (ss ss' : List Str) (ds ds' : List PyData) (vs : List V), σ2 = [some (.ref R), some (.int (g : Int)), some (.int dep), some (.ref l), some (.ref l2)] ∧ But R H H2 ∧ Rdr C H2 R T xs toks p ∧ H2 l = some (.lst vs) ∧ H2 l2 = some (.lst (ss.map V.str)) ∧ Dds K H2 vs (d0 :: ds) ∧ noLists (d0 :: ds) = true ∧ Tl2 g O toks p p' ss' ds' ∧ fss = ss ++ ss' ∧ fds = ds ++ ds' ∧ ss'.length = ss1.length, fun σ2 H2 w => ⟨ss1.length, by rw [← hm, List.length_cons]; exact Nat.lt_succ_self _, w⟩, ?_⟩
      have lss : ss.length ≤ 100 ∧ ds.length ≤ 100 := by
        have z1 := congrArg List.length efs
        have z2 := congrArg List.length efd
        rw [List.length_append] at z1 z2
        have z3 := htl.len
        omega
      have vl := gd6.len
      rw [List.length_cons] at vl
      have rd7 := rd6.ext e7
      have hM7 := e7 _ _ hM6
      obtain ⟨qa, hq, ev⟩ := ev_tok c rd7 hx
      have evs : Ev (tOp (rIxT K) (tOp (rIxL K) (tFld K (tVar 0) "tokens") (tFld K (tVar 0) "place")) (tC (.int 1))) ([some (.ref R), some (.int (g : Int)), some (.int dep), some (.ref l), some (.ref l2)] : L2.St) H7 (.str s1) := ev_op (ev rfl) ev_c (rv_ixT (i := 1) (st_of hq) (atI_nat (j := 1) rfl))
      refine ⟨_, rfl, .inl ⟨rfl, _, sq_of hM7⟩, evs H7 (Ex.refl _) _ fun H8 e8 => ?_⟩
      refine ⟨l2, _, _, rfl, rfl, e8 _ _ hM7, sz_lt (by rw [List.length_map]; omega), ?_⟩
      have e68 := e7.trans e8
      have rd8 : Rdr C (upd H8 l2 (.lst (ss.map V.str ++ [.str s1]))) R T xs toks p6 := (rd6.ext e68).fresh (e68 _ _ hM6) tl.2
      have b8 : But R H (upd H8 l2 (.lst (ss.map V.str ++ [.str s1]))) := (b6.ex e68).fresh h0l.2
      have hL8 : (upd H8 l2 (.lst (ss.map V.str ++ [.str s1]))) l = some (.lst vs) := by
        rw [upd_ne n12]
        exact e68 _ _ hL6
      have hM8 : (upd H8 l2 (.lst (ss.map V.str ++ [.str s1]))) l2 = some (.lst ((ss ++ [s1]).map V.str)) := by
        rw [upd_same, List.map_append]
        rfl
      have gd8 : Dds K (upd H8 l2 (.lst (ss.map V.str ++ [.str s1]))) vs (d0 :: ds) := Dds.upd (e68 _ _ hM6) _ _ nd6 (Dds.ext e68 _ _ gd6)
      show tSeq _ _ _ _ (upd H8 l2 (.lst (ss.map V.str ++ [.str s1])))
      generalize upd H8 l2 (.lst (ss.map V.str ++ [.str s1])) = G8 at rd8 b8 hL8 hM8 gd8 ⊢
      refine q_place (n := 1) c rd8 rfl ev_c rfl fun H9 b9 rd9 => ?_
      obtain ⟨⟨dx8, r8⟩, _⟩ := id rd8
      have hL9 := b9 _ _ (Ne.symm rl.1) hL8
      have hM9 := b9 _ _ (Ne.symm rl.2) hM8
      have gd9 : Dds K H9 vs (d0 :: ds) := dds_ins r8 b9 _ _ gd8
      obtain ⟨⟨dx9, r9⟩, _⟩ := id rd9
      refine ⟨_, rfl, .inl ⟨rfl, _, sq_of hL9⟩, _, rfl, R, dx9, _, rfl, r9, rfl, evAdd (i := (g : Int)) (j := 1) (ev_var rfl) ev_c H9 (Ex.refl _) _ fun H10 e10 => ⟨_, rfl, spPar.at (E := E0) (rd9.ext e10) hp fun v2 H11 b11 rd11 g11 => ?_⟩⟩
      have hL11 := b11 _ _ (Ne.symm rl.1) (e10 _ _ hL9)
      have hM11 := b11 _ _ (Ne.symm rl.2) (e10 _ _ hM9)
      have gd11 : Dds K H11 vs (d0 :: ds) := dds_ins (e10 _ _ r9) b11 _ _ (Dds.ext e10 _ _ gd9)
      refine ⟨l, vs, v2, rfl, rfl, hL11, sz_lt (by omega), ?_⟩
      have nd1 := hl _ _ _ _ hp
      refine ⟨q1, ss ++ [s1], ss1, ds ++ [d1], ds1, vs ++ [v2], rfl, ?_, rd11.fresh hL11 tl.1, upd_same, ?_, ?_, ?_, ht, by rw [efs, List.append_assoc]; rfl, by rw [efd, List.append_assoc]; rfl, rfl⟩
      · exact ((b8.trans b9).trans (But.left e10 b11)).fresh h0l.1
      · rw [upd_ne (Ne.symm n12)]
        exact hM11
      · exact Dds.app (Dds.upd hL11 _ _ nd6 gd11) (.cons (Dd.upd hL11 _ _ nd1 g11) .nil)
      · have nds : (noList d0 && noLists ds) = true := nd6
        rw [Bool.and_eq_true] at nds
        show (noList d0 && noLists (ds ++ [d1])) = true
        rw [nds.1, noLists_of fun y my => ?_]
        · rfl
        · rcases List.mem_append.mp my with m | m
          · exact noList_mem nds.2 m
          · rw [List.mem_singleton.mp m]
            exact nd1
end
end K72
set_option maxHeartbeats 4000000
namespace K72
open PySem PySem.Spec PyProof.Rows L2 Evl My LamX
/-! expressions, calls, operands -/
/-- , and what E reads, again and again -/
inductive ArgT (E : Par) (toks : List Tok3) : Nat → Nat → List PyData → Prop
  | nil {p : Nat} : ArgT E toks p p []
  | cons {p q p' a : Nat} {d : PyData} {ds : List PyData} : toks[p]? = some (("sign", .str ",", a) : Tok3) → E toks (p + 1) q d → ArgT E toks q p' ds → ArgT E toks p p' (d :: ds)
def ARGN : List (Str × Nat) := [("node", 1), ("kids", 1), ("text", 1), ("kind", 1), ("level", 1), ("inner", 1), ("holder", 1), ("find", 1), ("size", 1), ("item", 2), ("written", 1), ("not", 1), ("insert", 4), ("pocket", 4), ("change", 2), ("move", 3), ("copy", 3), ("delete", 1)]
def CallR (E : Par) (s : Str) : Par := fun toks p p' d => ∃ (q r a b : Nat) (x : Tok3) (d0 : PyData) (ds : List PyData), p' = r + 1 ∧ toks[p]? = some (("sign", .str "(", a) : Tok3) ∧ toks[p + 1]? = some x ∧ Sc x.2.1 ∧ isB x ")" = false ∧ E toks (p + 1) q d0 ∧ ArgT E toks q r ds ∧ toks[r]? = some (("sign", .str ")", b) : Tok3) ∧ (s, ds.length + 1) ∈ ARGN ∧ d = .tuple [.str "call", .str s, .tuple (d0 :: ds)]
structure Ar (K : PySem.W.Frag) (w : World) (mg : Str → Option Value) (pA : Addr) (es : Array DictEntry) (n : Nat) : Prop where
  g : mg "ARGUMENTS" = some (.ref pA)
  d : KDict K w pA es n
  at_ : ∀ z m, (z, m) ∈ ARGN → ∃ (u : Addr) (ys : List V), PySem.W.nsIn K pA z = some (some (.ref u)) ∧ (∀ H, SqT K H u ys) ∧ ys.length = m
inductive OpdR (E : Par) (toks : List Tok3) : Nat → Nat → PyData → Prop
  | num {p a : Nat} {i : Int} : toks[p]? = some (("number", .int i, a) : Tok3) → OpdR E toks p (p + 1) (.tuple [.str "number", .int i])
  | txt {p a : Nat} {s : Str} : toks[p]? = some (("text", .str s, a) : Tok3) → OpdR E toks p (p + 1) (.tuple [.str "text", .str s])
  | var {p a : Nat} {s : Str} {x : Tok3} : toks[p]? = some (("word", .str s, a) : Tok3) → toks[p + 1]? = some x → Sc x.2.1 → isB x "(" = false → OpdR E toks p (p + 1) (.tuple [.str "variable", .str s])
  | par {p q a b : Nat} {d : PyData} : toks[p]? = some (("sign", .str "(", a) : Tok3) → E toks (p + 1) q d → toks[q]? = some (("sign", .str ")", b) : Tok3) → OpdR E toks p (q + 1) d
  | call {p q a : Nat} {s : Str} {d : PyData} : toks[p]? = some (("word", .str s, a) : Tok3) → CallR E s toks (p + 1) q d → OpdR E toks p q d
theorem ArgT.nl {E : Par} (hl : NlP E) {toks : List Tok3} {p p' : Nat} {ds : List PyData} (h : ArgT E toks p p' ds) : noLists ds = true := by
  induction h with
  | nil => rfl
  | cons _ hp _ ih =>
    show (noList _ && noLists _) = true
    rw [hl _ _ _ _ hp, ih]
    rfl
theorem CallR.nl {E : Par} {s : Str} (hl : NlP E) : NlP (CallR E s) := fun toks p p' d h => by
  obtain ⟨q, r, a, b, x, d0, ds, _, _, _, _, _, h0, ht, _, _, rfl⟩ := h
  show (true && (true && ((noList d0 && noLists ds) && true))) = true
  rw [hl _ _ _ _ h0, ht.nl hl]
  rfl
theorem OpdR.nl {E : Par} (hl : NlP E) : NlP (OpdR E) := fun toks p p' d h => by
  cases h with
  | num _ => rfl
  | txt _ => rfl
  | var _ _ _ _ => rfl
  | par _ h _ => exact hl _ _ _ _ h
  | call _ h => exact CallR.nl hl _ _ _ _ h
theorem isB_no {k : Str} {v : V} {a : Nat} {s : Str} (h : k ∈ kinds3) : isB ((k, v, a) : Tok3) s = false := by
  show (decide (k = "sign") && _) = false
  rw [k3_sign h, Bool.false_and]
theorem isB_sg {s z : Str} {a : Nat} : isB (("sign", .str z, a) : Tok3) s = decide (z = s) := by
  show (decide (("sign" : Str) = "sign") && decide (V.str z = V.str s)) = _
  rw [decide_eq_true rfl, dec_str, Bool.true_and]
section
variable {P : Program} {w : World} {K : PySem.W.Frag} {mg : Str → Option Value} {base : Heap} {f C pA : Addr} {fd : FuncData} {es : Array DictEntry} {nn : Nat}
theorem scExp : FnScope ["self", "depth"] ["self", "depth"] (defScope rExp) := ⟨rfl, rfl, rfl, by decide +kernel, rfl, by decide +kernel, by decide +kernel⟩
theorem ok_exp {k : Nat} {dep : Int} {O : Par} (F : Fun K "expression" "Reader.expression" rExp f fd) (c : RdC K C) (RW : MD P w K mg base C "row" ["self", "group", "depth"] k (spPar K C [.int ((0 : Nat) : Int), .int dep] O)) : FnOk P w K mg base CX0 (k + 1) f fd ["self", "depth"] (spPar K C [.int dep] O) := by
  refine F.ok scExp (fun vs H Q E h => ?_) (fun cdv A outer s H vs Q E hr h => ?_)
  · obtain ⟨R, T, xs, toks, p, p', d, rfl, _⟩ := h
    rfl
  · obtain ⟨R, T, xs, toks, p, p', d, rfl, rd, po, kQ⟩ := h
    have hrk : Room k _ := hr
    refine ⟨_, pss_one (ps_ret (pe_md RW c.cl hrk (pv 0) (pa_cons pe_int (pa_cons (pv 1) pa_nil)))), ?_⟩
    obtain ⟨⟨dx, r⟩, _⟩ := id rd
    exact ⟨_, rfl, R, dx, _, rfl, r, rfl, _, rfl, spPar.at (E := E0) rd po kQ⟩
def spStep (C : Addr) (dep : Int) : Sp := fun vs H Q _ => ∃ (R T : Addr) (xs : List V) (toks : List Tok3) (p a : Nat), vs = [.ref R, .int dep] ∧ Rdr C H R T xs toks p ∧ toks[p]? = some (("sign", .str "(", a) : Tok3) ∧ ∀ H', But R H H' → Rdr C H' R T xs toks (p + 1) → Q .non H'
theorem scStep : FnScope ["self", "depth"] ["self", "depth"] (defScope rStep) := ⟨rfl, rfl, rfl, by decide +kernel, rfl, by decide +kernel, by decide +kernel⟩
theorem ok_step {dep : Int} (hd : dep ≤ 12) (F : Fun K "step_in" "Reader.step_in" rStep f fd) (c : RdC K C) (gN : ∃ u, mg "MOST_NESTED" = some u ∧ RelV (.int 12) u) (TK : MD P w K mg base C "take" ["self", "sign"] 2 (spTake C)) : FnOk P w K mg base CX0 3 f fd ["self", "depth"] (spStep C dep) := by
  refine F.ok scStep (fun vs H Q E h => ?_) (fun cdv A outer s H vs Q E hr h => ?_)
  · obtain ⟨R, T, xs, toks, p, a, rfl, _⟩ := h
    rfl
  · obtain ⟨R, T, xs, toks, p, a, rfl, rd, hx, kQ⟩ := h
    have hr2 : Room 2 _ := hr
    refine ⟨_, pss_cons (ps_expr (pe_md TK c.cl hr2 (pv 0) (pa_cons pe_str pa_nil))) (pss_one (ps_if (pt_cmpR op_gt (pv 1) (C8.pe_gc (v := .int 12) rfl gN) (nomark _)) pss_no pss_nil)), ?_⟩
    obtain ⟨⟨dx, r⟩, _⟩ := id rd
    refine ⟨_, rfl, R, dx, _, rfl, r, rfl, R, T, xs, toks, p, a, "(", rfl, rd, hx, fun H1 b1 rd1 => ?_⟩
    exact s_when (b := false) (et_is (etGt (i := dep) (j := 12) (ev_var rfl) ev_c) (decide_eq_false (by omega))) (fun z => by cases z) fun _ H2 e2 => kQ H2 (b1.ex e2) (rd1.ext e2)
def NC : List Str := ["self", "word", "at", "depth", "arguments"]
theorem scCall : FnScope NC ["self", "word", "at", "depth"] (defScope rCall) := ⟨rfl, rfl, rfl, by decide +kernel, rfl, by decide +kernel, by decide +kernel⟩
theorem ok_call {k : Nat} {dep at_ : Int} {s : Str} {O : Par} (k3 : 3 ≤ k) (F : Fun K "call" "Reader.call" rCall f fd) (c : RdC K C) (A0 : Ar K w mg pA es nn) (gl : mg "len" = none) (gt : mg "tuple" = none) (IS : MD P w K mg base C "is_next" ["self", "sign"] 1 (spIs C)) (TK : MD P w K mg base C "take" ["self", "sign"] 2 (spTake C)) (ST : MD P w K mg base C "step_in" ["self", "depth"] 3 (spStep C dep))
    (EX : MD P w K mg base C "expression" ["self", "depth"] k (spPar K C [.int dep] O)) (hl : NlP O) : FnOk P w K mg base CX0 (k + 1) f fd ["self", "word", "at", "depth"] (spPar K C [.str s, .int at_, .int dep] (CallR O s)) := by
  refine F.ok scCall (fun vs H Q E h => ?_) (fun cdv A outer s0 H vs Q E hr h => ?_)
  · obtain ⟨R, T, xs, toks, p, p', d, rfl, _⟩ := h
    rfl
  · obtain ⟨R, T, xs, toks, p, p', d, rfl, rd, ⟨q0, rr, a, b, x0, d0, fds, rfl, hx1, hx0, sx0, nx0, h0, htl, hx2, har, rfl⟩, kQ⟩ := h
    have hrk : Room k _ := hr
    have hr3 : Room 3 _ := hrk.mono k3
    have hr2 : Room 2 _ := hr3.mono (by decide)
    have hr1 : Room 1 _ := hr3.mono (by decide)
    refine ⟨_, pss_cons (ps_expr (pe_md ST c.cl hr3 (pv 0) (pa_cons (pv 3) pa_nil)))
      (pss_cons (ps_set (i := 4) scCall.nd rfl (Or.inl rfl) (pe_lst pa_nil))
      (pss_cons (ps_if (pt_not (pt_val (pe_md IS c.cl hr1 (pv 0) (pa_cons pe_str pa_nil))))
        (pss_cons (ps_expr (pe_bm PySem.F.plainAttrs_list PySem.F.slot_list_append PySem.F.type_list_append mt_append (pv 4) (pa_cons (pe_md EX c.cl hrk (pv 0) (pa_cons (pv 3) pa_nil)) pa_nil)))
        (pss_one (ps_while PassesOwn.never (pt_val (pe_md IS c.cl hr1 (pv 0) (pa_cons pe_str pa_nil)))
          (pss_cons (ps_expr (pe_md TK c.cl hr2 (pv 0) (pa_cons pe_str pa_nil))) (pss_one (ps_expr (pe_bm PySem.F.plainAttrs_list PySem.F.slot_list_append PySem.F.type_list_append mt_append (pv 4) (pa_cons (pe_md EX c.cl hrk (pv 0) (pa_cons (pv 3) pa_nil)) pa_nil)))))))) pss_nil)
      (pss_cons (ps_expr (pe_md TK c.cl hr2 (pv 0) (pa_cons pe_str pa_nil)))
      (pss_cons (ps_if (PW.pt (pw_or (pt_cmpR (op_notIn_kd A0.d) (pv 1) (pe_glob (v := .ref pA) rfl A0.g rfl) rfl) (pw_or1 (pt_cmpR op_ne (pe_callB call_len_seq (by rfl) gl PySem.boot_len (pa_cons (pv 4) pa_nil)) (pe_callB call_len_seq (by rfl) gl PySem.boot_len (pa_cons (pe_ix ix_kdict (pe_glob (v := .ref pA) rfl A0.g rfl) (pv 1) (fun _ _ => rfl)) pa_nil)) (nomark _))))) pss_no pss_nil)
      (pss_one (ps_ret (pe_tup (pa_cons pe_str (pa_cons (pv 1) (pa_cons (pe_callTy call_tuple_of (by rfl) gt (by decide +kernel) (pa_cons (pv 4) pa_nil)) pa_nil)))))))))), ?_⟩
    obtain ⟨⟨dx, r⟩, _⟩ := id rd
    refine ⟨_, rfl, R, dx, _, rfl, r, rfl, _, rfl, R, T, xs, toks, p, a, rfl, rd, hx1, fun H1 b1 rd1 => ?_⟩
    refine ⟨Nat.zero_le _, fun L nL => ?_⟩
    obtain ⟨⟨dx1, r1⟩, _⟩ := id rd1
    have RL : R ≠ L := ne_of_none r1 nL
    have TL : T ≠ L := ne_of_none rd1.t nL
    have nL0 : H L = none := but_none b1 nL (Ne.symm RL)
    have b2 : But R H (upd H1 L (.lst [])) := b1.ex (Ex.new nL)
    have rd2 := rd1.ext (Ex.new (o := .lst []) nL)
    have hL2 : (upd H1 L (.lst [])) L = some (.lst []) := upd_same
    generalize upd H1 L (.lst []) = H2 at b2 rd2 hL2 ⊢
    refine q_when (b := !false) (et_not (et_is (et_B (ev_isn (s := ")") rd2 hx0 sx0 rfl (ea_cons ev_c ea_nil))) nx0)) (fun _ H3 e3 => ?_) fun z => by cases z
    have rd3 := rd2.ext e3
    obtain ⟨⟨dx3, r3⟩, _⟩ := id rd3
    refine ⟨_, rfl, .inl ⟨rfl, _, sq_of (e3 _ _ hL2)⟩, _, rfl, R, dx3, _, rfl, r3, rfl, _, rfl, spPar.at (E := E0) rd3 h0 fun v H4 b4 rd4 g4 => ?_⟩
    have hL4 : H4 L = some (.lst []) := b4 _ _ (Ne.symm RL) (e3 _ _ hL2)
    refine ⟨L, [], v, rfl, rfl, hL4, sz_lt (by decide), ?_⟩
    have nd0 := hl _ _ _ _ h0
    have b5 : But R H (upd H4 L (.lst ([] ++ [v]))) := ((b2.ex e3).trans b4).fresh nL0
    have rd5 : Rdr C (upd H4 L (.lst ([] ++ [v]))) R T xs toks q0 := rd4.fresh hL4 TL
    have g5 : Dd K (upd H4 L (.lst ([] ++ [v]))) v d0 := Dd.upd hL4 _ _ nd0 g4
    have hL5 : (upd H4 L (.lst ([] ++ [v]))) L = some (.lst [v]) := upd_same
    generalize upd H4 L (.lst ([] ++ [v])) = H5 at b5 rd5 g5 hL5 ⊢
    have len0 : ∀ {m : Nat}, (s, m) ∈ ARGN → m ≤ 4 := fun {m} hm => (by decide +kernel : ∀ y ∈ ARGN, y.2 ≤ 4) _ hm
    refine s_while (fun m σ' H' => ∃ (p : Nat) (ds ds' : List PyData) (vs : List V), σ' = [some (.ref R), some (.str s), some (.int at_), some (.int dep), some (.ref L)] ∧ But R H H' ∧ Rdr C H' R T xs toks p ∧ H' L = some (.lst vs) ∧ Dds K H' vs (d0 :: ds) ∧ noLists (d0 :: ds) = true ∧ ArgT O toks p rr ds' ∧ fds = ds ++ ds' ∧ ds'.length = m) fds.length ⟨q0, [], fds, [v], rfl, b5, rd5, hL5, .cons g5 .nil, by
      show (noList d0 && true) = true
      rw [nd0]
      rfl, htl, rfl, rfl⟩ ?_
    rintro m σ' H6 ⟨p6, ds, ds', vs, rfl, b6, rd6, hL6, gd6, nd6, tl6, efd, hm⟩
    have vl := gd6.len
    rw [List.length_cons] at vl
    have lds : ds.length ≤ 4 := by
      have z1 := congrArg List.length efd
      rw [List.length_append] at z1
      have z2 := len0 har
      omega
    cases tl6 with
    | nil =>
      refine ⟨false, et_is (et_B (ev_isn (s := ",") rd6 hx2 sc_s rfl (ea_cons ev_c ea_nil))) ?_, fun z => (by cases z), fun _ H7 e7 => ?_⟩
      · show (decide (("sign" : Str) = "sign") && decide (V.str ")" = V.str ",")) = false
        rw [decide_eq_false (show ¬ V.str ")" = V.str "," from fun z => absurd (V.str.inj z) (by decide +kernel)), Bool.and_false]
      rw [List.append_nil] at efd
      subst efd
      have rd7 := rd6.ext e7
      obtain ⟨⟨dx7, r7⟩, _⟩ := id rd7
      refine ⟨_, rfl, R, dx7, _, rfl, r7, rfl, R, T, xs, toks, rr, b, ")", rfl, rd7, hx2, fun H8 b8 rd8 => ?_⟩
      have hL8 : H8 L = some (.lst vs) := b8 _ _ (Ne.symm RL) (e7 _ _ hL6)
      have g8 : Dds K H8 vs (d0 :: fds) := dds_ins r7 b8 _ _ (Dds.ext e7 _ _ gd6)
      have b08 : But R H H8 := (b6.ex e7).trans b8
      obtain ⟨u, ys, hu, hy, yl⟩ := A0.at_ s _ har
      have t1 : Ev (tOp (fun x y H Q => ∃ (z : Str) (r : Option Value), x = .str z ∧ y = .ref pA ∧ PySem.W.nsIn K pA z = some r ∧ Q (.bl (!r.isSome)) H) (tVar 1) (tC (.ref pA))) ([some (.ref R), some (.str s), some (.int at_), some (.int dep), some (.ref L)] : L2.St) H8 (.bl false) := fun H9 e9 Q q => ⟨_, rfl, s, _, rfl, rfl, hu, q H9 (Ex.refl _)⟩
      have ixE : ∀ {H9 : Hp}, Ev (tOp (rIxD K w) (tC (.ref pA)) (tVar 1)) ([some (.ref R), some (.str s), some (.int at_), some (.int dep), some (.ref L)] : L2.St) H9 (.ref u) := fun H10 e10 Q q => ⟨_, rfl, pA, s, .ref u, rfl, rfl, ⟨es, nn, .ref u, A0.d.at_, A0.d.lit, hu, rfl⟩, q H10 (Ex.refl _)⟩
      have t2 : Ev (tOp rNe (tCB (rLenS K) (tCons (tVar 4) tNil)) (tCB (rLenS K) (tCons (tOp (rIxD K w) (tC (.ref pA)) (tVar 1)) tNil))) ([some (.ref R), some (.str s), some (.int at_), some (.int dep), some (.ref L)] : L2.St) H8 (.bl (!decide (V.int (vs.length : Int) = V.int (ys.length : Int)))) :=
        ev_op (x := .int (vs.length : Int)) (y := .int (ys.length : Int)) (ev_len (ev_var rfl) (sq_of hL8)) (fun H9 e9 Q q => ixE H9 (Ex.refl _) _ fun H10 e10 => ⟨u, ys, rfl, .inr (hy H10), q H10 e10⟩) (rv_ne rfl)
      refine q_when (b := false) (et_is (et_or (a := false) (b := !decide (V.int (vs.length : Int) = V.int (ys.length : Int))) (et_test t1) fun _ => et_test t2) (by rw [vl, yl, decide_eq_true rfl]; rfl)) (fun z => by cases z) fun _ H9 e9 => ?_
      have tp : EvD K (tCB (fun xs H Q => ∃ p ys, xs = [.ref p] ∧ ((SqL K H p ys ∧ ∀ l, H l = none → Q (.ref l) (upd H l (.tup ys))) ∨ (SqT K H p ys ∧ Q (.ref p) H))) (tCons (tVar 4) tNil)) ([some (.ref R), some (.str s), some (.int at_), some (.int dep), some (.ref L)] : L2.St) H9 (.tuple (d0 :: fds)) := fun H10 e10 Q q =>
        ⟨_, rfl, L, vs, rfl, .inl ⟨sq_of ((e9.trans e10) _ _ hL8), fun l nl => q (.ref l) _ (Ex.new nl) (.tup (st_of upd_same) (Dds.ext ((e9.trans e10).trans (Ex.new nl)) _ _ g8))⟩⟩
      exact ed_tup (eds_cons (ed_str ev_c) (eds_cons (ed_str (ev_var rfl)) (eds_cons tp eds_nil))) (show 3 ≤ 100000 by decide) H9 (Ex.refl _) _ fun v2 H10 e10 g10 => kQ v2 H10 (b08.ex (e9.trans e10)) (rd8.ext (e9.trans e10)) g10
    | cons hx hp ht =>
      rename_i q1 a1 d1 ds1
      refine ⟨true, et_is (et_B (ev_isn (s := ",") rd6 hx sc_s rfl (ea_cons ev_c ea_nil))) (by
        show (decide (("sign" : Str) = "sign") && decide (V.str "," = V.str ",")) = true
        rw [decide_eq_true rfl, decide_eq_true rfl]
        rfl), fun _ H7 e7 => ?_, fun z => (by cases z)⟩
      refine ⟨fun σ2 H2 => ∃ (p : Nat) (ds ds' : List PyData) (vs : List V), σ2 = [some (.ref R), some (.str s), some (.int at_), some (.int dep), some (.ref L)] ∧ But R H H2 ∧ Rdr C H2 R T xs toks p ∧ H2 L = some (.lst vs) ∧ Dds K H2 vs (d0 :: ds) ∧ noLists (d0 :: ds) = true ∧ ArgT O toks p rr ds' ∧ fds = ds ++ ds' ∧ ds'.length = ds1.length, fun σ2 H2 w => ⟨ds1.length, by rw [← hm, List.length_cons]; exact Nat.lt_succ_self _, w⟩, ?_⟩
      have rd7 := rd6.ext e7
      obtain ⟨⟨dx7, r7⟩, _⟩ := id rd7
      refine ⟨_, rfl, R, dx7, _, rfl, r7, rfl, R, T, xs, toks, p6, a1, ",", rfl, rd7, hx, fun H8 b8 rd8 => ?_⟩
      have hL8 := b8 _ _ (Ne.symm RL) (e7 _ _ hL6)
      have gd8 : Dds K H8 vs (d0 :: ds) := dds_ins r7 b8 _ _ (Dds.ext e7 _ _ gd6)
      obtain ⟨⟨dx8, r8⟩, _⟩ := id rd8
      refine ⟨_, rfl, .inl ⟨rfl, _, sq_of hL8⟩, _, rfl, R, dx8, _, rfl, r8, rfl, _, rfl, spPar.at (E := E0) rd8 hp fun v2 H9 b9 rd9 g9 => ?_⟩
      have hL9 := b9 _ _ (Ne.symm RL) hL8
      have gd9 : Dds K H9 vs (d0 :: ds) := dds_ins r8 b9 _ _ gd8
      refine ⟨L, vs, v2, rfl, rfl, hL9, sz_lt (by omega), ?_⟩
      have nd1 := hl _ _ _ _ hp
      refine ⟨q1, ds ++ [d1], ds1, vs ++ [v2], rfl, (((b6.ex e7).trans b8).trans b9).fresh nL0, rd9.fresh hL9 TL, upd_same, ?_, ?_, ht, by rw [efd, List.append_assoc]; rfl, rfl⟩
      · exact Dds.app (Dds.upd hL9 _ _ nd6 gd9) (.cons (Dd.upd hL9 _ _ nd1 g9) .nil)
      · have nds : (noList d0 && noLists ds) = true := nd6
        rw [Bool.and_eq_true] at nds
        show (noList d0 && noLists (ds ++ [d1])) = true
        rw [nds.1, noLists_of fun y my => ?_]
        · rfl
        · rcases List.mem_append.mp my with m | m
          · exact noList_mem nds.2 m
          · rw [List.mem_singleton.mp m]
            exact nd1
def spCallA (K : PySem.W.Frag) (C : Addr) (dep : Int) (O : Par) : Sp := fun vs H Q E => ∃ (s : Str) (a : Int), spPar K C [.str s, .int a, .int dep] (CallR O s) vs H Q E
theorem callA {CX : CXT} {k : Nat} {ps : List Str} {dep : Int} {O : Par} (h : ∀ s a, FnOk P w K mg base CX k f fd ps (spPar K C [.str s, .int a, .int dep] (CallR O s))) : FnOk P w K mg base CX k f fd ps (spCallA K C dep O) :=
  ⟨fun vs H Q E ⟨s, a, x⟩ => (h s a).len vs H Q E x, fun A outer sh H args us vs Q E hr e b r ⟨s, a, x⟩ => (h s a).run A outer sh H args us vs Q E hr e b r x⟩
def NO : List Str := ["self", "depth", "sort", "value", "at", "expression"]
theorem scOpd : FnScope NO ["self", "depth"] (defScope rOpd) := ⟨rfl, rfl, rfl, by decide +kernel, rfl, by decide +kernel, by decide +kernel⟩
theorem ok_opd {k : Nat} {dep : Int} {O : Par} (k3 : 3 ≤ k) (F : Fun K "operand" "Reader.operand" rOpd f fd) (c : RdC K C) (IS : MD P w K mg base C "is_next" ["self", "sign"] 1 (spIs C)) (TK : MD P w K mg base C "take" ["self", "sign"] 2 (spTake C)) (ST : MD P w K mg base C "step_in" ["self", "depth"] 3 (spStep C (dep + 1)))
    (EX : MD P w K mg base C "expression" ["self", "depth"] k (spPar K C [.int (dep + 1)] O)) (CA : MD P w K mg base C "call" ["self", "word", "at", "depth"] (k + 1) (spCallA K C (dep + 1) O)) : FnOk P w K mg base CX0 (k + 2) f fd ["self", "depth"] (spPar K C [.int dep] (OpdR O)) := by
  refine F.ok scOpd (fun vs H Q E h => ?_) (fun cdv A outer s H vs Q E hr h => ?_)
  · obtain ⟨R, T, xs, toks, p, p', d, rfl, _⟩ := h
    rfl
  · obtain ⟨R, T, xs, toks, p, p', d, rfl, rd, po, kQ⟩ := h
    have hrk1 : Room (k + 1) _ := hr
    have hrk : Room k _ := hrk1.mono (by omega)
    have hr3 : Room 3 _ := hrk.mono k3
    have hr2 : Room 2 _ := hr3.mono (by decide)
    have hr1 : Room 1 _ := hr3.mono (by decide)
    refine ⟨_, pss_cons (ps_asg (pe_ix ix_list (pe_fld (pv 0) rfl) (pe_fld (pv 0) rfl) (fun _ _ => rfl)) (pg_tup rfl (pgs_cons (pg_name (i := 2) scOpd.nd rfl (Or.inl rfl)) (pgs_cons (pg_name (i := 3) scOpd.nd rfl (Or.inl rfl)) (pgs_cons (pg_name (i := 4) scOpd.nd rfl (Or.inl rfl)) pgs_nil)))))
      (pss_cons (ps_if (pt_val (pe_md IS c.cl hr1 (pv 0) (pa_cons pe_str pa_nil)))
        (pss_cons (ps_expr (pe_md ST c.cl hr3 (pv 0) (pa_cons (pe_op op_add (pv 1) pe_int) pa_nil)))
        (pss_cons (ps_set (i := 5) scOpd.nd rfl (Or.inl rfl) (pe_md EX c.cl hrk (pv 0) (pa_cons (pe_op op_add (pv 1) pe_int) pa_nil)))
        (pss_cons (ps_expr (pe_md TK c.cl hr2 (pv 0) (pa_cons pe_str pa_nil)))
        (pss_one (ps_ret (pv 5)))))) pss_nil)
      (pss_cons (ps_if (pt_cmpR op_notIn_seq (pv 2) (pe_tup (pa_cons pe_str (pa_cons pe_str (pa_cons pe_str pa_nil)))) rfl) pss_no pss_nil)
      (pss_cons (ps_fldaug (pv 0) pe_int in_add)
      (pss_cons (ps_if (pt_cmpR op_ne (pv 2) pe_str (nomark _)) (pss_one (ps_ret (pe_tup (pa_cons (pv 2) (pa_cons (pv 3) pa_nil))))) pss_nil)
      (pss_cons (ps_if (pt_val (pe_md IS c.cl hr1 (pv 0) (pa_cons pe_str pa_nil))) (pss_one (ps_ret (pe_md CA c.cl hrk1 (pv 0) (pa_cons (pv 3) (pa_cons (pv 4) (pa_cons (pe_op op_add (pv 1) pe_int) pa_nil)))))) pss_nil)
      (pss_one (ps_ret (pe_tup (pa_cons pe_str (pa_cons (pv 3) pa_nil)))))))))), ?_⟩
    -- a number, a text or a word
    have go : ∀ {x : Tok3} {tz : TS} {D : Ends}, toks[p]? = some x → x.1 ∈ kinds3 → Sc x.2.1 → (∀ H4, But R H H4 → Rdr C H4 R T xs toks (p + 1) → tz D ([some (.ref R), some (.int dep), some (.str x.1), some x.2.1, some (.int (x.2.2 : Int)), none] : L2.St) H4) → ∀ {tu tw : TS},
        tSeq (tAsg (tOp (rIxL K) (tFld K (tVar 0) "tokens") (tFld K (tVar 0) "place")) (gTup K 3 (gCons (gName 2) (gCons (gName 3) (gCons (gName 4) gNil))))) (tSeq (tIfS (tB (tMeth C "is_next" (spIs C) [] E0 (tVar 0) (tCons (tC (.str "(")) tNil))) tu tNext) (tSeq (tIfS (tTest (tOp (rIn K true) (tVar 2) (tTup (tCons (tC (.str "number")) (tCons (tC (.str "text")) (tCons (tC (.str "word")) tNil)))))) tw tNext) (tSeq (sFldAug K (tVar 0) (tC (.int 1)) rAdd "place") tz))) D ([some (.ref R), some (.int dep), none, none, none, none] : L2.St) H := fun {x tz D} hx mk sx kk tu tw => by
      refine q_tok c rd hx rfl fun q hq H1 e1 => ?_
      refine q_when (b := false) (et_is (et_B (ev_isn (rd.ext e1) hx sx rfl (ea_cons ev_c ea_nil))) (by rw [k3_sign mk, Bool.false_and])) (fun z => by cases z) fun _ H2 e2 => ?_
      refine q_when (b := false) (et_test (ev_notin rfl mk)) (fun z => by cases z) fun _ H3 e3 => ?_
      have e03 := (e1.trans e2).trans e3
      exact q_place (n := 1) c (rd.ext e03) rfl ev_c rfl fun H4 b4 rd4 => kk H4 (But.left e03 b4) rd4
    cases po with
    | num hx =>
      refine go hx (show ("number" : Str) ∈ kinds3 by decide +kernel) sc_i fun H4 b4 rd4 => ?_
      refine q_when (b := true) (et_is (et_test (ev_op (ev_var rfl) ev_c (rv_ne rfl))) (by rw [decide_eq_false (fun z => absurd (V.str.inj z) (show ¬ ("number" : Str) = "word" by decide +kernel))]; rfl)) (fun _ H5 e5 => ?_) fun z => by cases z
      exact s_two (ed_str (ev_var rfl)) (ed_int (ev_var rfl)) fun v H6 e6 g6 => kQ v H6 (b4.ex (e5.trans e6)) (rd4.ext (e5.trans e6)) g6
    | txt hx =>
      refine go hx (show ("text" : Str) ∈ kinds3 by decide +kernel) sc_s fun H4 b4 rd4 => ?_
      refine q_when (b := true) (et_is (et_test (ev_op (ev_var rfl) ev_c (rv_ne rfl))) (by rw [decide_eq_false (fun z => absurd (V.str.inj z) (show ¬ ("text" : Str) = "word" by decide +kernel))]; rfl)) (fun _ H5 e5 => ?_) fun z => by cases z
      exact s_two (ed_str (ev_var rfl)) (ed_str (ev_var rfl)) fun v H6 e6 g6 => kQ v H6 (b4.ex (e5.trans e6)) (rd4.ext (e5.trans e6)) g6
    | var hx hy sy ny =>
      refine go hx (show ("word" : Str) ∈ kinds3 by decide +kernel) sc_s fun H4 b4 rd4 => ?_
      refine q_when (b := false) (et_is (et_test (ev_op (ev_var rfl) ev_c (rv_ne rfl))) (by rw [decide_eq_true rfl]; rfl)) (fun z => by cases z) fun _ H5 e5 => ?_
      refine q_when (b := false) (et_is (et_B (ev_isn (rd4.ext e5) hy sy rfl (ea_cons ev_c ea_nil))) ny) (fun z => by cases z) fun _ H6 e6 => ?_
      exact s_two (ed_str ev_c) (ed_str (ev_var rfl)) fun v H7 e7 g7 => kQ v H7 (b4.ex ((e5.trans e6).trans e7)) (rd4.ext ((e5.trans e6).trans e7)) g7
    | call hx hc =>
      rename_i a s
      refine go hx (show ("word" : Str) ∈ kinds3 by decide +kernel) sc_s fun H4 b4 rd4 => ?_
      refine q_when (b := false) (et_is (et_test (ev_op (ev_var rfl) ev_c (rv_ne rfl))) (by rw [decide_eq_true rfl]; rfl)) (fun z => by cases z) fun _ H5 e5 => ?_
      obtain ⟨_, _, a2, _, _, _, _, _, hy, _⟩ := id hc
      refine q_when (b := true) (et_is (et_B (ev_isn (s := "(") (rd4.ext e5) hy sc_s rfl (ea_cons ev_c ea_nil))) (by
        show (decide (("sign" : Str) = "sign") && decide (V.str "(" = V.str "(")) = true
        rw [decide_eq_true rfl, decide_eq_true rfl]
        rfl)) (fun _ H6 e6 => ?_) fun z => by cases z
      have rd6 := rd4.ext (e5.trans e6)
      obtain ⟨⟨dx6, r6⟩, _⟩ := id rd6
      exact ⟨_, rfl, R, dx6, _, rfl, r6, rfl, _, rfl, _, rfl, _, rfl, dep, 1, rfl, rfl, s, (a : Int), spPar.at (E := E0) rd6 hc fun v H7 b7 rd7 g7 => kQ v H7 ((b4.ex (e5.trans e6)).trans b7) rd7 g7⟩
    | par hx ho hy =>
      rename_i q a b
      refine q_tok c rd hx rfl fun qa hq H1 e1 => ?_
      refine q_when (b := true) (et_is (et_B (ev_isn (s := "(") (rd.ext e1) hx sc_s rfl (ea_cons ev_c ea_nil))) (by
        show (decide (("sign" : Str) = "sign") && decide (V.str "(" = V.str "(")) = true
        rw [decide_eq_true rfl, decide_eq_true rfl]
        rfl)) (fun _ H2 e2 => ?_) fun z => by cases z
      have rd2 := rd.ext (e1.trans e2)
      obtain ⟨⟨dx2, r2⟩, _⟩ := id rd2
      refine ⟨_, rfl, R, dx2, _, rfl, r2, rfl, _, rfl, dep, 1, rfl, rfl, R, T, xs, toks, p, a, rfl, rd2, hx, fun H3 b3 rd3 => ?_⟩
      obtain ⟨⟨dx3, r3⟩, _⟩ := id rd3
      refine ⟨_, rfl, R, dx3, _, rfl, r3, rfl, _, rfl, dep, 1, rfl, rfl, spPar.at (E := E0) rd3 ho fun v H4 b4 rd4 g4 => ?_⟩
      obtain ⟨⟨dx4, r4⟩, _⟩ := id rd4
      refine ⟨_, rfl, R, dx4, _, rfl, r4, rfl, R, T, xs, toks, q, b, ")", rfl, rd4, hy, fun H5 b5 rd5 => ?_⟩
      have b05 : But R H H5 := ((But.left (e1.trans e2) b3).trans b4).trans b5
      exact s_ret (ev_var rfl) fun H6 e6 => kQ v H6 (b05.ex e6) (rd5.ext e6) (Dd.ext e6 _ _ (dd_ins r4 b5 _ _ g4))
end
end K72
set_option maxHeartbeats 4000000
namespace K72
open PySem PySem.Spec PyProof.Rows L2 Evl My LamX
/-! statements and blocks -/
abbrev rTkN : Stmt := rth 4
abbrev rBlk : Stmt := rth 6
abbrev rOth : Stmt := rth 7
abbrev rBst : Stmt := rth 10
def spEnd (C : Addr) : Sp := fun vs H Q _ => ∃ (R T : Addr) (xs : List V) (toks : List Tok3) (p a : Nat) (v : V), vs = [.ref R, v] ∧ Rdr C H R T xs toks p ∧ toks[p]? = some (("sign", .str ";", a) : Tok3) ∧ ∀ H', But R H H' → Rdr C H' R T xs toks (p + 1) → Q v H'
/-- statements one behind the other -/
inductive PSs (S : Par) (toks : List Tok3) : Nat → Nat → List PyData → Prop
  | nil {p : Nat} : PSs S toks p p []
  | cons {p q p' : Nat} {x : Tok3} {d : PyData} {ds : List PyData} : toks[p]? = some x → Sc x.2.1 → isB x "}" = false → x.1 ≠ "end" → S toks p q d → PSs S toks q p' ds → PSs S toks p p' (d :: ds)
def BlkR (S : Par) : Par := fun toks p p' d => ∃ (q a b : Nat) (ds : List PyData), toks[p]? = some (("sign", .str "{", a) : Tok3) ∧ PSs S toks (p + 1) q ds ∧ toks[q]? = some (("sign", .str "}", b) : Tok3) ∧ p' = q + 1 ∧ ds.length ≤ 900 ∧ d = .tuple ds
inductive OthR (B : Par) (toks : List Tok3) : Nat → Nat → PyData → Prop
  | no {p : Nat} {x : Tok3} : toks[p]? = some x → Sc x.2.1 → isB x "else" = false → OthR B toks p p (.tuple [])
  | yes {p p' a : Nat} {d : PyData} : toks[p]? = some (("sign", .str "else", a) : Tok3) → B toks (p + 1) p' d → OthR B toks p p' d
def blkW : List Str := ["if", "while", "for", "try"]
inductive BstR (E B : Par) (toks : List Tok3) : Str → Nat → Nat → PyData → Prop
  | for_ {p q p' a b : Nat} {s : Str} {e bd : PyData} : toks[p]? = some (("word", .str s, a) : Tok3) → toks[p + 1]? = some (("sign", .str "in", b) : Tok3) → E toks (p + 2) q e → B toks q p' bd → BstR E B toks "for" p p' (.tuple [.str "for", .str s, e, bd, .tuple []])
  | while_ {p q p' : Nat} {e bd : PyData} : E toks p q e → B toks q p' bd → BstR E B toks "while" p p' (.tuple [.str "while", .none, e, bd, .tuple []])
  | if_ {p q r p' : Nat} {e bd od : PyData} : E toks p q e → B toks q r bd → OthR B toks r p' od → BstR E B toks "if" p p' (.tuple [.str "if", .none, e, bd, od])
  | try_ {p r p' : Nat} {bd od : PyData} : B toks p r bd → OthR B toks r p' od → BstR E B toks "try" p p' (.tuple [.str "try", .none, .none, bd, od])
def sigW : List Str := ["==", "!=", "<=", "=", "<", "+", "-", "*", "(", ")", "{", "}", ",", ";", "if", "else", "while", "for", "in", "try", "tell", "and", "or"]
inductive PS (E B : Par) (toks : List Tok3) : Nat → Nat → PyData → Prop
  | blk {p p' a : Nat} {s : Str} {d : PyData} : toks[p]? = some (("sign", .str s, a) : Tok3) → s ∈ blkW → BstR E B toks s (p + 1) p' d → PS E B toks p p' d
  | tell {p q a b : Nat} {d : PyData} : toks[p]? = some (("sign", .str "tell", a) : Tok3) → E toks (p + 1) q d → toks[q]? = some (("sign", .str ";", b) : Tok3) → PS E B toks p (q + 1) (.tuple [.str "tell", .none, d, .tuple [], .tuple []])
  | set {p q a b c : Nat} {s : Str} {d : PyData} : toks[p]? = some (("word", .str s, a) : Tok3) → toks[p + 1]? = some (("sign", .str "=", c) : Tok3) → E toks (p + 2) q d → toks[q]? = some (("sign", .str ";", b) : Tok3) → PS E B toks p (q + 1) (.tuple [.str "set", .str s, d, .tuple [], .tuple []])
  | do_ {p q b : Nat} {x : Tok3} {d : PyData} : toks[p]? = some x → Sc x.2.1 → (x.1 ∈ kinds3 ∨ ∃ a : Nat, x = (("sign", .str "(", a) : Tok3)) → (x.1 = "word" → ∃ (z : Str) (c : Nat), toks[p + 1]? = some (("sign", .str z, c) : Tok3) ∧ z ∈ sigW ∧ z ≠ "=") → E toks p q d → toks[q]? = some (("sign", .str ";", b) : Tok3) → PS E B toks p (q + 1) (.tuple [.str "do", .none, d, .tuple [], .tuple []])
theorem PSs.nl {S : Par} (hl : NlP S) {toks : List Tok3} {p p' : Nat} {ds : List PyData} (h : PSs S toks p p' ds) : noLists ds = true := by
  induction h with
  | nil => rfl
  | cons _ _ _ _ hp _ ih =>
    show (noList _ && noLists _) = true
    rw [hl _ _ _ _ hp, ih]
    rfl
theorem BlkR.nl {S : Par} (hl : NlP S) : NlP (BlkR S) := fun toks p p' d h => by
  obtain ⟨q, a, b, ds, _, hs, _, _, _, rfl⟩ := h
  exact hs.nl hl
theorem OthR.nl {B : Par} (hl : NlP B) : NlP (OthR B) := fun toks p p' d h => by
  cases h with
  | no _ _ _ => rfl
  | yes _ h => exact hl _ _ _ _ h
theorem nl5 {a b c d e : PyData} (ha : noList a = true) (hb : noList b = true) (hc : noList c = true) (hd : noList d = true) (he : noList e = true) : noList (.tuple [a, b, c, d, e]) = true := by
  show (noList a && (noList b && (noList c && (noList d && (noList e && true))))) = true
  rw [ha, hb, hc, hd, he]
  rfl
theorem BstR.nl {E B : Par} (h1 : NlP E) (h2 : NlP B) {s : Str} : NlP (fun toks => BstR E B toks s) := fun toks p p' d h => by
  cases h with
  | for_ _ _ he hb => exact nl5 rfl rfl (h1 _ _ _ _ he) (h2 _ _ _ _ hb) rfl
  | while_ he hb => exact nl5 rfl rfl (h1 _ _ _ _ he) (h2 _ _ _ _ hb) rfl
  | if_ he hb ho => exact nl5 rfl rfl (h1 _ _ _ _ he) (h2 _ _ _ _ hb) (OthR.nl h2 _ _ _ _ ho)
  | try_ hb ho => exact nl5 rfl rfl rfl (h2 _ _ _ _ hb) (OthR.nl h2 _ _ _ _ ho)
theorem PS.nl {E B : Par} (h1 : NlP E) (h2 : NlP B) : NlP (PS E B) := fun toks p p' d h => by
  cases h with
  | blk _ _ h => exact BstR.nl h1 h2 _ _ _ _ h
  | tell _ h _ => exact nl5 rfl rfl (h1 _ _ _ _ h) rfl rfl
  | set _ _ h _ => exact nl5 rfl rfl (h1 _ _ _ _ h) rfl rfl
  | do_ _ _ _ _ h _ => exact nl5 rfl rfl (h1 _ _ _ _ h) rfl rfl
section
variable {K : PySem.W.Frag} {C R T : Addr} {xs : List V} {toks : List Tok3} {p p' a : Nat} {H : Hp} {σ : L2.St} {Q : VK} {O : Par} {d : PyData} {args : List V} {m : Str} {t : TA}
/-- self.m(..) of what reads -/
theorem par_go (h0 : σ[0]? = some (some (.ref R))) (ht : EvA t σ H args) (rd : Rdr C H R T xs toks p) (po : O toks p p' d) (k : ∀ v H', But R H H' → Rdr C H' R T xs toks p' → Dd K H' v d → Q v H') (hm : ∀ T p, (fsRd T p).lookup m = none := by intros; rfl) : tMeth C m (spPar K C args O) [] E0 (tVar 0) t σ H Q := by
  obtain ⟨⟨dx, r⟩, _⟩ := id rd
  exact ⟨_, h0, R, dx, _, rfl, r, hm _ _, ht H (Ex.refl _) _ fun H1 e1 => by
    rw [List.append_nil]
    exact spPar.at (E := E0) (rd.ext e1) po fun v H2 b2 rd2 g2 => k v H2 (But.left e1 b2) rd2 g2⟩
/-- self.take(s) -/
theorem take_go {s : Str} (h0 : σ[0]? = some (some (.ref R))) (ht : EvA t σ H [.str s]) (rd : Rdr C H R T xs toks p) (hx : toks[p]? = some (("sign", .str s, a) : Tok3)) (k : ∀ H', But R H H' → Rdr C H' R T xs toks (p + 1) → Q .non H') : tMeth C "take" (spTake C) [] E0 (tVar 0) t σ H Q := by
  obtain ⟨⟨dx, r⟩, _⟩ := id rd
  exact ⟨_, h0, R, dx, _, rfl, r, rfl, ht H (Ex.refl _) _ fun H1 e1 => ⟨R, T, xs, toks, p, a, s, rfl, rd.ext e1, hx, fun H2 b2 rd2 => k H2 (But.left e1 b2) rd2⟩⟩
end
def spName (C : Addr) : Sp := fun vs H Q _ => ∃ (R T : Addr) (xs : List V) (toks : List Tok3) (p a : Nat) (s : Str), vs = [.ref R] ∧ Rdr C H R T xs toks p ∧ toks[p]? = some (("word", .str s, a) : Tok3) ∧ ∀ H', But R H H' → Rdr C H' R T xs toks (p + 1) → Q (.str s) H'
section
variable {P : Program} {w : World} {K : PySem.W.Frag} {mg : Str → Option Value} {base : Heap} {f C : Addr} {fd : FuncData}
theorem scEnd : FnScope ["self", "statement"] ["self", "statement"] (defScope rEnd) := ⟨rfl, rfl, rfl, by decide +kernel, rfl, by decide +kernel, by decide +kernel⟩
theorem ok_end (F : Fun K "ended" "Reader.ended" rEnd f fd) (c : RdC K C) (TK : MD P w K mg base C "take" ["self", "sign"] 2 (spTake C)) : FnOk P w K mg base CX0 3 f fd ["self", "statement"] (spEnd C) := by
  refine F.ok scEnd (fun vs H Q E h => ?_) (fun cdv A outer s H vs Q E hr h => ?_)
  · obtain ⟨R, T, xs, toks, p, a, v, rfl, _⟩ := h
    rfl
  · obtain ⟨R, T, xs, toks, p, a, v, rfl, rd, hx, kQ⟩ := h
    have hr2 : Room 2 _ := hr
    refine ⟨_, pss_cons (ps_expr (pe_md TK c.cl hr2 (pv 0) (pa_cons pe_str pa_nil))) (pss_one (ps_ret (pv 1))), ?_⟩
    obtain ⟨⟨dx, r⟩, _⟩ := id rd
    exact ⟨_, rfl, R, dx, _, rfl, r, rfl, R, T, xs, toks, p, a, ";", rfl, rd, hx, fun H1 b1 rd1 => ⟨_, rfl, kQ H1 b1 rd1⟩⟩
theorem end_go {σ : L2.St} {H : Hp} {t1 t2 : TE} {kd : Str} {v2 : V} {d2 d : PyData} {R T : Addr} {xs : List V} {toks : List Tok3} {p q b : Nat} {O : Par} {dep : Int} {Q : VK} (h0 : σ[0]? = some (some (.ref R))) (h1 : σ[1]? = some (some (.int dep))) (e1 : Ev t1 σ H (.str kd)) (e2 : Ev t2 σ H v2) (g2 : ∀ H, Dd K H v2 d2)
    (rd : Rdr C H R T xs toks p) (po : O toks p q d) (hx : toks[q]? = some (("sign", .str ";", b) : Tok3)) (k : ∀ v H', But R H H' → Rdr C H' R T xs toks (q + 1) → Dd K H' v (.tuple [.str kd, d2, d, .tuple [], .tuple []]) → Q v H') :
    tMeth C "ended" (spEnd C) [] E0 (tVar 0) (tCons (tTup (tCons t1 (tCons t2 (tCons (tMeth C "expression" (spPar K C [.int dep] O) [] E0 (tVar 0) (tCons (tVar 1) tNil)) (tCons (tTup tNil) (tCons (tTup tNil) tNil)))))) tNil) σ H Q := by
  obtain ⟨⟨dx, r⟩, _⟩ := id rd
  refine ⟨_, h0, R, dx, _, rfl, r, rfl, e1 H (Ex.refl _) _ fun H1 x1 => e2 H1 x1 _ fun H2 x2 => ?_⟩
  have rd2 := rd.ext (x1.trans x2)
  obtain ⟨⟨dx2, r2⟩, _⟩ := id rd2
  refine ⟨_, h0, R, dx2, _, rfl, r2, rfl, _, h1, spPar.at (E := E0) rd2 po fun v H3 b3 rd3 g3 => ⟨Nat.zero_le _, fun ta na => ⟨Nat.zero_le _, fun tb nb => ⟨(show 5 ≤ sizeLine by decide), fun tc nc => ?_⟩⟩⟩⟩
  have ea : Ex H3 (upd H3 ta (.tup [])) := Ex.new na
  have eb : Ex (upd H3 ta (.tup [])) (upd (upd H3 ta (.tup [])) tb (.tup [])) := Ex.new nb
  have ec : Ex (upd (upd H3 ta (.tup [])) tb (.tup [])) (upd (upd (upd H3 ta (.tup [])) tb (.tup [])) tc (.tup [.str kd, v2, v, .ref ta, .ref tb])) := Ex.new nc
  have ga : (upd H3 ta (.tup [])) ta = some (.tup []) := upd_same
  have gb : (upd (upd H3 ta (.tup [])) tb (.tup [])) tb = some (.tup []) := upd_same
  have gc : (upd (upd (upd H3 ta (.tup [])) tb (.tup [])) tc (.tup [.str kd, v2, v, .ref ta, .ref tb])) tc = some (.tup [.str kd, v2, v, .ref ta, .ref tb]) := upd_same
  have g : Dd K (upd (upd (upd H3 ta (.tup [])) tb (.tup [])) tc (.tup [.str kd, v2, v, .ref ta, .ref tb])) (.ref tc) (.tuple [.str kd, d2, d, .tuple [], .tuple []]) :=
    .tup (st_of gc) (.cons (.str _) (.cons (g2 _) (.cons (Dd.ext ((ea.trans eb).trans ec) _ _ g3) (.cons (.tup (st_of (ec _ _ (eb _ _ ga))) .nil) (.cons (.tup (st_of (ec _ _ gb)) .nil) .nil)))))
  have e35 := (ea.trans eb).trans ec
  generalize upd (upd (upd H3 ta (.tup [])) tb (.tup [])) tc (.tup [.str kd, v2, v, .ref ta, .ref tb]) = H6 at g e35 ⊢
  have rd6 := rd3.ext e35
  obtain ⟨⟨dx6, r6⟩, _⟩ := id rd6
  have b06 : But R H H6 := (But.left (x1.trans x2) b3).ex e35
  exact ⟨R, T, xs, toks, q, b, .ref tc, rfl, rd6, hx, fun H7 b7 rd7 => k _ H7 (b06.trans b7) rd7 (dd_ins r6 b7 _ _ g)⟩
theorem ed_eqD {σ : L2.St} {H : Hp} {ta tb : TE} {d e : PyData} (ha : EvD K ta σ H d) (hb : EvD K tb σ H e) (n1 : noDict d = true) (n2 : noDict e = true) (s1 : SeqAt.shaped d = true) (s2 : SeqAt.shaped e = true) : Ev (tOp (rEqD K) ta tb) σ H (.bl (PyData.eqv d e)) := fun H1 x Q q =>
  ha H1 x _ fun v H2 e2 g => hb H2 (x.trans e2) _ fun u H3 e3 g2 => ⟨d, e, dp_ofL _ _ n1 (Dd.ext e3 _ _ g), dp_ofL _ _ n2 g2, s1, s2, q H3 (e2.trans e3)⟩
theorem ev_next2 {σ : L2.St} {H : Hp} {R T : Addr} {xs : List V} {toks : List Tok3} {p b : Nat} {y z : Str} (c : RdC K C) (rd : Rdr C H R T xs toks p) (hy : toks[p + 1]? = some ((y, .str z, b) : Tok3)) (h0 : σ[0]? = some (some (.ref R))) :
    EvD K (tSl (rSlT K) (tOp (rIxL K) (tFld K (tVar 0) "tokens") (tOp (rI0 fun i j => .int (i + j)) (tFld K (tVar 0) "place") (tC (.int 1)))) tNoPart (tPart (tC (.int 2)))) σ H (.tuple [.str y, .str z]) := fun H1 e Q q => by
  obtain ⟨qa, h1, h2⟩ := rd.k.get hy
  have ix : Ev (tOp (rIxL K) (tFld K (tVar 0) "tokens") (tOp (rI0 fun i j => .int (i + j)) (tFld K (tVar 0) "place") (tC (.int 1)))) σ H (.ref qa) := ev_op (ev_toks c rd h0) (evAdd (ev_place c rd h0) ev_c) (rv_ixL (i := (p : Int) + 1) (sq_of rd.t) (atI_nat (j := p + 1) h1))
  refine ix H1 e _ fun H2 e2 => ⟨2, rfl, qa, _, rfl, st_of ((e.trans e2) _ _ h2), (show ¬(HT.sIx 3 0 none = 0 ∧ HT.sIx 3 3 (some 2) = 3) by decide), fun t nt => ?_⟩
  exact q (.ref t) _ (e2.trans (Ex.new nt)) (.tup (st_of upd_same) (.cons (.str _) (.cons (.str _) .nil)))
theorem ed_signs {σ : L2.St} {H : Hp} {a b : Str} : EvD K (tTup (tCons (tC (.str a)) (tCons (tC (.str b)) tNil))) σ H (.tuple [.str a, .str b]) := ed_tup (eds_cons (ed_str ev_c) (eds_cons (ed_str ev_c) eds_nil)) (show 2 ≤ 100000 by decide)
theorem scTkN : FnScope ["self", "sort", "value", "at"] ["self"] (defScope rTkN) := ⟨rfl, rfl, rfl, by decide +kernel, rfl, by decide +kernel, by decide +kernel⟩
theorem ok_tkn (F : Fun K "take_name" "Reader.take_name" rTkN f fd) (c : RdC K C) : FnOk P w K mg base CX0 1 f fd ["self"] (spName C) := by
  refine F.ok scTkN (fun vs H Q E h => ?_) (fun cdv A outer s H vs Q E hr h => ?_)
  · obtain ⟨R, T, xs, toks, p, a, s, rfl, _⟩ := h
    rfl
  · obtain ⟨R, T, xs, toks, p, a, s, rfl, rd, hx, kQ⟩ := h
    refine ⟨_, pss_cons (ps_asg (pe_ix ix_list (pe_fld (pv 0) rfl) (pe_fld (pv 0) rfl) (fun _ _ => rfl)) (pg_tup rfl (pgs_cons (pg_name (i := 1) scTkN.nd rfl (Or.inl rfl)) (pgs_cons (pg_name (i := 2) scTkN.nd rfl (Or.inl rfl)) (pgs_cons (pg_name (i := 3) scTkN.nd rfl (Or.inl rfl)) pgs_nil)))))
      (pss_cons (ps_if (pt_cmpR op_ne (pv 1) pe_str (nomark _)) pss_no pss_nil)
      (pss_cons (ps_fldaug (pv 0) pe_int in_add)
      (pss_one (ps_ret (pv 2))))), ?_⟩
    refine q_tok c rd hx rfl fun q hq H1 e1 => ?_
    refine q_when (b := false) (et_is (et_test (ev_op (ev_var rfl) ev_c (rv_ne rfl))) (by rw [decide_eq_true rfl]; rfl)) (fun z => by cases z) fun _ H2 e2 => ?_
    refine q_place (n := 1) c (rd.ext (e1.trans e2)) rfl ev_c rfl fun H3 b3 rd3 => ?_
    exact s_ret (ev_var rfl) fun H4 e4 => kQ H4 ((But.left (e1.trans e2) b3).ex e4) (rd3.ext e4)
theorem scBlk : FnScope ["self", "depth", "statements"] ["self", "depth"] (defScope rBlk) := ⟨rfl, rfl, rfl, by decide +kernel, rfl, by decide +kernel, by decide +kernel⟩
theorem ok_blk {k : Nat} {dep : Int} {S : Par} (k2 : 2 ≤ k) (hd : dep ≤ 12) (F : Fun K "block" "Reader.block" rBlk f fd) (c : RdC K C) (gt : mg "tuple" = none) (gN : ∃ u, mg "MOST_NESTED" = some u ∧ RelV (.int 12) u) (IS : MD P w K mg base C "is_next" ["self", "sign"] 1 (spIs C)) (TK : MD P w K mg base C "take" ["self", "sign"] 2 (spTake C))
    (ST : MD P w K mg base C "statement" ["self", "depth"] k (spPar K C [.int dep] S)) (hl : NlP S) : FnOk P w K mg base CX0 (k + 1) f fd ["self", "depth"] (spPar K C [.int dep] (BlkR S)) := by
  refine F.ok scBlk (fun vs H Q E h => ?_) (fun cdv A outer s0 H vs Q E hr h => ?_)
  · obtain ⟨R, T, xs, toks, p, p', d, rfl, _⟩ := h
    rfl
  · obtain ⟨R, T, xs, toks, p, p', d, rfl, rd, ⟨qe, a, b, fds, hx1, hps, hx2, rfl, ln, rfl⟩, kQ⟩ := h
    have hrk : Room k _ := hr
    have hr2 : Room 2 _ := hrk.mono k2
    have hr1 : Room 1 _ := hr2.mono (by decide)
    refine ⟨_, pss_cons (ps_if (pt_cmpR op_gt (pv 1) (C8.pe_gc (v := .int 12) rfl gN) (nomark _)) pss_no pss_nil)
      (pss_cons (ps_expr (pe_md TK c.cl hr2 (pv 0) (pa_cons pe_str pa_nil)))
      (pss_cons (ps_set (i := 2) scBlk.nd rfl (Or.inl rfl) (pe_lst pa_nil))
      (pss_cons (ps_while PassesOwn.never (pt_not (pt_val (pe_md IS c.cl hr1 (pv 0) (pa_cons pe_str pa_nil))))
        (pss_one (ps_expr (pe_bm PySem.F.plainAttrs_list PySem.F.slot_list_append PySem.F.type_list_append mt_append (pv 2) (pa_cons (pe_md ST c.cl hrk (pv 0) (pa_cons (pv 1) pa_nil)) pa_nil)))))
      (pss_cons (ps_expr (pe_md TK c.cl hr2 (pv 0) (pa_cons pe_str pa_nil)))
      (pss_one (ps_ret (pe_callTy call_tuple_of (by rfl) gt (by decide +kernel) (pa_cons (pv 2) pa_nil)))))))), ?_⟩
    refine q_when (b := false) (et_is (etGt (i := dep) (j := 12) (ev_var rfl) ev_c) (decide_eq_false (by omega))) (fun z => by cases z) fun _ H1 e1 => ?_
    refine take_go rfl (ea_cons ev_c ea_nil) (rd.ext e1) hx1 fun H2 b2 rd2 => ?_
    refine ⟨Nat.zero_le _, fun L nL => ?_⟩
    have b02 : But R H H2 := But.left e1 b2
    obtain ⟨⟨dx2, r2⟩, _⟩ := id rd2
    have RL : R ≠ L := ne_of_none r2 nL
    have TL : T ≠ L := ne_of_none rd2.t nL
    have nL0 : H L = none := but_none b02 nL (Ne.symm RL)
    have b3 : But R H (upd H2 L (.lst [])) := b02.ex (Ex.new nL)
    have rd3 := rd2.ext (Ex.new (o := .lst []) nL)
    have hL3 : (upd H2 L (.lst [])) L = some (.lst []) := upd_same
    generalize upd H2 L (.lst []) = H3 at b3 rd3 hL3 ⊢
    refine q_while (fun m σ' H' => ∃ (p : Nat) (ds ds' : List PyData) (vs : List V), σ' = [some (.ref R), some (.int dep), some (.ref L)] ∧ But R H H' ∧ Rdr C H' R T xs toks p ∧ H' L = some (.lst vs) ∧ Dds K H' vs ds ∧ noLists ds = true ∧ PSs S toks p qe ds' ∧ fds = ds ++ ds' ∧ ds'.length = m) fds.length ⟨p + 1, [], fds, [], rfl, b3, rd3, hL3, .nil, rfl, hps, rfl, rfl⟩ ?_
    rintro m σ' H6 ⟨p6, ds, ds', vs, rfl, b6, rd6, hL6, gd6, nd6, tl6, efd, hm⟩
    have vl := gd6.len
    have lds : ds.length ≤ 900 := by
      have z1 := congrArg List.length efd
      rw [List.length_append] at z1
      omega
    cases tl6 with
    | nil =>
      refine ⟨!true, et_not (et_is (et_B (ev_isn (s := "}") rd6 hx2 sc_s rfl (ea_cons ev_c ea_nil))) ?_), fun z => (by cases z), fun _ H7 e7 => ?_⟩
      · show (decide (("sign" : Str) = "sign") && decide (V.str "}" = V.str "}")) = true
        rw [decide_eq_true rfl, decide_eq_true rfl]
        rfl
      rw [List.append_nil] at efd
      subst efd
      have rd7 := rd6.ext e7
      obtain ⟨⟨dx7, r7⟩, _⟩ := id rd7
      refine take_go rfl (ea_cons ev_c ea_nil) rd7 hx2 fun H8 b8 rd8 => ?_
      have hL8 : H8 L = some (.lst vs) := b8 _ _ (Ne.symm RL) (e7 _ _ hL6)
      have g8 : Dds K H8 vs fds := dds_ins r7 b8 _ _ (Dds.ext e7 _ _ gd6)
      have b08 : But R H H8 := (b6.ex e7).trans b8
      exact ⟨_, rfl, L, vs, rfl, .inl ⟨sq_of hL8, fun t nt => kQ (.ref t) _ (b08.ex (Ex.new nt)) (rd8.ext (Ex.new nt)) (.tup (st_of upd_same) (Dds.ext (Ex.new nt) _ _ g8))⟩⟩
    | cons hx sx nx ne hp ht =>
      rename_i q1 x d1 ds1
      refine ⟨!false, et_not (et_is (et_B (ev_isn (s := "}") rd6 hx sx rfl (ea_cons ev_c ea_nil))) nx), fun _ H7 e7 => ?_, fun z => (by cases z)⟩
      refine ⟨fun σ2 H2 => ∃ (p : Nat) (ds ds' : List PyData) (vs : List V), σ2 = [some (.ref R), some (.int dep), some (.ref L)] ∧ But R H H2 ∧ Rdr C H2 R T xs toks p ∧ H2 L = some (.lst vs) ∧ Dds K H2 vs ds ∧ noLists ds = true ∧ PSs S toks p qe ds' ∧ fds = ds ++ ds' ∧ ds'.length = ds1.length, fun σ2 H2 w => ⟨ds1.length, by rw [← hm, List.length_cons]; exact Nat.lt_succ_self _, w⟩, ?_⟩
      have rd7 := rd6.ext e7
      obtain ⟨⟨dx7, r7⟩, _⟩ := id rd7
      have hL7 := e7 _ _ hL6
      refine ⟨_, rfl, .inl ⟨rfl, _, sq_of hL7⟩, par_go rfl (ea_cons (ev_var rfl) ea_nil) rd7 hp fun v2 H9 b9 rd9 g9 => ?_⟩
      have hL9 := b9 _ _ (Ne.symm RL) hL7
      have gd9 : Dds K H9 vs ds := dds_ins r7 b9 _ _ (Dds.ext e7 _ _ gd6)
      refine ⟨L, vs, v2, rfl, rfl, hL9, sz_lt (by omega), ?_⟩
      have nd1 := hl _ _ _ _ hp
      refine ⟨q1, ds ++ [d1], ds1, vs ++ [v2], rfl, ((b6.ex e7).trans b9).fresh nL0, rd9.fresh hL9 TL, upd_same, ?_, ?_, ht, by rw [efd, List.append_assoc]; rfl, rfl⟩
      · exact Dds.app (Dds.upd hL9 _ _ nd6 gd9) (.cons (Dd.upd hL9 _ _ nd1 g9) .nil)
      · refine noLists_of fun y my => ?_
        rcases List.mem_append.mp my with m | m
        · exact noList_mem nd6 m
        · rw [List.mem_singleton.mp m]
          exact nd1
theorem scOth : FnScope ["self", "depth"] ["self", "depth"] (defScope rOth) := ⟨rfl, rfl, rfl, by decide +kernel, rfl, by decide +kernel, by decide +kernel⟩
theorem ok_oth {k : Nat} {dep : Int} {B : Par} (k2 : 2 ≤ k) (F : Fun K "other_block" "Reader.other_block" rOth f fd) (c : RdC K C) (IS : MD P w K mg base C "is_next" ["self", "sign"] 1 (spIs C)) (TK : MD P w K mg base C "take" ["self", "sign"] 2 (spTake C))
    (BL : MD P w K mg base C "block" ["self", "depth"] k (spPar K C [.int dep] B)) : FnOk P w K mg base CX0 (k + 1) f fd ["self", "depth"] (spPar K C [.int dep] (OthR B)) := by
  refine F.ok scOth (fun vs H Q E h => ?_) (fun cdv A outer s0 H vs Q E hr h => ?_)
  · obtain ⟨R, T, xs, toks, p, p', d, rfl, _⟩ := h
    rfl
  · obtain ⟨R, T, xs, toks, p, p', d, rfl, rd, po, kQ⟩ := h
    have hrk : Room k _ := hr
    have hr2 : Room 2 _ := hrk.mono k2
    have hr1 : Room 1 _ := hr2.mono (by decide)
    refine ⟨_, pss_cons (ps_if (pt_not (pt_val (pe_md IS c.cl hr1 (pv 0) (pa_cons pe_str pa_nil)))) (pss_one (ps_ret (pe_tup pa_nil))) pss_nil)
      (pss_cons (ps_expr (pe_md TK c.cl hr2 (pv 0) (pa_cons pe_str pa_nil)))
      (pss_one (ps_ret (pe_md BL c.cl hrk (pv 0) (pa_cons (pv 1) pa_nil))))), ?_⟩
    cases po with
    | no hx sx nx =>
      refine q_when (b := !false) (et_not (et_is (et_B (ev_isn (s := "else") rd hx sx rfl (ea_cons ev_c ea_nil))) nx)) (fun _ H1 e1 => ?_) fun z => by cases z
      exact ⟨Nat.zero_le _, fun t nt => kQ (.ref t) _ ((But.ofEx e1).ex (Ex.new nt)) ((rd.ext e1).ext (Ex.new nt)) (.tup (st_of upd_same) .nil)⟩
    | yes hx hb =>
      refine q_when (b := !true) (et_not (et_is (et_B (ev_isn (s := "else") rd hx sc_s rfl (ea_cons ev_c ea_nil))) (by
        show (decide (("sign" : Str) = "sign") && decide (V.str "else" = V.str "else")) = true
        rw [decide_eq_true rfl, decide_eq_true rfl]
        rfl))) (fun z => by cases z) fun _ H1 e1 => ?_
      refine take_go rfl (ea_cons ev_c ea_nil) (rd.ext e1) hx fun H2 b2 rd2 => ?_
      exact par_go rfl (ea_cons (ev_var rfl) ea_nil) rd2 hb fun v H3 b3 rd3 g3 => kQ v H3 ((But.left e1 b2).trans b3) rd3 g3
end
end K72
set_option maxHeartbeats 4000000
namespace K72
open PySem PySem.Spec PyProof.Rows L2 Evl My LamX
/-! statements: of blocks, and all -/
theorem ev_inW {K : PySem.W.Frag} {σ : L2.St} {H : Hp} {i : Nat} {v : V} {ws : List Str} {ta : TA} (h3 : σ[i]? = some (some v)) (sv : Sc v) (ht : EvA ta σ H (ws.map V.str)) (hl : ws.length ≤ 100) : Ev (tOp (rIn K false) (tVar i) (tTup ta)) σ H (.bl (inV v (ws.map V.str))) := fun H1 e1 Q q =>
  ⟨_, h3, eu_tup (vs := ws.map V.str) (ht.mono e1) (by rw [List.length_map]; omega) H1 (Ex.refl _) _ fun p H2 np e2 hp => ⟨p, _, rfl, .inr (st_of hp), sc_flat sv, flat_strs _, q H2 e2⟩⟩
section
variable {P : Program} {w : World} {K : PySem.W.Frag} {mg : Str → Option Value} {base : Heap} {f C : Addr} {fd : FuncData}
def NBs : List Str := ["self", "word", "depth", "name", "expression", "other", "block"]
theorem scBst : FnScope NBs ["self", "word", "depth"] (defScope rBst) := ⟨rfl, rfl, rfl, by decide +kernel, rfl, by decide +kernel, by decide +kernel⟩
def spBst (K : PySem.W.Frag) (C : Addr) (dep : Int) (E B : Par) : Sp := fun vs H Q X => ∃ s : Str, spPar K C [.str s, .int dep] (fun toks => BstR E B toks s) vs H Q X
theorem five {σ : L2.St} {H : Hp} {t1 t2 t3 t4 t5 : TE} {a b c d e : PyData} {Q : VK} (h1 : EvD K t1 σ H a) (h2 : EvD K t2 σ H b) (h3 : EvD K t3 σ H c) (h4 : EvD K t4 σ H d) (h5 : EvD K t5 σ H e) (k : ∀ v H1, Ex H H1 → Dd K H1 v (.tuple [a, b, c, d, e]) → Q v H1) : tTup (tCons t1 (tCons t2 (tCons t3 (tCons t4 (tCons t5 tNil))))) σ H Q :=
  ed_tup (eds_cons h1 (eds_cons h2 (eds_cons h3 (eds_cons h4 (eds_cons h5 eds_nil))))) (show 5 ≤ 100000 by decide) H (Ex.refl _) _ k
theorem ok_bst {k kE kB kO : Nat} {dep : Int} {E B : Par} (k2 : 2 ≤ k) (lE : kE ≤ k) (lB : kB ≤ k) (lO : kO ≤ k) (F : Fun K "block_statement" "Reader.block_statement" rBst f fd) (c : RdC K C) (TK : MD P w K mg base C "take" ["self", "sign"] 2 (spTake C)) (TN : MD P w K mg base C "take_name" ["self"] 1 (spName C))
    (EX : MD P w K mg base C "expression" ["self", "depth"] kE (spPar K C [.int dep] E)) (BL : MD P w K mg base C "block" ["self", "depth"] kB (spPar K C [.int (dep + 1)] B)) (OT : MD P w K mg base C "other_block" ["self", "depth"] kO (spPar K C [.int (dep + 1)] (OthR B))) (hB : NlP B) : FnOk P w K mg base CX0 (k + 1) f fd ["self", "word", "depth"] (spBst K C dep E B) := by
  refine F.ok scBst (fun vs H Q E h => ?_) (fun cdv A outer s0 H vs Q X hr h => ?_)
  · obtain ⟨s, R, T, xs, toks, p, p', d, rfl, _⟩ := h
    rfl
  · obtain ⟨s, R, T, xs, toks, p, p', d, rfl, rd, po, kQ⟩ := h
    have hrk : Room k _ := hr
    have hr2 : Room 2 _ := hrk.mono k2
    have hr1 : Room 1 _ := hr2.mono (by decide)
    refine ⟨_, pss_cons (ps_set (i := 3) scBst.nd rfl (Or.inl rfl) pe_non)
      (pss_cons (ps_set (i := 4) scBst.nd rfl (Or.inl rfl) pe_non)
      (pss_cons (ps_set (i := 5) scBst.nd rfl (Or.inl rfl) (pe_tup pa_nil))
      (pss_cons (ps_if (pt_cmpR op_eq (pv 1) pe_str (nomark _)) (pss_cons (ps_set (i := 3) scBst.nd rfl (Or.inl rfl) (pe_md0 TN c.cl hr1 (pv 0))) (pss_one (ps_expr (pe_md TK c.cl hr2 (pv 0) (pa_cons pe_str pa_nil))))) pss_nil)
      (pss_cons (ps_if (pt_cmpR op_ne (pv 1) pe_str (nomark _)) (pss_one (ps_set (i := 4) scBst.nd rfl (Or.inl rfl) (pe_md EX c.cl (hrk.mono lE) (pv 0) (pa_cons (pv 2) pa_nil)))) pss_nil)
      (pss_cons (ps_set (i := 6) scBst.nd rfl (Or.inl rfl) (pe_md BL c.cl (hrk.mono lB) (pv 0) (pa_cons (pe_op op_add (pv 2) pe_int) pa_nil)))
      (pss_cons (ps_if (pt_cmpR op_in_seq (pv 1) (pe_tup (pa_cons pe_str (pa_cons pe_str pa_nil))) rfl) (pss_one (ps_set (i := 5) scBst.nd rfl (Or.inl rfl) (pe_md OT c.cl (hrk.mono lO) (pv 0) (pa_cons (pe_op op_add (pv 2) pe_int) pa_nil)))) pss_nil)
      (pss_one (ps_ret (pe_tup (pa_cons (pv 1) (pa_cons (pv 3) (pa_cons (pv 4) (pa_cons (pv 6) (pa_cons (pv 5) pa_nil)))))))))))))), ?_⟩
    refine q_asg ev_c fun H1 e1 => q_asg ev_c fun H2 e2 => ?_
    refine ⟨Nat.zero_le _, fun ta na => ?_⟩
    have e3 : Ex H (upd H2 ta (.tup [])) := (e1.trans e2).trans (Ex.new na)
    have h3 : (upd H2 ta (.tup [])) ta = some (.tup []) := upd_same
    show tSeq _ _ _ _ (upd H2 ta (.tup []))
    generalize upd H2 ta (.tup []) = H3 at e3 h3 ⊢
    have rd3 := rd.ext e3
    have isS : ∀ {σ : L2.St} {G : Hp} {z : Str}, σ[1]? = some (some (.str s)) → EvT (tTest (tOp rEq (tVar 1) (tC (.str z)))) σ G (decide (s = z)) := fun h => et_is (et_test (ev_op (ev_var h) ev_c (rv_eq rfl))) dec_str
    have neS : ∀ {σ : L2.St} {G : Hp} {z : Str}, σ[1]? = some (some (.str s)) → EvT (tTest (tOp rNe (tVar 1) (tC (.str z)))) σ G (!decide (s = z)) := fun h => et_is (et_test (ev_op (ev_var h) ev_c (rv_ne rfl))) (by rw [dec_str])
    have inS : ∀ {σ : L2.St} {G : Hp}, σ[1]? = some (some (.str s)) → EvT (tTest (tOp (rIn K false) (tVar 1) (tTup (tCons (tC (.str "if")) (tCons (tC (.str "try")) tNil))))) σ G (decide (s ∈ (["if", "try"] : List Str))) := fun h => et_is (et_test (ev_inW (ws := ["if", "try"]) h sc_s (ea_cons ev_c (ea_cons ev_c ea_nil)) (by decide))) (inV_strs _ _)
    have dep1 : ∀ {σ : L2.St} {G : Hp}, σ[2]? = some (some (.int dep)) → EvA (tCons (tOp (rI0 fun i j => .int (i + j)) (tVar 2) (tC (.int 1))) tNil) σ G [.int (dep + 1)] := fun h => ea_cons (evAdd (ev_var h) ev_c) ea_nil
    cases po with
    | for_ hx hy he hb =>
      rename_i q a b nm e bd
      refine q_when (b := true) (et_is (isS rfl) (decide_eq_true rfl)) (fun _ H4 e4 => ?_) fun z => by cases z
      have rd4 := rd3.ext e4
      obtain ⟨⟨dx4, r4⟩, _⟩ := id rd4
      refine ⟨_, rfl, R, dx4, _, rfl, r4, rfl, R, T, xs, toks, p, a, nm, rfl, rd4, hx, fun H5 b5 rd5 => ?_⟩
      refine take_go rfl (ea_cons ev_c ea_nil) rd5 hy fun H6 b6 rd6 => ?_
      refine q_when (b := true) (et_is (neS rfl) (by rw [decide_eq_false (show ¬ ("for" : Str) = "try" by decide +kernel)]; rfl)) (fun _ H7 e7 => ?_) fun z => by cases z
      have rd7 := rd6.ext e7
      refine par_go rfl (ea_cons (ev_var rfl) ea_nil) rd7 he fun v1 H8 b8 rd8 g8 => ?_
      obtain ⟨⟨dx8, r8⟩, _⟩ := id rd8
      refine par_go rfl (dep1 rfl) rd8 hb fun v2 H9 b9 rd9 g9 => ?_
      refine q_when (b := false) (et_is (inS rfl) (by decide +kernel)) (fun z => by cases z) fun _ H10 e10 => ?_
      have g8' := dd_ins r8 b9 _ _ g8
      have bb : But R H H9 := ((((But.left (e3.trans e4) b5).trans b6).ex e7).trans b8).trans b9
      have R3 : ta ≠ R := fun z => by
        obtain ⟨⟨dx3, r3⟩, _⟩ := id rd3
        rw [← z, h3] at r3
        cases r3
      have ht : H9 ta = some (.tup []) := b9 _ _ R3 (b8 _ _ R3 (e7 _ _ (b6 _ _ R3 (b5 _ _ R3 (e4 _ _ h3)))))
      exact five (ed_str (ev_var rfl)) (ed_str (ev_var rfl)) (ed_var rfl (Dd.ext e10 _ _ g8')) (ed_var rfl (Dd.ext e10 _ _ g9)) (ed_var rfl (.tup (st_of (e10 _ _ ht)) .nil)) fun v H11 e11 g11 => kQ v H11 (bb.ex (e10.trans e11)) (rd9.ext (e10.trans e11)) g11
    | while_ he hb =>
      rename_i q e bd
      refine q_when (b := false) (et_is (isS rfl) (decide_eq_false (by decide +kernel))) (fun z => by cases z) fun _ H4 e4 => ?_
      refine q_when (b := true) (et_is (neS rfl) (by rw [decide_eq_false (show ¬ ("while" : Str) = "try" by decide +kernel)]; rfl)) (fun _ H7 e7 => ?_) fun z => by cases z
      have rd7 := rd3.ext (e4.trans e7)
      refine par_go rfl (ea_cons (ev_var rfl) ea_nil) rd7 he fun v1 H8 b8 rd8 g8 => ?_
      obtain ⟨⟨dx8, r8⟩, _⟩ := id rd8
      refine par_go rfl (dep1 rfl) rd8 hb fun v2 H9 b9 rd9 g9 => ?_
      refine q_when (b := false) (et_is (inS rfl) (by decide +kernel)) (fun z => by cases z) fun _ H10 e10 => ?_
      have g8' := dd_ins r8 b9 _ _ g8
      have bb : But R H H9 := (But.left (e3.trans (e4.trans e7)) b8).trans b9
      have R3 : ta ≠ R := fun z => by
        obtain ⟨⟨dx3, r3⟩, _⟩ := id rd3
        rw [← z, h3] at r3
        cases r3
      have ht : H9 ta = some (.tup []) := b9 _ _ R3 (b8 _ _ R3 ((e4.trans e7) _ _ h3))
      exact five (ed_str (ev_var rfl)) (ed_non (ev_var rfl)) (ed_var rfl (Dd.ext e10 _ _ g8')) (ed_var rfl (Dd.ext e10 _ _ g9)) (ed_var rfl (.tup (st_of (e10 _ _ ht)) .nil)) fun v H11 e11 g11 => kQ v H11 (bb.ex (e10.trans e11)) (rd9.ext (e10.trans e11)) g11
    | if_ he hb ho =>
      rename_i q rr e bd od
      refine q_when (b := false) (et_is (isS rfl) (decide_eq_false (by decide +kernel))) (fun z => by cases z) fun _ H4 e4 => ?_
      refine q_when (b := true) (et_is (neS rfl) (by rw [decide_eq_false (show ¬ ("if" : Str) = "try" by decide +kernel)]; rfl)) (fun _ H7 e7 => ?_) fun z => by cases z
      have rd7 := rd3.ext (e4.trans e7)
      refine par_go rfl (ea_cons (ev_var rfl) ea_nil) rd7 he fun v1 H8 b8 rd8 g8 => ?_
      obtain ⟨⟨dx8, r8⟩, _⟩ := id rd8
      refine par_go rfl (dep1 rfl) rd8 hb fun v2 H9 b9 rd9 g9 => ?_
      obtain ⟨⟨dx9, r9⟩, _⟩ := id rd9
      refine q_when (b := true) (et_is (inS rfl) (by decide +kernel)) (fun _ H10 e10 => ?_) fun z => by cases z
      have rd10 := rd9.ext e10
      obtain ⟨⟨dx10, r10⟩, _⟩ := id rd10
      refine par_go rfl (dep1 rfl) rd10 ho fun v3 H11 b11 rd11 g11 => ?_
      have g8' := dd_ins r10 b11 _ _ (Dd.ext e10 _ _ (dd_ins r8 b9 _ _ g8))
      have g9' := dd_ins r10 b11 _ _ (Dd.ext e10 _ _ g9)
      have bb : But R H H11 := (((But.left (e3.trans (e4.trans e7)) b8).trans b9).ex e10).trans b11
      exact five (ed_str (ev_var rfl)) (ed_non (ev_var rfl)) (ed_var rfl g8') (ed_var rfl g9') (ed_var rfl g11) fun v H12 e12 g12 => kQ v H12 (bb.ex e12) (rd11.ext e12) g12
    | try_ hb ho =>
      rename_i rr bd od
      refine q_when (b := false) (et_is (isS rfl) (decide_eq_false (by decide +kernel))) (fun z => by cases z) fun _ H4 e4 => ?_
      refine q_when (b := false) (et_is (neS rfl) (by rw [decide_eq_true rfl]; rfl)) (fun z => by cases z) fun _ H7 e7 => ?_
      have rd7 := rd3.ext (e4.trans e7)
      refine par_go rfl (dep1 rfl) rd7 hb fun v2 H9 b9 rd9 g9 => ?_
      obtain ⟨⟨dx9, r9⟩, _⟩ := id rd9
      refine q_when (b := true) (et_is (inS rfl) (by decide +kernel)) (fun _ H10 e10 => ?_) fun z => by cases z
      have rd10 := rd9.ext e10
      obtain ⟨⟨dx10, r10⟩, _⟩ := id rd10
      refine par_go rfl (dep1 rfl) rd10 ho fun v3 H11 b11 rd11 g11 => ?_
      have g9' := dd_ins r10 b11 _ _ (Dd.ext e10 _ _ g9)
      have bb : But R H H11 := ((But.left (e3.trans (e4.trans e7)) b9).ex e10).trans b11
      exact five (ed_str (ev_var rfl)) (ed_non (ev_var rfl)) (ed_non (ev_var rfl)) (ed_var rfl g9') (ed_var rfl g11) fun v H12 e12 g12 => kQ v H12 (bb.ex e12) (rd11.ext e12) g12
def NS : List Str := ["self", "depth", "sort", "word", "at"]
theorem scStm : FnScope NS ["self", "depth"] (defScope rStm) := ⟨rfl, rfl, rfl, by decide +kernel, rfl, by decide +kernel, by decide +kernel⟩
theorem sig_sh : ∀ z ∈ sigW, SeqAt.shaped (.tuple [.str "sign", .str z]) = true := by decide +kernel
theorem sig_eq {z : Str} (hz : z ≠ "=") : PyData.eqv (.tuple [.str "sign", .str z]) (.tuple [.str "sign", .str "="]) = false := by
  have e : PyData.eqv (.str z) (.str "=") = false := by
    simp only [PyData.eqv]
    simpa using hz
  show (PyData.eqv (.str "sign") (.str "sign") && (PyData.eqv (.str z) (.str "=") && true)) = false
  rw [e]
  simp
theorem ok_stm {k kE kB : Nat} {dep : Int} {O B : Par} (k3 : 3 ≤ k) (lE : kE ≤ k) (lB : kB ≤ k) (F : Fun K "statement" "Reader.statement" rStm f fd) (c : RdC K C) (IS : MD P w K mg base C "is_next" ["self", "sign"] 1 (spIs C)) (TK : MD P w K mg base C "take" ["self", "sign"] 2 (spTake C)) (EN : MD P w K mg base C "ended" ["self", "statement"] 3 (spEnd C))
    (EX : MD P w K mg base C "expression" ["self", "depth"] kE (spPar K C [.int dep] O)) (BS : MD P w K mg base C "block_statement" ["self", "word", "depth"] kB (spBst K C dep O B)) : FnOk P w K mg base CX0 (k + 1) f fd ["self", "depth"] (spPar K C [.int dep] (PS O B)) := by
  refine F.ok scStm (fun vs H Q E h => ?_) (fun cdv A outer s0 H vs Q E hr h => ?_)
  · obtain ⟨R, T, xs, toks, p, p', d, rfl, _⟩ := h
    rfl
  · obtain ⟨R, T, xs, toks, p, p', d, rfl, rd, po, kQ⟩ := h
    have hrk : Room k _ := hr
    have hr3 : Room 3 _ := hrk.mono k3
    have hr2 : Room 2 _ := hr3.mono (by decide)
    have hr1 : Room 1 _ := hr3.mono (by decide)
    refine ⟨_, pss_cons (ps_asg (pe_ix ix_list (pe_fld (pv 0) rfl) (pe_fld (pv 0) rfl) (fun _ _ => rfl)) (pg_tup rfl (pgs_cons (pg_name (i := 2) scStm.nd rfl (Or.inl rfl)) (pgs_cons (pg_name (i := 3) scStm.nd rfl (Or.inl rfl)) (pgs_cons (pg_name (i := 4) scStm.nd rfl (Or.inl rfl)) pgs_nil)))))
      (pss_cons (ps_if (PW.pt (pw_and (pt_cmpR op_eq (pv 2) pe_str (nomark _)) (pw_and1 (pt_cmpR op_in_seq (pv 3) (pe_tup (pa_cons pe_str (pa_cons pe_str (pa_cons pe_str (pa_cons pe_str pa_nil))))) rfl))))
        (pss_cons (ps_expr (pe_md TK c.cl hr2 (pv 0) (pa_cons (pv 3) pa_nil))) (pss_one (ps_ret (pe_md BS c.cl (hrk.mono lB) (pv 0) (pa_cons (pv 3) (pa_cons (pv 1) pa_nil)))))) pss_nil)
      (pss_cons (ps_if (pt_val (pe_md IS c.cl hr1 (pv 0) (pa_cons pe_str pa_nil))) (pss_cons (ps_expr (pe_md TK c.cl hr2 (pv 0) (pa_cons pe_str pa_nil))) (pss_one (ps_ret (pe_md EN c.cl hr3 (pv 0) (pa_cons (pe_tup (pa_cons pe_str (pa_cons pe_non (pa_cons (pe_md EX c.cl (hrk.mono lE) (pv 0) (pa_cons (pv 1) pa_nil)) (pa_cons (pe_tup pa_nil) (pa_cons (pe_tup pa_nil) pa_nil)))))) pa_nil))))) pss_nil)
      (pss_cons (ps_if (PW.pt (pw_and (pt_cmpR op_eq (pv 2) pe_str (nomark _)) (pw_and1 (pt_cmpR (op_eqD hr1.units) (pe_slice sl_tup (pe_ix ix_list (pe_fld (pv 0) rfl) (pe_op op_add (pe_fld (pv 0) rfl) pe_int) (fun _ _ => rfl)) po_none (po_some pe_int)) (pe_tup (pa_cons pe_str (pa_cons pe_str pa_nil))) (nomark _)))))
        (pss_cons (ps_fldaug (pv 0) pe_int in_add) (pss_one (ps_ret (pe_md EN c.cl hr3 (pv 0) (pa_cons (pe_tup (pa_cons pe_str (pa_cons (pv 3) (pa_cons (pe_md EX c.cl (hrk.mono lE) (pv 0) (pa_cons (pv 1) pa_nil)) (pa_cons (pe_tup pa_nil) (pa_cons (pe_tup pa_nil) pa_nil)))))) pa_nil))))) pss_nil)
      (pss_one (ps_ret (pe_md EN c.cl hr3 (pv 0) (pa_cons (pe_tup (pa_cons pe_str (pa_cons pe_non (pa_cons (pe_md EX c.cl (hrk.mono lE) (pv 0) (pa_cons (pv 1) pa_nil)) (pa_cons (pe_tup pa_nil) (pa_cons (pe_tup pa_nil) pa_nil)))))) pa_nil))))))), ?_⟩
    have blkE : ∀ {σ : L2.St} {G : Hp} {v : V}, σ[3]? = some (some v) → Sc v → EvT (tTest (tOp (rIn K false) (tVar 3) (tTup (tCons (tC (.str "if")) (tCons (tC (.str "while")) (tCons (tC (.str "for")) (tCons (tC (.str "try")) tNil))))))) σ G (inV v (blkW.map V.str)) := fun h sv => et_test (ev_inW (ws := blkW) h sv (ea_cons ev_c (ea_cons ev_c (ea_cons ev_c (ea_cons ev_c ea_nil)))) (by decide))
    cases po with
    | blk hx hs hb =>
      rename_i a s
      refine q_tok c rd hx rfl fun qa hq H1 e1 => ?_
      refine q_when (b := true) (et_is (et_and (a := decide (V.str "sign" = V.str "sign")) (b := inV (.str s) (blkW.map V.str)) (et_test (ev_eqS (ev_var rfl) ev_c sc_s)) fun _ => blkE rfl sc_s) (by rw [inV_strs, decide_eq_true hs, decide_eq_true rfl]; rfl)) (fun _ H2 e2 => ?_) fun z => by cases z
      refine take_go rfl (ea_cons (ev_var rfl) ea_nil) (rd.ext (e1.trans e2)) hx fun H3 b3 rd3 => ?_
      obtain ⟨⟨dx3, r3⟩, _⟩ := id rd3
      exact ⟨_, rfl, R, dx3, _, rfl, r3, rfl, _, rfl, _, rfl, s, spPar.at (E := E0) rd3 hb fun v H4 b4 rd4 g4 => kQ v H4 ((But.left (e1.trans e2) b3).trans b4) rd4 g4⟩
    | tell hx ho he =>
      rename_i q a b d
      refine q_tok c rd hx rfl fun qa hq H1 e1 => ?_
      refine q_when (b := decide (V.str "sign" = V.str "sign") && false) (et_and (et_test (ev_eqS (ev_var rfl) ev_c sc_s)) fun _ => et_is (blkE rfl sc_s) (by rw [inV_strs]; decide +kernel)) (fun z => by rw [Bool.and_false] at z; cases z) fun _ H2 e2 => ?_
      have rd2 := rd.ext (e1.trans e2)
      refine q_when (b := true) (et_is (et_B (ev_isn (s := "tell") rd2 hx sc_s rfl (ea_cons ev_c ea_nil))) ?_) (fun _ H3 e3 => ?_) fun z => by cases z
      · show (decide (("sign" : Str) = "sign") && decide (V.str "tell" = V.str "tell")) = true
        rw [decide_eq_true rfl, decide_eq_true rfl]
        rfl
      · have rd3 := rd2.ext e3
        refine take_go rfl (ea_cons ev_c ea_nil) rd3 hx fun H4 b4 rd4 => ?_
        exact end_go rfl rfl ev_c ev_c (fun _ => .non) rd4 ho he fun v H5 b5 rd5 g5 => kQ v H5 ((But.left ((e1.trans e2).trans e3) b4).trans b5) rd5 g5
    | set hx hy ho he =>
      rename_i q a b c2 s d
      refine q_tok c rd hx rfl fun qa hq H1 e1 => ?_
      have nos : decide (V.str "word" = V.str "sign") = false := decide_eq_false fun z => absurd (V.str.inj z) (by decide +kernel)
      refine q_when (b := false) (et_is (et_and (a := false) (b := false) (et_is (et_test (ev_eqS (ev_var rfl) ev_c sc_s)) nos) fun z => by cases z) rfl) (fun z => by cases z) fun _ H2 e2 => ?_
      have rd2 := rd.ext (e1.trans e2)
      refine q_when (b := false) (et_is (et_B (ev_isn (s := "tell") rd2 hx sc_s rfl (ea_cons ev_c ea_nil))) (by rw [k3_sign (by decide +kernel : ("word" : Str) ∈ kinds3), Bool.false_and])) (fun z => by cases z) fun _ H3 e3 => ?_
      have rd3 := rd2.ext e3
      have eqE := ed_eqD (K := K) (ev_next2 c rd3 hy (σ := ([some (.ref R), some (.int dep), some (.str "word"), some (.str s), some (.int (a : Int))] : L2.St)) rfl) (ed_signs (a := "sign") (b := "=")) rfl rfl (by decide +kernel) (by decide +kernel)
      refine q_when (b := true) (et_is (et_and (a := decide (V.str "word" = V.str "word")) (b := PyData.eqv (.tuple [.str "sign", .str "="]) (.tuple [.str "sign", .str "="])) (et_test (ev_eqS (ev_var rfl) ev_c sc_s)) fun _ => et_test eqE) ?_) (fun _ H4 e4 => ?_) fun z => by cases z
      · rw [decide_eq_true rfl]
        decide +kernel
      · have rd4 := rd3.ext e4
        refine q_place (n := 2) (m := 2) c rd4 rfl ev_c rfl fun H5 b5 rd5 => ?_
        exact end_go rfl rfl ev_c (ev_var rfl) (fun _ => .str _) rd5 ho he fun v H6 b6 rd6 g6 => kQ v H6 ((But.left (((e1.trans e2).trans e3).trans e4) b5).trans b6) rd6 g6
    | do_ hx sx mk hw ho he =>
      rename_i q b x d
      refine q_tok c rd hx rfl fun qa hq H1 e1 => ?_
      have nb : (decide (x.1 = "sign") && inV x.2.1 (blkW.map V.str)) = false := by
        rcases mk with mk | ⟨a, rfl⟩
        · rw [k3_sign mk, Bool.false_and]
        · show (decide (("sign" : Str) = "sign") && inV (.str "(") (blkW.map V.str)) = false
          rw [inV_strs]
          decide +kernel
      have nt : isB x "tell" = false := by
        rcases mk with mk | ⟨a, rfl⟩
        · show (decide (x.1 = "sign") && _) = false
          rw [k3_sign mk, Bool.false_and]
        · rw [isB_sg]
          decide +kernel
      refine q_when (b := false) (et_is (et_and (a := decide (V.str x.1 = V.str "sign")) (b := inV x.2.1 (blkW.map V.str)) (et_test (ev_eqS (ev_var rfl) ev_c sc_s)) fun _ => blkE rfl sx) (by rw [dec_str]; exact nb)) (fun z => by cases z) fun _ H2 e2 => ?_
      have rd2 := rd.ext (e1.trans e2)
      refine q_when (b := false) (et_is (et_B (ev_isn (s := "tell") rd2 hx sx rfl (ea_cons ev_c ea_nil))) nt) (fun z => by cases z) fun _ H3 e3 => ?_
      have rd3 := rd2.ext e3
      have cond : EvT (tAnd (tTest (tOp rEq (tVar 2) (tC (.str "word")))) (tTest (tOp (rEqD K) (tSl (rSlT K) (tOp (rIxL K) (tFld K (tVar 0) "tokens") (tOp (rI0 fun i j => .int (i + j)) (tFld K (tVar 0) "place") (tC (.int 1)))) tNoPart (tPart (tC (.int 2)))) (tTup (tCons (tC (.str "sign")) (tCons (tC (.str "=")) tNil)))))) ([some (.ref R), some (.int dep), some (.str x.1), some x.2.1, some (.int (x.2.2 : Int))] : L2.St) H3 false := by
        by_cases ew : x.1 = "word"
        · obtain ⟨z, c2, hz, zz, zn⟩ := hw ew
          have eqE := ed_eqD (K := K) (ev_next2 c rd3 hz (σ := ([some (.ref R), some (.int dep), some (.str x.1), some x.2.1, some (.int (x.2.2 : Int))] : L2.St)) rfl) (ed_signs (a := "sign") (b := "=")) rfl rfl (sig_sh z zz) (by decide +kernel)
          refine et_is (et_and (a := decide (V.str x.1 = V.str "word")) (b := PyData.eqv (.tuple [.str "sign", .str z]) (.tuple [.str "sign", .str "="])) (et_test (ev_eqS (ev_var rfl) ev_c sc_s)) fun _ => et_test eqE) ?_
          rw [sig_eq zn, Bool.and_false]
        · exact et_is (et_and (a := false) (b := false) (et_is (et_test (ev_eqS (ev_var rfl) ev_c sc_s)) (decide_eq_false fun z => ew (V.str.inj z))) fun z => by cases z) rfl
      refine q_when (b := false) cond (fun z => by cases z) fun _ H4 e4 => ?_
      have rd4 := rd3.ext e4
      exact end_go rfl rfl ev_c ev_c (fun _ => .non) rd4 ho he fun v H6 b6 rd6 g6 => kQ v H6 (But.left (((e1.trans e2).trans e3).trans e4) b6) rd6 g6
end
end K72
set_option maxHeartbeats 4000000
namespace K72
open PySem PySem.Spec PyProof.Rows L2 Evl My LamX
/-! all statements; the levels of reading -/
def spAll (K : PySem.W.Frag) (C : Addr) (S : Par) : Sp := fun vs H Q _ => ∃ (R T : Addr) (xs : List V) (toks : List Tok3) (p pe : Nat) (ds : List PyData) (xe : Tok3), vs = [.ref R] ∧ Rdr C H R T xs toks p ∧ PSs S toks p pe ds ∧ toks[pe]? = some xe ∧ xe.1 = "end" ∧ ds.length ≤ 900 ∧ ∀ v H', But R H H' → Dd K H' v (.tuple ds) → Q v H'
section
variable {P : Program} {w : World} {K : PySem.W.Frag} {mg : Str → Option Value} {base : Heap} {f C : Addr} {fd : FuncData}
theorem scAll : FnScope ["self", "statements"] ["self"] (defScope rAll) := ⟨rfl, rfl, rfl, by decide +kernel, rfl, by decide +kernel, by decide +kernel⟩
theorem ok_all {k : Nat} {S : Par} (F : Fun K "all_statements" "Reader.all_statements" rAll f fd) (c : RdC K C) (gt : mg "tuple" = none) (ST : MD P w K mg base C "statement" ["self", "depth"] k (spPar K C [.int 0] S)) (hl : NlP S) : FnOk P w K mg base CX0 (k + 1) f fd ["self"] (spAll K C S) := by
  refine F.ok scAll (fun vs H Q E h => ?_) (fun cdv A outer s0 H vs Q E hr h => ?_)
  · obtain ⟨R, T, xs, toks, p, pe, ds, xe, rfl, _⟩ := h
    rfl
  · obtain ⟨R, T, xs, toks, p, pe, ds, xe, rfl, rd, pa, hxe, ee, ln, kQ⟩ := h
    have hrk : Room k _ := hr
    refine ⟨_, pss_cons (ps_set (i := 1) scAll.nd rfl (Or.inl rfl) (pe_lst pa_nil))
      (pss_cons (ps_while PassesOwn.never (pt_cmpR op_ne (pe_ix ix_tup (pe_ix ix_list (pe_fld (pv 0) rfl) (pe_fld (pv 0) rfl) (fun _ _ => rfl)) pe_int (fun _ _ => rfl)) pe_str (nomark _))
        (pss_one (ps_expr (pe_bm PySem.F.plainAttrs_list PySem.F.slot_list_append PySem.F.type_list_append mt_append (pv 1) (pa_cons (pe_md ST c.cl hrk (pv 0) (pa_cons pe_int pa_nil)) pa_nil)))))
      (pss_one (ps_ret (pe_callTy call_tuple_of (by rfl) gt (by decide +kernel) (pa_cons (pv 1) pa_nil))))), ?_⟩
    refine ⟨Nat.zero_le _, fun L nL => ?_⟩
    obtain ⟨⟨dx, r⟩, _⟩ := id rd
    have RL : R ≠ L := ne_of_none r nL
    have TL : T ≠ L := ne_of_none rd.t nL
    have rd2 := rd.ext (Ex.new (o := .lst []) nL)
    have b2 : But R H (upd H L (.lst [])) := But.ofEx (Ex.new nL)
    have hL2 : (upd H L (.lst [])) L = some (.lst []) := upd_same
    generalize upd H L (.lst []) = H2 at b2 rd2 hL2 ⊢
    refine q_while (fun m σ' H' => ∃ (done rest : List PyData) (p : Nat) (vs : List V), σ' = [some (.ref R), some (.ref L)] ∧ But R H H' ∧ Rdr C H' R T xs toks p ∧ H' L = some (.lst vs) ∧ Dds K H' vs done ∧ noLists done = true ∧ PSs S toks p pe rest ∧ ds = done ++ rest ∧ rest.length = m) ds.length ⟨[], ds, p, [], rfl, b2, rd2, hL2, .nil, rfl, pa, rfl, rfl⟩ ?_
    rintro m σ' H3 ⟨done, rest, p, vs, rfl, b3, rd3, hL3, g3, nl3, pa3, hd, hm⟩
    have cond : ∀ {x : Tok3}, toks[p]? = some x → EvT (tTest (tOp rNe (tOp (rIxT K) (tOp (rIxL K) (tFld K (tVar 0) "tokens") (tFld K (tVar 0) "place")) (tC (.int 0))) (tC (.str "end")))) ([some (.ref R), some (.ref L)] : L2.St) H3 (!decide (V.str x.1 = V.str "end")) := fun {x} hx => by
      obtain ⟨q, hq, ev⟩ := ev_tok c rd3 hx
      exact et_test (ev_op (ev_op (ev rfl) ev_c (rv_ixT (i := 0) (st_of hq) (atI_nat (j := 0) rfl))) ev_c (rv_ne rfl))
    cases pa3 with
    | nil =>
      refine ⟨false, et_is (cond hxe) (by rw [ee, decide_eq_true rfl]; rfl), fun z => (by cases z), fun _ H4 e4 => ?_⟩
      rw [List.append_nil] at hd
      refine ⟨_, rfl, L, vs, rfl, .inl ⟨sq_of (e4 _ _ hL3), fun t nt => kQ (.ref t) _ ((b3.ex e4).ex (Ex.new nt)) ?_⟩⟩
      rw [hd]
      exact .tup (st_of upd_same) (Dds.ext (e4.trans (Ex.new nt)) _ _ g3)
    | cons hx sx nx ne hs pr =>
      rename_i q x d r
      refine ⟨true, et_is (cond hx) (by rw [decide_eq_false (fun z => ne (V.str.inj z))]; rfl), fun _ H4 e4 => ?_, fun z => (by cases z)⟩
      refine ⟨fun σ2 H2 => ∃ (done rest : List PyData) (p : Nat) (vs : List V), σ2 = [some (.ref R), some (.ref L)] ∧ But R H H2 ∧ Rdr C H2 R T xs toks p ∧ H2 L = some (.lst vs) ∧ Dds K H2 vs done ∧ noLists done = true ∧ PSs S toks p pe rest ∧ ds = done ++ rest ∧ rest.length = r.length, fun σ2 H2 w => ⟨r.length, by rw [← hm, List.length_cons]; exact Nat.lt_succ_self _, w⟩, ?_⟩
      have rd4 := rd3.ext e4
      obtain ⟨⟨dx4, r4⟩, _⟩ := id rd4
      have hL4 := e4 _ _ hL3
      refine ⟨_, rfl, .inl ⟨rfl, _, sq_of hL4⟩, _, rfl, R, dx4, _, rfl, r4, rfl, spPar.at (E := E0) rd4 hs fun v H5 b5 rd5 g5 => ?_⟩
      have hL5 := b5 _ _ (Ne.symm RL) hL4
      have gd5 : Dds K H5 vs done := dds_ins r4 b5 _ _ (Dds.ext e4 _ _ g3)
      have vl := g3.len
      have dl : done.length ≤ 900 := by
        have z := congrArg List.length hd
        rw [List.length_append] at z
        omega
      refine ⟨L, vs, v, rfl, rfl, hL5, sz_lt (by omega), ?_⟩
      have nd := hl _ _ _ _ hs
      refine ⟨done ++ [d], r, q, vs ++ [v], rfl, fun a o n ha => ?_, ?_, upd_same, ?_, ?_, pr, by rw [hd, List.append_assoc]; rfl, rfl⟩
      · by_cases al : a = L
        · rw [al, nL] at ha
          cases ha
        · rw [upd_ne al]
          exact b5 _ _ n (e4 _ _ (b3 _ _ n ha))
      · obtain ⟨⟨dx5, r5⟩, t5, k5⟩ := rd5
        refine ⟨⟨dx5, ?_⟩, ?_, k5.pres fun c ys hc => ?_⟩
        · rw [upd_ne RL]
          exact r5
        · rw [upd_ne TL]
          exact t5
        · rw [upd_ne (fun z => by rw [z, hL5] at hc; cases hc)]
          exact hc
      · exact Dds.app (Dds.upd hL5 _ _ nl3 gd5) (.cons (Dd.upd hL5 _ _ nd g5) .nil)
      · refine noLists_of fun y my => ?_
        rcases List.mem_append.mp my with m | m
        · exact noList_mem nl3 m
        · rw [List.mem_singleton.mp m]
          exact nd
end
/-- what n nested parentheses read -/
def RowN (O : Par) : Nat → Par
  | 0 => O
  | j + 1 => RowOf (4 - j) (RowN O j)
def XP : Nat → Par
  | 0 => fun _ _ _ _ => False
  | n + 1 => RowN (OpdR (XP n)) 5
def SP (E : Par) : Nat → Par
  | 0 => PS E fun _ _ _ _ => False
  | m + 1 => PS E (BlkR (SP E m))
theorem RowN.nl {O : Par} (h : NlP O) : ∀ j, NlP (RowN O j)
  | 0 => h
  | j + 1 => RowOf.nl (RowN.nl h j)
theorem XP.nl : ∀ n, NlP (XP n)
  | 0 => fun _ _ _ _ h => False.elim h
  | n + 1 => RowN.nl (OpdR.nl (XP.nl n)) 5
theorem no_nl : NlP fun _ _ _ _ => False := fun _ _ _ _ h => False.elim h
theorem SP.nl {E : Par} (h : NlP E) : ∀ m, NlP (SP E m)
  | 0 => PS.nl h no_nl
  | m + 1 => PS.nl h (BlkR.nl (SP.nl h m))
theorem fn_no {P : Program} {w : World} {K : PySem.W.Frag} {mg : Str → Option Value} {base : Heap} {CX : CXT} {k : Nat} {f C : Addr} {fd : FuncData} {ps : List Str} {args : List V} : FnOk P w K mg base CX k f fd ps (spPar K C args fun _ _ _ _ => False) :=
  ⟨fun vs H Q E h => (by obtain ⟨_, _, _, _, _, _, _, _, _, z, _⟩ := h; exact False.elim z), fun A outer sh H args us vs Q E hr e b r h => (by obtain ⟨_, _, _, _, _, _, _, _, _, z, _⟩ := h; exact False.elim z)⟩
/-- the methods of Reader, found -/
structure RdM (P : Program) (w : World) (K : PySem.W.Frag) (mg : Str → Option Value) (base : Heap) (C : Addr) (m : Str) (st : Stmt) (ps : List Str) : Prop where
  ex : ∃ (f : Addr) (fd : FuncData), Meth K C m f ∧ Fun K m (("Reader." : Str) ++ m) st f fd ∧ Binds K fd ps []
structure RdAll (P : Program) (w : World) (K : PySem.W.Frag) (mg : Str → Option Value) (base : Heap) (C pG pA : Addr) (gs : List Addr) (es : Array DictEntry) (nn : Nat) : Prop where
  c : RdC K C
  G : Gr K mg pG gs
  A : Ar K w mg pA es nn
  gl : mg "len" = none
  gt : mg "tuple" = none
  gN : ∃ u, mg "MOST_NESTED" = some u ∧ RelV (.int 12) u
  gC : ∃ u, mg "COMPARING" = some u ∧ RelV (.int 2) u
  is : MD P w K mg base C "is_next" ["self", "sign"] 1 (spIs C)
  tk : MD P w K mg base C "take" ["self", "sign"] 2 (spTake C)
  tn : MD P w K mg base C "take_name" ["self"] 1 (spName C)
  en : MD P w K mg base C "ended" ["self", "statement"] 3 (spEnd C)
  has : MD P w K mg base C "has_operator" ["self", "group"] 1 (spHas C)
  step : ∃ (f : Addr) (fd : FuncData), Meth K C "step_in" f ∧ Fun K "step_in" "Reader.step_in" rStep f fd ∧ Binds K fd ["self", "depth"] []
  exp : ∃ (f : Addr) (fd : FuncData), Meth K C "expression" f ∧ Fun K "expression" "Reader.expression" rExp f fd ∧ Binds K fd ["self", "depth"] []
  row : ∃ (f : Addr) (fd : FuncData), Meth K C "row" f ∧ Fun K "row" "Reader.row" rRow f fd ∧ Binds K fd ["self", "group", "depth"] []
  opd : ∃ (f : Addr) (fd : FuncData), Meth K C "operand" f ∧ Fun K "operand" "Reader.operand" rOpd f fd ∧ Binds K fd ["self", "depth"] []
  call : ∃ (f : Addr) (fd : FuncData), Meth K C "call" f ∧ Fun K "call" "Reader.call" rCall f fd ∧ Binds K fd ["self", "word", "at", "depth"] []
  blk : ∃ (f : Addr) (fd : FuncData), Meth K C "block" f ∧ Fun K "block" "Reader.block" rBlk f fd ∧ Binds K fd ["self", "depth"] []
  oth : ∃ (f : Addr) (fd : FuncData), Meth K C "other_block" f ∧ Fun K "other_block" "Reader.other_block" rOth f fd ∧ Binds K fd ["self", "depth"] []
  bst : ∃ (f : Addr) (fd : FuncData), Meth K C "block_statement" f ∧ Fun K "block_statement" "Reader.block_statement" rBst f fd ∧ Binds K fd ["self", "word", "depth"] []
  stm : ∃ (f : Addr) (fd : FuncData), Meth K C "statement" f ∧ Fun K "statement" "Reader.statement" rStm f fd ∧ Binds K fd ["self", "depth"] []
  all : ∃ (f : Addr) (fd : FuncData), Meth K C "all_statements" f ∧ Fun K "all_statements" "Reader.all_statements" rAll f fd ∧ Binds K fd ["self"] []
section
variable {P : Program} {w : World} {K : PySem.W.Frag} {mg : Str → Option Value} {base : Heap} {C pG pA : Addr} {gs : List Addr} {es : Array DictEntry} {nn : Nat}
theorem RdAll.row_ (M : RdAll P w K mg base C pG pA gs es nn) {O : Par} (hl : NlP O) {k : Nat} (k1 : 1 ≤ k) {dep : Int} (OP : MD P w K mg base C "operand" ["self", "depth"] k (spPar K C [.int dep] O)) : ∀ j, j ≤ 5 → MD P w K mg base C "row" ["self", "group", "depth"] (k + 1 + j) (spPar K C [.int ((5 - j : Nat) : Int), .int dep] (RowN O j))
  | 0, _ => by
    obtain ⟨f, fd, m, F, b⟩ := M.row
    exact ⟨_, _, m, ok_row5 F M.c M.G OP, b⟩
  | j + 1, h => by
    obtain ⟨f, fd, m, F, b⟩ := M.row
    have ih := M.row_ hl k1 OP j (by omega)
    have e1 : 5 - (j + 1) = 4 - j := by omega
    have e2 : 5 - j = (4 - j) + 1 := by omega
    rw [e2] at ih
    rw [e1]
    exact ⟨_, _, m, ok_rowg (k := k + 1 + j) (g := 4 - j) (by omega) F M.c M.G (by omega) M.gt M.gC M.has ih (RowN.nl hl j), b⟩
theorem RdAll.ex (M : RdAll P w K mg base C pG pA gs es nn) : ∀ (n dep : Nat), dep + n ≤ 12 → MD P w K mg base C "expression" ["self", "depth"] (9 * n + 3) (spPar K C [.int (dep : Int)] (XP n))
  | 0, dep, _ => by
    obtain ⟨f, fd, m, F, b⟩ := M.exp
    exact ⟨_, _, m, fn_no, b⟩
  | n + 1, dep, h => by
    have ih := M.ex n (dep + 1) (by omega)
    have d1 : ((dep + 1 : Nat) : Int) = (dep : Int) + 1 := by omega
    rw [d1] at ih
    obtain ⟨fs, fds, ms, Fs, bs⟩ := M.step
    have ST : MD P w K mg base C "step_in" ["self", "depth"] 3 (spStep C ((dep : Int) + 1)) := ⟨_, _, ms, ok_step (by omega) Fs M.c M.gN M.tk, bs⟩
    obtain ⟨fc, fdc, mc, Fc, bc⟩ := M.call
    have CA : MD P w K mg base C "call" ["self", "word", "at", "depth"] (9 * n + 3 + 1) (spCallA K C ((dep : Int) + 1) (XP n)) := ⟨_, _, mc, callA fun s a => ok_call (by omega) Fc M.c M.A M.gl M.gt M.is M.tk ST ih (XP.nl n), bc⟩
    obtain ⟨fo, fdo, mo, Fo, bo⟩ := M.opd
    have OP : MD P w K mg base C "operand" ["self", "depth"] (9 * n + 3 + 2) (spPar K C [.int (dep : Int)] (OpdR (XP n))) := ⟨_, _, mo, ok_opd (by omega) Fo M.c M.is M.tk ST ih CA, bo⟩
    have R0 := M.row_ (OpdR.nl (XP.nl n)) (by omega) OP 5 (Nat.le_refl 5)
    obtain ⟨fe, fde, me, Fe, be⟩ := M.exp
    have q := ok_exp Fe M.c R0
    have e : 9 * n + 3 + 2 + 1 + 5 + 1 = 9 * (n + 1) + 3 := by omega
    rw [e] at q
    exact ⟨_, _, me, q, be⟩
theorem RdAll.st (M : RdAll P w K mg base C pG pA gs es nn) (n : Nat) : ∀ (m dep : Nat), dep + m + n ≤ 12 → MD P w K mg base C "statement" ["self", "depth"] (9 * n + 3 + 5 + 4 * m) (spPar K C [.int (dep : Int)] (SP (XP n) m))
  | 0, dep, h => by
    have X := M.ex n dep (by omega)
    obtain ⟨fs, fds, ms, Fs, bs⟩ := M.stm
    obtain ⟨fb, fdb, mb, Fb, bb⟩ := M.bst
    obtain ⟨fk, fdk, mk, Fk, bk⟩ := M.blk
    obtain ⟨fo, fdo, mo, Fo, bo⟩ := M.oth
    have BL : MD P w K mg base C "block" ["self", "depth"] 2 (spPar K C [.int ((dep : Int) + 1)] fun _ _ _ _ => False) := ⟨_, _, mk, fn_no, bk⟩
    have OT : MD P w K mg base C "other_block" ["self", "depth"] 3 (spPar K C [.int ((dep : Int) + 1)] (OthR fun _ _ _ _ => False)) := ⟨_, _, mo, ok_oth (Nat.le_refl 2) Fo M.c M.is M.tk BL, bo⟩
    have BS : MD P w K mg base C "block_statement" ["self", "word", "depth"] (9 * n + 3 + 1) (spBst K C (dep : Int) (XP n) fun _ _ _ _ => False) := ⟨_, _, mb, ok_bst (k := 9 * n + 3) (by omega) (Nat.le_refl _) (by omega) (by omega) Fb M.c M.tk M.tn X BL OT no_nl, bb⟩
    exact ⟨_, _, ms, ok_stm (k := 9 * n + 3 + 4) (by omega) (by omega) (by omega) Fs M.c M.is M.tk M.en X BS, bs⟩
  | m + 1, dep, h => by
    have X := M.ex n dep (by omega)
    have ih := M.st n m (dep + 1) (by omega)
    have d1 : ((dep + 1 : Nat) : Int) = (dep : Int) + 1 := by omega
    rw [d1] at ih
    obtain ⟨fs, fds, ms, Fs, bs⟩ := M.stm
    obtain ⟨fb, fdb, mb, Fb, bb⟩ := M.bst
    obtain ⟨fk, fdk, mk, Fk, bk⟩ := M.blk
    obtain ⟨fo, fdo, mo, Fo, bo⟩ := M.oth
    have nlS := SP.nl (XP.nl n) m
    have BL : MD P w K mg base C "block" ["self", "depth"] (9 * n + 3 + 5 + 4 * m + 1) (spPar K C [.int ((dep : Int) + 1)] (BlkR (SP (XP n) m))) := ⟨_, _, mk, ok_blk (by omega) (by omega) Fk M.c M.gt M.gN M.is M.tk ih nlS, bk⟩
    have OT : MD P w K mg base C "other_block" ["self", "depth"] (9 * n + 3 + 5 + 4 * m + 2) (spPar K C [.int ((dep : Int) + 1)] (OthR (BlkR (SP (XP n) m)))) := ⟨_, _, mo, ok_oth (by omega) Fo M.c M.is M.tk BL, bo⟩
    have BS : MD P w K mg base C "block_statement" ["self", "word", "depth"] (9 * n + 3 + 5 + 4 * m + 3) (spBst K C (dep : Int) (XP n) (BlkR (SP (XP n) m))) := ⟨_, _, mb, ok_bst (k := 9 * n + 3 + 5 + 4 * m + 2) (by omega) (by omega) (by omega) (by omega) Fb M.c M.tk M.tn X BL OT (BlkR.nl nlS), bb⟩
    exact ⟨_, _, ms, ok_stm (k := 9 * n + 3 + 5 + 4 * m + 3) (by omega) (by omega) (by omega) Fs M.c M.is M.tk M.en X BS, bs⟩
theorem RdAll.al (M : RdAll P w K mg base C pG pA gs es nn) (n m : Nat) (h : m + n ≤ 12) : MD P w K mg base C "all_statements" ["self"] (9 * n + 9 + 4 * m) (spAll K C (SP (XP n) m)) := by
  have S := M.st n m 0 (by omega)
  obtain ⟨f, fd, mm, F, b⟩ := M.all
  have q := ok_all F M.c M.gt S (SP.nl (XP.nl n) m)
  have e : 9 * n + 3 + 5 + 4 * m + 1 = 9 * n + 9 + 4 * m := by omega
  rw [e] at q
  exact ⟨_, _, mm, q, b⟩
end
end K72
set_option maxHeartbeats 4000000
namespace K72
open PySem PySem.Spec PyProof.Rows L2 Evl My LamX
/-! the writer: expressions -/
abbrev sOpT : Stmt := top 26
abbrev sRwT : Stmt := top 27
abbrev sExT : Stmt := top 28
abbrev sHdT : Stmt := top 29
abbrev sStL : Stmt := top 30
abbrev sInL : Stmt := top 31
abbrev sBlL : Stmt := top 32
abbrev mkS (xs : List Nat) : Str := ⟨xs.toArray⟩
/-- expressions -/
inductive Exp
  | num (m : Nat)
  | txt (xs : List Nat)
  | var (s : Str)
  | call (s : Str) (es : List Exp)
  | row (g : Nat) (ss : List Str) (o : Exp) (es : List Exp)
mutual
/-- as it is read -/
def exD : Exp → PyData
  | .num m => .tuple [.str "number", .int (m : Int)]
  | .txt xs => .tuple [.str "text", .str (mkS xs)]
  | .var s => .tuple [.str "variable", .str s]
  | .call s es => .tuple [.str "call", .str s, .tuple (exDs es)]
  | .row g ss o es => .tuple [.str "row", .int (g : Int), .tuple (exD o :: exDs es), .tuple (ss.map PyData.str)]
def exDs : List Exp → List PyData
  | [] => []
  | e :: es => exD e :: exDs es
end
mutual
def exH : Exp → Nat
  | .num _ => 0
  | .txt _ => 0
  | .var _ => 0
  | .call _ es => exHs es + 1
  | .row _ _ o es => max (exH o) (exHs es) + 1
def exHs : List Exp → Nat
  | [] => 0
  | e :: es => max (exH e) (exHs es)
end
def weave : List Str → List Str → List Str
  | s :: ss, t :: ts => s :: t :: weave ss ts
  | _, _ => []
def wrap (g : Nat) (e : Exp) (t : Str) : Str := match e with
  | .row g' _ _ _ => if g' ≤ g then ("(" ++ t) ++ ")" else t
  | _ => t
mutual
/-- as it is written -/
def exT : Exp → Str
  | .num m => toString (m : Int)
  | .txt xs => ("\"" ++ mkS xs) ++ "\""
  | .var s => s
  | .call s es => ((s ++ "(") ++ Txt.join ", " (exTs es)) ++ ")"
  | .row g ss o es => Txt.join " " (wrap g o (exT o) :: weave ss (exTw g es))
def exTs : List Exp → List Str
  | [] => []
  | e :: es => exT e :: exTs es
def exTw (g : Nat) : List Exp → List Str
  | [] => []
  | e :: es => wrap g e (exT e) :: exTw g es
end
theorem exDs_map : ∀ es, exDs es = es.map exD
  | [] => rfl
  | e :: es => by rw [exDs, exDs_map es]; rfl
theorem exTs_map : ∀ es, exTs es = es.map exT
  | [] => rfl
  | e :: es => by rw [exTs, exTs_map es]; rfl
theorem exTw_map (g : Nat) : ∀ es, exTw g es = es.map fun e => wrap g e (exT e)
  | [] => rfl
  | e :: es => by rw [exTw, exTw_map g es]; rfl
theorem exDs_len (es : List Exp) : (exDs es).length = es.length := by rw [exDs_map, List.length_map]
theorem exHs_le : ∀ {es : List Exp} {e : Exp}, e ∈ es → exH e ≤ exHs es
  | x :: es, e, h => by
    rw [exHs]
    rcases List.mem_cons.mp h with rfl | h
    · exact Nat.le_max_left _ _
    · exact Nat.le_trans (exHs_le h) (Nat.le_max_right _ _)
/-- the texts are short -/
inductive Fit : Exp → Prop
  | num {m : Nat} : m < 10 ^ 18 → Fit (.num m)
  | txt {xs : List Nat} : xs.length ≤ 2000 → Fit (.txt xs)
  | var {s : Str} : s.length ≤ 2000 → Fit (.var s)
  | call {s : Str} {es : List Exp} : (exT (.call s es)).length ≤ 3000 → es.length ≤ 900 → (∀ e ∈ es, Fit e) → Fit (.call s es)
  | row {g : Nat} {ss : List Str} {o : Exp} {es : List Exp} : (exT (.row g ss o es)).length ≤ 3000 → ss.length = es.length → es.length ≤ 900 → (∀ s ∈ ss, s.length ≤ 100) → Fit o → (∀ e ∈ es, Fit e) → Fit (.row g ss o es)
inductive EvS (σ : L2.St) (H : Hp) : List TE → List Str → Prop
  | nil : EvS σ H [] []
  | cons {t : TE} {y : Str} {ts : List TE} {ys : List Str} : Ev t σ H (.str y) → EvS σ H ts ys → EvS σ H (t :: ts) (y :: ys)
def cat (acc : Str) : List Str → Str
  | [] => acc
  | y :: ys => cat (acc ++ y) ys
theorem len_app (a b : Str) : (a ++ b).length = a.length + b.length := by
  show (a.cps ++ b.cps).size = _
  rw [Array.size_append]
  rfl
theorem cat_len : ∀ (ys : List Str) (acc : Str), acc.length ≤ (cat acc ys).length
  | [], acc => Nat.le_refl _
  | y :: ys, acc => by
    have ih := cat_len ys (acc ++ y)
    rw [len_app] at ih
    show acc.length ≤ (cat (acc ++ y) ys).length
    omega
theorem ev_js {σ : L2.St} {H : Hp} {ts : List TE} {ys : List Str} (h : EvS σ H ts ys) : ∀ {acc : Str}, (cat acc ys).length ≤ 100000 → ∀ H1, Ex H H1 → ∀ Q : Str → Hp → Prop, (∀ H2, Ex H1 H2 → Q (cat acc ys) H2) → tJs ts acc σ H1 Q := by
  induction h with
  | nil => exact fun _ H1 _ Q q => q H1 (Ex.refl _)
  | @cons t y ts ys ht _ ih =>
    intro acc hz H1 e Q q
    refine ht H1 e _ fun H2 e2 => ⟨y, rfl, ?_, ih hz H2 (e.trans e2) Q fun H3 e3 => q H3 (e2.trans e3)⟩
    exact sz_of (Nat.le_trans (cat_len ys (acc ++ y)) hz)
theorem ev_fstr {σ : L2.St} {H : Hp} {ts : List TE} {ys : List Str} {z : Str} (h : EvS σ H ts ys) (e : cat Str.empty ys = z) (hz : z.length ≤ 100000) : Ev (fun σ H Q => tJs ts Str.empty σ H fun out H1 => Q (.str out) H1) σ H (.str z) := fun H1 x Q q => ev_js h (by rw [e]; exact hz) H1 x _ fun H2 e2 => by
  rw [e]
  exact q H2 e2
theorem ev_fmtS {σ : L2.St} {H : Hp} {te : TE} {y : Str} (h : Ev te σ H (.str y)) (hy : y.length ≤ 100000) : Ev (tFmt te) σ H (.str y) := fun H1 e Q q => h H1 e _ fun H2 e2 => .inl ⟨y, rfl, sz_of hy, q H2 e2⟩
theorem call_strB {X : Cx} : L2.CallR X (.type "str") (fun xs H Q => (∃ a, xs = [.str a] ∧ Q (.str a) H) ∨ ∃ i, xs = [.int i] ∧ i.natAbs.log2 < 1920 ∧ Q (.str (toString i)) H) := by
  intro pins s σ H xs us Q I r h
  rcases h with h | h
  · exact SkE.call_str_str pins s σ H xs us Q I r h
  · exact call_str_int pins s σ H xs us Q I r h
theorem el_lcT {K : PySem.W.Frag} {σ : L2.St} {H : Hp} {a : Addr} {xs : List V} {tl te : TE} {t : TT} {j : Nat} {vs : List Nat} (f : Nat → Bool) (v : Nat → V) (h : Ev tl σ H (.ref a)) (hx : SqT K H a xs) (hz : xs.length ≤ 40000) (hw : ∀ x, wipe ((wipe σ vs).set j (some x)) vs = wipe σ vs)
    (ht : ∀ (i : Nat) (x : V) H1, Ex H H1 → xs[i]? = some x → EvT t ((wipe σ vs).set j (some x)) H1 (f i)) (he : ∀ (i : Nat) (x : V) H1, Ex H H1 → xs[i]? = some x → f i = true → Ev te ((wipe σ vs).set j (some x)) H1 (v i)) :
    EvL (tLc (iTup K tl) (gName j) t te vs) σ H (given xs.length f v) := fun H0 e Q q => h H0 e _ fun H1 e1 => ⟨a, rfl, ⟨xs, ex_t (e.trans e1) hx⟩, fun Dl hD =>
  lc_tup (xs := xs) (Cw H1 f v Dl) ⟨hD, Ex.new hD, upd_same⟩ (fun i H' _ p => ex_t ((e.trans e1).trans p.2.1) hx) (fun i x H' hi p => ⟨hw x, cw_turn p (by have := (List.getElem?_eq_some_iff.mp hi).1; omega) (ht i x H1 (e.trans e1) hi) (fun hf => he i x H1 (e.trans e1) hi hf)⟩)
  (fun H' p => q Dl H' (fresh_back e1 p.1) (e1.trans p.2.1) p.2.2)⟩
theorem et_yes {σ : L2.St} {H : Hp} : EvT tYes σ H true := fun H1 _ Q q => q H1 (Ex.refl _)
theorem emp_app (s : Str) : Str.empty ++ s = s := by
  cases s with
  | mk a =>
    show (⟨#[] ++ a⟩ : Str) = ⟨a⟩
    simp
theorem app_len (a b : Str) : (a ++ b).length = a.length + b.length := len_app a b
theorem len_tl (s : Str) : s.cps.toList.length = s.length := Array.length_toList
theorem lenT (s : Str) : (TL.tl s).length = s.length := Array.length_toList
theorem numLen {m : Nat} (h : m < 10 ^ 18) : (toString (m : Int) : Str).length ≤ 18 := by
  rw [← len_tl, show (toString (m : Int) : Str).cps.toList = TL.numL m from TL.tl_num m]
  exact TL.numL_len (by decide) h
theorem Fit.len {e : Exp} (h : Fit e) : (exT e).length ≤ 3000 := by
  cases h with
  | num h =>
    have := numLen h
    rw [exT]
    omega
  | txt h =>
    rename_i xs
    have e1 : ("\"" : Str).length = 1 := by decide +kernel
    have e2 : (mkS xs).length = xs.length := by
      show xs.toArray.size = _
      simp
    rw [exT, app_len, app_len]
    omega
  | var h =>
    rw [exT]
    omega
  | call h _ _ => exact h
  | row h _ _ _ _ _ => exact h
theorem el_map {K : PySem.W.Frag} {σ : L2.St} {H : Hp} {a : Addr} {xs : List V} {ds : List PyData} {zs : List Str} {tl te : TE} {j : Nat} {vs : List Nat} (h : Ev tl σ H (.ref a)) (hx : SqT K H a xs) (hz : xs.length ≤ 40000) (hw : ∀ x, wipe ((wipe σ vs).set j (some x)) vs = wipe σ vs) (g : Dds K H xs ds) (l : zs.length = ds.length)
    (he : ∀ (i : Nat) (x : V) (d : PyData) (z : Str) H1, Ex H H1 → ds[i]? = some d → zs[i]? = some z → Dd K H1 x d → Ev te ((wipe σ vs).set j (some x)) H1 (.str z)) : EvL (tLc (iTup K tl) (gName j) tYes te vs) σ H (zs.map V.str) := by
  have q := el_lcT (K := K) (t := tYes) (te := te) (j := j) (vs := vs) (fun _ => true) (fun i => V.str (zs.getD i "")) h hx hz hw (fun i x H1 e1 hx => et_yes) (fun i x H1 e1 hi _ => by
    obtain ⟨d, hd, gd⟩ := g.get hi
    have li := (List.getElem?_eq_some_iff.mp hd).1
    have hz : zs[i]? = some zs[i] := List.getElem?_eq_getElem (by omega)
    have ez : zs.getD i "" = zs[i] := by rw [List.getD_eq_getElem?_getD, hz]; rfl
    show Ev te _ H1 (.str (zs.getD i ""))
    rw [ez]
    exact he i x d _ H1 e1 hd hz (Dd.ext e1 _ _ gd))
  have e : given xs.length (fun _ => true) (fun i => V.str (zs.getD i "")) = zs.map V.str := by
    unfold given
    rw [List.filter_eq_self.mpr (fun _ _ => rfl), g.len, ← l]
    refine List.ext_getElem (by simp) fun i h1 h2 => ?_
    simp only [List.getElem_map, List.getElem_range]
    rw [List.getD_eq_getElem?_getD, List.getElem?_eq_getElem (by simpa using h2)]
    rfl
  rw [e] at q
  exact q
def spX (K : PySem.W.Frag) (n : Nat) : Sp := fun vs H Q _ => ∃ (v : V) (e : Exp), vs = [v] ∧ Dd K H v (exD e) ∧ exH e < n ∧ Fit e ∧ ∀ H', Ex H H' → Q (.str (exT e)) H'
def spO (K : PySem.W.Frag) (n : Nat) : Sp := fun vs H Q _ => ∃ (v : V) (e : Exp) (g : Nat), vs = [.int (g : Int), v] ∧ Dd K H v (exD e) ∧ exH e < n ∧ Fit e ∧ ∀ H', Ex H H' → Q (.str (wrap g e (exT e))) H'
def spR (K : PySem.W.Frag) (n : Nat) : Sp := fun vs H Q _ => ∃ (v : V) (g : Nat) (ss : List Str) (o : Exp) (es : List Exp), vs = [v] ∧ Dd K H v (exD (.row g ss o es)) ∧ exH (.row g ss o es) < n ∧ Fit (.row g ss o es) ∧ ∀ H', Ex H H' → Q (.str (exT (.row g ss o es))) H'
/-- the kind of an expression -/
def kdE : Exp → Str
  | .num _ => "number"
  | .txt _ => "text"
  | .var _ => "variable"
  | .call _ _ => "call"
  | .row _ _ _ _ => "row"
theorem kd_at : ∀ e : Exp, ∃ d r, exD e = .tuple (.str (kdE e) :: d :: r)
  | .num _ => ⟨_, _, by rw [exD]; rfl⟩
  | .txt _ => ⟨_, _, by rw [exD]; rfl⟩
  | .var _ => ⟨_, _, by rw [exD]; rfl⟩
  | .call _ _ => ⟨_, _, by rw [exD]; rfl⟩
  | .row _ _ _ _ => ⟨_, _, by rw [exD]; rfl⟩
section
variable {P : Program} {w : World} {K : PySem.W.Frag} {mg : Str → Option Value} {base : Heap} {f C : Addr} {fd : FuncData}
def NX : List Str := ["expression", "arguments", "each"]
theorem scExT : FnScope NX ["expression"] (defScope sExT) := ⟨rfl, rfl, rfl, by decide +kernel, rfl, by decide +kernel, by decide +kernel⟩
/-- d[j] of a datum that is a tuple -/
theorem ed_ix {σ : L2.St} {H : Hp} {i j : Nat} {v : V} {ds : List PyData} {d : PyData} (h0 : σ[i]? = some (some v)) (g : Dd K H v (.tuple ds)) (hd : ds[j]? = some d) : EvD K (tOp (rIxT K) (tVar i) (tC (.int (j : Int)))) σ H d := ed_ixT (ed_var h0 g) (fun H1 _ => ev_c) hd
theorem EvD.str' {te : TE} {σ : L2.St} {H : Hp} {s : Str} (h : EvD K te σ H (.str s)) : Ev te σ H (.str s) := fun H1 e Q q => h H1 e _ fun v H2 e2 g => by
  cases g
  exact q H2 e2
theorem EvD.int' {te : TE} {σ : L2.St} {H : Hp} {s : Int} (h : EvD K te σ H (.int s)) : Ev te σ H (.int s) := fun H1 e Q q => h H1 e _ fun v H2 e2 g => by
  cases g
  exact q H2 e2
theorem ev_kd {σ : L2.St} {H : Hp} {i : Nat} {v : V} {e : Exp} {s : Str} (h0 : σ[i]? = some (some v)) (g : Dd K H v (exD e)) : EvT (tTest (tOp rEq (tOp (rIxT K) (tVar i) (tC (.int 0))) (tC (.str s)))) σ H (decide (kdE e = s)) := by
  obtain ⟨d, r, ed⟩ := kd_at e
  rw [ed] at g
  exact et_is (et_test (ev_eqS (EvD.str' (ed_ix (j := 0) h0 g rfl)) ev_c sc_s)) dec_str
theorem scOpT : FnScope ["group", "operand", "text"] ["group", "operand"] (defScope sOpT) := ⟨rfl, rfl, rfl, by decide +kernel, rfl, by decide +kernel, by decide +kernel⟩
theorem ok_opt {k n : Nat} (F : Fun K "operand_text" "operand_text" sOpT f fd) (EX : Df P w K mg base "expression_text" ["expression"] k (spX K n)) : FnOk P w K mg base CX0 (k + 1) f fd ["group", "operand"] (spO K n) := by
  refine F.ok scOpT (fun vs H Q E h => ?_) (fun cdv A outer s0 H vs Q E hr h => ?_)
  · obtain ⟨v, e, g, rfl, _⟩ := h
    rfl
  · obtain ⟨v, e, g, rfl, gd, he, ft, kQ⟩ := h
    have hrk : Room k _ := hr
    refine ⟨_, pss_cons (ps_set (i := 2) scOpT.nd rfl (Or.inl rfl) (pe_df EX hrk rfl (pa_cons (pv 1) pa_nil)))
      (pss_cons (ps_if (PW.pt (pw_and (pt_cmpR op_eq (pe_ix ix_tup (pv 1) pe_int (fun _ _ => rfl)) pe_str (nomark _)) (pw_and1 (pt_cmpR op_le (pe_ix ix_tup (pv 1) pe_int (fun _ _ => rfl)) (pv 0) (nomark _)))))
        (pss_one (ps_ret (pe_joined (.cons pe_str (.cons (pe_fmt (pv 2)) (.cons pe_str .nil)))))) pss_nil)
      (pss_one (ps_ret (pv 2)))), ?_⟩
    refine ⟨_, rfl, v, e, rfl, gd, he, ft, fun H1 e1 => ?_⟩
    have fl := ft.len
    have g1 := Dd.ext e1 _ _ gd
    by_cases hk : kdE e = "row"
    · cases e with
      | row g' ss o es =>
        have le : EvT (tTest (tOp (rI0 fun i j => .bl (decide (i ≤ j))) (tOp (rIxT K) (tVar 1) (tC (.int 1))) (tVar 0))) ([some (.int (g : Int)), some v, some (.str (exT (.row g' ss o es)))] : L2.St) H1 (decide ((g' : Int) ≤ (g : Int))) := by
          rw [exD] at g1
          exact et_test (ev_op (EvD.int' (ed_ix (j := 1) rfl g1 rfl)) (ev_var rfl) rv_I0)
        have dle : decide ((g' : Int) ≤ (g : Int)) = decide (g' ≤ g) := by
          rw [Bool.eq_iff_iff, decide_eq_true_eq, decide_eq_true_eq]
          omega
        refine q_when (b := decide (g' ≤ g)) (et_is (et_and (a := true) (et_is (ev_kd rfl g1) (decide_eq_true hk)) fun _ => le) (by rw [dle]; rfl)) (fun hb H2 e2 => ?_) (fun hb H2 e2 => ?_)
        · have hw : wrap g (.row g' ss o es) (exT (.row g' ss o es)) = ("(" ++ exT (.row g' ss o es)) ++ ")" := if_pos (of_decide_eq_true hb)
          rw [hw] at kQ
          have e1' : ("(" : Str).length = 1 := by decide +kernel
          have e2' : (")" : Str).length = 1 := by decide +kernel
          exact s_ret (ev_fstr (.cons ev_c (.cons (ev_fmtS (ev_var rfl) (by omega)) (.cons ev_c .nil))) (by
            show ((Str.empty ++ "(") ++ _) ++ ")" = _
            rw [emp_app]) (by rw [app_len, app_len]; omega)) fun H3 e3 => kQ H3 ((e1.trans e2).trans e3)
        · have hw : wrap g (.row g' ss o es) (exT (.row g' ss o es)) = exT (.row g' ss o es) := if_neg (of_decide_eq_false hb)
          rw [hw] at kQ
          exact s_ret (ev_var rfl) fun H3 e3 => kQ H3 ((e1.trans e2).trans e3)
      | num _ => exact absurd hk (show ¬ ("number" : Str) = "row" by decide +kernel)
      | txt _ => exact absurd hk (show ¬ ("text" : Str) = "row" by decide +kernel)
      | var _ => exact absurd hk (show ¬ ("variable" : Str) = "row" by decide +kernel)
      | call _ _ => exact absurd hk (show ¬ ("call" : Str) = "row" by decide +kernel)
    · have hw : wrap g e (exT e) = exT e := by
        cases e with
        | row g' ss o es => exact absurd rfl hk
        | _ => rfl
      rw [hw] at kQ
      refine q_when (b := false) (et_is (et_and (a := false) (b := false) (et_is (ev_kd rfl g1) (decide_eq_false hk)) fun z => by cases z) rfl) (fun z => by cases z) fun _ H2 e2 => ?_
      exact s_ret (ev_var rfl) fun H3 e3 => kQ H3 ((e1.trans e2).trans e3)
end
end K72
set_option maxHeartbeats 4000000
namespace K72
open PySem PySem.Spec PyProof.Rows L2 Evl My LamX
/-! the writer: rows of operators, expressions -/
theorem cut1 {x : V} {r : List V} : cutV (x :: r) (some 1) none = r := by
  unfold cutV
  rw [show (some (1 : Int)) = some ((1 : Nat) : Int) from rfl, HT.sIx_nat, HT.sIx_none]
  have e : min 1 (x :: r).length = 1 := by
    rw [List.length_cons]
    omega
  rw [e]
  simp
theorem cut1n {x : V} {r : List V} {q : Prop} : ¬(HT.sIx (x :: r).length 0 (some 1) = 0 ∧ q) := fun z => by
  have z1 := z.1
  rw [show (some (1 : Int)) = some ((1 : Nat) : Int) from rfl, HT.sIx_nat] at z1
  rw [List.length_cons] at z1
  omega
theorem weave_take : ∀ {ss ts : List Str} {i : Nat} {s t : Str}, ss[i]? = some s → ts[i]? = some t → (weave ss ts).take (2 * (i + 1)) = (weave ss ts).take (2 * i) ++ [s, t]
  | s0 :: ss, t0 :: ts, 0, s, t, h1, h2 => by
    cases h1
    cases h2
    rfl
  | s0 :: ss, t0 :: ts, i + 1, s, t, h1, h2 => by
    have ih := weave_take (ss := ss) (ts := ts) (i := i) (s := s) (t := t) h1 h2
    have e1 : 2 * (i + 1 + 1) = 2 * (i + 1) + 1 + 1 := by omega
    have e2 : 2 * (i + 1) = 2 * i + 1 + 1 := by omega
    rw [e1]
    show s0 :: t0 :: (weave ss ts).take (2 * (i + 1)) = (s0 :: t0 :: weave ss ts).take (2 * (i + 1)) ++ [s, t]
    rw [ih, e2]
    rfl
theorem weave_len : ∀ {ss ts : List Str}, ss.length = ts.length → (weave ss ts).length = 2 * ss.length
  | [], [], _ => rfl
  | s :: ss, t :: ts, h => by
    have ih := weave_len (ss := ss) (ts := ts) (by simpa using h)
    show (weave ss ts).length + 1 + 1 = 2 * (ss.length + 1)
    omega
theorem weave_mem : ∀ {ss ts : List Str} {z : Str}, z ∈ weave ss ts → z ∈ ss ∨ z ∈ ts
  | s :: ss, t :: ts, z, h => by
    have h2 : z ∈ s :: t :: weave ss ts := h
    rcases List.mem_cons.mp h2 with rfl | h3
    · exact .inl List.mem_cons_self
    · rcases List.mem_cons.mp h3 with rfl | h4
      · exact .inr List.mem_cons_self
      · rcases weave_mem h4 with m | m
        · exact .inl (List.mem_cons_of_mem _ m)
        · exact .inr (List.mem_cons_of_mem _ m)
theorem sum_le {b : Nat} : ∀ {l : List Str}, (∀ t ∈ l, t.length ≤ b) → (l.map (·.length)).sum ≤ b * l.length
  | [], _ => by simp
  | t :: l, h => by
    have ih := sum_le (b := b) fun u hu => h u (List.mem_cons_of_mem _ hu)
    have q := h t List.mem_cons_self
    simp only [List.map_cons, List.sum_cons, List.length_cons]
    rw [Nat.mul_add]
    omega
theorem wrap_len {g : Nat} {e : Exp} (h : Fit e) : (wrap g e (exT e)).length ≤ 3002 := by
  have q := h.len
  have e1 : ("(" : Str).length = 1 := by decide +kernel
  have e2 : (")" : Str).length = 1 := by decide +kernel
  unfold wrap
  split
  · split
    · rw [app_len, app_len]
      omega
    · omega
  · omega
theorem exT_row {g : Nat} {ss : List Str} {o : Exp} {es : List Exp} : exT (.row g ss o es) = Txt.join " " (wrap g o (exT o) :: weave ss (es.map fun e => wrap g e (exT e))) := by rw [exT, exTw_map]
theorem dds4 {K : PySem.W.Frag} {H : Hp} {vs : List V} {a b c d : PyData} (h : Dds K H vs [a, b, c, d]) : ∃ x1 x2 x3 x4, vs = [x1, x2, x3, x4] ∧ Dd K H x1 a ∧ Dd K H x2 b ∧ Dd K H x3 c ∧ Dd K H x4 d := by
  cases h with
  | cons h1 h => cases h with
    | cons h2 h => cases h with
      | cons h3 h => cases h with
        | cons h4 h =>
          cases h
          exact ⟨_, _, _, _, rfl, h1, h2, h3, h4⟩
section
variable {P : Program} {w : World} {K : PySem.W.Frag} {mg : Str → Option Value} {base : Heap} {f C : Addr} {fd : FuncData}
def NRw : List Str := ["expression", "sort", "group", "operands", "operators", "words", "operator", "operand"]
theorem scRwT : FnScope NRw ["expression"] (defScope sRwT) := ⟨rfl, rfl, rfl, by decide +kernel, rfl, by decide +kernel, by decide +kernel⟩
theorem ok_rwt {k n : Nat} (F : Fun K "row_text" "row_text" sRwT f fd) (gz : mg "zip" = none) (OT : Df P w K mg base "operand_text" ["group", "operand"] k (spO K n)) : FnOk P w K mg base CX0 (k + 1) f fd ["expression"] (spR K (n + 1)) := by
  refine F.ok scRwT (fun vs H Q E h => ?_) (fun cdv A outer s0 H vs Q E hr h => ?_)
  · obtain ⟨v, g, ss, o, es, rfl, _⟩ := h
    rfl
  · obtain ⟨v, gg, ss, o, es, rfl, gd, he, ft, kQ⟩ := h
    have hrk : Room k _ := hr
    refine ⟨_, pss_cons (ps_asg (pv 0) (pg_tup rfl (pgs_cons (pg_name (i := 1) scRwT.nd rfl (Or.inl rfl)) (pgs_cons (pg_name (i := 2) scRwT.nd rfl (Or.inl rfl)) (pgs_cons (pg_name (i := 3) scRwT.nd rfl (Or.inl rfl)) (pgs_cons (pg_name (i := 4) scRwT.nd rfl (Or.inl rfl)) pgs_nil))))))
      (pss_cons (ps_set (i := 5) scRwT.nd rfl (Or.inl rfl) (pe_lst (pa_cons (pe_df OT hrk rfl (pa_cons (pv 2) (pa_cons (pe_ix ix_tup (pv 3) pe_int (fun _ _ => rfl)) pa_nil))) pa_nil)))
      (pss_cons (ps_for PassesOwn.never rfl (RZ.pi_zipA rfl gz (pa_cons (pv 4) (pa_cons (pe_slice sl_tup (pv 3) (po_some pe_int) po_none) pa_nil))) (pg_tup rfl (pgs_cons (pg_name (i := 6) scRwT.nd rfl (Or.inl rfl)) (pgs_cons (pg_name (i := 7) scRwT.nd rfl (Or.inl rfl)) pgs_nil)))
        (pss_one (ps_expr (pe_bm PySem.F.plainAttrs_list PySem.F.slot_list_extend PySem.F.type_list_extend mt_extend (pv 5) (pa_cons (pe_lst (pa_cons (pv 6) (pa_cons (pe_df OT hrk rfl (pa_cons (pv 2) (pa_cons (pv 7) pa_nil))) pa_nil))) pa_nil)))))
      (pss_one (ps_ret (pe_bm PySem.F.plainAttrs_str PySem.F.slot_str_join PySem.F.type_str_join mt_join pe_str (pa_cons (pv 5) pa_nil)))))), ?_⟩
    rw [exT_row] at kQ
    rw [exD] at gd
    rw [exH] at he
    obtain ⟨lt, l1, l9, ls, fo, fe⟩ : (exT (.row gg ss o es)).length ≤ 3000 ∧ ss.length = es.length ∧ es.length ≤ 900 ∧ (∀ s ∈ ss, s.length ≤ 100) ∧ Fit o ∧ ∀ e ∈ es, Fit e := by
      cases ft with
      | row a b c d e f => exact ⟨a, b, c, d, e, f⟩
    have ho : exH o < n := by
      have := Nat.le_max_left (exH o) (exHs es)
      omega
    have hes : ∀ e ∈ es, exH e < n := fun e m => by
      have := Nat.le_max_right (exH o) (exHs es)
      have := exHs_le m
      omega
    generalize hts : (es.map fun e => wrap gg e (exT e)) = ts at kQ
    have tl : ts.length = es.length := by rw [← hts, List.length_map]
    cases gd with
    | tup hs ha =>
    rename_i a xs
    obtain ⟨x1, x2, x3, x4, rfl, g1, g2, g3, g4⟩ := dds4 ha
    cases g1
    cases g2
    have g30 := g3
    cases g3 with
    | tup hs3 ha3 =>
    cases g4 with
    | tup hs4 ha4 =>
    rename_i a3 ys a4 zs
    have ez := ha4.txts
    subst ez
    cases ha3 with
    | cons gy0 ha3 =>
    rename_i y0 ys
    refine ⟨_, rfl, a, _, rfl, hs, rfl, _, _, rfl, _, _, rfl, _, _, rfl, _, _, rfl, rfl, ?_⟩
    refine ⟨_, rfl, ed_ix (K := K) (i := 3) (j := 0) rfl g30 rfl H (Ex.refl _) _ fun v1 H1 e1 gv => ⟨v1, o, gg, rfl, gv, ho, fo, fun H2 e2 => ⟨(show 1 ≤ sizeLine by decide), fun L nL => ?_⟩⟩⟩
    have nL0 : H L = none := fresh_back (e1.trans e2) nL
    have e3 : Ex H (upd H2 L (.lst [.str (wrap gg o (exT o))])) := (e1.trans e2).trans (Ex.new nL)
    have hL3 : (upd H2 L (.lst [.str (wrap gg o (exT o))])) L = some (.lst [.str (wrap gg o (exT o))]) := upd_same
    show tSeq _ _ _ _ (upd H2 L (.lst [.str (wrap gg o (exT o))]))
    generalize upd H2 L (.lst [.str (wrap gg o (exT o))]) = H3 at e3 hL3 ⊢
    refine ⟨_, rfl, _, rfl, 1, rfl, a3, _, rfl, ex_t e3 hs3, cut1n, fun p np => ?_⟩
    have pL : p ≠ L := fun z => by
      rw [z, hL3] at np
      cases np
    have e4 : Ex H3 (upd H3 p (.tup (cutV (y0 :: ys) (some 1) none))) := Ex.new np
    have hp4 : (upd H3 p (.tup (cutV (y0 :: ys) (some 1) none))) p = some (.tup ys) := by rw [upd_same, cut1]
    generalize upd H3 p (.tup (cutV (y0 :: ys) (some 1) none)) = H4 at e4 hp4 ⊢
    have yl := ha3.len
    rw [exDs_len] at yl
    refine ⟨a4, p, ss.map V.str, ys, rfl, .inr ⟨ex_t (e3.trans e4) hs4, st_of hp4, ?_⟩⟩
    have hlz : (ss.map V.str).length = ys.length := by
      rw [List.length_map]
      omega
    refine RZ.for_zipT hlz (fun i σ' H' => ∃ o6 o7 : Option V, σ' = [some (.ref a), some (.str "row"), some (.int (gg : Int)), some (.ref a3), some (.ref a4), some (.ref L), o6, o7] ∧ Ex H H' ∧ H' p = some (.tup ys) ∧ H' L = some (.lst ((wrap gg o (exT o) :: (weave ss ts).take (2 * i)).map V.str))) ?_ ?_ ?_ ?_
    · exact ⟨none, none, rfl, e3.trans e4, hp4, e4 _ _ hL3⟩
    · rintro i σ' H' ⟨_, _, _, e, hp, _⟩
      exact ⟨ex_t e hs4, st_of hp⟩
    · rintro i x y T σ' H' hx hy ⟨o6, o7, rfl, e, hp, hL⟩ nT
      rw [List.getElem?_map] at hx
      obtain ⟨s, hs', rfl⟩ : ∃ s, ss[i]? = some s ∧ x = V.str s := by
        cases hh : ss[i]? with
        | none =>
          rw [hh] at hx
          cases hx
        | some s =>
          rw [hh] at hx
          exact ⟨s, rfl, (Option.some.inj hx).symm⟩
      obtain ⟨d, hd, gy⟩ := ha3.get hy
      rw [exDs_map, List.getElem?_map] at hd
      obtain ⟨ee, hee, rfl⟩ : ∃ ee, es[i]? = some ee ∧ d = exD ee := by
        cases hh : es[i]? with
        | none =>
          rw [hh] at hd
          cases hd
        | some s =>
          rw [hh] at hd
          exact ⟨s, rfl, (Option.some.inj hd).symm⟩
      have me := List.mem_of_getElem? hee
      have ht : ts[i]? = some (wrap gg ee (exT ee)) := by rw [← hts, List.getElem?_map, hee]; rfl
      have eT : Ex H' (upd H' T (.tup [.str s, y])) := Ex.new nT
      refine ⟨T, _, rfl, st_of upd_same, rfl, _, _, rfl, _, _, rfl, rfl, ?_⟩
      have hL5 := eT _ _ hL
      have hp5 := eT _ _ hp
      have e5 := e.trans eT
      show tDrop _ _ _ (upd H' T (.tup [.str s, y]))
      generalize upd H' T (.tup [.str s, y]) = H5 at hL5 hp5 e5 ⊢
      refine ⟨_, rfl, .inl ⟨rfl, _, sq_of hL5⟩, _, rfl, _, rfl, _, rfl, y, ee, gg, rfl, Dd.ext e5 _ _ gy, hes ee me, fe ee me, fun H6 e6 => ⟨(show 2 ≤ sizeLine by decide), fun b nb => ?_⟩⟩
      have bL : b ≠ L := fun z => by
        rw [z, e6 _ _ hL5] at nb
        cases nb
      have e7 : Ex H6 (upd H6 b (.lst [.str s, .str (wrap gg ee (exT ee))])) := Ex.new nb
      have hb7 : (upd H6 b (.lst [.str s, .str (wrap gg ee (exT ee))])) b = some (.lst [.str s, .str (wrap gg ee (exT ee))]) := upd_same
      generalize upd H6 b (.lst [.str s, .str (wrap gg ee (exT ee))]) = H7 at e7 hb7 ⊢
      have hL7 := e7 _ _ (e6 _ _ hL5)
      have wl := weave_len (ss := ss) (ts := ts) (by omega)
      refine ⟨L, b, _, _, rfl, rfl, hL7, hb7, sz_of (by simp only [List.length_map, List.length_cons, List.length_take, List.length_nil]; omega), ?_⟩
      refine ⟨_, _, rfl, fun q u hq => ?_, ?_, ?_⟩
      · rw [upd_ne (ne_of_none hq nL0)]
        exact e7 _ _ (e6 _ _ (e5 _ _ hq))
      · rw [upd_ne pL]
        exact e7 _ _ (e6 _ _ hp5)
      · rw [upd_same, weave_take hs' ht]
        simp
    · rintro σ' H' ⟨o6, o7, rfl, e, hp, hL⟩
      have wl := weave_len (ss := ss) (ts := ts) (by omega)
      have full : (weave ss ts).take (2 * (ss.map V.str).length) = weave ss ts := List.take_of_length_le (by rw [wl, List.length_map]; exact Nat.le_refl _)
      rw [full] at hL
      refine ⟨rfl, _, rfl, " ", L, wrap gg o (exT o) :: weave ss ts, rfl, rfl, .inl (sq_of hL), ?_, kQ H' e⟩
      have e1' : (" " : Str).length = 1 := by decide +kernel
      have sb := sum_le (b := 3002) (l := wrap gg o (exT o) :: weave ss ts) fun t mt => by
        rcases List.mem_cons.mp mt with rfl | mt
        · exact wrap_len fo
        · rcases weave_mem mt with m | m
          · have := ls t m
            omega
          · rw [← hts] at m
            obtain ⟨e, me, rfl⟩ := List.mem_map.mp m
            exact wrap_len (fe e me)
      rw [List.length_cons, wl] at sb ⊢
      rw [e1']
      have : 3002 * (2 * ss.length + 1) ≤ 3002 * 1801 := Nat.mul_le_mul_left _ (by omega)
      omega
end
end K72
set_option maxHeartbeats 4000000
namespace K72
open PySem PySem.Spec PyProof.Rows L2 Evl My LamX
/-! the writer: expressions of any height -/
theorem small_num {m : Nat} (h : m < 10 ^ 18) : (m : Int).natAbs.log2 < 1920 := by
  show m.log2 < 1920
  have h2 : m < 2 ^ 60 := Nat.lt_of_lt_of_le h (by decide)
  by_cases hz : m = 0
  · subst hz
    decide
  · have := (Nat.log2_lt hz).mpr h2
    omega
theorem exTs_sum {es : List Exp} (h : ∀ e ∈ es, Fit e) : ((exTs es).map (·.length)).sum ≤ 3000 * es.length := by
  have q := sum_le (b := 3000) (l := exTs es) fun t mt => by
    rw [exTs_map] at mt
    obtain ⟨e, me, rfl⟩ := List.mem_map.mp mt
    exact (h e me).len
  rw [exTs_map, List.length_map] at q
  rw [exTs_map]
  exact q
section
variable {P : Program} {w : World} {K : PySem.W.Frag} {mg : Str → Option Value} {base : Heap} {f C : Addr} {fd : FuncData}
theorem ok_ext {k j n : Nat} (jk : j ≤ k) (F : Fun K "expression_text" "expression_text" sExT f fd) (gs : mg "str" = none) (RT : Df P w K mg base "row_text" ["expression"] k (spR K (n + 1))) (EX : Df P w K mg base "expression_text" ["expression"] j (spX K n)) : FnOk P w K mg base CX0 (k + 1) f fd ["expression"] (spX K (n + 1)) := by
  refine F.ok scExT (fun vs H Q E h => ?_) (fun cdv A outer s0 H vs Q E hr h => ?_)
  · obtain ⟨v, d, rfl, _⟩ := h
    rfl
  · obtain ⟨v, e, rfl, g, he, ft, kQ⟩ := h
    have hrk : Room k _ := hr
    have hrj : Room j _ := hrk.mono jk
    refine ⟨_, pss_cons (ps_if (pt_cmpR op_eq (pe_ix ix_tup (pv 0) pe_int (fun _ _ => rfl)) pe_str (nomark _)) (pss_one (ps_ret (pe_df RT hrk rfl (pa_cons (pv 0) pa_nil)))) pss_nil)
      (pss_cons (ps_if (pt_cmpR op_eq (pe_ix ix_tup (pv 0) pe_int (fun _ _ => rfl)) pe_str (nomark _))
        (pss_cons (ps_set (i := 1) scExT.nd rfl (Or.inl rfl) (pe_bm PySem.F.plainAttrs_str PySem.F.slot_str_join PySem.F.type_str_join mt_join pe_str (pa_cons (pe_lc (own := [("each", 2)]) (g := gName 2) (tt := tYes) (te := tCall (spX K n) [] E0 (tCons (tVar 2) tNil)) rfl scExT.nd (pi_tup (pe_ix ix_tup (pv 0) pe_int (fun _ _ => rfl))) (blkOk_by (own := [("each", 2)]) (N := NX) (sc := defScope sExT) (by decide +kernel)) (fun _ _ _ _ _ => pg_name (i := 2) scExT.nd rfl (Or.inl rfl)) (fun _ _ _ _ _ => pts_nil) (fun _ _ _ _ _ => pe_df EX hrj rfl (pa_cons (pv 2) pa_nil))) pa_nil)))
        (pss_one (ps_ret (pe_joined (.cons (pe_fmt (pe_ix ix_tup (pv 0) pe_int (fun _ _ => rfl))) (.cons pe_str (.cons (pe_fmt (pv 1)) (.cons pe_str .nil)))))))) pss_nil)
      (pss_cons (ps_if (pt_cmpR op_eq (pe_ix ix_tup (pv 0) pe_int (fun _ _ => rfl)) pe_str (nomark _)) (pss_one (ps_ret (pe_joined (.cons pe_str (.cons (pe_fmt (pe_ix ix_tup (pv 0) pe_int (fun _ _ => rfl))) (.cons pe_str .nil)))))) pss_nil)
      (pss_one (ps_ret (pe_callTy call_strB (by rfl) gs (by decide +kernel) (pa_cons (pe_ix ix_tup (pv 0) pe_int (fun _ _ => rfl)) pa_nil)))))), ?_⟩
    have fl := ft.len
    cases e with
    | row gg ss o es =>
      refine q_when (b := true) (et_is (ev_kd rfl g) (show decide (("row" : Str) = "row") = true by decide +kernel)) (fun _ H1 e1 => ?_) fun z => by cases z
      exact ⟨_, rfl, v, gg, ss, o, es, rfl, Dd.ext e1 _ _ g, he, ft, fun H2 e2 => kQ H2 (e1.trans e2)⟩
    | num m =>
      refine q_when (b := false) (et_is (ev_kd rfl g) (show decide (("number" : Str) = "row") = false by decide +kernel)) (fun z => by cases z) fun _ H1 e1 => ?_
      refine q_when (b := false) (et_is (ev_kd rfl (Dd.ext e1 _ _ g)) (show decide (("number" : Str) = "call") = false by decide +kernel)) (fun z => by cases z) fun _ H2 e2 => ?_
      refine q_when (b := false) (et_is (ev_kd rfl (Dd.ext (e1.trans e2) _ _ g)) (show decide (("number" : Str) = "text") = false by decide +kernel)) (fun z => by cases z) fun _ H3 e3 => ?_
      have e := (e1.trans e2).trans e3
      rw [exD] at g
      rw [exT] at kQ
      have hm : m < 10 ^ 18 := by
        cases ft with
        | num h => exact h
      exact EvD.int' (ed_ix (j := 1) rfl (Dd.ext e _ _ g) rfl) H3 (Ex.refl _) _ fun H4 e4 => .inr ⟨_, rfl, small_num hm, kQ H4 (e.trans e4)⟩
    | txt s =>
      refine q_when (b := false) (et_is (ev_kd rfl g) (show decide (("text" : Str) = "row") = false by decide +kernel)) (fun z => by cases z) fun _ H1 e1 => ?_
      refine q_when (b := false) (et_is (ev_kd rfl (Dd.ext e1 _ _ g)) (show decide (("text" : Str) = "call") = false by decide +kernel)) (fun z => by cases z) fun _ H2 e2 => ?_
      refine q_when (b := true) (et_is (ev_kd rfl (Dd.ext (e1.trans e2) _ _ g)) (show decide (("text" : Str) = "text") = true by decide +kernel)) (fun _ H3 e3 => ?_) fun z => by cases z
      have e := (e1.trans e2).trans e3
      rw [exD] at g
      rw [exT] at kQ fl
      rw [app_len, app_len] at fl
      exact s_ret (ev_fstr (.cons ev_c (.cons (ev_fmtS (EvD.str' (ed_ix (j := 1) rfl (Dd.ext e _ _ g) rfl)) (by omega)) (.cons ev_c .nil))) (by
        show ((Str.empty ++ "\"") ++ _) ++ "\"" = _
        rfl) (by rw [app_len, app_len]; omega)) fun H4 e4 => kQ H4 (e.trans e4)
    | var s =>
      refine q_when (b := false) (et_is (ev_kd rfl g) (show decide (("variable" : Str) = "row") = false by decide +kernel)) (fun z => by cases z) fun _ H1 e1 => ?_
      refine q_when (b := false) (et_is (ev_kd rfl (Dd.ext e1 _ _ g)) (show decide (("variable" : Str) = "call") = false by decide +kernel)) (fun z => by cases z) fun _ H2 e2 => ?_
      refine q_when (b := false) (et_is (ev_kd rfl (Dd.ext (e1.trans e2) _ _ g)) (show decide (("variable" : Str) = "text") = false by decide +kernel)) (fun z => by cases z) fun _ H3 e3 => ?_
      have e := (e1.trans e2).trans e3
      rw [exD] at g
      rw [exT] at kQ
      exact EvD.str' (ed_ix (j := 1) rfl (Dd.ext e _ _ g) rfl) H3 (Ex.refl _) _ fun H4 e4 => .inl ⟨_, rfl, kQ H4 (e.trans e4)⟩
    | call s es =>
      refine q_when (b := false) (et_is (ev_kd rfl g) (show decide (("call" : Str) = "row") = false by decide +kernel)) (fun z => by cases z) fun _ H1 e1 => ?_
      refine q_when (b := true) (et_is (ev_kd rfl (Dd.ext e1 _ _ g)) (show decide (("call" : Str) = "call") = true by decide +kernel)) (fun _ H2 e2 => ?_) fun z => by cases z
      have e12 := e1.trans e2
      rw [exD] at g
      rw [exT] at kQ fl
      rw [exH] at he
      have g2 := Dd.ext e12 _ _ g
      obtain ⟨e9, fe⟩ : es.length ≤ 900 ∧ ∀ e ∈ es, Fit e := by
        cases ft with
        | call a b c => exact ⟨b, c⟩
      have sl : s.length ≤ 3000 ∧ (Txt.join ", " (exTs es)).length ≤ 3000 := by
        rw [app_len, app_len, app_len] at fl
        omega
      obtain ⟨a2, ys, tE, hs2, gw⟩ : ∃ (a2 : Addr) (ys : List V), Ev (tOp (rIxT K) (tVar 0) (tC (.int 2))) ([some v, none, none] : L2.St) H2 (.ref a2) ∧ SqT K H2 a2 ys ∧ Dds K H2 ys (exDs es) := by
        cases g2 with
        | tup hs ha =>
          cases ha with
          | cons ga1 ha =>
            cases ha with
            | cons ga2 ha =>
              cases ha with
              | cons ga3 ha =>
                cases ha
                cases ga3 with
                | tup hs3 ha3 => exact ⟨_, _, ev_op (ev_var rfl) ev_c (rv_ixT (i := 2) hs (atI_nat (j := 2) rfl)), hs3, ha3⟩
      have yl := gw.len
      rw [exDs_len] at yl
      have lc := el_map (K := K) (j := 2) (vs := [2]) (te := tCall (spX K n) [] E0 (tCons (tVar 2) tNil)) (zs := exTs es) tE hs2 (by omega) (fun x => rfl) gw (by rw [exTs_map, exDs_map, List.length_map, List.length_map]) (fun i x d z H3 e3 hd hz gx => by
        rw [exDs_map, List.getElem?_map] at hd
        rw [exTs_map, List.getElem?_map] at hz
        obtain ⟨ee, hee⟩ : ∃ ee, es[i]? = some ee := by
          cases hh : es[i]? with
          | none =>
            rw [hh] at hd
            cases hd
          | some s => exact ⟨s, rfl⟩
        rw [hee] at hd hz
        have hd2 := Option.some.inj hd
        have hz2 := Option.some.inj hz
        subst hd2 hz2
        have me := List.mem_of_getElem? hee
        have := exHs_le me
        exact fun H4 e4 Q q => ⟨_, rfl, x, ee, rfl, Dd.ext e4 _ _ gx, by omega, fe ee me, fun H5 e5 => q H5 e5⟩)
      have args : Ev (tBM K "str" (fun x xs H Q => ∃ a p, ∃ ys : List Str, x = .str a ∧ xs = [.ref p] ∧ (SqL K H p (ys.map V.str) ∨ SqT K H p (ys.map V.str)) ∧ (ys.map (·.length)).sum + ys.length * a.length ≤ 16777216 ∧ Q (.str (Txt.join a ys)) H) (tC (.str ", ")) (tCons (tLc (iTup K (tOp (rIxT K) (tVar 0) (tC (.int 2)))) (gName 2) tYes (tCall (spX K n) [] E0 (tCons (tVar 2) tNil)) [2]) tNil)) ([some v, none, none] : L2.St) H2 (.str (Txt.join ", " (exTs es))) := fun H3 e3 Q q =>
        ⟨rfl, lc H3 e3 _ fun p H4 np e4 hp => ⟨", ", p, exTs es, rfl, rfl, .inl (sq_of hp), (by
          have := exTs_sum fe
          have e2' : (", " : Str).length = 2 := by decide +kernel
          rw [exTs_map, List.length_map, e2', ← exTs_map]
          have : 3000 * es.length ≤ 3000 * 900 := Nat.mul_le_mul_left _ e9
          omega), q H4 e4⟩⟩
      refine q_asg args fun H3 e3 => ?_
      have e := e12.trans e3
      have g3 := Dd.ext e3 _ _ g2
      exact s_ret (ev_fstr (.cons (ev_fmtS (EvD.str' (ed_ix (j := 1) rfl g3 rfl)) (by omega)) (.cons ev_c (.cons (ev_fmtS (ev_var rfl) (by omega)) (.cons ev_c .nil)))) (by
        show (((Str.empty ++ s) ++ "(") ++ _) ++ ")" = _
        rw [emp_app]) (by omega)) fun H4 e4 => kQ H4 (e.trans e4)
theorem fx_no {k : Nat} : FnOk P w K mg base CX0 k f fd ["expression"] (spX K 0) :=
  ⟨fun vs H Q E h => (by obtain ⟨_, _, _, _, z, _⟩ := h; omega), fun A outer sh H args us vs Q E hr e b r h => (by obtain ⟨_, _, _, _, z, _⟩ := h; omega)⟩
end
/-- the writer's defs, found -/
structure WrX (P : Program) (w : World) (K : PySem.W.Frag) (mg : Str → Option Value) (base : Heap) : Prop where
  gs : mg "str" = none
  gz : mg "zip" = none
  op : ∃ (f : Addr) (fd : FuncData), mg "operand_text" = some (.ref f) ∧ PySem.W.keepIn K (.ref f) = true ∧ Fun K "operand_text" "operand_text" sOpT f fd ∧ Binds K fd ["group", "operand"] []
  rw_ : ∃ (f : Addr) (fd : FuncData), mg "row_text" = some (.ref f) ∧ PySem.W.keepIn K (.ref f) = true ∧ Fun K "row_text" "row_text" sRwT f fd ∧ Binds K fd ["expression"] []
  ex : ∃ (f : Addr) (fd : FuncData), mg "expression_text" = some (.ref f) ∧ PySem.W.keepIn K (.ref f) = true ∧ Fun K "expression_text" "expression_text" sExT f fd ∧ Binds K fd ["expression"] []
theorem WrX.df {P : Program} {w : World} {K : PySem.W.Frag} {mg : Str → Option Value} {base : Heap} (M : WrX P w K mg base) : ∀ n, Df P w K mg base "expression_text" ["expression"] (3 * n + 1) (spX K n)
  | 0 => by
    obtain ⟨f, fd, m, kp, F, b⟩ := M.ex
    exact ⟨_, _, m, kp, fx_no, b⟩
  | n + 1 => by
    have ih := M.df n
    obtain ⟨fo, fdo, mo, ko, Fo, bo⟩ := M.op
    have OT : Df P w K mg base "operand_text" ["group", "operand"] (3 * n + 2) (spO K n) := ⟨_, _, mo, ko, ok_opt Fo ih, bo⟩
    obtain ⟨fr, fdr, mr, kr, Fr, br⟩ := M.rw_
    have RT : Df P w K mg base "row_text" ["expression"] (3 * n + 3) (spR K (n + 1)) := ⟨_, _, mr, kr, ok_rwt Fr M.gz OT, br⟩
    obtain ⟨f, fd, m, kp, F, b⟩ := M.ex
    exact ⟨_, _, m, kp, ok_ext (k := 3 * n + 3) (by omega) F M.gs RT ih, b⟩
end K72
set_option maxHeartbeats 4000000
namespace K72
open PySem PySem.Spec PyProof.Rows L2 Evl My LamX
/-! the writer: statements -/
inductive Stm
  | set (s : Str) (e : Exp)
  | tell (e : Exp)
  | do_ (e : Exp)
  | while_ (e : Exp) (b : List Stm)
  | for_ (s : Str) (e : Exp) (b : List Stm)
  | if_ (e : Exp) (b c : List Stm)
  | try_ (b c : List Stm)
mutual
def stD : Stm → PyData
  | .set s e => .tuple [.str "set", .str s, exD e, .tuple [], .tuple []]
  | .tell e => .tuple [.str "tell", .none, exD e, .tuple [], .tuple []]
  | .do_ e => .tuple [.str "do", .none, exD e, .tuple [], .tuple []]
  | .while_ e b => .tuple [.str "while", .none, exD e, .tuple (stDs b), .tuple []]
  | .for_ s e b => .tuple [.str "for", .str s, exD e, .tuple (stDs b), .tuple []]
  | .if_ e b c => .tuple [.str "if", .none, exD e, .tuple (stDs b), .tuple (stDs c)]
  | .try_ b c => .tuple [.str "try", .none, .none, .tuple (stDs b), .tuple (stDs c)]
def stDs : List Stm → List PyData
  | [] => []
  | s :: b => stD s :: stDs b
end
def inn (ls : List Str) : List Str := ls.map fun z => "  " ++ z
def othL (c : List Stm) (ls : List Str) : List Str := match c with
  | [] => []
  | _ :: _ => "} else {" :: inn ls
mutual
def stL : Stm → List Str
  | .set s e => [((s ++ " = ") ++ exT e) ++ ";"]
  | .tell e => [("tell " ++ exT e) ++ ";"]
  | .do_ e => [exT e ++ ";"]
  | .while_ e b => ((("while " ++ exT e) ++ (" {" : Str)) :: inn (stLs b)) ++ [("}" : Str)]
  | .for_ s e b => (((((("for " : Str) ++ s) ++ " in ") ++ exT e) ++ (" {" : Str)) :: inn (stLs b)) ++ [("}" : Str)]
  | .if_ e b c => (((("if " : Str) ++ exT e) ++ (" {" : Str)) :: inn (stLs b)) ++ othL c (stLs c) ++ [("}" : Str)]
  | .try_ b c => (("try {" : Str) :: inn (stLs b)) ++ othL c (stLs c) ++ [("}" : Str)]
def stLs : List Stm → List Str
  | [] => []
  | s :: b => stL s ++ stLs b
end
theorem stDs_map : ∀ b, stDs b = b.map stD
  | [] => rfl
  | s :: b => by rw [stDs, stDs_map b]; rfl
theorem stDs_len (b : List Stm) : (stDs b).length = b.length := by rw [stDs_map, List.length_map]
theorem stLs_flat : ∀ b, stLs b = (b.map stL).flatten
  | [] => rfl
  | s :: b => by rw [stLs, stLs_flat b]; rfl
/-- lines that are short and few -/
def FitL (ls : List Str) : Prop := ls.length ≤ 900 ∧ ∀ z ∈ ls, z.length ≤ 9000
inductive FitS (n : Nat) : Nat → Stm → Prop
  | set {m : Nat} {s : Str} {e : Exp} : s.length ≤ 2000 → Fit e → exH e < n → FitS n (m + 1) (.set s e)
  | tell {m : Nat} {e : Exp} : Fit e → exH e < n → FitS n (m + 1) (.tell e)
  | do_ {m : Nat} {e : Exp} : Fit e → exH e < n → FitS n (m + 1) (.do_ e)
  | while_ {m : Nat} {e : Exp} {b : List Stm} : Fit e → exH e < n → FitL (stLs b) → b.length ≤ 900 → (∀ s ∈ b, FitS n m s) → FitS n (m + 1) (.while_ e b)
  | for_ {m : Nat} {s : Str} {e : Exp} {b : List Stm} : s.length ≤ 2000 → Fit e → exH e < n → FitL (stLs b) → b.length ≤ 900 → (∀ s ∈ b, FitS n m s) → FitS n (m + 1) (.for_ s e b)
  | if_ {m : Nat} {e : Exp} {b c : List Stm} : Fit e → exH e < n → FitL (stLs b) → b.length ≤ 900 → (∀ s ∈ b, FitS n m s) → FitL (stLs c) → c.length ≤ 900 → (∀ s ∈ c, FitS n m s) → SeqAt.shaped (.tuple (stDs c)) = true → FitS n (m + 1) (.if_ e b c)
  | try_ {m : Nat} {b c : List Stm} : FitL (stLs b) → b.length ≤ 900 → (∀ s ∈ b, FitS n m s) → FitL (stLs c) → c.length ≤ 900 → (∀ s ∈ c, FitS n m s) → SeqAt.shaped (.tuple (stDs c)) = true → FitS n (m + 1) (.try_ b c)
/-- a new list of these lines -/
def NewL (ls : List Str) (H : Hp) (Q : VK) : Prop := ∀ p H', H p = none → Ex H H' → H' p = some (.lst (ls.map V.str)) → Q (.ref p) H'
def spSL (K : PySem.W.Frag) (n m : Nat) : Sp := fun vs H Q _ => ∃ (v : V) (s : Stm), vs = [v] ∧ Dd K H v (stD s) ∧ FitS n m s ∧ NewL (stL s) H Q
def spBL (K : PySem.W.Frag) (n m : Nat) : Sp := fun vs H Q _ => ∃ (v : V) (b : List Stm), vs = [v] ∧ Dd K H v (.tuple (stDs b)) ∧ (∀ s ∈ b, FitS n m s) ∧ FitL (stLs b) ∧ b.length ≤ 900 ∧ NewL (stLs b) H Q
def spIL (K : PySem.W.Frag) (n m : Nat) : Sp := fun vs H Q _ => ∃ (v : V) (b : List Stm), vs = [v] ∧ Dd K H v (.tuple (stDs b)) ∧ (∀ s ∈ b, FitS n m s) ∧ FitL (stLs b) ∧ b.length ≤ 900 ∧ NewL (inn (stLs b)) H Q
theorem yes_if {σ : L2.St} {H : Hp} {A B : Hp → Prop} (h : A H) : tYes σ H (fun b H3 => if b = true then A H3 else B H3) := by
  show (if true = true then A H else B H)
  rw [if_pos rfl]
  exact h
section
variable {P : Program} {w : World} {K : PySem.W.Frag} {mg : Str → Option Value} {base : Heap} {f C : Addr} {fd : FuncData}
def NI : List Str := ["block", "line"]
theorem scInL : FnScope NI ["block"] (defScope sInL) := ⟨rfl, rfl, rfl, by decide +kernel, rfl, by decide +kernel, by decide +kernel⟩
theorem ok_inl {k n m : Nat} (F : Fun K "inner_lines" "inner_lines" sInL f fd) (BL : Df P w K mg base "block_lines" ["statements"] k (spBL K n m)) : FnOk P w K mg base CX0 (k + 1) f fd ["block"] (spIL K n m) := by
  refine F.ok scInL (fun vs H Q E h => ?_) (fun cdv A outer s0 H vs Q E hr h => ?_)
  · obtain ⟨v, b, rfl, _⟩ := h
    rfl
  · obtain ⟨v, b, rfl, g, fs, fl, bl, kQ⟩ := h
    have hrk : Room k _ := hr
    refine ⟨_, pss_one (ps_ret (pe_lc (own := [("line", 1)]) (g := gName 1) (tt := tYes) (te := fun σ H Q => tJs [tC (.str "  "), tFmt (tVar 1)] Str.empty σ H fun out H1 => Q (.str out) H1) rfl scInL.nd (pi_list (pe_df BL hrk rfl (pa_cons (pv 0) pa_nil))) (blkOk_by (own := [("line", 1)]) (N := NI) (sc := defScope sInL) (by decide +kernel)) (fun _ _ _ _ _ => pg_name (i := 1) scInL.nd rfl (Or.inl rfl)) (fun _ _ _ _ _ => pts_nil) (fun _ _ _ _ _ => pe_joined (.cons pe_str (.cons (pe_fmt (pv 1)) .nil))))), ?_⟩
    have src : EvL (tCall (spBL K n m) [] E0 (tCons (tVar 0) tNil)) ([some v, none] : L2.St) H ((stLs b).map V.str) := fun H1 e1 Q q => ⟨_, rfl, v, b, rfl, Dd.ext e1 _ _ g, fs, fl, bl, fun p H2 np e2 hp => q p H2 np e2 hp⟩
    have e2' : ("  " : Str).length = 2 := by decide +kernel
    have lc := el_lcNL (K := K) (t := tYes) (te := fun σ H Q => tJs [tC (.str "  "), tFmt (tVar 1)] Str.empty σ H fun out H1 => Q (.str out) H1) (j := 1) (vs := [1]) (fun _ => true) (fun i => V.str ("  " ++ (stLs b).getD i "")) src (by rw [List.length_map]; have := fl.1; omega) (fun x => rfl) (fun i x H1 e1 hx => et_yes) (fun i x H1 e1 hx _ => by
      rw [List.getElem?_map] at hx
      obtain ⟨z, hz⟩ : ∃ z, (stLs b)[i]? = some z := by
        cases hh : (stLs b)[i]? with
        | none =>
          rw [hh] at hx
          cases hx
        | some s => exact ⟨s, rfl⟩
      rw [hz] at hx
      cases hx
      have ez : (stLs b).getD i "" = z := by rw [List.getD_eq_getElem?_getD, hz]; rfl
      have zl := fl.2 z (List.mem_of_getElem? hz)
      show Ev _ _ H1 (.str ("  " ++ (stLs b).getD i ""))
      rw [ez]
      exact ev_fstr (.cons ev_c (.cons (ev_fmtS (ev_var rfl) (by omega)) .nil)) (by
        show (Str.empty ++ "  ") ++ z = _
        rw [emp_app]) (by rw [app_len]; omega))
    have e : given ((stLs b).map V.str).length (fun _ => true) (fun i => V.str ("  " ++ (stLs b).getD i "")) = (inn (stLs b)).map V.str := by
      unfold given inn
      rw [List.filter_eq_self.mpr (fun _ _ => rfl), List.length_map, List.map_map]
      refine List.ext_getElem (by simp) fun i h1 h2 => ?_
      simp only [List.getElem_map, List.getElem_range, Function.comp]
      rw [List.getD_eq_getElem?_getD, List.getElem?_eq_getElem (by simpa using h2)]
      rfl
    rw [e] at lc
    exact s_retL lc fun p H1 np e1 hp => kQ p H1 np e1 hp
def NB : List Str := ["statements", "statement", "line"]
theorem scBlL : FnScope NB ["statements"] (defScope sBlL) := ⟨rfl, rfl, rfl, by decide +kernel, rfl, by decide +kernel, by decide +kernel⟩
theorem ok_bll {k n m : Nat} (F : Fun K "block_lines" "block_lines" sBlL f fd) (SL : Df P w K mg base "statement_lines" ["statement"] k (spSL K n m)) : FnOk P w K mg base CX0 (k + 1) f fd ["statements"] (spBL K n m) := by
  refine F.ok scBlL (fun vs H Q E h => ?_) (fun cdv A outer s0 H vs Q E hr h => ?_)
  · obtain ⟨v, b, rfl, _⟩ := h
    rfl
  · obtain ⟨v, b, rfl, g, fs, fl, bl, kQ⟩ := h
    have hrk : Room k _ := hr
    refine ⟨_, pss_one (ps_ret (pe_lc2 (own := [("statement", 1), ("line", 2)]) (vs1 := [2]) (g := gName 1) (g1 := gName 2) (tt := tYes) (tt1 := tYes) (te := tVar 2) (wi1 := iList K (tCall (spSL K n m) [] E0 (tCons (tVar 1) tNil))) rfl scBlL.nd (pi_tup (pv 0)) (blkOk_by (own := [("statement", 1), ("line", 2)]) (N := NB) (sc := defScope sBlL) (by decide +kernel)) (by decide)
      (fun _ _ _ _ _ => pg_name (i := 1) scBlL.nd rfl (Or.inl rfl)) (fun _ _ _ _ _ => pts_nil) (fun _ _ _ _ _ => pi_list (pe_df SL hrk rfl (pa_cons (pv 1) pa_nil))) (fun _ _ _ _ _ => pg_name (i := 2) scBlL.nd rfl (Or.inl rfl)) (fun _ _ _ _ _ => pts_nil) (fun _ _ _ _ _ => pv 2))), ?_⟩
    cases g with
    | tup hs ha =>
      rename_i a xs
      have xl := ha.len
      rw [stDs_len] at xl
      have tk : ∀ {i : Nat} {s : Stm}, b[i]? = some s → stLs (b.take (i + 1)) = stLs (b.take i) ++ stL s := fun {i s} h => by
        rw [List.take_add_one, h, stLs_flat, stLs_flat, List.map_append, List.flatten_append]
        simp
      have tl : ∀ i, (stLs (b.take i)).length ≤ 900 := fun i => by
        have z : stLs b = stLs (b.take i) ++ stLs (b.drop i) := by
          rw [stLs_flat, stLs_flat, stLs_flat, ← List.flatten_append, ← List.map_append, List.take_append_drop]
        have q := congrArg List.length z
        rw [List.length_append] at q
        have := fl.1
        omega
      refine ⟨_, rfl, a, rfl, ⟨_, hs⟩, fun D nD => ⟨fun i m H' => m = xs.length - i ∧ i ≤ xs.length ∧ Ex H H' ∧ H' D = some (.lst ((stLs (b.take i)).map V.str)), ⟨xs.length, rfl, Nat.zero_le _, Ex.new nD, upd_same⟩, ?_⟩⟩
      rintro i m H' ⟨rfl, hi, e, hD⟩
      have hsq : SqT K H' a xs := ex_t e hs
      by_cases lt : i < xs.length
      · refine .inr ⟨walk_tup.goes i H' lt hsq, fun H2 => Ex H H2 ∧ H2 D = some (.lst ((stLs (b.take (i + 1))).map V.str)), fun H2 p2 => ⟨xs.length - (i + 1), by omega, rfl, lt, p2.1, p2.2⟩, fun x H2 y => ?_⟩
        obtain ⟨eH, hx⟩ := walk_tup.yields i H' x H2 lt hsq y
        have eH2 := eH.symm
        subst eH2
        obtain ⟨d, hd, gd⟩ := ha.get hx
        rw [stDs_map, List.getElem?_map] at hd
        obtain ⟨s, hs', rfl⟩ : ∃ s, b[i]? = some s ∧ d = stD s := by
          cases hh : b[i]? with
          | none =>
            rw [hh] at hd
            cases hd
          | some s =>
            rw [hh] at hd
            exact ⟨s, rfl, (Option.some.inj hd).symm⟩
        refine ⟨rfl, yes_if ?_⟩
        refine ⟨_, rfl, x, s, rfl, Dd.ext e _ _ gd, fs s (List.mem_of_getElem? hs'), fun p H3 np e3 hp => ?_⟩
        have pD : p ≠ D := fun w => by
          rw [w, hD] at np
          cases np
        have hD3 := e3 _ _ hD
        have tl1 := tl (i + 1)
        rw [tk hs', List.length_append] at tl1
        refine ⟨p, rfl, ⟨_, sq_of hp⟩, fun j k H4 => k = (stL s).length - j ∧ j ≤ (stL s).length ∧ H4 p = some (.lst ((stL s).map V.str)) ∧ Ex H H4 ∧ H4 D = some (.lst ((stLs (b.take i) ++ (stL s).take j).map V.str)), ⟨(stL s).length, rfl, Nat.zero_le _, hp, e.trans e3, by rw [List.take_zero, List.append_nil]; exact hD3⟩, ?_⟩
        rintro j k H4 ⟨rfl, hj, hp4, e4, hD4⟩
        by_cases jl : j < (stL s).length
        · have jl' : j < ((stL s).map V.str).length := by
            rw [List.length_map]
            exact jl
          refine .inr ⟨walk_list.goes j H4 jl' (sq_of hp4), fun H5 => H5 p = some (.lst ((stL s).map V.str)) ∧ Ex H H5 ∧ H5 D = some (.lst ((stLs (b.take i) ++ (stL s).take (j + 1)).map V.str)), fun H5 p5 => ⟨(stL s).length - (j + 1), by omega, rfl, by omega, p5.1, p5.2.1, p5.2.2⟩, fun x2 H5 y2 => ?_⟩
          obtain ⟨eH5, hx2⟩ := walk_list.yields j H4 x2 H5 jl' (sq_of hp4) y2
          have eH6 := eH5.symm
          subst eH6
          rw [List.getElem?_map] at hx2
          obtain ⟨z, hz, rfl⟩ : ∃ z, (stL s)[j]? = some z ∧ x2 = V.str z := by
            cases hh : (stL s)[j]? with
            | none =>
              rw [hh] at hx2
              cases hx2
            | some s =>
              rw [hh] at hx2
              exact ⟨s, rfl, (Option.some.inj hx2).symm⟩
          refine ⟨rfl, yes_if ?_⟩
          refine ⟨_, rfl, _, hD4, sz_lt (by rw [List.length_map, List.length_append, List.length_take]; omega), ?_, ?_, ?_⟩
          · rw [upd_ne pD]
            exact hp4
          · intro b o hb
            rw [upd_ne (ne_of_none hb nD)]
            exact e4 b o hb
          · rw [upd_same, List.take_add_one, hz, ← List.append_assoc, List.map_append (l₂ := (some z).toList)]
            rfl
        · have j1 : j = (stL s).length := by omega
          subst j1
          have st : (stL s).length = ((stL s).map V.str).length := (List.length_map _).symm
          refine .inl ⟨by rw [st]; exact walk_list.stops H4 (sq_of hp4), e4, ?_⟩
          rw [tk hs']
          rw [List.take_length] at hD4
          exact hD4
      · have ei : i = xs.length := by omega
        subst ei
        refine .inl ⟨walk_tup.stops H' hsq, kQ D H' nD e ?_⟩
        rw [xl, List.take_length] at hD
        exact hD
end
end K72
set_option maxHeartbeats 8000000
namespace K72
open PySem PySem.Spec PyProof.Rows L2 Evl My LamX
/-! the writer: the lines of a statement -/
def hdT : Stm → Str
  | .while_ e _ => "while " ++ exT e
  | .for_ s e _ => ((("for " : Str) ++ s) ++ " in ") ++ exT e
  | .if_ e _ _ => "if " ++ exT e
  | .try_ _ _ => "try"
  | _ => ""
/-- a statement with a block -/
def isBl : Stm → Prop
  | .while_ _ _ => True
  | .for_ _ _ _ => True
  | .if_ _ _ _ => True
  | .try_ _ _ => True
  | _ => False
def spHd (K : PySem.W.Frag) (n m : Nat) : Sp := fun vs H Q _ => ∃ (v : V) (s : Stm), vs = [v] ∧ Dd K H v (stD s) ∧ FitS n m s ∧ isBl s ∧ ∀ H', Ex H H' → Q (.str (hdT s)) H'
theorem dds5 {K : PySem.W.Frag} {H : Hp} {vs : List V} {a b c d e : PyData} (h : Dds K H vs [a, b, c, d, e]) : ∃ x1 x2 x3 x4 x5, vs = [x1, x2, x3, x4, x5] ∧ Dd K H x1 a ∧ Dd K H x2 b ∧ Dd K H x3 c ∧ Dd K H x4 d ∧ Dd K H x5 e := by
  cases h with
  | cons h1 h => cases h with
    | cons h2 h => cases h with
      | cons h3 h => cases h with
        | cons h4 h => cases h with
          | cons h5 h =>
            cases h
            exact ⟨_, _, _, _, _, rfl, h1, h2, h3, h4, h5⟩
theorem ed_neDS {K : PySem.W.Frag} {σ : L2.St} {H : Hp} {ta tb : TE} {d e : PyData} (ha : EvD K ta σ H d) (hb : EvD K tb σ H e) (n1 : noDict d = true) (n2 : noDict e = true) (s1 : SeqAt.shaped d = true) (s2 : SeqAt.shaped e = true) : Ev (tOp (rNeD K) ta tb) σ H (.bl (!PyData.eqv d e)) := fun H1 x Q q =>
  ha H1 x _ fun v H2 e2 g => hb H2 (x.trans e2) _ fun u H3 e3 g2 => ⟨d, e, dp_ofL _ _ n1 (Dd.ext e3 _ _ g), dp_ofL _ _ n2 g2, s1, s2, q H3 (e2.trans e3)⟩
mutual
theorem nd_ex : ∀ e : Exp, noDict (exD e) = true
  | .num _ => by rw [exD]; rfl
  | .txt _ => by rw [exD]; rfl
  | .var _ => by rw [exD]; rfl
  | .call s es => by
    rw [exD]
    show (true && (true && (noDicts (exDs es) && true))) = true
    rw [nd_exs es]
    rfl
  | .row g ss o es => by
    rw [exD]
    show (true && (true && ((noDict (exD o) && noDicts (exDs es)) && (noDicts (ss.map PyData.str) && true)))) = true
    rw [nd_ex o, nd_exs es, nd_strs ss]
    rfl
theorem nd_exs : ∀ es : List Exp, noDicts (exDs es) = true
  | [] => by rw [exDs]; rfl
  | e :: es => by
    rw [exDs]
    show (noDict (exD e) && noDicts (exDs es)) = true
    rw [nd_ex e, nd_exs es]
    rfl
theorem nd_strs : ∀ ss : List Str, noDicts (ss.map PyData.str) = true
  | [] => rfl
  | s :: ss => by
    show (true && noDicts (ss.map PyData.str)) = true
    rw [nd_strs ss]
    rfl
end
theorem nd5 {a b c d e : PyData} (ha : noDict a = true) (hb : noDict b = true) (hc : noDict c = true) (hd : noDict d = true) (he : noDict e = true) : noDict (.tuple [a, b, c, d, e]) = true := by
  show (noDict a && (noDict b && (noDict c && (noDict d && (noDict e && true))))) = true
  rw [ha, hb, hc, hd, he]
  rfl
mutual
theorem nd_st : ∀ s : Stm, noDict (stD s) = true
  | .set _ e => by rw [stD]; exact nd5 rfl rfl (nd_ex e) rfl rfl
  | .tell e => by rw [stD]; exact nd5 rfl rfl (nd_ex e) rfl rfl
  | .do_ e => by rw [stD]; exact nd5 rfl rfl (nd_ex e) rfl rfl
  | .while_ e b => by rw [stD]; exact nd5 rfl rfl (nd_ex e) (nd_sts b) rfl
  | .for_ _ e b => by rw [stD]; exact nd5 rfl rfl (nd_ex e) (nd_sts b) rfl
  | .if_ e b c => by rw [stD]; exact nd5 rfl rfl (nd_ex e) (nd_sts b) (nd_sts c)
  | .try_ b c => by rw [stD]; exact nd5 rfl rfl rfl (nd_sts b) (nd_sts c)
theorem nd_sts : ∀ b : List Stm, noDicts (stDs b) = true
  | [] => by rw [stDs]; rfl
  | s :: b => by
    rw [stDs]
    show (noDict (stD s) && noDicts (stDs b)) = true
    rw [nd_st s, nd_sts b]
    rfl
end
theorem eqv_nil {c : List Stm} : PyData.eqv (.tuple (stDs c)) (.tuple []) = c.isEmpty := by
  cases c with
  | nil => rw [stDs]; rfl
  | cons s b => rw [stDs]; rfl
section
variable {P : Program} {w : World} {K : PySem.W.Frag} {mg : Str → Option Value} {base : Heap} {f C : Addr} {fd : FuncData}
def NHd : List Str := ["statement", "word", "name", "expression", "block", "other"]
theorem scHdT : FnScope NHd ["statement"] (defScope sHdT) := ⟨rfl, rfl, rfl, by decide +kernel, rfl, by decide +kernel, by decide +kernel⟩
theorem ev_txt {k n i : Nat} {σ : L2.St} {H : Hp} {u : V} {e : Exp} (h3 : σ[i]? = some (some u)) (gu : Dd K H u (exD e)) (he : exH e < n) (ft : Fit e) : Ev (tFmt (tCall (spX K n) [] E0 (tCons (tVar i) tNil))) σ H (.str (exT e)) := ev_fmtS (fun H2 e2 Q q => ⟨_, h3, _, e, rfl, Dd.ext e2 _ _ gu, he, ft, fun H3 e3 => q H3 e3⟩) (by have := ft.len; omega)
theorem hd_len {n m : Nat} {s : Stm} (h : FitS n m s) (ib : isBl s) : (hdT s).length ≤ 6000 := by
  have l1 : ("for " : Str).length = 4 := by decide +kernel
  have l2 : (" in " : Str).length = 4 := by decide +kernel
  have l3 : ("while " : Str).length = 6 := by decide +kernel
  have l4 : ("if " : Str).length = 3 := by decide +kernel
  have l5 : ("try" : Str).length = 3 := by decide +kernel
  cases h with
  | set _ _ _ => exact ib.elim
  | tell _ _ => exact ib.elim
  | do_ _ _ => exact ib.elim
  | while_ a _ _ _ _ =>
    have := a.len
    rw [hdT, app_len]
    omega
  | for_ sl a _ _ _ _ =>
    have := a.len
    rw [hdT, app_len, app_len, app_len]
    omega
  | if_ a _ _ _ _ _ _ _ _ =>
    have := a.len
    rw [hdT, app_len]
    omega
  | try_ _ _ _ _ _ _ _ =>
    rw [hdT]
    omega
theorem ok_hdt {k n m : Nat} (F : Fun K "head_text" "head_text" sHdT f fd) (EX : Df P w K mg base "expression_text" ["expression"] k (spX K n)) : FnOk P w K mg base CX0 (k + 1) f fd ["statement"] (spHd K n m) := by
  refine F.ok scHdT (fun vs H Q E h => ?_) (fun cdv A outer s0 H vs Q E hr h => ?_)
  · obtain ⟨v, s, rfl, _⟩ := h
    rfl
  · obtain ⟨v, s, rfl, g, ft, ib, kQ⟩ := h
    have hrk : Room k _ := hr
    refine ⟨_, pss_cons (ps_asg (pv 0) (pg_tup rfl (pgs_cons (pg_name (i := 1) scHdT.nd rfl (Or.inl rfl)) (pgs_cons (pg_name (i := 2) scHdT.nd rfl (Or.inl rfl)) (pgs_cons (pg_name (i := 3) scHdT.nd rfl (Or.inl rfl)) (pgs_cons (pg_name (i := 4) scHdT.nd rfl (Or.inl rfl)) (pgs_cons (pg_name (i := 5) scHdT.nd rfl (Or.inl rfl)) pgs_nil)))))))
      (pss_cons (ps_if (pt_cmpR op_eq (pv 1) pe_str (nomark _)) (pss_one (ps_ret pe_str)) pss_nil)
      (pss_cons (ps_if (pt_cmpR op_eq (pv 1) pe_str (nomark _)) (pss_one (ps_ret (pe_joined (.cons pe_str (.cons (pe_fmt (pv 2)) (.cons pe_str (.cons (pe_fmt (pe_df EX hrk rfl (pa_cons (pv 3) pa_nil))) .nil))))))) pss_nil)
      (pss_one (ps_ret (pe_joined (.cons (pe_fmt (pv 1)) (.cons pe_str (.cons (pe_fmt (pe_df EX hrk rfl (pa_cons (pv 3) pa_nil))) .nil)))))))), ?_⟩
    have no : ∀ {a b : Str}, a ≠ b → decide (V.str a = V.str b) = false := fun n => decide_eq_false fun z => n (V.str.inj z)
    have go : ∀ {d1 d2 d3 d4 d5 : PyData} {tz : TS} {D : Ends}, stD s = .tuple [d1, d2, d3, d4, d5] → (∀ x1 x2 x3 x4 x5, Dd K H x1 d1 → Dd K H x2 d2 → Dd K H x3 d3 → Dd K H x4 d4 → Dd K H x5 d5 → tz D ([some v, some x1, some x2, some x3, some x4, some x5] : L2.St) H) →
        tSeq (tAsg (tVar 0) (gTup K 5 (gCons (gName 1) (gCons (gName 2) (gCons (gName 3) (gCons (gName 4) (gCons (gName 5) gNil))))))) tz D ([some v, none, none, none, none, none] : L2.St) H := fun {d1 d2 d3 d4 d5 tz D} ed kk => by
      rw [ed] at g
      cases g with
      | tup hs ha =>
        rename_i a xs
        obtain ⟨x1, x2, x3, x4, x5, rfl, g1, g2, g3, g4, g5⟩ := dds5 ha
        exact ⟨_, rfl, a, _, rfl, hs, rfl, _, _, rfl, _, _, rfl, _, _, rfl, _, _, rfl, _, _, rfl, rfl, kk x1 x2 x3 x4 x5 g1 g2 g3 g4 g5⟩
    cases s with
    | set s e => exact ib.elim
    | tell e => exact ib.elim
    | do_ e => exact ib.elim
    | try_ b c =>
      refine go (by rw [stD]) fun x1 x2 x3 x4 x5 g1 g2 g3 g4 g5 => ?_
      cases g1
      refine q_when (b := true) (et_is (et_test (ev_eqS (ev_var rfl) ev_c sc_s)) (decide_eq_true rfl)) (fun _ H1 e1 => ?_) fun z => by cases z
      exact s_ret ev_c fun H2 e2 => kQ H2 (e1.trans e2)
    | for_ s e b =>
      obtain ⟨sl, fe, he⟩ : s.length ≤ 2000 ∧ Fit e ∧ exH e < n := by
        cases ft with
        | for_ a b c _ _ _ => exact ⟨a, b, c⟩
      have fl := fe.len
      refine go (by rw [stD]) fun x1 x2 x3 x4 x5 g1 g2 g3 g4 g5 => ?_
      cases g1
      cases g2
      refine q_when (b := false) (et_is (et_test (ev_eqS (ev_var rfl) ev_c sc_s)) (no (by decide +kernel))) (fun z => by cases z) fun _ H1 e1 => ?_
      refine q_when (b := true) (et_is (et_test (ev_eqS (ev_var rfl) ev_c sc_s)) (decide_eq_true rfl)) (fun _ H2 e2 => ?_) fun z => by cases z
      have l1 : ("for " : Str).length = 4 := by decide +kernel
      have l2 : (" in " : Str).length = 4 := by decide +kernel
      exact s_ret (ev_fstr (.cons ev_c (.cons (ev_fmtS (ev_var rfl) (by omega)) (.cons ev_c (.cons (ev_txt (k := k) rfl (Dd.ext (e1.trans e2) _ _ g3) he fe) .nil)))) (by
        show (((Str.empty ++ "for ") ++ s) ++ " in ") ++ exT e = ((("for " : Str) ++ s) ++ " in ") ++ exT e
        rw [emp_app]) (Nat.le_trans (hd_len ft ib) (by decide))) fun H3 e3 => kQ H3 ((e1.trans e2).trans e3)
    | while_ e b =>
      obtain ⟨fe, he⟩ : Fit e ∧ exH e < n := by
        cases ft with
        | while_ a b _ _ _ => exact ⟨a, b⟩
      have fl := fe.len
      refine go (by rw [stD]) fun x1 x2 x3 x4 x5 g1 g2 g3 g4 g5 => ?_
      cases g1
      refine q_when (b := false) (et_is (et_test (ev_eqS (ev_var rfl) ev_c sc_s)) (no (by decide +kernel))) (fun z => by cases z) fun _ H1 e1 => ?_
      refine q_when (b := false) (et_is (et_test (ev_eqS (ev_var rfl) ev_c sc_s)) (no (by decide +kernel))) (fun z => by cases z) fun _ H2 e2 => ?_
      have l1 : ("while" : Str).length = 5 := by decide +kernel
      have l2 : (" " : Str).length = 1 := by decide +kernel
      have l3 : ("while " : Str).length = 6 := by decide +kernel
      exact s_ret (ev_fstr (.cons (ev_fmtS (ev_var rfl) (by omega)) (.cons ev_c (.cons (ev_txt (k := k) rfl (Dd.ext (e1.trans e2) _ _ g3) he fe) .nil))) (by
        show ((Str.empty ++ "while") ++ " ") ++ exT e = ("while " : Str) ++ exT e
        rw [emp_app, show ("while" : Str) ++ " " = "while " by decide +kernel]) (Nat.le_trans (hd_len ft ib) (by decide))) fun H3 e3 => kQ H3 ((e1.trans e2).trans e3)
    | if_ e b c =>
      obtain ⟨fe, he⟩ : Fit e ∧ exH e < n := by
        cases ft with
        | if_ a b _ _ _ _ _ _ _ => exact ⟨a, b⟩
      have fl := fe.len
      refine go (by rw [stD]) fun x1 x2 x3 x4 x5 g1 g2 g3 g4 g5 => ?_
      cases g1
      refine q_when (b := false) (et_is (et_test (ev_eqS (ev_var rfl) ev_c sc_s)) (no (by decide +kernel))) (fun z => by cases z) fun _ H1 e1 => ?_
      refine q_when (b := false) (et_is (et_test (ev_eqS (ev_var rfl) ev_c sc_s)) (no (by decide +kernel))) (fun z => by cases z) fun _ H2 e2 => ?_
      have l1 : ("if" : Str).length = 2 := by decide +kernel
      have l3 : ("if " : Str).length = 3 := by decide +kernel
      exact s_ret (ev_fstr (.cons (ev_fmtS (ev_var rfl) (by omega)) (.cons ev_c (.cons (ev_txt (k := k) rfl (Dd.ext (e1.trans e2) _ _ g3) he fe) .nil))) (by
        show ((Str.empty ++ "if") ++ " ") ++ exT e = ("if " : Str) ++ exT e
        rw [emp_app, show ("if" : Str) ++ " " = "if " by decide +kernel]) (Nat.le_trans (hd_len ft ib) (by decide))) fun H3 e3 => kQ H3 ((e1.trans e2).trans e3)
def NL : List Str := ["statement", "word", "name", "expression", "block", "other", "lines"]
theorem scStL : FnScope NL ["statement"] (defScope sStL) := ⟨rfl, rfl, rfl, by decide +kernel, rfl, by decide +kernel, by decide +kernel⟩
theorem stL_bl {s : Stm} {b c : List Stm} {n m : Nat} (h : FitS n (m + 1) s) (ib : isBl s) : ∃ d1 d2 d3 b c, stD s = .tuple [.str d1, d2, d3, .tuple (stDs b), .tuple (stDs c)] ∧ d1 ∉ (["set", "tell", "do"] : List Str) ∧ stL s = ((hdT s ++ (" {" : Str)) :: inn (stLs b)) ++ othL c (stLs c) ++ [("}" : Str)] ∧ FitL (stLs b) ∧ b.length ≤ 900 ∧ (∀ s ∈ b, FitS n m s) ∧ FitL (stLs c) ∧ c.length ≤ 900 ∧ (∀ s ∈ c, FitS n m s) ∧ SeqAt.shaped (.tuple (stDs c)) = true := by
  have nilL : FitL (stLs []) := ⟨by rw [stLs]; exact Nat.zero_le _, fun z hz => by rw [stLs] at hz; cases hz⟩
  have nils : SeqAt.shaped (.tuple (stDs [])) = true := by
    rw [stDs]
    decide +kernel
  cases h with
  | set _ _ _ => exact ib.elim
  | tell _ _ => exact ib.elim
  | do_ _ _ => exact ib.elim
  | while_ a b c d e =>
    rename_i ex bb
    exact ⟨"while", _, _, bb, [], by rw [stD, stDs], by decide +kernel, by rw [stL, othL, List.append_nil]; rfl, c, d, e, nilL, Nat.zero_le _, fun s hs => (by cases hs), nils⟩
  | for_ sl a b c d e =>
    rename_i nm ex bb
    exact ⟨"for", _, _, bb, [], by rw [stD, stDs], by decide +kernel, by rw [stL, othL, List.append_nil]; rfl, c, d, e, nilL, Nat.zero_le _, fun s hs => (by cases hs), nils⟩
  | if_ a b c d e c2 d2 e2 sh =>
    rename_i ex bb cc
    exact ⟨"if", _, _, bb, cc, by rw [stD], by decide +kernel, by rw [stL]; rfl, c, d, e, c2, d2, e2, sh⟩
  | try_ c d e c2 d2 e2 sh =>
    rename_i bb cc
    exact ⟨"try", _, _, bb, cc, by rw [stD], by decide +kernel, by rw [stL, show ("try {" : Str) = hdT (.try_ bb cc) ++ (" {" : Str) by rw [hdT]; decide +kernel], c, d, e, c2, d2, e2, sh⟩
end
end K72
set_option maxHeartbeats 8000000
namespace K72
open PySem PySem.Spec PyProof.Rows L2 Evl My LamX
/-! the lines of a statement, of a block -/
theorem ea_star {K : PySem.W.Frag} {σ : L2.St} {H : Hp} {te : TE} {t : TA} {xs vs : List V} (h : EvL te σ H xs) (hr : EvA t σ H vs) : EvA (StX.tStar K te t) σ H (xs ++ vs) := fun H1 e Q q => h H1 e _ fun p H2 np e2 hp => ⟨p, xs, rfl, .inr (sq_of hp), hr H2 (e.trans e2) _ fun H3 e3 => q H3 (e2.trans e3)⟩
theorem ea_starV {K : PySem.W.Frag} {σ : L2.St} {H : Hp} {te : TE} {t : TA} {a : Addr} {xs vs : List V} (h : Ev te σ H (.ref a)) (hx : SqL K H a xs) (hr : EvA t σ H vs) : EvA (StX.tStar K te t) σ H (xs ++ vs) := fun H1 e Q q => h H1 e _ fun H2 e2 => ⟨a, xs, rfl, .inr (ex_l (e.trans e2) hx), hr H2 (e.trans e2) _ fun H3 e3 => q H3 (e2.trans e3)⟩
section
variable {P : Program} {w : World} {K : PySem.W.Frag} {mg : Str → Option Value} {base : Heap} {f C : Addr} {fd : FuncData}
theorem ok_stl {k n m kE kH kI : Nat} (lE : kE ≤ k) (lH : kH ≤ k) (lI : kI ≤ k) (F : Fun K "statement_lines" "statement_lines" sStL f fd) (EX : Df P w K mg base "expression_text" ["expression"] kE (spX K n)) (HD : Df P w K mg base "head_text" ["statement"] kH (spHd K n (m + 1))) (IL : Df P w K mg base "inner_lines" ["block"] kI (spIL K n m)) : FnOk P w K mg base CX0 (k + 1) f fd ["statement"] (spSL K n (m + 1)) := by
  refine F.ok scStL (fun vs H Q E h => ?_) (fun cdv A outer s0 H vs Q E hr h => ?_)
  · obtain ⟨v, d, rfl, _⟩ := h
    rfl
  · obtain ⟨v, s, rfl, g, ft, kQ⟩ := h
    have hrk : Room k _ := hr
    have hrE : Room kE _ := hrk.mono lE
    have hrH : Room kH _ := hrk.mono lH
    have hrI : Room kI _ := hrk.mono lI
    refine ⟨_, pss_cons (ps_asg (pv 0) (pg_tup rfl (pgs_cons (pg_name (i := 1) scStL.nd rfl (Or.inl rfl)) (pgs_cons (pg_name (i := 2) scStL.nd rfl (Or.inl rfl)) (pgs_cons (pg_name (i := 3) scStL.nd rfl (Or.inl rfl)) (pgs_cons (pg_name (i := 4) scStL.nd rfl (Or.inl rfl)) (pgs_cons (pg_name (i := 5) scStL.nd rfl (Or.inl rfl)) pgs_nil)))))))
      (pss_cons (ps_if (pt_cmpR op_eq (pv 1) pe_str (nomark _)) (pss_one (ps_ret (pe_lst (pa_cons (pe_joined (.cons (pe_fmt (pv 2)) (.cons pe_str (.cons (pe_fmt (pe_df EX hrE rfl (pa_cons (pv 3) pa_nil))) (.cons pe_str .nil))))) pa_nil)))) pss_nil)
      (pss_cons (ps_if (pt_cmpR op_eq (pv 1) pe_str (nomark _)) (pss_one (ps_ret (pe_lst (pa_cons (pe_joined (.cons pe_str (.cons (pe_fmt (pe_df EX hrE rfl (pa_cons (pv 3) pa_nil))) (.cons pe_str .nil)))) pa_nil)))) pss_nil)
      (pss_cons (ps_if (pt_cmpR op_eq (pv 1) pe_str (nomark _)) (pss_one (ps_ret (pe_lst (pa_cons (pe_joined (.cons (pe_fmt (pe_df EX hrE rfl (pa_cons (pv 3) pa_nil))) (.cons pe_str .nil))) pa_nil)))) pss_nil)
      (pss_cons (ps_set (i := 6) scStL.nd rfl (Or.inl rfl) (pe_lst (pa_cons (pe_joined (.cons (pe_fmt (pe_df HD hrH rfl (pa_cons (pv 0) pa_nil))) (.cons pe_str .nil))) (StX.pa_star (pe_df IL hrI rfl (pa_cons (pv 4) pa_nil)) pa_nil))))
      (pss_cons (ps_if (pt_cmpR (op_neD hrk.units) (pv 5) (pe_tup pa_nil) (nomark _)) (pss_one (ps_expr (pe_bm PySem.F.plainAttrs_list PySem.F.slot_list_extend PySem.F.type_list_extend mt_extend (pv 6) (pa_cons (pe_lst (pa_cons pe_str (StX.pa_star (pe_df IL hrI rfl (pa_cons (pv 5) pa_nil)) pa_nil))) pa_nil)))) pss_nil)
      (pss_one (ps_ret (pe_lst (StX.pa_star (pv 6) (pa_cons pe_str pa_nil)))))))))), ?_⟩
    have no : ∀ {a b : Str}, a ≠ b → decide (V.str a = V.str b) = false := fun n => decide_eq_false fun z => n (V.str.inj z)
    have one : ∀ {σ : L2.St} {H1 : Hp} {te : TE} {y : Str}, Ev te σ H1 (.str y) → EvL (tLst (tCons te tNil)) σ H1 ([y].map V.str) := fun h => el_lst (ea_cons h ea_nil) (by simp)
    have go : ∀ {d1 d2 d3 d4 d5 : PyData} {tz : TS} {D : Ends}, stD s = .tuple [d1, d2, d3, d4, d5] → (∀ x1 x2 x3 x4 x5, Dd K H x1 d1 → Dd K H x2 d2 → Dd K H x3 d3 → Dd K H x4 d4 → Dd K H x5 d5 → tz D ([some v, some x1, some x2, some x3, some x4, some x5, none] : L2.St) H) →
        tSeq (tAsg (tVar 0) (gTup K 5 (gCons (gName 1) (gCons (gName 2) (gCons (gName 3) (gCons (gName 4) (gCons (gName 5) gNil))))))) tz D ([some v, none, none, none, none, none, none] : L2.St) H := fun {d1 d2 d3 d4 d5 tz D} ed kk => by
      have g0 := g
      rw [ed] at g0
      cases g0 with
      | tup hs ha =>
        rename_i a xs
        obtain ⟨x1, x2, x3, x4, x5, rfl, g1, g2, g3, g4, g5⟩ := dds5 ha
        exact ⟨_, rfl, a, _, rfl, hs, rfl, _, _, rfl, _, _, rfl, _, _, rfl, _, _, rfl, _, _, rfl, rfl, kk x1 x2 x3 x4 x5 g1 g2 g3 g4 g5⟩
    have l1 : (" = " : Str).length = 3 := by decide +kernel
    have l2 : (";" : Str).length = 1 := by decide +kernel
    have l3 : ("tell " : Str).length = 5 := by decide +kernel
    have l4 : (" {" : Str).length = 2 := by decide +kernel
    by_cases ib : isBl s
    · have hl := hd_len ft ib
      obtain ⟨w1, d2, d3, b, c, ed, nw, eL, flb, bl, fsb, flc, cl, fsc, shc⟩ := stL_bl (b := []) (c := []) ft ib
      rw [eL] at kQ
      refine go ed fun x1 x2 x3 x4 x5 g1 g2 g3 g4 g5 => ?_
      cases g1
      refine q_when (b := false) (et_is (et_test (ev_eqS (ev_var rfl) ev_c sc_s)) (no fun z => nw (by rw [z]; decide +kernel))) (fun z => by cases z) fun _ H1 e1 => ?_
      refine q_when (b := false) (et_is (et_test (ev_eqS (ev_var rfl) ev_c sc_s)) (no fun z => nw (by rw [z]; decide +kernel))) (fun z => by cases z) fun _ H2 e2 => ?_
      refine q_when (b := false) (et_is (et_test (ev_eqS (ev_var rfl) ev_c sc_s)) (no fun z => nw (by rw [z]; decide +kernel))) (fun z => by cases z) fun _ H3 e3 => ?_
      have e03 := (e1.trans e2).trans e3
      have hdE : Ev (fun σ H Q => tJs [tFmt (tCall (spHd K n (m + 1)) [] E0 (tCons (tVar 0) tNil)), tC (.str " {")] Str.empty σ H fun out H1 => Q (.str out) H1) ([some v, some (.str w1), some x2, some x3, some x4, some x5, none] : L2.St) H3 (.str (hdT s ++ (" {" : Str))) :=
        ev_fstr (.cons (ev_fmtS (fun H4 e4 Q q => ⟨_, rfl, v, s, rfl, Dd.ext (e03.trans e4) _ _ g, ft, ib, fun H5 e5 => q H5 e5⟩) (by omega)) (.cons ev_c .nil)) (by
          show (Str.empty ++ hdT s) ++ " {" = _
          rw [emp_app]) (by rw [app_len]; omega)
      have inE : ∀ {σ : L2.St} {G : Hp} {i : Nat} {u : V} {bb : List Stm}, σ[i]? = some (some u) → Dd K G u (.tuple (stDs bb)) → FitL (stLs bb) → bb.length ≤ 900 → (∀ s ∈ bb, FitS n m s) → EvL (tCall (spIL K n m) [] E0 (tCons (tVar i) tNil)) σ G ((inn (stLs bb)).map V.str) := fun hi gu fl bl fs H4 e4 Q q => ⟨_, hi, _, _, rfl, Dd.ext e4 _ _ gu, fs, fl, bl, fun p H5 np e5 hp => q p H5 np e5 hp⟩
      have ilen : ∀ ls, (inn ls).length = ls.length := fun ls => List.length_map _
      refine q_asgL (xs := ((hdT s ++ (" {" : Str)) :: inn (stLs b)).map V.str) (by
        have q := el_lst (ea_cons hdE (ea_star (K := K) (inE (i := 4) rfl (Dd.ext e03 _ _ g4) flb bl fsb) ea_nil)) (by
          rw [List.append_nil, List.length_cons, List.length_map, ilen]
          have := flb.1
          omega)
        rw [List.append_nil] at q
        exact q) fun L H4 nL e4 hL => ?_
      have e04 := e03.trans e4
      have nL0 : H L = none := fresh_back e03 nL
      have neE : EvT (tTest (tOp (rNeD K) (tVar 5) (tTup tNil))) ([some v, some (.str w1), some x2, some x3, some x4, some x5, some (.ref L)] : L2.St) H4 (!c.isEmpty) := et_is (et_test (ed_neDS (ed_var rfl (Dd.ext e04 _ _ g5)) (ed_tup eds_nil (Nat.zero_le _)) (nd_sts c) rfl shc (by decide +kernel))) (by rw [eqv_nil])
      cases hc : c with
      | nil =>
        subst hc
        refine q_when (b := false) neE (fun z => by cases z) fun _ H5 e5 => ?_
        have hL5 := e5 _ _ hL
        have q := el_lst (σ := ([some v, some (.str w1), some x2, some x3, some x4, some x5, some (.ref L)] : L2.St)) (H := H5) (ea_starV (K := K) (ev_var (i := 6) rfl) (sq_of hL5) (ea_cons (ev_c (v := V.str "}")) ea_nil)) (by
          rw [List.length_append, List.length_map, List.length_cons, ilen]
          have := flb.1
          simp
          omega)
        refine s_retL q fun p H6 np e6 hp => kQ p H6 (fresh_back (e04.trans e5) np) ((e04.trans e5).trans e6) ?_
        rw [hp, othL, List.append_nil, List.map_append]
        rfl
      | cons c0 cr =>
        have ne : c.isEmpty = false := by rw [hc]; rfl
        have oth : othL c (stLs c) = ("} else {" : Str) :: inn (stLs c) := by rw [hc]; rfl
        rw [oth] at kQ
        refine q_when (b := true) (et_is neE (by rw [ne]; rfl)) (fun _ H5 e5 => ?_) fun z => by cases z
        have hL5 := e5 _ _ hL
        have e05 := e04.trans e5
        have exE : EvL (tLst (tCons (tC (.str "} else {")) (StX.tStar K (tCall (spIL K n m) [] E0 (tCons (tVar 5) tNil)) tNil))) ([some v, some (.str w1), some x2, some x3, some x4, some x5, some (.ref L)] : L2.St) H5 ((("} else {" : Str) :: inn (stLs c)).map V.str) := by
          have q := el_lst (ea_cons (ev_c (v := V.str "} else {")) (ea_star (K := K) (inE (i := 5) (σ := ([some v, some (.str w1), some x2, some x3, some x4, some x5, some (.ref L)] : L2.St)) rfl (Dd.ext e05 _ _ g5) flc cl fsc) ea_nil)) (by
            rw [List.append_nil, List.length_cons, List.length_map, ilen]
            have := flc.1
            omega)
          rw [List.append_nil] at q
          exact q
        refine ⟨_, rfl, .inl ⟨rfl, _, sq_of hL5⟩, exE H5 (Ex.refl _) _ fun bq H6 nb e6 hb => ?_⟩
        have hL6 := e6 _ _ hL5
        have lb := flb.1
        have lc := flc.1
        refine ⟨L, bq, _, _, rfl, rfl, hL6, hb, sz_of (by simp only [List.length_map, List.length_cons, ilen]; omega), ?_⟩
        have e7 : Ex H (upd H6 L (.lst (((hdT s ++ (" {" : Str)) :: inn (stLs b)).map V.str ++ (("} else {" : Str) :: inn (stLs c)).map V.str))) := fun a o ha => by
          rw [upd_ne (ne_of_none ha nL0)]
          exact e6 _ _ (e05 _ _ ha)
        have hL7 : (upd H6 L (.lst (((hdT s ++ (" {" : Str)) :: inn (stLs b)).map V.str ++ (("} else {" : Str) :: inn (stLs c)).map V.str))) L = some (.lst (((hdT s ++ (" {" : Str)) :: inn (stLs b)).map V.str ++ (("} else {" : Str) :: inn (stLs c)).map V.str)) := upd_same
        generalize upd H6 L (.lst (((hdT s ++ (" {" : Str)) :: inn (stLs b)).map V.str ++ (("} else {" : Str) :: inn (stLs c)).map V.str)) = H7 at e7 hL7 ⊢
        have q := el_lst (σ := ([some v, some (.str w1), some x2, some x3, some x4, some x5, some (.ref L)] : L2.St)) (H := H7) (ea_starV (K := K) (ev_var (i := 6) rfl) (sq_of hL7) (ea_cons (ev_c (v := V.str "}")) ea_nil)) (by
          simp only [List.length_append, List.length_map, List.length_cons, ilen, List.length_nil]
          omega)
        refine s_retL q fun p H8 np e8 hp => kQ p H8 (fresh_back e7 np) (e7.trans e8) ?_
        rw [hp, List.map_append, List.map_append]
        rfl
    · cases ft with
      | set sl fe he =>
        rename_i s e
        have fl := fe.len
        refine go (by rw [stD]) fun x1 x2 x3 x4 x5 g1 g2 g3 g4 g5 => ?_
        cases g1
        cases g2
        rw [stL] at kQ
        refine q_when (b := true) (et_is (et_test (ev_eqS (ev_var rfl) ev_c sc_s)) (decide_eq_true rfl)) (fun _ H1 e1 => ?_) fun z => by cases z
        exact s_retL (one (ev_fstr (.cons (ev_fmtS (ev_var rfl) (by omega)) (.cons ev_c (.cons (ev_txt (k := kE) rfl (Dd.ext e1 _ _ g3) he fe) (.cons ev_c .nil)))) (by
          show (((Str.empty ++ s) ++ " = ") ++ exT e) ++ ";" = _
          rw [emp_app]) (by rw [app_len, app_len, app_len]; omega))) fun p H2 np e2 hp => kQ p H2 (fresh_back e1 np) (e1.trans e2) hp
      | tell fe he =>
        rename_i e
        have fl := fe.len
        refine go (by rw [stD]) fun x1 x2 x3 x4 x5 g1 g2 g3 g4 g5 => ?_
        cases g1
        rw [stL] at kQ
        refine q_when (b := false) (et_is (et_test (ev_eqS (ev_var rfl) ev_c sc_s)) (no (by decide +kernel))) (fun z => by cases z) fun _ H1 e1 => ?_
        refine q_when (b := true) (et_is (et_test (ev_eqS (ev_var rfl) ev_c sc_s)) (decide_eq_true rfl)) (fun _ H2 e2 => ?_) fun z => by cases z
        exact s_retL (one (ev_fstr (.cons ev_c (.cons (ev_txt (k := kE) rfl (Dd.ext (e1.trans e2) _ _ g3) he fe) (.cons ev_c .nil))) (by
          show ((Str.empty ++ "tell ") ++ exT e) ++ ";" = _
          rw [emp_app]) (by rw [app_len, app_len]; omega))) fun p H3 np e3 hp => kQ p H3 (fresh_back (e1.trans e2) np) ((e1.trans e2).trans e3) hp
      | do_ fe he =>
        rename_i e
        have fl := fe.len
        refine go (by rw [stD]) fun x1 x2 x3 x4 x5 g1 g2 g3 g4 g5 => ?_
        cases g1
        rw [stL] at kQ
        refine q_when (b := false) (et_is (et_test (ev_eqS (ev_var rfl) ev_c sc_s)) (no (by decide +kernel))) (fun z => by cases z) fun _ H1 e1 => ?_
        refine q_when (b := false) (et_is (et_test (ev_eqS (ev_var rfl) ev_c sc_s)) (no (by decide +kernel))) (fun z => by cases z) fun _ H2 e2 => ?_
        refine q_when (b := true) (et_is (et_test (ev_eqS (ev_var rfl) ev_c sc_s)) (decide_eq_true rfl)) (fun _ H3 e3 => ?_) fun z => by cases z
        have e03 := (e1.trans e2).trans e3
        exact s_retL (one (ev_fstr (.cons (ev_txt (k := kE) rfl (Dd.ext e03 _ _ g3) he fe) (.cons ev_c .nil)) (by
          show (Str.empty ++ exT e) ++ ";" = _
          rw [emp_app]) (by rw [app_len]; omega))) fun p H4 np e4 hp => kQ p H4 (fresh_back e03 np) (e03.trans e4) hp
      | while_ _ _ _ _ _ => exact absurd trivial ib
      | for_ _ _ _ _ _ _ => exact absurd trivial ib
      | if_ _ _ _ _ _ _ _ _ _ => exact absurd trivial ib
      | try_ _ _ _ _ _ _ _ => exact absurd trivial ib
end
section
variable {P : Program} {w : World} {K : PySem.W.Frag} {mg : Str → Option Value} {base : Heap} {f C : Addr} {fd : FuncData}
theorem fl_no {n k : Nat} : FnOk P w K mg base CX0 k f fd ["statement"] (spSL K n 0) :=
  ⟨fun vs H Q E h => (by obtain ⟨_, _, _, _, z, _⟩ := h; cases z), fun A outer sh H args us vs Q E hr e b r h => (by obtain ⟨_, _, _, _, z, _⟩ := h; cases z)⟩
end
/-- the writer's defs of statements, found -/
structure WrS (P : Program) (w : World) (K : PySem.W.Frag) (mg : Str → Option Value) (base : Heap) : Prop where
  x : WrX P w K mg base
  hd : ∃ (f : Addr) (fd : FuncData), mg "head_text" = some (.ref f) ∧ PySem.W.keepIn K (.ref f) = true ∧ Fun K "head_text" "head_text" sHdT f fd ∧ Binds K fd ["statement"] []
  sl : ∃ (f : Addr) (fd : FuncData), mg "statement_lines" = some (.ref f) ∧ PySem.W.keepIn K (.ref f) = true ∧ Fun K "statement_lines" "statement_lines" sStL f fd ∧ Binds K fd ["statement"] []
  il : ∃ (f : Addr) (fd : FuncData), mg "inner_lines" = some (.ref f) ∧ PySem.W.keepIn K (.ref f) = true ∧ Fun K "inner_lines" "inner_lines" sInL f fd ∧ Binds K fd ["block"] []
  bl : ∃ (f : Addr) (fd : FuncData), mg "block_lines" = some (.ref f) ∧ PySem.W.keepIn K (.ref f) = true ∧ Fun K "block_lines" "block_lines" sBlL f fd ∧ Binds K fd ["statements"] []
section
variable {P : Program} {w : World} {K : PySem.W.Frag} {mg : Str → Option Value} {base : Heap}
theorem WrS.lines (M : WrS P w K mg base) (n : Nat) : ∀ m, Df P w K mg base "statement_lines" ["statement"] (3 * n + 1 + 3 * m) (spSL K n m)
  | 0 => by
    obtain ⟨f, fd, mm, kp, F, b⟩ := M.sl
    exact ⟨_, _, mm, kp, fl_no, b⟩
  | m + 1 => by
    have ih := M.lines n m
    obtain ⟨fb, fdb, mb, kb, Fb, bb⟩ := M.bl
    have BL : Df P w K mg base "block_lines" ["statements"] (3 * n + 1 + 3 * m + 1) (spBL K n m) := ⟨_, _, mb, kb, ok_bll Fb ih, bb⟩
    obtain ⟨fi, fdi, mi, ki, Fi, bi⟩ := M.il
    have IL : Df P w K mg base "inner_lines" ["block"] (3 * n + 1 + 3 * m + 2) (spIL K n m) := ⟨_, _, mi, ki, ok_inl Fi BL, bi⟩
    obtain ⟨fh, fdh, mh, kh, Fh, bh⟩ := M.hd
    have HD : Df P w K mg base "head_text" ["statement"] (3 * n + 1 + 1) (spHd K n (m + 1)) := ⟨_, _, mh, kh, ok_hdt Fh (M.x.df n), bh⟩
    obtain ⟨f, fd, mm, kp, F, b⟩ := M.sl
    exact ⟨_, _, mm, kp, ok_stl (k := 3 * n + 1 + 3 * m + 2) (by omega) (by omega) (by omega) F (M.x.df n) HD IL, b⟩
theorem WrS.block (M : WrS P w K mg base) (n m : Nat) : Df P w K mg base "block_lines" ["statements"] (3 * n + 2 + 3 * m) (spBL K n m) := by
  have SL := M.lines n m
  obtain ⟨fb, fdb, mb, kb, Fb, bb⟩ := M.bl
  have q := ok_bll Fb SL
  have e : 3 * n + 1 + 3 * m + 1 = 3 * n + 2 + 3 * m := by omega
  rw [e] at q
  exact ⟨_, _, mb, kb, q, bb⟩
end
end K72
set_option maxHeartbeats 8000000
namespace K72
open PySem PySem.Spec PyProof.Rows L2 Evl My LamX
/-! the words that are called -/
abbrev sCi : Stmt := top 33
abbrev sCb : Stmt := top 34
theorem flat_take {α : Type} {lss : List (List α)} {i : Nat} {ls : List α} (h : lss[i]? = some ls) : (lss.take (i + 1)).flatten = (lss.take i).flatten ++ ls := by
  rw [List.take_add_one, h, List.flatten_append]
  simp
theorem flat_le {α : Type} (lss : List (List α)) (i : Nat) : (lss.take i).flatten.length ≤ lss.flatten.length := by
  have z : lss.flatten = (lss.take i).flatten ++ (lss.drop i).flatten := by rw [← List.flatten_append, List.take_append_drop]
  rw [z, List.length_append]
  omega
/-- [y for x in t for y in f(x)] -/
theorem el_flat {K : PySem.W.Frag} {σ : L2.St} {H : Hp} {tl inner : TE} {i0 j0 : Nat} {vs vs1 : List Nat} {ds : List PyData} {lss : List (List Str)} (h : EvD K tl σ H (.tuple ds)) (l : lss.length = ds.length) (tot : lss.flatten.length ≤ 50000)
    (hw : ∀ x, wipe ((wipe σ vs).set i0 (some x)) vs = wipe σ vs) (hw1 : ∀ x y, wipe ((wipe ((wipe σ vs).set i0 (some x)) vs1).set j0 (some y)) vs1 = wipe ((wipe σ vs).set i0 (some x)) vs1) (hj : ∀ x y, ((wipe ((wipe σ vs).set i0 (some x)) vs1).set j0 (some y))[j0]? = some (some y))
    (he : ∀ (i : Nat) (x : V) (d : PyData) (ls : List Str) H1, Ex H H1 → ds[i]? = some d → lss[i]? = some ls → Dd K H1 x d → EvL inner ((wipe σ vs).set i0 (some x)) H1 (ls.map V.str)) :
    EvL (tLc2 (iTup K tl) (gName i0) tYes (iList K inner) (gName j0) tYes (tVar j0) vs vs1) σ H (lss.flatten.map V.str) := fun H0 ex0 Q kQ => h H0 ex0 _ fun v H1 ex1 g => by
  have ex := ex0.trans ex1
  cases g with
  | tup hs ha =>
    rename_i a xs
    have xl := ha.len
    refine ⟨a, rfl, ⟨_, hs⟩, fun D nD => ⟨fun i m H' => m = xs.length - i ∧ i ≤ xs.length ∧ Ex H1 H' ∧ H' D = some (.lst ((lss.take i).flatten.map V.str)), ⟨xs.length, rfl, Nat.zero_le _, Ex.new nD, upd_same⟩, ?_⟩⟩
    rintro i m H' ⟨rfl, hi, e, hD⟩
    have hsq : SqT K H' a xs := ex_t e hs
    by_cases lt : i < xs.length
    · refine .inr ⟨walk_tup.goes i H' lt hsq, fun H2 => Ex H1 H2 ∧ H2 D = some (.lst ((lss.take (i + 1)).flatten.map V.str)), fun H2 p2 => ⟨xs.length - (i + 1), by omega, rfl, lt, p2.1, p2.2⟩, fun x H2 y => ?_⟩
      obtain ⟨eH, hx⟩ := walk_tup.yields i H' x H2 lt hsq y
      have eH2 := eH.symm
      subst eH2
      obtain ⟨d, hd, gd⟩ := ha.get hx
      obtain ⟨ls, hl⟩ : ∃ ls, lss[i]? = some ls := ⟨_, List.getElem?_eq_getElem (by omega)⟩
      have t1 := flat_le lss (i + 1)
      rw [flat_take hl, List.length_append] at t1
      refine ⟨hw x, ?_⟩
      show tYes _ H' _
      refine yes_if (he i x d ls H' (ex.trans e) hd hl (Dd.ext e _ _ gd) H' (Ex.refl _) _ fun p H3 np e3 hp => ?_)
      have pD : p ≠ D := fun w => by
        rw [w, hD] at np
        cases np
      have hD3 := e3 _ _ hD
      refine ⟨p, rfl, ⟨_, sq_of hp⟩, fun j k H4 => k = ls.length - j ∧ j ≤ ls.length ∧ H4 p = some (.lst (ls.map V.str)) ∧ Ex H1 H4 ∧ H4 D = some (.lst (((lss.take i).flatten ++ ls.take j).map V.str)), ⟨ls.length, rfl, Nat.zero_le _, hp, e.trans e3, by rw [List.take_zero, List.append_nil]; exact hD3⟩, ?_⟩
      rintro j k H4 ⟨rfl, hj1, hp4, e4, hD4⟩
      by_cases jl : j < ls.length
      · have jl' : j < (ls.map V.str).length := by
          rw [List.length_map]
          exact jl
        refine .inr ⟨walk_list.goes j H4 jl' (sq_of hp4), fun H5 => H5 p = some (.lst (ls.map V.str)) ∧ Ex H1 H5 ∧ H5 D = some (.lst (((lss.take i).flatten ++ ls.take (j + 1)).map V.str)), fun H5 p5 => ⟨ls.length - (j + 1), by omega, rfl, by omega, p5.1, p5.2.1, p5.2.2⟩, fun x2 H5 y2 => ?_⟩
        obtain ⟨eH5, hx2⟩ := walk_list.yields j H4 x2 H5 jl' (sq_of hp4) y2
        have eH6 := eH5.symm
        subst eH6
        rw [List.getElem?_map] at hx2
        obtain ⟨z, hz, rfl⟩ : ∃ z, ls[j]? = some z ∧ x2 = V.str z := by
          cases hh : ls[j]? with
          | none =>
            rw [hh] at hx2
            cases hx2
          | some s =>
            rw [hh] at hx2
            exact ⟨s, rfl, (Option.some.inj hx2).symm⟩
        refine ⟨hw1 x _, ?_⟩
        show tYes _ H4 _
        refine yes_if ⟨_, hj x _, _, hD4, sz_lt (by rw [List.length_map, List.length_append, List.length_take]; omega), ?_, ?_, ?_⟩
        · rw [upd_ne pD]
          exact hp4
        · intro b o hb
          rw [upd_ne (ne_of_none hb nD)]
          exact e4 b o hb
        · rw [upd_same, List.take_add_one, hz, ← List.append_assoc, List.map_append (l₂ := (some z).toList)]
          rfl
      · have j1 : j = ls.length := by omega
        subst j1
        have st : ls.length = (ls.map V.str).length := (List.length_map _).symm
        refine .inl ⟨by rw [st]; exact walk_list.stops H4 (sq_of hp4), e4, ?_⟩
        rw [flat_take hl]
        rw [List.take_length] at hD4
        exact hD4
    · have ei : i = xs.length := by omega
      subst ei
      refine .inl ⟨walk_tup.stops H' hsq, kQ D H' (fresh_back ex1 nD) (ex1.trans e) ?_⟩
      rw [xl, ← l, List.take_length] at hD
      exact hD
mutual
def exW : Exp → List Str
  | .num _ => []
  | .txt _ => []
  | .var _ => []
  | .call s es => exWs es ++ [s]
  | .row _ _ o es => exW o ++ exWs es
def exWs : List Exp → List Str
  | [] => []
  | e :: es => exW e ++ exWs es
end
theorem exWs_flat : ∀ es, exWs es = (es.map exW).flatten
  | [] => rfl
  | e :: es => by rw [exWs, exWs_flat es]; rfl
def spC (K : PySem.W.Frag) (n : Nat) : Sp := fun vs H Q _ => ∃ (v : V) (e : Exp), vs = [v] ∧ Dd K H v (exD e) ∧ exH e < n ∧ (exW e).length ≤ 900 ∧ NewL (exW e) H Q
section
variable {P : Program} {w : World} {K : PySem.W.Frag} {mg : Str → Option Value} {base : Heap} {f C : Addr} {fd : FuncData}
def NCi : List Str := ["expression", "each", "word"]
theorem scCi : FnScope NCi ["expression"] (defScope sCi) := ⟨rfl, rfl, rfl, by decide +kernel, rfl, by decide +kernel, by decide +kernel⟩
theorem fc_no {k : Nat} : FnOk P w K mg base CX0 k f fd ["expression"] (spC K 0) :=
  ⟨fun vs H Q E h => (by obtain ⟨_, _, _, _, z, _⟩ := h; omega), fun A outer sh H args us vs Q E hr e b r h => (by obtain ⟨_, _, _, _, z, _⟩ := h; omega)⟩
theorem ok_ci {k n : Nat} (F : Fun K "calls_in" "calls_in" sCi f fd) (CI : Df P w K mg base "calls_in" ["expression"] k (spC K n)) : FnOk P w K mg base CX0 (k + 1) f fd ["expression"] (spC K (n + 1)) := by
  refine F.ok scCi (fun vs H Q E h => ?_) (fun cdv A outer s0 H vs Q E hr h => ?_)
  · obtain ⟨v, e, rfl, _⟩ := h
    rfl
  · obtain ⟨v, e, rfl, g, he, wl, kQ⟩ := h
    have hrk : Room k _ := hr
    refine ⟨_, pss_cons (ps_if (pt_cmpR op_eq (pe_ix ix_tup (pv 0) pe_int (fun _ _ => rfl)) pe_str (nomark _)) (pss_one (ps_ret (pe_lst (StX.pa_star (pe_lc2 (own := [("each", 1), ("word", 2)]) (vs1 := [2]) (g := gName 1) (g1 := gName 2) (tt := tYes) (tt1 := tYes) (te := tVar 2) (wi1 := iList K (tCall (spC K n) [] E0 (tCons (tVar 1) tNil))) rfl scCi.nd (pi_tup (pe_ix ix_tup (pv 0) pe_int (fun _ _ => rfl))) (blkOk_by (own := [("each", 1), ("word", 2)]) (N := NCi) (sc := defScope sCi) (by decide +kernel)) (by decide)
          (fun _ _ _ _ _ => pg_name (i := 1) scCi.nd rfl (Or.inl rfl)) (fun _ _ _ _ _ => pts_nil) (fun _ _ _ _ _ => pi_list (pe_df CI hrk rfl (pa_cons (pv 1) pa_nil))) (fun _ _ _ _ _ => pg_name (i := 2) scCi.nd rfl (Or.inl rfl)) (fun _ _ _ _ _ => pts_nil) (fun _ _ _ _ _ => pv 2)) (pa_cons (pe_ix ix_tup (pv 0) pe_int (fun _ _ => rfl)) pa_nil))))) pss_nil)
      (pss_cons (ps_if (pt_cmpR op_eq (pe_ix ix_tup (pv 0) pe_int (fun _ _ => rfl)) pe_str (nomark _)) (pss_one (ps_ret (pe_lc2 (own := [("each", 1), ("word", 2)]) (vs1 := [2]) (g := gName 1) (g1 := gName 2) (tt := tYes) (tt1 := tYes) (te := tVar 2) (wi1 := iList K (tCall (spC K n) [] E0 (tCons (tVar 1) tNil))) rfl scCi.nd (pi_tup (pe_ix ix_tup (pv 0) pe_int (fun _ _ => rfl))) (blkOk_by (own := [("each", 1), ("word", 2)]) (N := NCi) (sc := defScope sCi) (by decide +kernel)) (by decide)
          (fun _ _ _ _ _ => pg_name (i := 1) scCi.nd rfl (Or.inl rfl)) (fun _ _ _ _ _ => pts_nil) (fun _ _ _ _ _ => pi_list (pe_df CI hrk rfl (pa_cons (pv 1) pa_nil))) (fun _ _ _ _ _ => pg_name (i := 2) scCi.nd rfl (Or.inl rfl)) (fun _ _ _ _ _ => pts_nil) (fun _ _ _ _ _ => pv 2)))) pss_nil)
      (pss_one (ps_ret (pe_lst pa_nil)))), ?_⟩
    have sub : ∀ {H1 : Hp} {es : List Exp}, Ex H H1 → EvD K (tOp (rIxT K) (tVar 0) (tC (.int 2))) ([some v, none, none] : L2.St) H1 (.tuple (exDs es)) → (∀ e ∈ es, exH e < n) → (exWs es).length ≤ 900 →
        EvL (tLc2 (iTup K (tOp (rIxT K) (tVar 0) (tC (.int 2)))) (gName 1) tYes (iList K (tCall (spC K n) [] E0 (tCons (tVar 1) tNil))) (gName 2) tYes (tVar 2) [1, 2] [2]) ([some v, none, none] : L2.St) H1 ((exWs es).map V.str) := fun {H1 es} ex src hes ll => by
      rw [exWs_flat] at ll ⊢
      refine el_flat (ds := exDs es) (lss := es.map exW) src (by rw [exDs_len, List.length_map]) (by omega) (fun x => rfl) (fun x y => rfl) (fun x y => rfl) fun i x d ls H2 e2 hd hls gx => ?_
      rw [exDs_map, List.getElem?_map] at hd
      rw [List.getElem?_map] at hls
      obtain ⟨ee, hee⟩ : ∃ ee, es[i]? = some ee := by
        cases hh : es[i]? with
        | none =>
          rw [hh] at hd
          cases hd
        | some s => exact ⟨s, rfl⟩
      rw [hee] at hd hls
      have hd2 := Option.some.inj hd
      have hls2 := Option.some.inj hls
      subst hd2 hls2
      have l1 : (exW ee).length ≤ 900 := by
        have t := flat_le (es.map exW) (i + 1)
        rw [flat_take (ls := exW ee) (by rw [List.getElem?_map, hee]; rfl), List.length_append] at t
        omega
      exact fun H3 e3 Q q => ⟨_, rfl, x, ee, rfl, Dd.ext e3 _ _ gx, hes ee (List.mem_of_getElem? hee), l1, fun p H4 np e4 hp => q p H4 np e4 hp⟩
    have nil : NewL [] H Q → ∀ {H1 : Hp}, Ex H H1 → tLst tNil ([some v, none, none] : L2.St) H1 Q := fun kq {H1} e1 => ⟨Nat.zero_le _, fun p np => kq p _ (fresh_back e1 np) (e1.trans (Ex.new np)) upd_same⟩
    cases e with
    | call s es =>
      refine q_when (b := true) (et_is (ev_kd rfl g) (show decide (("call" : Str) = "call") = true by decide +kernel)) (fun _ H1 e1 => ?_) fun z => by cases z
      rw [exD] at g
      rw [exW] at kQ wl
      rw [exH] at he
      rw [List.length_append] at wl
      have g1 := Dd.ext e1 _ _ g
      have q := el_lst (ea_star (K := K) (sub e1 (ed_ix (j := 2) rfl g1 rfl) (fun e m => by have := exHs_le m; omega) (by omega)) (ea_cons (EvD.str' (ed_ix (i := 0) (j := 1) (σ := ([some v, none, none] : L2.St)) rfl g1 rfl)) ea_nil)) (by
        rw [List.length_append, List.length_map]
        simp
        omega)
      refine s_retL q fun p H2 np e2 hp => kQ p H2 (fresh_back e1 np) (e1.trans e2) ?_
      rw [hp, List.map_append]
      rfl
    | row gg ss o es =>
      refine q_when (b := false) (et_is (ev_kd rfl g) (show decide (("row" : Str) = "call") = false by decide +kernel)) (fun z => by cases z) fun _ H1 e1 => ?_
      refine q_when (b := true) (et_is (ev_kd rfl (Dd.ext e1 _ _ g)) (show decide (("row" : Str) = "row") = true by decide +kernel)) (fun _ H2 e2 => ?_) fun z => by cases z
      have e12 := e1.trans e2
      rw [exD] at g
      rw [exW] at kQ wl
      rw [exH] at he
      have g1 := Dd.ext e12 _ _ g
      have q := sub (es := o :: es) e12 (by rw [exDs]; exact ed_ix (j := 2) rfl g1 rfl) (fun e m => by
        have := exHs_le m
        rw [exHs] at this
        omega) (by rw [exWs]; exact wl)
      rw [exWs] at q
      exact s_retL q fun p H3 np e3 hp => kQ p H3 (fresh_back e12 np) (e12.trans e3) hp
    | num m =>
      refine q_when (b := false) (et_is (ev_kd rfl g) (show decide (("number" : Str) = "call") = false by decide +kernel)) (fun z => by cases z) fun _ H1 e1 => ?_
      refine q_when (b := false) (et_is (ev_kd rfl (Dd.ext e1 _ _ g)) (show decide (("number" : Str) = "row") = false by decide +kernel)) (fun z => by cases z) fun _ H2 e2 => ?_
      rw [exW] at kQ
      exact nil kQ (e1.trans e2)
    | txt m =>
      refine q_when (b := false) (et_is (ev_kd rfl g) (show decide (("text" : Str) = "call") = false by decide +kernel)) (fun z => by cases z) fun _ H1 e1 => ?_
      refine q_when (b := false) (et_is (ev_kd rfl (Dd.ext e1 _ _ g)) (show decide (("text" : Str) = "row") = false by decide +kernel)) (fun z => by cases z) fun _ H2 e2 => ?_
      rw [exW] at kQ
      exact nil kQ (e1.trans e2)
    | var m =>
      refine q_when (b := false) (et_is (ev_kd rfl g) (show decide (("variable" : Str) = "call") = false by decide +kernel)) (fun z => by cases z) fun _ H1 e1 => ?_
      refine q_when (b := false) (et_is (ev_kd rfl (Dd.ext e1 _ _ g)) (show decide (("variable" : Str) = "row") = false by decide +kernel)) (fun z => by cases z) fun _ H2 e2 => ?_
      rw [exW] at kQ
      exact nil kQ (e1.trans e2)
end
end K72
set_option maxHeartbeats 8000000
namespace K72
open PySem PySem.Spec PyProof.Rows L2 Evl My LamX
/-! the words that are called in a block -/
mutual
theorem nm_ex : ∀ e : Exp, noList (exD e) = true
  | .num _ => by rw [exD]; rfl
  | .txt _ => by rw [exD]; rfl
  | .var _ => by rw [exD]; rfl
  | .call s es => by
    rw [exD]
    show (true && (true && (noLists (exDs es) && true))) = true
    rw [nm_exs es]
    rfl
  | .row g ss o es => by
    rw [exD]
    show (true && (true && ((noList (exD o) && noLists (exDs es)) && (noLists (ss.map PyData.str) && true)))) = true
    rw [nm_ex o, nm_exs es, nm_strs ss]
    rfl
theorem nm_exs : ∀ es : List Exp, noLists (exDs es) = true
  | [] => by rw [exDs]; rfl
  | e :: es => by
    rw [exDs]
    show (noList (exD e) && noLists (exDs es)) = true
    rw [nm_ex e, nm_exs es]
    rfl
theorem nm_strs : ∀ ss : List Str, noLists (ss.map PyData.str) = true
  | [] => rfl
  | s :: ss => by
    show (true && noLists (ss.map PyData.str)) = true
    rw [nm_strs ss]
    rfl
end
theorem nm5 {a b c d e : PyData} (ha : noList a = true) (hb : noList b = true) (hc : noList c = true) (hd : noList d = true) (he : noList e = true) : noList (.tuple [a, b, c, d, e]) = true := by
  show (noList a && (noList b && (noList c && (noList d && (noList e && true))))) = true
  rw [ha, hb, hc, hd, he]
  rfl
mutual
theorem nm_st : ∀ s : Stm, noList (stD s) = true
  | .set _ e => by rw [stD]; exact nm5 rfl rfl (nm_ex e) rfl rfl
  | .tell e => by rw [stD]; exact nm5 rfl rfl (nm_ex e) rfl rfl
  | .do_ e => by rw [stD]; exact nm5 rfl rfl (nm_ex e) rfl rfl
  | .while_ e b => by rw [stD]; exact nm5 rfl rfl (nm_ex e) (nm_sts b) rfl
  | .for_ _ e b => by rw [stD]; exact nm5 rfl rfl (nm_ex e) (nm_sts b) rfl
  | .if_ e b c => by rw [stD]; exact nm5 rfl rfl (nm_ex e) (nm_sts b) (nm_sts c)
  | .try_ b c => by rw [stD]; exact nm5 rfl rfl rfl (nm_sts b) (nm_sts c)
theorem nm_sts : ∀ b : List Stm, noLists (stDs b) = true
  | [] => by rw [stDs]; rfl
  | s :: b => by
    rw [stDs]
    show (noList (stD s) && noLists (stDs b)) = true
    rw [nm_st s, nm_sts b]
    rfl
end
mutual
def stW : Stm → List Str
  | .set _ e => exW e
  | .tell e => exW e
  | .do_ e => exW e
  | .while_ e b => exW e ++ stWs b
  | .for_ _ e b => exW e ++ stWs b
  | .if_ e b c => exW e ++ (stWs b ++ stWs c)
  | .try_ b c => stWs b ++ stWs c
def stWs : List Stm → List Str
  | [] => []
  | s :: b => stW s ++ stWs b
end
theorem stWs_flat : ∀ b, stWs b = (b.map stW).flatten
  | [] => rfl
  | s :: b => by rw [stWs, stWs_flat b]; rfl
theorem st_parts {n m : Nat} {s : Stm} (h : FitS n (m + 1) s) : ∃ (d1 d2 d3 : PyData) (b c : List Stm) (ws : List Str), stD s = .tuple [d1, d2, d3, .tuple (stDs b), .tuple (stDs c)] ∧ ((d3 = .none ∧ ws = []) ∨ ∃ e, d3 = exD e ∧ ws = exW e ∧ exH e < n) ∧ (∀ s ∈ b, FitS n m s) ∧ (∀ s ∈ c, FitS n m s) ∧ b.length ≤ 900 ∧ c.length ≤ 900 ∧ stW s = ws ++ (stWs b ++ stWs c) := by
  have no : ∀ s ∈ ([] : List Stm), FitS n m s := fun s hs => by cases hs
  cases h with
  | set _ _ he => exact ⟨_, _, _, [], [], _, by rw [stD, stDs], .inr ⟨_, rfl, rfl, he⟩, no, no, Nat.zero_le _, Nat.zero_le _, by rw [stW, stWs]; simp⟩
  | tell _ he => exact ⟨_, _, _, [], [], _, by rw [stD, stDs], .inr ⟨_, rfl, rfl, he⟩, no, no, Nat.zero_le _, Nat.zero_le _, by rw [stW, stWs]; simp⟩
  | do_ _ he => exact ⟨_, _, _, [], [], _, by rw [stD, stDs], .inr ⟨_, rfl, rfl, he⟩, no, no, Nat.zero_le _, Nat.zero_le _, by rw [stW, stWs]; simp⟩
  | while_ _ he _ l1 f1 => exact ⟨_, _, _, _, [], _, by rw [stD, stDs], .inr ⟨_, rfl, rfl, he⟩, f1, no, l1, Nat.zero_le _, by rw [stW, stWs]; simp⟩
  | for_ _ _ he _ l1 f1 => exact ⟨_, _, _, _, [], _, by rw [stD, stDs], .inr ⟨_, rfl, rfl, he⟩, f1, no, l1, Nat.zero_le _, by rw [stW, stWs]; simp⟩
  | if_ _ he _ l1 f1 _ l2 f2 _ => exact ⟨_, _, _, _, _, _, by rw [stD], .inr ⟨_, rfl, rfl, he⟩, f1, f2, l1, l2, by rw [stW]⟩
  | try_ _ l1 f1 _ l2 f2 _ => exact ⟨_, _, _, _, _, [], by rw [stD], .inl ⟨rfl, rfl⟩, f1, f2, l1, l2, by rw [stW]; rfl⟩
theorem q_forDL {K : PySem.W.Frag} {σ : L2.St} {H : Hp} {tl : TE} {g : TG} {tb tz : TS} {D : Ends} {ds : List PyData} (h : EvDL K tl σ H ds)
    (h0 : ∀ p xs H1, H p = none → Ex H H1 → H1 p = some (.lst xs) → Dds K H1 xs ds → ∃ Pv : Nat → L2.St → Hp → Prop, Pv 0 σ H1 ∧ (∀ i σ' H', i ≤ xs.length → Pv i σ' H' → SqL K H' p xs) ∧ (∀ i x σ' H', xs[i]? = some x → Pv i σ' H' → g x σ' H' fun σ2 H2 => tb { D with nx := Pv (i + 1), ct := Pv (i + 1), bk := tz D } σ2 H2) ∧ ∀ σ' H', Pv xs.length σ' H' → tz D σ' H') : tSeq (tFor (iList K tl) g tb) tz D σ H :=
  h H (Ex.refl _) _ fun p xs H1 np e hp gd => by
    obtain ⟨Pv, a, b, c, d⟩ := h0 p xs H1 np e hp gd
    exact ⟨p, rfl, ⟨xs, sq_of hp⟩, for_list (D := { D with nx := tz D }) (xs := xs) Pv a b c d⟩
def tailD (d : PyData) : PyData := match d with
  | .tuple (_ :: r) => .tuple r
  | d => d
def spB0 (K : PySem.W.Frag) : Sp := fun vs H Q _ => ∃ v : V, vs = [v] ∧ Dd K H v (.tuple []) ∧ ∀ p H', H p = none → Ex H H' → H' p = some (.lst []) → Q (.ref p) H'
def spB (K : PySem.W.Frag) (n m : Nat) : Sp := fun vs H Q _ => ∃ (v : V) (b : List Stm), vs = [v] ∧ Dd K H v (.tuple (stDs b)) ∧ (∀ s ∈ b, FitS n m s) ∧ b.length ≤ 900 ∧ (stWs b).length ≤ 900 ∧ NewL (stWs b) H Q
theorem exD_ref {K : PySem.W.Frag} {H : Hp} {v : V} {e : Exp} (g : Dd K H v (exD e)) : v ≠ .non := fun z => by
  subst z
  obtain ⟨d, r, ed⟩ := kd_at e
  rw [ed] at g
  cases g
section
variable {P : Program} {w : World} {K : PySem.W.Frag} {mg : Str → Option Value} {base : Heap} {f C : Addr} {fd : FuncData}
def NCb : List Str := ["statements", "words", "name", "expression", "block", "other", "statement"]
theorem scCb : FnScope NCb ["statements"] (defScope sCb) := ⟨rfl, rfl, rfl, by decide +kernel, rfl, by decide +kernel, by decide +kernel⟩
theorem ok_cb0 (F : Fun K "calls_in_block" "calls_in_block" sCb f fd) : FnOk P w K mg base CX0 1 f fd ["statements"] (spB0 K) := by
  refine F.ok scCb (fun vs H Q E h => ?_) (fun cdv A outer s0 H vs Q E hr h => ?_)
  · obtain ⟨v, rfl, _⟩ := h
    rfl
  · obtain ⟨v, rfl, g, kQ⟩ := h
    refine ⟨_, pss_cons (ps_set (i := 1) scCb.nd rfl (Or.inl rfl) (pe_lst pa_nil))
      (pss_cons (ps_for PassesOwn.never rfl (pi_list (pe_lc (own := [("statement", 6)]) (g := gName 6) (tt := tYes) (te := eNo) rfl scCb.nd (pi_tup (pv 0)) (blkOk_by (own := [("statement", 6)]) (N := NCb) (sc := defScope sCb) (by decide +kernel)) (fun _ _ _ _ _ => pg_name (i := 6) scCb.nd rfl (Or.inl rfl)) (fun _ _ _ _ _ => pts_nil) (fun _ _ _ _ _ => pe_no)))
        (pg_tup rfl (pgs_cons (pg_name (i := 2) scCb.nd rfl (Or.inl rfl)) (pgs_cons (pg_name (i := 3) scCb.nd rfl (Or.inl rfl)) (pgs_cons (pg_name (i := 4) scCb.nd rfl (Or.inl rfl)) (pgs_cons (pg_name (i := 5) scCb.nd rfl (Or.inl rfl)) pgs_nil))))) pss_no)
      (pss_one (ps_ret (pv 1)))), ?_⟩
    cases g with
    | tup hs ha =>
      cases ha
      rename_i a
      refine ⟨Nat.zero_le _, fun L nL => ?_⟩
      have e1 : Ex H (upd H L (.lst [])) := Ex.new nL
      have hL1 : (upd H L (.lst [])) L = some (.lst []) := upd_same
      generalize upd H L (.lst []) = H1 at e1 hL1 ⊢
      have hs1 := ex_t e1 hs
      refine ⟨_, rfl, a, rfl, ⟨_, hs1⟩, fun D nD => ⟨fun i m H' => Ex H1 H' ∧ H' D = some (.lst []), ⟨0, Ex.new nD, upd_same⟩, ?_⟩⟩
      rintro i m H' ⟨e2, hD⟩
      refine .inl ⟨⟨[], ex_t e2 hs1, Nat.zero_le _⟩, D, rfl, ⟨_, sq_of hD⟩, fun j k σ' H3 => σ' = [some (.ref a), some (.ref L), none, none, none, none, none] ∧ H3 = H', ⟨0, rfl, rfl⟩, ?_⟩
      rintro j k σ' H3 ⟨rfl, rfl⟩
      exact .inl ⟨⟨[], sq_of hD, Nat.zero_le _⟩, _, rfl, kQ L _ nL (e1.trans e2) (e2 _ _ hL1)⟩
theorem spB_zero {n k : Nat} {ps : List Str} (h : FnOk P w K mg base CX0 k f fd ps (spB0 K)) : FnOk P w K mg base CX0 k f fd ps (spB K n 0) := by
  have go : ∀ {vs : List V} {H : Hp} {Q : VK} {E : XK}, spB K n 0 vs H Q E → spB0 K vs H Q E := fun {vs H Q E} x => by
    obtain ⟨v, b, rfl, g, fs, _, _, kQ⟩ := x
    cases b with
    | nil =>
      rw [stDs] at g
      rw [stWs] at kQ
      exact ⟨v, rfl, g, kQ⟩
    | cons s r => cases fs s List.mem_cons_self
  exact ⟨fun vs H Q E x => h.len vs H Q E (go x), fun A outer sh H args us vs Q E hr e b r x => h.run A outer sh H args us vs Q E hr e b r (go x)⟩
theorem ok_cb {k n m kC kB : Nat} (lC : kC ≤ k) (lB : kB ≤ k) (F : Fun K "calls_in_block" "calls_in_block" sCb f fd) (CI : Df P w K mg base "calls_in" ["expression"] kC (spC K n)) (CB : Df P w K mg base "calls_in_block" ["statements"] kB (spB K n m)) : FnOk P w K mg base CX0 (k + 1) f fd ["statements"] (spB K n (m + 1)) := by
  refine F.ok scCb (fun vs H Q E h => ?_) (fun cdv A outer s0 H vs Q E hr h => ?_)
  · obtain ⟨v, b, rfl, _⟩ := h
    rfl
  · obtain ⟨v, bb, rfl, g, fs, ln, wl, kQ⟩ := h
    have hrk : Room k _ := hr
    have hrC : Room kC _ := hrk.mono lC
    have hrB : Room kB _ := hrk.mono lB
    refine ⟨_, pss_cons (ps_set (i := 1) scCb.nd rfl (Or.inl rfl) (pe_lst pa_nil))
      (pss_cons (ps_for PassesOwn.never rfl (pi_list (pe_lc (own := [("statement", 6)]) (g := gName 6) (tt := tYes) (te := tSl (rSlT K) (tVar 6) (tPart (tC (.int 1))) tNoPart) rfl scCb.nd (pi_tup (pv 0)) (blkOk_by (own := [("statement", 6)]) (N := NCb) (sc := defScope sCb) (by decide +kernel)) (fun _ _ _ _ _ => pg_name (i := 6) scCb.nd rfl (Or.inl rfl)) (fun _ _ _ _ _ => pts_nil) (fun _ _ _ _ _ => pe_slice sl_tup (pv 6) (po_some pe_int) po_none)))
        (pg_tup rfl (pgs_cons (pg_name (i := 2) scCb.nd rfl (Or.inl rfl)) (pgs_cons (pg_name (i := 3) scCb.nd rfl (Or.inl rfl)) (pgs_cons (pg_name (i := 4) scCb.nd rfl (Or.inl rfl)) (pgs_cons (pg_name (i := 5) scCb.nd rfl (Or.inl rfl)) pgs_nil)))))
        (pss_cons (ps_if (pt_cmpR op_notN (pv 3) pe_non (nomark _)) (pss_one (ps_set (i := 1) scCb.nd rfl (Or.inl rfl) (pe_lst (StX.pa_star (pv 1) (StX.pa_star (pe_df CI hrC rfl (pa_cons (pv 3) pa_nil)) pa_nil))))) pss_nil)
        (pss_one (ps_set (i := 1) scCb.nd rfl (Or.inl rfl) (pe_lst (StX.pa_star (pv 1) (StX.pa_star (pe_df CB hrB rfl (pa_cons (pv 4) pa_nil)) (StX.pa_star (pe_df CB hrB rfl (pa_cons (pv 5) pa_nil)) pa_nil))))))))
      (pss_one (ps_ret (pv 1)))), ?_⟩
    refine q_asgL (xs := []) (el_lst ea_nil (Nat.zero_le _)) fun L H1 nL e1 hL1 => ?_
    have rows : EvDL K (tLc (iTup K (tVar 0)) (gName 6) tYes (tSl (rSlT K) (tVar 6) (tPart (tC (.int 1))) tNoPart) [6]) ([some v, some (.ref L), none, none, none, none, none] : L2.St) H1 (((stDs bb).filter fun _ => true).map tailD) := by
      refine edl_lc (fun _ => true) tailD (it_T (ed_var rfl (Dd.ext e1 _ _ g))) (by rw [stDs_len]; omega) (fun d hd _ => ?_) (fun x => rfl) (fun x d H2 e2 hd gx => et_yes) (fun x d H2 e2 hd gx _ => ?_)
      · rw [stDs_map] at hd
        obtain ⟨s, ms, rfl⟩ := List.mem_map.mp hd
        obtain ⟨d1, d2, d3, b, c, ws, ed, _⟩ := st_parts (fs s ms)
        have z := nm_st s
        rw [ed] at z ⊢
        have z2 : (noList d1 && noLists [d2, d3, .tuple (stDs b), .tuple (stDs c)]) = true := z
        rw [Bool.and_eq_true] at z2
        exact z2.2
      · rw [stDs_map] at hd
        obtain ⟨s, ms, rfl⟩ := List.mem_map.mp hd
        obtain ⟨d1, d2, d3, b, c, ws, ed, _⟩ := st_parts (fs s ms)
        rw [ed] at gx ⊢
        show EvD K _ _ H2 (.tuple [d2, d3, .tuple (stDs b), .tuple (stDs c)])
        cases gx with
        | tup hs ha =>
          rename_i a xs
          cases ha with
          | cons g1 ha =>
            rename_i y0 ys
            exact fun H3 e3 Q q => ⟨_, rfl, 1, rfl, a, _, rfl, ex_t e3 hs, cut1n, fun p np => q (.ref p) _ (Ex.new np) (.tup (st_of (by rw [upd_same, cut1])) (Dds.ext (e3.trans (Ex.new np)) _ _ ha))⟩
    have efil : ((stDs bb).filter fun _ => true) = stDs bb := List.filter_eq_self.mpr fun _ _ => rfl
    rw [efil] at rows
    refine q_forDL rows fun D ys H2 nD e2 hD gd => ?_
    have yl := gd.len
    rw [List.length_map, stDs_len] at yl
    have e12 := e1.trans e2
    refine ⟨fun i σ' H3 => Ex H2 H3 ∧ ∃ (M : Addr) (y2 y3 y4 y5 : Option V), σ' = [some v, some (.ref M), y2, y3, y4, y5, none] ∧ H M = none ∧ H3 M = some (.lst ((stWs (bb.take i)).map V.str)), ?_, ?_, ?_, ?_⟩
    · refine ⟨Ex.refl _, L, _, _, _, _, rfl, nL, ?_⟩
      rw [List.take_zero, stWs]
      exact e2 _ _ hL1
    · rintro j σ' H3 _ ⟨e3, _⟩
      exact sq_of (e3 _ _ hD)
    · rintro j y σ' H3 hy ⟨e3, M2, y2, y3, y4, y5, rfl, nM2, hM2⟩
      obtain ⟨d, hd, gy⟩ := gd.get hy
      rw [List.getElem?_map, stDs_map, List.getElem?_map] at hd
      obtain ⟨s, hs, rfl⟩ : ∃ s, bb[j]? = some s ∧ d = tailD (stD s) := by
        cases hh : bb[j]? with
        | none =>
          rw [hh] at hd
          cases hd
        | some s =>
          rw [hh] at hd
          exact ⟨s, rfl, (Option.some.inj hd).symm⟩
      have ms := List.mem_of_getElem? hs
      obtain ⟨d1, d2, d3, b, c, ws, ed, alt, fb, fc, lb, lc, ew⟩ := st_parts (fs s ms)
      have tk : stWs (bb.take (j + 1)) = stWs (bb.take j) ++ (ws ++ (stWs b ++ stWs c)) := by
        rw [stWs_flat, stWs_flat, List.map_take, List.map_take, flat_take (ls := stW s) (by rw [List.getElem?_map, hs]; rfl), ew]
      have szj : (stWs (bb.take j)).length + (ws.length + ((stWs b).length + (stWs c).length)) ≤ 900 := by
        have z := flat_le (bb.map stW) (j + 1)
        rw [← List.map_take, ← stWs_flat, ← stWs_flat, tk, List.length_append, List.length_append, List.length_append] at z
        omega
      rw [ed] at gy
      have gy3 : Dd K H3 y (.tuple [d2, d3, .tuple (stDs b), .tuple (stDs c)]) := Dd.ext e3 _ _ gy
      cases gy3 with
      | tup ht hv =>
      rename_i t xs
      obtain ⟨z1, z2, z3, z4, rfl, g1, ge, gb, go⟩ := dds4 hv
      refine ⟨t, _, rfl, ht, rfl, _, _, rfl, _, _, rfl, _, _, rfl, _, _, rfl, rfl, ?_⟩
      have nn : EvT (tTest (tOp (fun x y H Q => y = .non ∧ Q (.bl (!decide (x = .non))) H) (tVar 3) (tC .non))) ([some v, some (.ref M2), some z1, some z2, some z3, some z4, none] : L2.St) H3 (!decide (z2 = .non)) := et_test fun H4 e4 Q q => ⟨_, rfl, rfl, q H4 (Ex.refl _)⟩
      have fin : ∀ {M : Addr} {H6 : Hp} {D2 : Ends}, Ex H3 H6 → H6 M = some (.lst ((stWs (bb.take j) ++ ws).map V.str)) → (∀ M' H7, H6 M' = none → Ex H6 H7 → H7 M' = some (.lst ((stWs (bb.take (j + 1))).map V.str)) → D2.nx ([some v, some (.ref M'), some z1, some z2, some z3, some z4, none] : L2.St) H7) →
          tAsg (tLst (StX.tStar K (tVar 1) (StX.tStar K (tCall (spB K n m) [] E0 (tCons (tVar 4) tNil)) (StX.tStar K (tCall (spB K n m) [] E0 (tCons (tVar 5) tNil)) tNil)))) (gName 1) D2 ([some v, some (.ref M), some z1, some z2, some z3, some z4, none] : L2.St) H6 := fun {M H6 D2} e6 hM kk => by
        have cE : ∀ {σ : L2.St} {i : Nat} {u : V} {cc : List Stm}, σ[i]? = some (some u) → Dd K H6 u (.tuple (stDs cc)) → cc.length ≤ 900 → (stWs cc).length ≤ 900 → (∀ s ∈ cc, FitS n m s) → EvL (tCall (spB K n m) [] E0 (tCons (tVar i) tNil)) σ H6 ((stWs cc).map V.str) := fun hi gu bl wl fs H4 e4 Q q => ⟨_, hi, _, _, rfl, Dd.ext e4 _ _ gu, fs, bl, wl, fun p H5 np e5 hp => q p H5 np e5 hp⟩
        have q := el_lst (σ := ([some v, some (.ref M), some z1, some z2, some z3, some z4, none] : L2.St)) (ea_starV (K := K) (ev_var (i := 1) rfl) (sq_of hM) (ea_star (K := K) (cE (i := 4) (σ := ([some v, some (.ref M), some z1, some z2, some z3, some z4, none] : L2.St)) rfl (Dd.ext e6 _ _ gb) lb (by omega) fb) (ea_star (K := K) (cE (i := 5) (σ := ([some v, some (.ref M), some z1, some z2, some z3, some z4, none] : L2.St)) rfl (Dd.ext e6 _ _ go) lc (by omega) fc) ea_nil))) (by
          simp only [List.length_append, List.length_map, List.length_nil]
          omega)
        have ee : (stWs (bb.take j) ++ ws).map V.str ++ ((stWs b).map V.str ++ ((stWs c).map V.str ++ [])) = (stWs (bb.take (j + 1))).map V.str := by
          rw [tk]
          simp
        rw [ee] at q
        exact s_asgL q fun p H7 np e7 hp => kk p H7 np e7 hp
      rcases alt with ⟨rfl, rfl⟩ | ⟨e, rfl, rfl, he⟩
      · cases ge
        refine q_when (b := false) (et_is nn (by rw [decide_eq_true rfl]; rfl)) (fun z => by cases z) fun _ H4 e4 => ?_
        refine fin (M := M2) e4 (by rw [List.append_nil]; exact e4 _ _ hM2) fun M' H7 nM e7 hM => ?_
        exact ⟨e3.trans (e4.trans e7), M', _, _, _, _, rfl, fresh_back ((e12.trans e3).trans e4) nM, hM⟩
      · refine q_when (b := true) (et_is nn (by rw [decide_eq_false (exD_ref ge)]; rfl)) (fun _ H4 e4 => ?_) fun z => by cases z
        have ciE : EvL (tCall (spC K n) [] E0 (tCons (tVar 3) tNil)) ([some v, some (.ref M2), some z1, some z2, some z3, some z4, none] : L2.St) H4 ((exW e).map V.str) := fun H5 e5 Q q => ⟨_, rfl, z2, e, rfl, Dd.ext (e4.trans e5) _ _ ge, he, by omega, fun p H6 np e6 hp => q p H6 np e6 hp⟩
        have q := el_lst (σ := ([some v, some (.ref M2), some z1, some z2, some z3, some z4, none] : L2.St)) (ea_starV (K := K) (ev_var (i := 1) rfl) (sq_of (e4 _ _ hM2)) (ea_star (K := K) ciE ea_nil)) (by
          simp only [List.length_append, List.length_map, List.length_nil]
          omega)
        have ee : (stWs (bb.take j)).map V.str ++ ((exW e).map V.str ++ []) = (stWs (bb.take j) ++ exW e).map V.str := by simp
        rw [ee] at q
        refine q H4 (Ex.refl _) _ fun M3 H5 nM3 e5 hM3 => ?_
        refine fin (M := M3) (e4.trans e5) hM3 fun M' H7 nM e7 hM => ?_
        exact ⟨e3.trans ((e4.trans e5).trans e7), M', _, _, _, _, rfl, fresh_back ((e12.trans e3).trans (e4.trans e5)) nM, hM⟩
    · rintro σ' H3 ⟨e3, M2, y2, y3, y4, y5, rfl, nM2, hM2⟩
      refine ⟨_, rfl, kQ M2 H3 nM2 (e12.trans e3) ?_⟩
      rw [yl, List.take_length] at hM2
      exact hM2
end
/-- the defs of calls, found -/
structure WrC (P : Program) (w : World) (K : PySem.W.Frag) (mg : Str → Option Value) (base : Heap) : Prop where
  ci : ∃ (f : Addr) (fd : FuncData), mg "calls_in" = some (.ref f) ∧ PySem.W.keepIn K (.ref f) = true ∧ Fun K "calls_in" "calls_in" sCi f fd ∧ Binds K fd ["expression"] []
  cb : ∃ (f : Addr) (fd : FuncData), mg "calls_in_block" = some (.ref f) ∧ PySem.W.keepIn K (.ref f) = true ∧ Fun K "calls_in_block" "calls_in_block" sCb f fd ∧ Binds K fd ["statements"] []
section
variable {P : Program} {w : World} {K : PySem.W.Frag} {mg : Str → Option Value} {base : Heap}
theorem WrC.ex (M : WrC P w K mg base) : ∀ n, Df P w K mg base "calls_in" ["expression"] n (spC K n)
  | 0 => by
    obtain ⟨f, fd, m, kp, F, b⟩ := M.ci
    exact ⟨_, _, m, kp, fc_no, b⟩
  | n + 1 => by
    have ih := M.ex n
    obtain ⟨f, fd, m, kp, F, b⟩ := M.ci
    exact ⟨_, _, m, kp, ok_ci F ih, b⟩
theorem WrC.block (M : WrC P w K mg base) (n : Nat) : ∀ m, Df P w K mg base "calls_in_block" ["statements"] (n + 1 + m) (spB K n m)
  | 0 => by
    obtain ⟨f, fd, mm, kp, F, b⟩ := M.cb
    have q := spB_zero (n := n) (ok_cb0 (P := P) (w := w) (mg := mg) (base := base) F)
    exact ⟨_, _, mm, kp, ⟨q.len, fun A outer sh H args us vs Q E hr => q.run A outer sh H args us vs Q E (hr.mono (by omega))⟩, b⟩
  | m + 1 => by
    have ih := M.block n m
    obtain ⟨f, fd, mm, kp, F, b⟩ := M.cb
    exact ⟨_, _, mm, kp, ok_cb (k := n + 1 + m) (by omega) (by omega) F (M.ex n) ih, b⟩
end
end K72
set_option maxHeartbeats 2000000
/-! C.m(..), m a static method of the class; str(x) of an instance with an own __str__ -/
namespace My
open PySem PySem.Spec PyProof.Rows L2
/-- C.m is a static method: its record at p, its def at g -/
structure SMet (K : PySem.W.Frag) (C : Addr) (mc : Value) (m : Str) (p g : Addr) : Prop where
  at_ : PySem.W.findCls K (.ref C) mc m = some (.get (.builtin "staticmethod.__get__") (.ref p) .none (.ref C))
  rc : ∃ rest, PySem.W.recIn K p "staticmethod" = some (.ref g :: rest)
  kp : PySem.W.keepIn K (.ref g) = true
section
variable {X : Cx} {pins : List (Addr × Obj)} {σ : L2.St} {H : Hp} {s : Shared} {C p g : Addr} {mc : Value} {m : Str} {A : Around} {E : Value → Shared → Prop}
theorem getsm_ok {pl : Sem Bool} {Q : Value × List Value → Shared → Prop} (I : Inv X pins σ H s) (r : ClX.CRead X.K C mc) (k : SMet X.K C mc m p g) (h : ∀ s', Inv X pins σ H s' → Q (.ref g, []) s') : wpAny (model X.prog X.w) A (getMethod (.ref C) m pl) Q E s := by
  obtain ⟨rest, hp⟩ := k.rc
  refine PySem.W.method_cls I.kIn r.ga (PySem.W.cls_bind I.kIn r.rd k.at_ ?_)
  refine wpAny_call (PySem.W.sm_get (s := { s with toks := s.toks + 1 }) I.kIn hp (PySem.W.handed_on rfl ?_))
  exact h _ (I.tok _)
end
/-- e.m(..), e the class at C, m a static method -/
def tSMeth (C : Addr) (sp : Sp) (E : XK) (ta : TE) (t : TA) : TE := fun σ H Q => ta σ H fun x H1 => x = .ref C ∧ t σ H1 fun vs H2 => sp vs H2 Q E
section
variable {X : Cx} {CX : CXT} {k : Nat} {C p g : Addr} {mc : Value} {fd : FuncData} {ps : List Str} {sp : Sp} {E : XK} {o e : Expr} {es : List Expr} {m : Str} {pos apos : Pos} {ta : TE} {t : TA} {pl : Sem Bool}
theorem pe_smeth (he : PE X o ta) (r : ClX.CRead X.K C mc) (c : SMet X.K C mc m p g) (F : FnOk X.prog X.w X.K X.mg X.base CX k g fd ps sp) (hb : Binds X.K fd ps []) (hr : Room k X.A) (hx : Passes CX X E) (ha : PA X (e :: es) t)
    (hst : starEach (e :: es) X.env = (false, eval e X.env) :: starEach es X.env := by rfl) (hpl : (backTo pos (starEach es X.env)).any (·.1) = false := by rfl)
    (ht : eval (.Call (.Attribute o m apos) (e :: es) [] pos) X.env = (do
      let ov ← eval o X.env
      standAt apos.atName
      let (f, first) ← holding [ov] (getMethod ov m pl)
      callWith pos f first (backTo pos (starEach (e :: es) X.env)) (backToKw pos (keywordEach [] X.env))) := by rfl) :
    PE X (.Call (.Attribute o m apos) (e :: es) [] pos) (tSMeth C sp E ta t) := by
  refine ⟨fun pins s σ H Q I h => ?_⟩
  refine PySem.W.methodCall_KW (pl := pl) (thn (he.run pins s σ H _ I h) fun u s1 ⟨x, H1, I1, rx, ex, q⟩ => ?_) ht
  subst ex
  obtain rfl : u = Value.ref C := rx
  refine getsm_ok I1 r c fun s2 I2 => ?_
  refine PySem.W.callWith_K (h₀ := X.base) I2.ok.mod.kin c.kp (thn (ha.run pos pins s2 σ H1 _ I2 q) fun us s3 ⟨vs, H2, I3, rv, q2⟩ => ⟨I3.kIn, ?_⟩) hst hpl
  exact run_fn F hr hb .nil hx I3 rv (by rw [List.append_nil]; exact q2)
/-- str(x), x an instance with an own __str__ -/
def rStrI (C : Addr) (sp : Sp) (E : XK) : List V → Hp → VK → Prop := fun xs H Q => ∃ a dx fs, xs = [.ref a] ∧ H a = some (.ins C dx fs) ∧ sp xs H (fun v H' => ∃ z : Str, v = .str z ∧ Q (.str z) H') E
theorem call_strI (hs : PySem.W.findIn X.K (.ref C) "__str__" = some (some (.ref g))) (hf : PySem.W.isFn X.K (.ref g) = true)
    (F : FnOk X.prog X.w X.K X.mg X.base CX k g fd ps sp) (hb : Binds X.K fd ps []) (hr : Room (k + 2) X.A) (hx : Passes CX X E) : CallR X (.type "str") (rStrI C sp E) := by
  intro pins s σ H xs us Q I r h
  obtain ⟨a, dx, fs, rfl, ha, q⟩ := h
  obtain ⟨mA, J, _⟩ := ins_get I.hok ha
  obtain ⟨od, J, _⟩ := J.look
  obtain ⟨u, rfl, ru⟩ : ∃ u, us = [u] ∧ RelV (.ref a) u := by
    cases r with
    | cons p q =>
      cases q
      exact ⟨_, rfl, p⟩
  cases (show u = Value.ref a from ru)
  have hr1 : Room (k + 1) X.A.in1 := hr.in1
  have hr2 : Room k X.A.in1.in1 := hr1.in1
  have hl : ([Value.ref a] : List Value).length = ps.length := by
    rw [← F.len _ _ _ _ q]
    rfl
  refine PySem.W.kso_call hr2.units0 I.kIn J hs hf (wpAny_call (codeAny_mono (F.run X.A.in1.in1 X.stack s H ⟨[.ref a], []⟩ [.ref a] [.ref a] _ E hr2 I.env0.in1.in1 (by simpa using hb s [.ref a] I.kIn (by simpa using hl)) (.cons rfl .nil) q) fun r s' hq => ?_))
  cases r with
  | error er => exact hx pins σ H s er s' I hq
  | ok fl =>
    cases fl with
    | ret u =>
      obtain ⟨v, H', I', rv, z, rfl, qz⟩ := I.after hq
      obtain ⟨t, e⟩ := (show ∃ t, u = Value.str z t from rv)
      cases e
      exact ⟨.str z, H', I', ⟨t, rfl⟩, qz⟩
    | next => exact False.elim hq
    | brk => exact False.elim hq
    | cont => exact False.elim hq
end
end My
set_option maxHeartbeats 2000000
/-! y in x, y not in x: x an instance with an own __contains__ that answers True or False -/
namespace My
open PySem PySem.Spec PyProof.Rows L2
section
variable {prog : Program} {w : World} {K : PySem.W.Frag} {A : Around} {E : Value → Shared → Prop} {s : Shared} {x C f : Addr} {ox : Obj} {od : Option Obj} {v : Value}
theorem contains_fn {Q : Bool → Shared → Prop} (X : K.In s.heap) (I : PySem.W.InstAt s.heap x ox C od) (hs : PySem.W.findIn K (.ref C) "__contains__" = some (some (.ref f))) (hf : PySem.W.typeIn K (.ref f) = some (.type "function"))
    (h : wpAny (model prog w) A (call (.ref f) [.ref x, v]) (fun r s' => ∃ b, r = .bool b ∧ Q b s') E s) : wpAny (model prog w) A (contains (.ref x) v) Q E s := by
  unfold contains
  refine wpAny_holding ?_
  show wpAny _ _ (specialOf (.ref x) "__contains__" >>= _) _ _ _
  refine wpAny_bind (wpAny_bind (I.type.here ((PySem.W.looks_findIn X hs).here ?_)))
  rw [if_neg (show ¬(some (Value.ref f) == some Value.none) = true from fun z => by cases (beq_iff_eq.mp z))]
  unfold callSpecialUnlessNone?
  refine wpAny_bind (wpAny_bind (wpAny_bind (I.type.here ((PySem.W.looks_findIn X hs).here (wpAny_holding (wpAny_bind ((PySem.W.bind_fn X _ hf).here ?_)))))))
  dsimp only
  rw [if_neg (show ¬(Value.ref f == Value.none) = true from fun z => by cases (beq_iff_eq.mp z))]
  refine wpAny_bind (wpAny_mono h (fun r s' z => ?_) fun _ _ z => z)
  obtain ⟨b, rfl, q⟩ := z
  exact wpAny_pure (wpAny_truthy_bool q)
end
def rInI (C : Addr) (sp : Sp) (E : XK) (neg : Bool) : R2 := fun y x H Q => ∃ a dx fs, x = .ref a ∧ H a = some (.ins C dx fs) ∧ sp [x, y] H (fun v H' => ∃ b : Bool, v = .bl b ∧ Q (.bl (if neg then !b else b)) H') E
section
variable {X : Cx} {CX : CXT} {k : Nat} {C g : Addr} {fd : FuncData} {ps : List Str} {sp : Sp} {E : XK}
theorem op_inI (hs : PySem.W.findIn X.K (.ref C) "__contains__" = some (some (.ref g))) (hf : PySem.W.typeIn X.K (.ref g) = some (.type "function"))
    (F : FnOk X.prog X.w X.K X.mg X.base CX k g fd ps sp) (hb : Binds X.K fd ps []) (hr : Room k X.A) (hx : Passes CX X E) : OpR X (compareOp .In) (rInI C sp E false) := by
  intro pins s σ H y x v u Q I ry rx h
  obtain ⟨a, dx, fs, rfl, ha, q⟩ := h
  cases (show u = Value.ref a from rx)
  obtain ⟨mA, J, _⟩ := ins_get I.hok ha
  obtain ⟨od, J, _⟩ := J.look
  have z := run_fn (us := [.ref a, v]) (vs := [.ref a, y]) F hr hb .nil hx I (.cons rfl (.cons ry .nil)) (by rw [List.append_nil]; exact q)
  show wpAny _ _ (contains (.ref a) v >>= fun b => pure (Value.bool b)) _ _ _
  refine wpAny_bind (contains_fn I.kIn J hs hf (wpAny_mono z (fun r s' z => ?_) fun _ _ z => z))
  obtain ⟨z', H', I', rz, b, ez, qb⟩ := z
  subst ez
  cases (show r = Value.bool b from rz)
  exact ⟨b, rfl, wpAny_pure ⟨.bl b, H', I', rfl, qb⟩⟩
theorem op_notInI (hs : PySem.W.findIn X.K (.ref C) "__contains__" = some (some (.ref g))) (hf : PySem.W.typeIn X.K (.ref g) = some (.type "function"))
    (F : FnOk X.prog X.w X.K X.mg X.base CX k g fd ps sp) (hb : Binds X.K fd ps []) (hr : Room k X.A) (hx : Passes CX X E) : OpR X (compareOp .NotIn) (rInI C sp E true) := by
  intro pins s σ H y x v u Q I ry rx h
  obtain ⟨a, dx, fs, rfl, ha, q⟩ := h
  cases (show u = Value.ref a from rx)
  obtain ⟨mA, J, _⟩ := ins_get I.hok ha
  obtain ⟨od, J, _⟩ := J.look
  have z := run_fn (us := [.ref a, v]) (vs := [.ref a, y]) F hr hb .nil hx I (.cons rfl (.cons ry .nil)) (by rw [List.append_nil]; exact q)
  show wpAny _ _ (contains (.ref a) v >>= fun b => pure (Value.bool (!b))) _ _ _
  refine wpAny_bind (contains_fn I.kIn J hs hf (wpAny_mono z (fun r s' z => ?_) fun _ _ z => z))
  obtain ⟨z', H', I', rz, b, ez, qb⟩ := z
  subst ez
  cases (show r = Value.bool b from rz)
  exact ⟨b, rfl, wpAny_pure ⟨.bl (!b), H', I', rfl, qb⟩⟩
end
end My
set_option maxHeartbeats 1000000
/-! yield from a list -/
namespace L2
open PySem PySem.Spec PyProof.Rows GenW
section
variable {prog : Program} {w : World} {A : Around} {E : Value → Shared → Prop} {s : Shared}
theorem my_lst_item {q t : Addr} {i : Nat} {xs : Array Value} {x : Value} {Q : Option Value → Shared → Prop} (h1 : s.heap.IsListIter q t i) (h2 : s.heap.IsList t xs) (hx : xs[i]? = some x)
    (hQ : ∀ h', h'.IsListIter q t (i + 1) → Heap.SameBut q s.heap h' → Q (some x) { s with heap := h' }) : wpAny (model prog w) A (callSpecial? (.ref q) "__next__") Q E s := by
  obtain ⟨oq, gq, cq, dq⟩ := id h1
  obtain ⟨ol, gl, _, nl, dl⟩ := h2
  refine wpAny_callSpecial?_slot (name := Str.ofString "__next__") h1.typeIs slot_listiter_next (wpAny_call_entry slot_listiter_next h1.typeIs entry_listiter_next ?_ (args_listiter_next _))
  show wpAny _ _ (field (.ref q) 0 >>= _) _ _ s
  refine wpAny_bind (wpAny_field gq dq (x := .ref t) rfl ?_)
  show wpAny _ _ (if (Value.ref t == Value.none) = true then _ else _) _ _ _
  rw [if_neg (c := (Value.ref t == Value.none) = true) (fun z => Bool.false_ne_true z)]
  show wpAny _ _ (field (.ref q) 1 >>= _) _ _ s
  refine wpAny_bind (wpAny_field gq dq (x := .int i 0) rfl (wpAny_bind (wpAny_seqItems gl dl ?_)))
  simp only [hx, Int.toNat_natCast]
  refine wpAny_bind (wpAny_setField gq dq (by simp) (wpAny_pure ⟨x, rfl, hQ _ ⟨_, Heap.get?_update_self _ gq (Obj.isFreed_of_fields (Obj.data_mapFields dq _)), (Obj.cls_mapFields ..).trans cq, ?_⟩ (Heap.SameBut.update ..)⟩))
  rw [Obj.data_mapFields dq]
  simp [rawInt]
theorem my_lst_end {q t : Addr} {i : Nat} {xs : Array Value} {Q : Option Value → Shared → Prop} (hA : A.handled = none) (h1 : s.heap.IsListIter q t i) (h2 : s.heap.IsList t xs) (hx : xs[i]? = none)
    (hE : ∀ e h', StopX e h' → Heap.ExtBut q s.heap h' → E e { s with heap := h' }) : wpAny (model prog w) A (callSpecial? (.ref q) "__next__") Q E s := by
  obtain ⟨oq, gq, cq, dq⟩ := id h1
  obtain ⟨ol, gl, _, nl, dl⟩ := h2
  refine wpAny_callSpecial?_slot (name := Str.ofString "__next__") h1.typeIs slot_listiter_next (wpAny_call_entry slot_listiter_next h1.typeIs entry_listiter_next ?_ (args_listiter_next _))
  show wpAny _ _ (field (.ref q) 0 >>= _) _ _ s
  refine wpAny_bind (wpAny_field gq dq (x := .ref t) rfl ?_)
  show wpAny _ _ (if (Value.ref t == Value.none) = true then _ else _) _ _ _
  rw [if_neg (c := (Value.ref t == Value.none) = true) (fun z => Bool.false_ne_true z)]
  show wpAny _ _ (field (.ref q) 1 >>= _) _ _ s
  refine wpAny_bind (wpAny_field gq dq (x := .int i 0) rfl (wpAny_bind (wpAny_seqItems gl dl ?_)))
  simp only [hx, Int.toNat_natCast]
  refine wpAny_bind (wpAny_rule (wpAny_bind (wpAny_setField gq dq (by simp) ?_)))
  show wpAny _ _ (newExc (.type "StopIteration") [] >>= fun _ => _) _ _ _
  refine wpAny_bind ?_
  simp only [newExc, newTuple]
  refine wpAny_bind (wpAny_newObj_type (wpAny_bind (m := firstArgMember _ _) (wpAny_of_eq (a := Value.none) (by first | rfl | (simp only [firstArgMember]; rfl)) (wpAny_newObj_type ?_ (by size_fits)))) (by size_fits))
  simp only [raiseNew]
  refine wpAny_bind (wpAny_handled ?_)
  rw [show A.in1.handled = none from hA]
  refine wpAny_bind (wpAny_pure (wpAny_throw (hE _ _ ⟨_, _, _, rfl, Heap.get?_push_size _ rfl, rfl, rfl, ?_⟩ (((Heap.SameBut.update ..).extBut.push _).push _))))
  first
    | rfl
    | (rw [Array.getElem?_append_left (by decide)]; rfl)
    | kernel_rfl
end
section
variable {X : Cx} {e : Expr} {te : TE}
def tYfLst (te : TE) : TYf := fun σ H Q => te σ H fun x H1 => ∃ a xs, x = .ref a ∧ H1 a = some (.lst xs) ∧ Q xs H1
theorem my_close : typeLookup (.type "list_iterator") "close" = pure none := by rw [typeLookup_type, builtinLookup_eq_fast]; kernel_rfl
theorem yf_lst (he : PE X e te) : YfE X e (tYfLst te) := by
  refine ⟨fun pins s σ H Q I h => thn (he.run pins s σ H _ I h) fun v s1 ⟨x, H1, I1, r1, a, xs, ex, ha, hq⟩ => ?_⟩
  subst ex
  obtain rfl : v = Value.ref a := r1
  obtain ⟨hlen, its, n, rits, hob⟩ := I1.hok a _ ha
  have ht : s1.heap.IsList a its.toArray := ⟨_, hob, rfl, n, rfl⟩
  have lta : a < s1.heap.objs.size := Heap.lt_size hob
  refine ⟨"list", ht.typeIs, by decide, wpAny_pyIter_list ht ?_⟩
  have kp : ∀ b o, s1.heap.get? b = some o → (s1.heap.push { cls := .type "list_iterator", data := .fields #[.ref a, .int 0 0] }).get? b = some o := fun b o e => Heap.get?_push_of_some _ e
  refine ⟨s1.heap.objs.size, H1, xs, fun j h => h.IsListIter s1.heap.objs.size a j ∧ h.IsList a its.toArray, rfl, I1.kept (t' := s1.toks) kp, .inr I1.sz, Nat.ne_of_gt I1.lt, fun y c hy => ?_, I1.hok.fresh (Nat.le_refl _), fun p hp => Nat.ne_of_lt (Heap.lt_size (I1.pin p hp).1),
    ⟨⟨_, Heap.get?_push_size _ rfl, rfl, rfl⟩, ⟨_, kp _ _ hob, rfl, n, rfl⟩⟩, ⟨⟨"list_iterator", fun j h q => ?_, my_close, by decide⟩, fun j h h' q hk => ?_, fun A' j x s2 Q' E' hA hx q hQ => ?_, fun A' s2 Q' E' hA q hE => ?_⟩, hq⟩
  · obtain ⟨v, o, ho, _⟩ := I1.cell y c hy
    exact Nat.ne_of_lt (Heap.lt_size ho)
  · obtain ⟨⟨o, ho, hc, _⟩, _⟩ := q
    exact ⟨o, ho, hc⟩
  · obtain ⟨⟨o, ho, r⟩, o2, ho2, r2⟩ := q
    exact ⟨⟨o, hk _ o (.inl rfl) ho, r⟩, o2, hk _ o2 (.inr (by rw [ha]; exact fun z => by cases z)) ho2, r2⟩
  · obtain ⟨q1, q2⟩ := q
    obtain ⟨u, hu, ru⟩ := rits.get hx
    exact my_lst_item q1 q2 (x := u) (by simpa using hu) fun h' q1' hs => hQ u h' s2.toks ru ⟨q1', q2.extBut hs.extBut (Nat.ne_of_lt lta)⟩ fun b o hb eb => hs.extBut b o hb eb
  · obtain ⟨q1, q2⟩ := q
    have hnone : its.toArray[xs.length]? = none := by
      have e := rits.length
      have e2 : its[xs.length]? = none := List.getElem?_eq_none_iff.mpr (by omega)
      simpa using e2
    exact my_lst_end hA q1 q2 hnone fun e h' hS hk => hE e h' s2.toks hS fun b o hb eb => hk b o hb eb
end
end L2
set_option maxHeartbeats 4000000
/-! x op y, both plain instances of one class whose def for op is its own -/
namespace My
open PySem PySem.Spec PyProof.Rows L2
section
variable {X : Cx} {CX : CXT} {k : Nat} {C g : Addr} {fd : FuncData} {ps : List Str} {sp : Sp} {E : XK}
def rBinI (C : Addr) (sp : Sp) (E : XK) : R2 := fun x y H Q => ∃ a dx fs b dy gs, x = .ref a ∧ H a = some (.ins C dx fs) ∧ y = .ref b ∧ H b = some (.ins C dy gs) ∧ sp [x, y] H Q E
theorem op_binI {op : Operator} (hc : PySem.W.selfFirst X.K C = true) (hs : PySem.W.findIn X.K (.ref C) (PySem.dunder op.info.2) = some (some (.ref g))) (hf : PySem.W.isFn X.K (.ref g) = true)
    (F : FnOk X.prog X.w X.K X.mg X.base CX k g fd ps sp) (hb : Binds X.K fd ps []) (hr : Room k X.A) (hx : Passes CX X E) : OpR X (binaryOp op) (rBinI C sp E) := by
  intro pins s σ H x y v u Q I rx ry h
  obtain ⟨a, dx, fs, b, dy, gs, rfl, ha, rfl, hb2, q⟩ := h
  cases (show v = Value.ref a from rx)
  cases (show u = Value.ref b from ry)
  obtain ⟨mA, J, _⟩ := ins_get I.hok ha
  obtain ⟨od, J, _⟩ := J.look
  obtain ⟨mB, Jb, _⟩ := ins_get I.hok hb2
  obtain ⟨odb, Jb, _⟩ := Jb.look
  obtain ⟨m, hF⟩ := I.fr
  refine PySem.W.binop_K (op := op) hF I.ok.mod.kin J Jb.type hc hs hf ?_
  have r2 : Vals [V.ref a, V.ref b] [Value.ref a, Value.ref b] := .cons rfl (.cons rfl .nil)
  have z := run_fn (us := [.ref a, .ref b]) (vs := [.ref a, .ref b]) F hr hb .nil hx I r2 (by simpa using q)
  refine wpAny_mono z (fun w s' z => ?_) fun _ _ x => x
  obtain ⟨z', H', I', rz, qz⟩ := z
  exact cmpback2 rz ⟨z', H', I', rz, qz⟩
end
end My
set_option maxHeartbeats 8000000
namespace K72
open PySem PySem.Spec PyProof.Rows L2 Evl My LamX
/-! Reader(text) and the class Script -/
def scBody : List Stmt := match top 36 with
  | .ClassDef _ _ _ body .. => body
  | _ => []
def sth (i : Nat) : Stmt := scBody.getD i (.Pass ⟨0, 0, 0, 0⟩)
abbrev cInit : Stmt := sth 0
abbrev cRead : Stmt := sth 1
abbrev cStr : Stmt := sth 2
abbrev cEq : Stmt := sth 3
abbrev cAdd : Stmt := sth 4
abbrev cLen : Stmt := sth 5
abbrev cIn : Stmt := sth 6
abbrev cWords : Stmt := sth 7
theorem ex_made {H1 H2 H' : Hp} {C x dx : Addr} (e : Ex H1 H2) (n1 : H2 x = none) (n2 : H2 dx = none) (b : But x (upd (upd H2 dx (.own x)) x (.ins C dx [])) H') : Ex H1 H' := fun a o h => by
  have h2 := e a o h
  have a1 : a ≠ x := ne_of_none h2 n1
  have a2 : a ≠ dx := ne_of_none h2 n2
  exact b a o a1 (by rw [upd_ne a1, upd_ne a2]; exact h2)
def spRI (C : Addr) : Sp := fun vs H Q _ => ∃ (R dx : Addr) (t : Str) (b : Nat) (items : List Tok3), vs = [.ref R, .str t] ∧ H R = some (.ins C dx []) ∧ t.length ≤ 2000 ∧ RunAt t BLK 0 b ∧ Lay t b items ∧ ∀ T xs H', But R H H' → Rdr C H' R T xs (items ++ [endT t]) 0 → Q .non H'
structure ScC (K : PySem.W.Frag) (C : Addr) : Prop where
  cl : Cls K C
  ns : NoAttr K C "statements"
def ScAt (K : PySem.W.Frag) (C : Addr) (H : Hp) (S : Addr) (ds : List PyData) : Prop := ∃ dx v, H S = some (.ins C dx [("statements", v)]) ∧ Dd K H v (.tuple ds)
theorem ScAt.ext {K : PySem.W.Frag} {C : Addr} {H H' : Hp} {S : Addr} {ds : List PyData} (e : Ex H H') (h : ScAt K C H S ds) : ScAt K C H' S ds := by
  obtain ⟨dx, v, h1, h2⟩ := h
  exact ⟨dx, v, e _ _ h1, Dd.ext e _ _ h2⟩
def spSI (K : PySem.W.Frag) (C : Addr) : Sp := fun vs H Q _ => ∃ (S dx : Addr) (v : V) (ds : List PyData), vs = [.ref S, v] ∧ H S = some (.ins C dx []) ∧ Dd K H v (.tuple ds) ∧ ∀ H', But S H H' → ScAt K C H' S ds → Q .non H'
section
variable {P : Program} {w : World} {K : PySem.W.Frag} {mg : Str → Option Value} {base : Heap} {f C : Addr} {fd : FuncData}
theorem scRI : FnScope ["self", "text"] ["self", "text"] (defScope rInit) := ⟨rfl, rfl, rfl, by decide +kernel, rfl, by decide +kernel, by decide +kernel⟩
theorem ok_ri (F : Fun K "__init__" "Reader.__init__" rInit f fd) (c : RdC K C) (TO : Df P w K mg base "tokens_of" ["text"] 4 spTok) : FnOk P w K mg base CX0 5 f fd ["self", "text"] (spRI C) := by
  refine F.ok scRI (fun vs H Q E h => ?_) (fun cdv A outer s0 H vs Q E hr h => ?_)
  · obtain ⟨R, dx, t, b, items, rfl, _⟩ := h
    rfl
  · obtain ⟨R, dx, t, b, items, rfl, hR, tl, run, lay, kQ⟩ := h
    have hr4 : Room 4 _ := hr
    refine ⟨_, pss_cons (ps_fld (pv 0) (pe_df TO hr4 rfl (pa_cons (pv 1) pa_nil)) rfl) (pss_one (ps_fld (pv 0) pe_int rfl)), ?_⟩
    refine ⟨_, rfl, t, b, items, rfl, tl, run, lay, fun T xs H1 nT e1 hT tk => ?_⟩
    have hR1 := e1 _ _ hR
    have RT : R ≠ T := fun z => by
      rw [z, hT] at hR1
      cases hR1
    refine ⟨_, rfl, R, C, dx, _, rfl, hR1, c.cl, c.nt, (show 0 < 1000 by decide), ?_⟩
    refine ⟨_, rfl, R, C, dx, _, rfl, upd_same, c.cl, c.np, (show 1 < 1000 by decide), ?_⟩
    refine kQ T xs _ (((But.ofEx e1).upd).upd) ⟨⟨dx, upd_same⟩, ?_, tk.pres fun b ys hb => ?_⟩
    · rw [upd_ne (Ne.symm RT), upd_ne (Ne.symm RT)]
      exact hT
    · have n : b ≠ R := fun z => by
        rw [z, hR1] at hb
        cases hb
      rw [upd_ne n, upd_ne n]
      exact hb
theorem scSI : FnScope ["self", "statements"] ["self", "statements"] (defScope cInit) := ⟨rfl, rfl, rfl, by decide +kernel, rfl, by decide +kernel, by decide +kernel⟩
theorem ok_si {dvs : List V} (F : FunD K "__init__" "Script.__init__" (defArgs cInit) (defBody cInit) (defScope cInit) dvs [] f fd) (c : ScC K C) (gt : mg "tuple" = none) : FnOk P w K mg base CX0 1 f fd ["self", "statements"] (spSI K C) := by
  refine F.ok (CX := CX0) scSI (fun vs H Q E h => ?_) (fun cdv A outer s0 H vs Q E hr h => ?_)
  · obtain ⟨S, dx, v, ds, rfl, _⟩ := h
    rfl
  · obtain ⟨S, dx, v, ds, rfl, hS, g, kQ⟩ := h
    refine ⟨_, pss_one (ps_fld (pv 0) (pe_callTy call_tuple_of (by rfl) gt (by decide +kernel) (pa_cons (pv 1) pa_nil)) rfl), ?_⟩
    have b1 : But S H (upd H S (.ins C dx [("statements", v)])) := (But.refl S H).upd
    have g1 := dd_ins hS b1 _ _ g
    cases g with
    | tup hs ha =>
      exact ⟨_, rfl, _, _, rfl, .inr ⟨hs, _, rfl, S, C, dx, _, rfl, hS, c.cl, c.ns, (show 0 < 1000 by decide), kQ _ b1 ⟨dx, _, upd_same, g1⟩⟩⟩
/-- a class of one maker -/
structure Mk1 (P : Program) (w : World) (K : PySem.W.Frag) (mg : Str → Option Value) (base : Heap) (C : Addr) (nm : Str) (ps : List Str) (k : Nat) (sp : Sp) : Prop where
  ex : ∃ (f : Addr) (fd : FuncData), Mk K C f ∧ FnOk P w K mg base CX0 k f fd ps sp ∧ Binds K fd ps []
  g : mg nm = some (.ref C)
theorem pe_mkA {X : Cx} {C : Addr} {nm : Str} {ps : List Str} {k : Nat} {sp : Sp} {e : Expr} {es : List Expr} {t : TA} {p pos : Pos} (M : Mk1 X.prog X.w X.K X.mg X.base C nm ps k sp) (hr : Room (k + 1) X.A) (hg : Gl X nm) (ha : L2.PA X (e :: es) t) (hdb : (nm == ("__debug__" : Str)) = false := by decide)
    (he : starEach (e :: es) X.env = (false, eval e X.env) :: starEach es X.env := by rfl) (hpl : (backTo pos (starEach es X.env)).any (·.1) = false := by rfl) :
    PE X (.Call (.Name nm p) (e :: es) [] pos) (tMake C sp [] E0 t) := by
  obtain ⟨f, fd, M1, F, b⟩ := M.ex
  exact pe_make M1 F hr hg M.g b .nil pass0 ha hdb he hpl
def spRead (K : PySem.W.Frag) (CS : Addr) (n m : Nat) : Sp := fun vs H Q _ => ∃ (t : Str) (b : Nat) (items : List Tok3) (ds : List PyData), vs = [.str t] ∧ t.length ≤ 2000 ∧ RunAt t BLK 0 b ∧ Lay t b items ∧ PSs (SP (XP n) m) (items ++ [endT t]) 0 items.length ds ∧ ds.length ≤ 900 ∧ ∀ S H', H S = none → Ex H H' → ScAt K CS H' S ds → Q (.ref S) H'
theorem scRead : FnScope ["text"] ["text"] (defScope cRead) := ⟨rfl, rfl, rfl, by decide +kernel, rfl, by decide +kernel, by decide +kernel⟩
theorem ok_read {CR CS : Addr} {k n m : Nat} (k6 : 6 ≤ k) (F : Fun K "read" "Script.read" cRead f fd) (c : RdC K CR) (MR : Mk1 P w K mg base CR "Reader" ["self", "text"] 5 (spRI CR)) (AL : MD P w K mg base CR "all_statements" ["self"] k (spAll K CR (SP (XP n) m))) (MS : Mk1 P w K mg base CS "Script" ["self", "statements"] 1 (spSI K CS)) : FnOk P w K mg base CX0 (k + 1) f fd ["text"] (spRead K CS n m) := by
  refine F.ok scRead (fun vs H Q E h => ?_) (fun cdv A outer s0 H vs Q E hr h => ?_)
  · obtain ⟨t, b, items, ds, rfl, _⟩ := h
    rfl
  · obtain ⟨t, b, items, ds, rfl, tl, run, lay, pa, ln, kQ⟩ := h
    have hrk : Room k _ := hr
    have hr6 : Room 6 _ := hrk.mono k6
    have hr2 : Room 2 _ := hr6.mono (by decide)
    refine ⟨_, pss_one (ps_ret (pe_mkA MS hr2 rfl (pa_cons (pe_md0 AL c.cl hrk (pe_mkA MR hr6 rfl (pa_cons (pv 0) pa_nil))) pa_nil))), ?_⟩
    refine ⟨_, rfl, fun R dx nR ndx dR => ?_⟩
    refine ⟨R, dx, t, b, items, rfl, upd_same, tl, run, lay, fun T xs H1 b1 rd => ⟨rfl, ?_⟩⟩
    have e1 : Ex H H1 := ex_made (Ex.refl H) nR ndx b1
    obtain ⟨⟨dx1, r1⟩, _⟩ := id rd
    refine ⟨R, dx1, _, rfl, r1, rfl, R, T, xs, _, 0, items.length, ds, endT t, rfl, rd, pa, by rw [List.getElem?_append_right (Nat.le_refl _), Nat.sub_self]; rfl, rfl, ln, fun v H2 b2 g2 => ?_⟩
    have e2 : Ex H H2 := fun a o h => b2 a o (ne_of_none h nR) (e1 a o h)
    intro S dS nS ndS dd
    have e3 : Ex H2 (upd (upd H2 dS (.own S)) S (.ins CS dS [])) := (Ex.new ndS).trans (Ex.new (by rw [upd_ne (Ne.symm dd)]; exact nS))
    refine ⟨S, dS, v, ds, rfl, upd_same, Dd.ext e3 _ _ g2, fun H3 b3 sc => ⟨rfl, ?_⟩⟩
    exact kQ S H3 (fresh_back e2 nS) (ex_made e2 nS ndS b3) sc
end
def spStr (K : PySem.W.Frag) (C : Addr) (n m : Nat) : Sp := fun vs H Q _ => ∃ (S : Addr) (b : List Stm), vs = [.ref S] ∧ ScAt K C H S (stDs b) ∧ (∀ s ∈ b, FitS n m s) ∧ FitL (stLs b) ∧ b.length ≤ 900 ∧ ∀ H', Ex H H' → Q (.str (Txt.join "\n" (stLs b))) H'
def spLen (K : PySem.W.Frag) (C : Addr) : Sp := fun vs H Q _ => ∃ (S : Addr) (ds : List PyData), vs = [.ref S] ∧ ScAt K C H S ds ∧ ∀ H', Ex H H' → Q (.int (ds.length : Int)) H'
def spIn (K : PySem.W.Frag) (C : Addr) (n m : Nat) : Sp := fun vs H Q _ => ∃ (S : Addr) (b : List Stm) (x : Str), vs = [.ref S, .str x] ∧ ScAt K C H S (stDs b) ∧ (∀ s ∈ b, FitS n m s) ∧ b.length ≤ 900 ∧ (stWs b).length ≤ 900 ∧ ∀ H', Ex H H' → Q (.bl (decide (x ∈ stWs b))) H'
def spAdd (K : PySem.W.Frag) (C : Addr) : Sp := fun vs H Q _ => ∃ (S1 S2 : Addr) (ds es : List PyData), vs = [.ref S1, .ref S2] ∧ ScAt K C H S1 ds ∧ ScAt K C H S2 es ∧ ds.length ≤ 900 ∧ es.length ≤ 900 ∧ ∀ S H', H S = none → Ex H H' → ScAt K C H' S (ds ++ es) → Q (.ref S) H'
section
variable {P : Program} {w : World} {K : PySem.W.Frag} {mg : Str → Option Value} {base : Heap} {f C : Addr} {fd : FuncData}
theorem ed_sts {σ : L2.St} {H : Hp} {S : Addr} {ds : List PyData} (c : ScC K C) (h : ScAt K C H S ds) (h0 : σ[0]? = some (some (.ref S))) : EvD K (tFld K (tVar 0) "statements") σ H (.tuple ds) := fun H1 e Q q => by
  obtain ⟨dx, v, h1, h2⟩ := h.ext e
  exact ⟨_, h0, S, C, dx, _, _, rfl, h1, c.cl, c.ns, rfl, q v H1 (Ex.refl _) h2⟩
theorem scStr : FnScope ["self"] ["self"] (defScope cStr) := ⟨rfl, rfl, rfl, by decide +kernel, rfl, by decide +kernel, by decide +kernel⟩
theorem ok_str {k n m : Nat} (F : Fun K "__str__" "Script.__str__" cStr f fd) (c : ScC K C) (BL : Df P w K mg base "block_lines" ["statements"] k (spBL K n m)) : FnOk P w K mg base CX0 (k + 1) f fd ["self"] (spStr K C n m) := by
  refine F.ok scStr (fun vs H Q E h => ?_) (fun cdv A outer s0 H vs Q E hr h => ?_)
  · obtain ⟨S, b, rfl, _⟩ := h
    rfl
  · obtain ⟨S, b, rfl, sc, fs, fl, ln, kQ⟩ := h
    have hrk : Room k _ := hr
    refine ⟨_, pss_one (ps_ret (pe_bm PySem.F.plainAttrs_str PySem.F.slot_str_join PySem.F.type_str_join mt_join pe_str (pa_cons (pe_df BL hrk rfl (pa_cons (pe_fld (pv 0) rfl) pa_nil)) pa_nil))), ?_⟩
    refine ⟨rfl, ed_sts c sc rfl H (Ex.refl _) _ fun v H1 e1 g => ⟨v, b, rfl, g, fs, fl, ln, fun p H2 np e2 hp => ?_⟩⟩
    refine ⟨"\n", p, stLs b, rfl, rfl, .inl (sq_of hp), ?_, kQ H2 (e1.trans e2)⟩
    have nl : ("\n" : Str).length = 1 := by decide +kernel
    have sb := sum_le (b := 9000) (l := stLs b) fl.2
    have l9 := fl.1
    rw [nl]
    have : 9000 * (stLs b).length ≤ 9000 * 900 := Nat.mul_le_mul_left _ l9
    omega
theorem scLen : FnScope ["self"] ["self"] (defScope cLen) := ⟨rfl, rfl, rfl, by decide +kernel, rfl, by decide +kernel, by decide +kernel⟩
theorem ok_len (F : Fun K "__len__" "Script.__len__" cLen f fd) (c : ScC K C) (gl : mg "len" = none) : FnOk P w K mg base CX0 1 f fd ["self"] (spLen K C) := by
  refine F.ok scLen (fun vs H Q E h => ?_) (fun cdv A outer s0 H vs Q E hr h => ?_)
  · obtain ⟨S, ds, rfl, _⟩ := h
    rfl
  · obtain ⟨S, ds, rfl, sc, kQ⟩ := h
    refine ⟨_, pss_one (ps_ret (pe_callB call_len_seq (by rfl) gl PySem.boot_len (pa_cons (pe_fld (pv 0) rfl) pa_nil))), ?_⟩
    refine ed_sts c sc rfl H (Ex.refl _) _ fun v H1 e1 g => ?_
    cases g with
    | tup hs ha =>
      refine ⟨_, _, rfl, .inr hs, ?_⟩
      rw [ha.len]
      exact kQ H1 e1
theorem scIn : FnScope ["self", "word"] ["self", "word"] (defScope cIn) := ⟨rfl, rfl, rfl, by decide +kernel, rfl, by decide +kernel, by decide +kernel⟩
theorem ok_in {k n m : Nat} (F : Fun K "__contains__" "Script.__contains__" cIn f fd) (c : ScC K C) (gi : mg "isinstance" = none) (gs : mg "str" = none) (CB : Df P w K mg base "calls_in_block" ["statements"] k (spB K n m)) : FnOk P w K mg base CX0 (k + 1) f fd ["self", "word"] (spIn K C n m) := by
  refine F.ok scIn (fun vs H Q E h => ?_) (fun cdv A outer s0 H vs Q E hr h => ?_)
  · obtain ⟨S, b, x, rfl, _⟩ := h
    rfl
  · obtain ⟨S, b, x, rfl, sc, fs, ln, wl, kQ⟩ := h
    have hrk : Room k _ := hr
    refine ⟨_, pss_one (ps_ret (pe_and (pe_callB call_isi (by rfl) gi (by decide +kernel) (pa_cons (pv 1) (pa_cons (pe_bltn (v := .ty "str") (by rfl) gs (by decide +kernel) rfl) pa_nil))) (pe_one (pe_cmpR op_in_seq (pv 1) (pe_df CB hrk rfl (pa_cons (pe_fld (pv 0) rfl) pa_nil)) rfl)))), ?_⟩
    have isS : Ev (tCB (rIsi K) (tCons (tVar 1) (tCons (tC (.ty "str")) tNil))) ([some (.ref S), some (.str x)] : L2.St) H (.bl true) := ed_isi (ed_str (ev_var rfl)) (by rfl)
    have inE : Ev (tOp (rIn K false) (tVar 1) (tCall (spB K n m) [] E0 (tCons (tFld K (tVar 0) "statements") tNil))) ([some (.ref S), some (.str x)] : L2.St) H (.bl (decide (x ∈ stWs b))) := fun H1 e1 Q q =>
      ⟨_, rfl, ed_sts c (sc.ext e1) rfl H1 (Ex.refl _) _ fun v H2 e2 g => ⟨v, b, rfl, g, fs, ln, wl, fun p H3 np e3 hp => ⟨p, _, rfl, .inl (sq_of hp), rfl, flat_strs _, by
        show Q (.bl (inV (.str x) ((stWs b).map V.str))) H3
        rw [inV_strs]
        exact q H3 (e2.trans e3)⟩⟩⟩
    exact s_ret (v := .bl (true && decide (x ∈ stWs b))) (ev_andV isS fun _ => inE) fun H1 e1 => kQ H1 e1
theorem scAdd : FnScope ["self", "other"] ["self", "other"] (defScope cAdd) := ⟨rfl, rfl, rfl, by decide +kernel, rfl, by decide +kernel, by decide +kernel⟩
theorem ed_stsI {σ : L2.St} {H : Hp} {S : Addr} {ds : List PyData} {i : Nat} (c : ScC K C) (h : ScAt K C H S ds) (h0 : σ[i]? = some (some (.ref S))) : EvD K (tFld K (tVar i) "statements") σ H (.tuple ds) := fun H1 e Q q => by
  obtain ⟨dx, v, h1, h2⟩ := h.ext e
  exact ⟨_, h0, S, C, dx, _, _, rfl, h1, c.cl, c.ns, rfl, q v H1 (Ex.refl _) h2⟩
theorem eds_star {σ : L2.St} {H : Hp} {te : TE} {t : TA} {ds es : List PyData} (h : EvD K te σ H (.tuple ds)) (hr : EvDs K t σ H es) : EvDs K (StX.tStar K te t) σ H (ds ++ es) := fun H1 e Q q => h H1 e _ fun v H2 e2 g => by
  cases g with
  | tup hs ha => exact ⟨_, _, rfl, .inl hs, hr H2 (e.trans e2) _ fun ys H3 e3 gy => q _ H3 (e2.trans e3) (Dds.app (Dds.ext e3 _ _ ha) gy)⟩
theorem mk_go {σ : L2.St} {H : Hp} {te : TE} {ds : List PyData} {D : Ends} (h : EvD K te σ H (.tuple ds)) (k : ∀ S H', H S = none → Ex H H' → ScAt K C H' S ds → D.rt (.ref S) H') : tRet (tMake C (spSI K C) [] E0 (tCons te tNil)) D σ H := h H (Ex.refl _) _ fun v H2 e2 g2 => by
  intro S dS nS ndS dd
  have e3 : Ex H2 (upd (upd H2 dS (.own S)) S (.ins C dS [])) := (Ex.new ndS).trans (Ex.new (by rw [upd_ne (Ne.symm dd)]; exact nS))
  exact ⟨S, dS, v, ds, rfl, upd_same, Dd.ext e3 _ _ g2, fun H3 b3 sc => ⟨rfl, k S H3 (fresh_back e2 nS) (ex_made e2 nS ndS b3) sc⟩⟩
theorem ok_add (F : Fun K "__add__" "Script.__add__" cAdd f fd) (c : ScC K C) (MS : Mk1 P w K mg base C "Script" ["self", "statements"] 1 (spSI K C)) : FnOk P w K mg base CX0 3 f fd ["self", "other"] (spAdd K C) := by
  refine F.ok scAdd (fun vs H Q E h => ?_) (fun cdv A outer s0 H vs Q E hr h => ?_)
  · obtain ⟨S1, S2, ds, es, rfl, _⟩ := h
    rfl
  · obtain ⟨S1, S2, ds, es, rfl, s1, s2, l1, l2, kQ⟩ := h
    have hr2 : Room 2 _ := hr
    refine ⟨_, pss_one (ps_ret (pe_mkA MS hr2 rfl (pa_cons (pe_tup (StX.pa_star (pe_fld (pv 0) rfl) (StX.pa_star (pe_fld (pv 1) rfl) pa_nil))) pa_nil))), ?_⟩
    have tp := ed_tup (eds_star (ed_stsI (σ := ([some (.ref S1), some (.ref S2)] : L2.St)) (i := 0) c s1 rfl) (eds_star (ed_stsI (i := 1) c s2 rfl) eds_nil)) (by
      simp only [List.length_append, List.length_nil]
      omega)
    rw [List.append_nil] at tp
    exact mk_go tp fun S H1 nS e1 sc => kQ S H1 nS e1 sc
end
structure LvI (K : PySem.W.Frag) (C : Addr) : Prop where
  ha : PySem.W.findIn K (.ref C) "__class__" = some (some (.builtin "object.__class__"))
  hn : PySem.W.specialIn K (.builtin "object.__class__") "__get__" = some (some (.builtin "getset_descriptor.__get__"))
  htk : PySem.W.takesIn K (.builtin "object.__class__") = some true
  hm : PySem.W.mroIn K C (.type "object") = some true
  kC : PySem.W.kitOne K (.ref C) (.ref C) = some true
  kT : ∀ d : PyData, PySem.W.kitOne K (.type (tyD d)) (.ref C) = some false
  nT : ∀ d : PyData, PySem.W.notFirst K C (.type (tyD d)) = true
def spEq (K : PySem.W.Frag) (C : Addr) : Sp := fun vs H Q _ => ∃ (S : Addr) (y : V) (ds : List PyData), vs = [.ref S, y] ∧ ScAt K C H S ds ∧ noDicts ds = true ∧ SeqAt.shaped (.tuple ds) = true ∧
  ((∃ (S2 : Addr) (es : List PyData), y = .ref S2 ∧ ScAt K C H S2 es ∧ noDicts es = true ∧ SeqAt.shaped (.tuple es) = true ∧ ∀ H', Ex H H' → Q (.bl (PyData.eqv (.tuple ds) (.tuple es))) H') ∨ (∃ d, Dd K H y d ∧ ∀ H', Ex H H' → Q (.bl false) H'))
section
variable {P : Program} {w : World} {K : PySem.W.Frag} {mg : Str → Option Value} {base : Heap} {f C : Addr} {fd : FuncData}
theorem ev_isSc {σ : L2.St} {H : Hp} {S : Addr} {ds : List PyData} {ta : TE} (c : ScC K C) (I : LvI K C) (h : ScAt K C H S ds) (ha : Ev ta σ H (.ref S)) : Ev (tCB (rIsi K) (tCons ta (tCons (tC (.ref C)) tNil))) σ H (.bl true) := fun H1 e Q q => ha H1 e _ fun H2 e2 => by
  obtain ⟨dx, v, h1, h2⟩ := h.ext (e.trans e2)
  exact ⟨.ref S, .ref C, .ref C, .ref C, true, rfl, .own C, .base (.ins h1 c.cl I.ha I.hn I.htk I.hm), I.kC, q H2 e2⟩
theorem ev_noSc {σ : L2.St} {H : Hp} {ta : TE} {d : PyData} (I : LvI K C) (h : EvD K ta σ H d) : Ev (tCB (rIsi K) (tCons ta (tCons (tC (.ref C)) tNil))) σ H (.bl false) := fun H1 e Q q => h H1 e _ fun v H2 e2 g =>
  ⟨v, .ref C, .type (tyD d), .ref C, false, rfl, .own C, g.ty, I.kT d, q H2 e2⟩
theorem scEq : FnScope ["self", "other"] ["self", "other"] (defScope cEq) := ⟨rfl, rfl, rfl, by decide +kernel, rfl, by decide +kernel, by decide +kernel⟩
theorem ok_eq (F : Fun K "__eq__" "Script.__eq__" cEq f fd) (c : ScC K C) (I : LvI K C) (gi : mg "isinstance" = none) (gC : mg "Script" = some (.ref C)) : FnOk P w K mg base CX0 1 f fd ["self", "other"] (spEq K C) := by
  refine F.ok scEq (fun vs H Q E h => ?_) (fun cdv A outer s0 H vs Q E hr h => ?_)
  · obtain ⟨S, y, ds, rfl, _⟩ := h
    rfl
  · obtain ⟨S, y, ds, rfl, sc, n1, s1, alt⟩ := h
    refine ⟨_, pss_one (ps_ret (pe_and (pe_callB call_isi (by rfl) gi (by decide +kernel) (pa_cons (pv 1) (pa_cons (pe_glob (v := .ref C) rfl gC rfl) pa_nil))) (pe_one (pe_cmpR (op_eqD hr.units) (pe_fld (pv 0) rfl) (pe_fld (pv 1) rfl) (nomark _))))), ?_⟩
    rcases alt with ⟨S2, es, rfl, sc2, n2, s2, kQ⟩ | ⟨d, g, kQ⟩
    · exact s_ret (v := .bl (true && PyData.eqv (.tuple ds) (.tuple es))) (ev_andV (ev_isSc c I sc2 (ev_var rfl)) fun _ => ed_eqD (ed_stsI c sc rfl) (ed_stsI c sc2 rfl) n1 n2 s1 s2) fun H1 e1 => kQ H1 e1
    · exact s_ret (v := .bl (false && false)) (ev_andV (b := false) (ev_noSc I (ed_var rfl g)) fun z => by cases z) fun H1 e1 => kQ H1 e1
end
/-- a method that yields -/
structure MG (P : Program) (w : World) (K : PySem.W.Frag) (mg : Str → Option Value) (base : Heap) (C : Addr) (m : Str) (ps : List Str) (k : Nat) (sp : SpG) : Prop where
  ex : ∃ (f : Addr) (fd : FuncData), Meth K C m f ∧ GFn P w K mg base k f fd ps sp ∧ Binds K fd ps []
/-- a class of one maker, with a default -/
structure Mk1D (P : Program) (w : World) (K : PySem.W.Frag) (mg : Str → Option Value) (base : Heap) (C : Addr) (nm : Str) (ps : List Str) (k : Nat) (sp : Sp) : Prop where
  ex : ∃ (f : Addr) (fd : FuncData) (t : Addr), Mk K C f ∧ FnOk P w K mg base CX0 k f fd ps sp ∧ Binds K fd ps [.ref t] ∧ ∀ H, SqT K H t []
  g : mg nm = some (.ref C)
def tMkD (K : PySem.W.Frag) (C : Addr) (sp : Sp) : TE := fun σ H Q => ∀ d : Addr, (∀ H, SqT K H d []) → tMake C sp [.ref d] E0 tNil σ H Q
section
variable {X : Cx} {C : Addr} {m nm : Str} {ps : List Str} {k : Nat} {sp : Sp} {sg : SpG} {o : Expr} {apos pos p : Pos} {ta : TE} {pl : Sem Bool}
theorem pe_mkD (M : Mk1D X.prog X.w X.K X.mg X.base C nm ps k sp) (hr : Room (k + 1) X.A) (hg : Gl X nm) (hdb : (nm == ("__debug__" : Str)) = false := by decide) : PE X (.Call (.Name nm p) [] [] pos) (tMkD X.K C sp) := by
  obtain ⟨f, fd, d, M1, F, b, hd⟩ := M.ex
  exact peImp (pe_make0 M1 F hr hg M.g b (dvs := [.ref d]) (.cons (show RelV (.ref d) (.ref d) from rfl) .nil) pass0 hdb) fun σ H Q h => h d hd
theorem passX0 : Passes (L2.CX X.prog X.w) X E0 := fun pins σ H s e s' I hc => by
  obtain ⟨a, B, H', cls, d, _, _, _, _, _, _, _, hW⟩ := hc
  exact False.elim hW
theorem noStop0 {K : PySem.W.Frag} : NoStop K E0 := fun cls d H h => False.elim h
theorem pe_words (D : MG X.prog X.w X.K X.mg X.base C m ps k sg) (c : Cls X.K C) (hr : Room (k + 3) X.A) (he : PE X o ta) (hg : Gl X "list") (hmg : X.mg "list" = none)
    (hz : eval (.Call (.Attribute o m apos) [] [] pos) X.env = (do
      let ov ← eval o X.env
      standAt apos.atName
      let (f, first) ← holding [ov] (getMethod ov m pl)
      callWith pos f first (backTo pos (starEach [] X.env)) (backToKw pos (keywordEach [] X.env))) := by rfl)
    {p2 pos2 : Pos} : PE X (.Call (.Name "list" p2) [.Call (.Attribute o m apos) [] [] pos] [] pos2) (tListG (tMethG C m sg [] E0 ta tNil)) := by
  obtain ⟨f, fd, hm, F, b⟩ := D.ex
  exact pe_listG (pgen_meth0 he c hm F (hr.mono (by omega)) b .nil hz) passX0 noStop0 hr hg hmg (by decide +kernel)
end
def spGW (K : PySem.W.Frag) (C : Addr) (n m : Nat) : SpG := fun vs H Q _ => ∃ (S : Addr) (b : List Stm), vs = [.ref S] ∧ ScAt K C H S (stDs b) ∧ (∀ s ∈ b, FitS n m s) ∧ b.length ≤ 900 ∧ (stWs b).length ≤ 900 ∧ ∀ H', Ex H H' → Q ((stWs b).map V.str) H'
section
variable {P : Program} {w : World} {K : PySem.W.Frag} {mg : Str → Option Value} {base : Heap} {f C : Addr} {fd : FuncData}
theorem scGW : GScope ["self"] ["self"] (defScope cWords) := ⟨rfl, rfl, by decide +kernel, by decide +kernel, rfl, by decide +kernel, by decide +kernel⟩
theorem gw_ok {k n m : Nat} (F : Fun K "call_words" "Script.call_words" cWords f fd) (c : ScC K C) (CB : Df P w K mg base "calls_in_block" ["statements"] k (spB K n m)) : GFn P w K mg base (k + 1) f fd ["self"] (spGW K C n m) := by
  obtain ⟨oc, od, kV, doc, pm, an, cdv, ct, osl, rfl, lk, hcd⟩ := F.ex
  refine gfn_of lk hcd scGW (fun vs H Q E h => ?_) fun A outer s H vs Q E pn hr h => ?_
  · obtain ⟨S, b, rfl, _⟩ := h
    rfl
  · obtain ⟨S, b, rfl, sc, fs, ln, wl, kQ⟩ := h
    refine ⟨_, gss_cons (gs_yieldFrom (yf_lst (pe_df CB hr rfl (pa_cons (pe_fld (pv 0) rfl) pa_nil))) hr.hd) gss_nil, ?_⟩
    refine ed_sts c sc rfl H (Ex.refl _) _ fun v H1 e1 g => ⟨v, b, rfl, g, fs, ln, wl, fun q H2 nq e2 hq => ⟨q, _, rfl, hq, ?_, ?_⟩⟩
    · show 0 + ((stWs b).map V.str).length ≤ 16777216
      rw [List.length_map]
      omega
    · exact kQ H2 (e1.trans e2)
end
end K72
set_option maxHeartbeats 4000000
namespace K72
open PySem PySem.Spec PyProof.Rows L2 Evl My LamX
/-! The law's draws -/
abbrev sMix : Stmt := top 38
def spMix : Sp := fun vs H Q _ => ∃ n : Int, vs = [.int n] ∧ ∀ (v : Int) (H' : Hp), Ex H H' → 0 ≤ v → v < 2147483629 → Q (.int v) H'
section
variable {σ : L2.St} {H : Hp} {ta tb : TE} {i j : Int}
theorem evMu (ha : Ev ta σ H (.int i)) (hb : Ev tb σ H (.int j)) (h : CMul i j) : Ev (tOp (rI CMul fun i j => .int (i * j)) ta tb) σ H (.int (i * j)) := ev_op ha hb (rv_I h)
theorem evMo (ha : Ev ta σ H (.int i)) (hb : Ev tb σ H (.int j)) (h : 0 < j) : Ev (tOp (rI (fun _ j => 0 < j) fun i j => .int (i % j)) ta tb) σ H (.int (i % j)) := ev_op ha hb (rv_I h)
theorem evDi (ha : Ev ta σ H (.int i)) (hb : Ev tb σ H (.int j)) (h : CDiv i j) : Ev (tOp (rI CDiv fun i j => .int (i / j)) ta tb) σ H (.int (i / j)) := ev_op ha hb (rv_I h)
theorem evPo (ha : Ev ta σ H (.int i)) (hb : Ev tb σ H (.int j)) (h : CPow i j) : Ev (tOp (rI CPow fun i j => .int (i ^ j.toNat)) ta tb) σ H (.int (i ^ j.toNat)) := ev_op ha hb (rv_I h)
end
section
variable {P : Program} {w : World} {K : PySem.W.Frag} {mg : Str → Option Value} {base : Heap} {f : Addr} {fd : FuncData}
theorem scMix : FnScope ["_law_number"] ["_law_number"] (defScope sMix) := ⟨rfl, rfl, rfl, by decide +kernel, rfl, by decide +kernel, by decide +kernel⟩
theorem ok_mix (F : Fun K "_law_mixed" "_law_mixed" sMix f fd) : FnOk P w K mg base CX0 1 f fd ["_law_number"] spMix := by
  refine F.ok scMix (fun vs H Q E h => ?_) (fun cdv A outer s H vs Q E hr h => ?_)
  · obtain ⟨n, rfl, _⟩ := h
    rfl
  · obtain ⟨n, rfl, kQ⟩ := h
    refine ⟨_, pss_cons (ps_set (i := 0) scMix.nd rfl (Or.inl rfl) (pe_op op_mod (pe_op op_add (pe_op op_mul (pe_op op_mod (pv 0) pe_int) pe_int) pe_int) pe_int)) (pss_one (ps_ret (pe_op op_mod (pe_op op_add (pe_op op_mul (pv 0) (pv 0)) (pe_op op_mul pe_int (pv 0))) pe_int))), ?_⟩
    refine q_asg (evMo (evAdd (evMu (evMo (ev_var rfl) ev_c (by decide)) ev_c (Or.inr (by decide))) ev_c) ev_c (by decide)) fun H1 e1 => ?_
    generalize hx : (n % 2147483647 * 48271 + 11) % 2147483647 = x
    have x01 : 0 ≤ x ∧ x < 2147483647 := by
      rw [← hx]
      exact ⟨Int.emod_nonneg _ (by decide), Int.emod_lt_of_pos _ (by decide)⟩
    exact s_ret (evMo (evAdd (evMu (ev_var rfl) (ev_var rfl) (Or.inl ⟨by omega, by omega⟩)) (evMu ev_c (ev_var rfl) (Or.inl (by decide)))) ev_c (by decide)) fun H2 e2 => kQ _ H2 (e1.trans e2) (Int.emod_nonneg _ (by decide)) (Int.emod_lt_of_pos _ (by decide))
end
/-! The state of the draws: reads and stores -/
section
variable {K : PySem.W.Frag} {σ : L2.St} {H : Hp} {S : Addr} {xs : List V} {v : V} {tv : TE} {tz : TS} {D : Ends} {j : Nat}
theorem ev_at (h0 : σ[0]? = some (some (.ref S))) (hS : H S = some (.lst xs)) (hj : xs[j]? = some v) : Ev (tOp (rIxL K) (tVar 0) (tC (.int (j : Int)))) σ H v := ev_op (ev_var h0) ev_c (rv_ixL (SqL.of hS) (atI_nat hj))
theorem s_st (hv : Ev tv σ H v) (h0 : σ[0]? = some (some (.ref S))) (hS : H S = some (.lst xs)) (hj : j < xs.length) (q : ∀ H1, Ex H H1 → D.nx σ (upd H1 S (.lst (xs.set j v)))) : tAsg tv (gSub (tVar 0) (tC (.int (j : Int))) rSetL) D σ H :=
  hv H (Ex.refl H) _ fun H1 e1 => ⟨_, h0, S, xs, (j : Int), j, rfl, rfl, e1 _ _ hS, by
    unfold ixN
    rw [if_pos (by omega), if_pos (by omega)]
    rfl, q H1 e1⟩
theorem q_st (hv : Ev tv σ H v) (h0 : σ[0]? = some (some (.ref S))) (hS : H S = some (.lst xs)) (hj : j < xs.length) (q : ∀ H1, Ex H H1 → tz D σ (upd H1 S (.lst (xs.set j v)))) : tSeq (tAsg tv (gSub (tVar 0) (tC (.int (j : Int))) rSetL)) tz D σ H := s_st (D := { D with nx := tz D }) hv h0 hS hj q
theorem s_ife {c : TT} {ta tb : TS} {b : Bool} (h : EvT c σ H b) (h1 : b = true → ∀ H1, Ex H H1 → ta D σ H1) (h2 : b = false → ∀ H1, Ex H H1 → tb D σ H1) : tIfS c ta tb D σ H := h H (Ex.refl H) _ fun H1 e1 => by
  cases b with
  | true => exact h1 rfl H1 e1
  | false => exact h2 rfl H1 e1
end
abbrev sDrw : Stmt := top 39
/-- the state of the draws over these cells -/
def StV (Lc : Addr) (i r k n e : Int) : List V := [.ref Lc, .int i, .int r, .int k, .int n, .int e]
/-- where the cells lie, and what they are -/
abbrev Cel := Addr × List Int
def StA (H : Hp) (S : Addr) (cs : Cel) : Prop := ∃ (i r k n e : Int), S ≠ cs.1 ∧ H cs.1 = some (.lst (cs.2.map V.int)) ∧ 0 ≤ i ∧ cs.2.length ≤ 100000 ∧ H S = some (.lst (StV cs.1 i r k n e))
def spDrw : Sp := fun vs H Q _ => ∃ (S : Addr) (m : Int) (cs : Cel), vs = [.ref S, .int m] ∧ 0 < m ∧ m ≤ 10 ^ 18 ∧ StA H S cs ∧ ∀ (v : Int) (H' : Hp), But S H H' → StA H' S cs → 0 ≤ v → v < m → Q (.int v) H'
section
variable {P : Program} {w : World} {K : PySem.W.Frag} {mg : Str → Option Value} {base : Heap} {f : Addr} {fd : FuncData}
def NDr : List Str := ["_law_state_here", "_law_many", "_law_found", "_law_cell"]
theorem scDrw : FnScope NDr ["_law_state_here", "_law_many"] (defScope sDrw) := ⟨rfl, rfl, rfl, by decide +kernel, rfl, by decide +kernel, by decide +kernel⟩
theorem ok_drw (F : Fun K "_law_draw" "_law_draw" sDrw f fd) (gl : mg "len" = none) (MX : Df P w K mg base "_law_mixed" ["_law_number"] 1 spMix) : FnOk P w K mg base CX0 2 f fd ["_law_state_here", "_law_many"] spDrw := by
  refine F.ok scDrw (fun vs H Q E h => ?_) (fun cdv A outer s H vs Q E hr h => ?_)
  · obtain ⟨S, m, cs, rfl, _⟩ := h
    rfl
  · obtain ⟨S, m, ⟨Lc, cs⟩, rfl, m0, m1, ⟨i, r, k, n, e, nS, hL, i0, cl, hS⟩, kQ⟩ := h
    have nS : S ≠ Lc := nS
    have hL : H Lc = some (.lst (cs.map V.int)) := hL
    have cl : cs.length ≤ 100000 := cl
    have hS : H S = some (.lst (StV Lc i r k n e)) := hS
    have hr1 : Room 1 _ := hr
    refine ⟨_, pss_cons (ps_asg (pe_op op_add (pe_ix ix_list (pv 0) pe_int (fun _ _ => rfl)) pe_int) (pg_sub (pv 0) pe_int set_list))
      (pss_cons (ps_if (pt_cmpR op_gt (pe_ix ix_list (pv 0) pe_int (fun _ _ => rfl)) pe_int (nomark _))
        (pss_cons (ps_set (i := 2) scDrw.nd rfl (Or.inl rfl) (pe_op op_mod (pe_ix ix_list (pv 0) pe_int (fun _ _ => rfl)) (pv 1)))
        (pss_cons (ps_asg (pe_op op_fdivW (pe_ix ix_list (pv 0) pe_int (fun _ _ => rfl)) (pv 1)) (pg_sub (pv 0) pe_int set_list))
        (pss_one (ps_ret (pv 2))))) pss_nil)
      (pss_cut (ps_if (pt_cmpR op_gt (pe_ix ix_list (pv 0) pe_int (fun _ _ => rfl)) pe_int (nomark _))
        (pss_one (ps_asg (pe_op op_sub (pe_ix ix_list (pv 0) pe_int (fun _ _ => rfl)) pe_int) (pg_sub (pv 0) pe_int set_list)))
        (pss_one (ps_if (pt_cmpR op_lt (pe_ix ix_list (pv 0) pe_int (fun _ _ => rfl)) (pe_callB call_len_seq (by rfl) gl PySem.boot_len (pa_cons (pe_ix ix_list (pv 0) pe_int (fun _ _ => rfl)) pa_nil)) (nomark _))
          (pss_cons (ps_set (i := 3) scDrw.nd rfl (Or.inl rfl) (pe_ix ix_list (pe_ix ix_list (pv 0) pe_int (fun _ _ => rfl)) (pe_ix ix_list (pv 0) pe_int (fun _ _ => rfl)) (fun _ _ => rfl)))
          (pss_cons (ps_asg (pe_op op_add (pe_ix ix_list (pv 0) pe_int (fun _ _ => rfl)) pe_int) (pg_sub (pv 0) pe_int set_list))
          (pss_cons (ps_if (pt_cmpR op_ge (pv 3) (pe_op op_pow pe_int pe_int) (nomark _))
            (pss_cons (ps_asg (pe_op op_fdivW (pv 3) (pv 1)) (pg_sub (pv 0) pe_int set_list)) (pss_one (ps_ret (pe_op op_mod (pv 3) (pv 1))))) pss_nil)
          (pss_cons (ps_asg pe_int (pg_sub (pv 0) pe_int set_list))
          (pss_one (ps_asg (pe_op op_mod (pv 3) pe_int) (pg_sub (pv 0) pe_int set_list))))))) pss_nil)))
      (pss_one (ps_ret (pe_op op_mod (pe_df MX hr1 rfl (pa_cons (pe_op op_add (pe_op op_mul (pe_ix ix_list (pv 0) pe_int (fun _ _ => rfl)) pe_int) (pe_op op_mul (pe_ix ix_list (pv 0) pe_int (fun _ _ => rfl)) pe_int)) pa_nil)) (pv 1)))))), ?_⟩
    refine q_st (j := 3) (evAdd (ev_at (j := 3) rfl hS rfl) ev_c) rfl hS (show 3 < 6 by decide) fun H1 e1 => ?_
    have b1 : But S H (upd H1 S (.lst (StV Lc i r (k + 1) n e))) := (But.ofEx e1).upd
    have s1 : (upd H1 S (.lst (StV Lc i r (k + 1) n e))) S = some (.lst (StV Lc i r (k + 1) n e)) := upd_same
    have l1 : (upd H1 S (.lst (StV Lc i r (k + 1) n e))) Lc = some (.lst (cs.map V.int)) := by
      rw [upd_ne (Ne.symm nS)]
      exact e1 _ _ hL
    show tSeq _ _ _ _ (upd H1 S (.lst (StV Lc i r (k + 1) n e)))
    generalize upd H1 S (.lst (StV Lc i r (k + 1) n e)) = G1 at b1 s1 l1 ⊢
    have cdw : ∀ y : Int, CDivW y m := fun y => wide_div (b := 60) m0 (by
      have q : m.natAbs ≤ 10 ^ 18 := by omega
      exact Nat.lt_of_le_of_lt q (by decide)) (by decide) (by decide)
    have evW : ∀ {σ : L2.St} {H : Hp} {ta tb : TE} {y : Int}, Ev ta σ H (.int y) → Ev tb σ H (.int m) → Ev (tOp (rI CDivW fun i j => .int (i / j)) ta tb) σ H (.int (y / m)) := fun ha hb => ev_op ha hb (rv_I (cdw _))
    have md : ∀ y : Int, 0 ≤ y % m ∧ y % m < m := fun y => ⟨Int.emod_nonneg _ (by omega), Int.emod_lt_of_pos _ m0⟩
    have stL : ∀ {G G1 : Hp} {o : HO}, Ex G G1 → G Lc = some (.lst (cs.map V.int)) → (upd G1 S o) Lc = some (.lst (cs.map V.int)) := fun ex l => by
      rw [upd_ne (Ne.symm nS)]
      exact ex _ _ l
    refine q_when (etGt (ev_at (j := 2) rfl s1 rfl) ev_c) (fun hb H2 e2 => ?_) (fun hb H2 e2 => ?_)
    · refine q_asg (evMo (ev_at (j := 2) rfl (e2 _ _ s1) rfl) (ev_var rfl) m0) fun H3 e3 => ?_
      refine q_st (j := 2) (evW (ev_at (j := 2) rfl ((e2.trans e3) _ _ s1) rfl) (ev_var rfl)) rfl ((e2.trans e3) _ _ s1) (show 2 < 6 by decide) fun H4 e4 => ?_
      have e14 := (e2.trans e3).trans e4
      exact s_ret (ev_var rfl) fun H5 e5 => kQ (r % m) H5 (((b1.ex e14).upd).ex e5) ⟨i, r / m, k + 1, n, e, nS, e5 _ _ (stL e14 l1), i0, cl, e5 _ _ upd_same⟩ (md r).1 (md r).2
    · refine q_cut (M := fun σ' H' => ∃ (x2 x3 : Option V) (i r k n e : Int), σ' = [some (.ref S), some (.int m), x2, x3] ∧ But S H H' ∧ H' Lc = some (.lst (cs.map V.int)) ∧ 0 ≤ i ∧ H' S = some (.lst (StV Lc i r k n e))) ?_ ?_
      · have s2 := e2 _ _ s1
        have l2 := e2 _ _ l1
        have b2 := b1.ex e2
        have t4 : EvT (tTest (tOp (rI0 fun i j => .bl (decide (j < i))) (tOp (rIxL K) (tVar 0) (tC (.int 4))) (tC (.int 0)))) ([some (.ref S), some (.int m), none, none] : L2.St) H2 (decide (0 < n)) := etGt (ev_at (j := 4) rfl s2 rfl) ev_c
        refine s_ife t4 (fun hn H3 e3 => ?_) (fun hn H3 e3 => ?_)
        · have es : Ev (tOp (rI0 fun i j => .int (i - j)) (tOp (rIxL K) (tVar 0) (tC (.int 4))) (tC (.int 1))) ([some (.ref S), some (.int m), none, none] : L2.St) H3 (.int (n - 1)) := evSub (ev_at (j := 4) rfl (e3 _ _ s2) rfl) ev_c
          exact s_st (j := 4) es rfl (e3 _ _ s2) (show 4 < 6 by decide) fun H4 e4 => ⟨_, _, i, r, k + 1, n - 1, e, rfl, (b2.ex (e3.trans e4)).upd, stL (e3.trans e4) l2, i0, upd_same⟩
        · have s3 := e3 _ _ s2
          have l3 := e3 _ _ l2
          have b3 := b2.ex e3
          have t5 : EvT (tTest (tOp (rI0 fun i j => .bl (decide (i < j))) (tOp (rIxL K) (tVar 0) (tC (.int 1))) (tCB (rLenS K) (tCons (tOp (rIxL K) (tVar 0) (tC (.int 0))) tNil)))) ([some (.ref S), some (.int m), none, none] : L2.St) H3 (decide (i < ((cs.map V.int).length : Int))) := etLt (ev_at (j := 1) rfl s3 rfl) (ev_len (ev_at (j := 0) rfl s3 rfl) (SqL.of l3))
          refine s_when t5 (fun hi H4 e4 => ?_) (fun hi H4 e4 => ⟨_, _, i, r, k + 1, n, e, rfl, b3.ex e4, e4 _ _ l3, i0, e4 _ _ s3⟩)
          have hi2 : i < (cs.length : Int) := by
            have q := of_decide_eq_true hi
            rw [List.length_map] at q
            exact q
          have hl : i.toNat < cs.length := by omega
          obtain ⟨y, get⟩ : ∃ y, atI (cs.map V.int) i = some (V.int y) := by
            obtain ⟨j, rfl⟩ := Int.eq_ofNat_of_zero_le i0
            have hj : j < cs.length := by omega
            refine ⟨cs[j], atI_nat ?_⟩
            rw [List.getElem?_map, List.getElem?_eq_getElem hj]
            rfl
          have s4 := e4 _ _ s3
          have l4 := e4 _ _ l3
          have b4 := b3.ex e4
          refine q_asg (ev_op (ev_at (j := 0) rfl s4 rfl) (ev_at (j := 1) rfl s4 rfl) (rv_ixL (SqL.of l4) get)) fun H5 e5 => ?_
          refine q_st (j := 1) (evAdd (ev_at (j := 1) rfl (e5 _ _ s4) rfl) ev_c) rfl (e5 _ _ s4) (show 1 < 6 by decide) fun H6 e6 => ?_
          have b6 : But S H (upd H6 S (.lst (StV Lc (i + 1) r (k + 1) n e))) := (b4.ex (e5.trans e6)).upd
          have s6 : (upd H6 S (.lst (StV Lc (i + 1) r (k + 1) n e))) S = some (.lst (StV Lc (i + 1) r (k + 1) n e)) := upd_same
          have l6 : (upd H6 S (.lst (StV Lc (i + 1) r (k + 1) n e))) Lc = some (.lst (cs.map V.int)) := stL (e5.trans e6) l4
          show tSeq _ _ _ _ (upd H6 S (.lst (StV Lc (i + 1) r (k + 1) n e)))
          generalize upd H6 S (.lst (StV Lc (i + 1) r (k + 1) n e)) = G6 at b6 s6 l6 ⊢
          have ge : EvT (tTest (tOp (rI0 fun i j => .bl (decide (j ≤ i))) (tVar 3) (tOp (rI CPow fun i j => .int (i ^ j.toNat)) (tC (.int 10)) (tC (.int 18))))) ([some (.ref S), some (.int m), none, some (.int y)] : L2.St) G6 (decide ((10 : Int) ^ (18 : Int).toNat ≤ y)) := et_test (ev_op (ev_var rfl) (evPo ev_c ev_c ⟨by decide, by decide, by decide⟩) rv_I0)
          refine q_when ge (fun hy H7 e7 => ?_) (fun hy H7 e7 => ?_)
          · refine q_st (j := 2) (evW (ev_var rfl) (ev_var rfl)) rfl (e7 _ _ s6) (show 2 < 6 by decide) fun H8 e8 => ?_
            exact s_ret (evMo (ev_var rfl) (ev_var rfl) m0) fun H9 e9 => kQ (y % m) H9 (((b6.ex (e7.trans e8)).upd).ex e9) ⟨i + 1, y / m, k + 1, n, e, nS, e9 _ _ (stL (e7.trans e8) l6), by omega, cl, e9 _ _ upd_same⟩ (md y).1 (md y).2
          · refine q_st (j := 4) ev_c rfl (e7 _ _ s6) (show 4 < 6 by decide) fun H8 e8 => ?_
            exact s_st (j := 5) (evMo (ev_var rfl) ev_c (by decide)) rfl upd_same (show 5 < 6 by decide) fun H9 e9 => ⟨_, _, i + 1, r, k + 1, 3, y % 1000003, rfl, (((b6.ex (e7.trans e8)).upd).ex e9).upd, stL e9 (stL (e7.trans e8) l6), by omega, upd_same⟩
      · rintro σ' H3 ⟨x2, x3, i, r, k, n, e, rfl, b3, l3, i0, s3⟩
        refine (evAdd (evMu (ev_at (j := 5) rfl s3 rfl) ev_c (.inr (by decide))) (evMu (ev_at (j := 3) rfl s3 rfl) ev_c (.inr (by decide)))) H3 (Ex.refl _) _ fun H4 e4 => ?_
        exact ⟨_, rfl, fun v H5 e5 v0 v1 => ⟨_, rfl, v, m, rfl, rfl, m0, kQ _ H5 (b3.ex (e4.trans e5)) ⟨i, r, k, n, e, nS, (e4.trans e5) _ _ l3, i0, cl, (e4.trans e5) _ _ s3⟩ (md v).1 (md v).2⟩⟩
end
/-! The state of the draws made -/
abbrev sSta : Stmt := top 40
def spSta (K : PySem.W.Frag) : Sp := fun vs H Q _ => ∃ (a : Addr) (cs : List Int), vs = [.ref a] ∧ SqL K H a (cs.map V.int) ∧ cs.length ≤ 100000 ∧ ∀ (S : Addr) (H' : Hp) (Lc : Addr), H S = none → Ex H H' → StA H' S (Lc, cs) → Q (.ref S) H'
section
variable {P : Program} {w : World} {K : PySem.W.Frag} {mg : Str → Option Value} {base : Heap} {f : Addr} {fd : FuncData}
theorem scSta : FnScope ["_law_script_here"] ["_law_script_here"] (defScope sSta) := ⟨rfl, rfl, rfl, by decide +kernel, rfl, by decide +kernel, by decide +kernel⟩
theorem ok_sta (F : Fun K "_law_state" "_law_state" sSta f fd) (gl : mg "list" = none) : FnOk P w K mg base CX0 1 f fd ["_law_script_here"] (spSta K) := by
  refine F.ok scSta (fun vs H Q E h => ?_) (fun cdv A outer s H vs Q E hr h => ?_)
  · obtain ⟨a, cs, rfl, _⟩ := h
    rfl
  · obtain ⟨a, cs, rfl, hS, cl, kQ⟩ := h
    refine ⟨_, pss_one (ps_ret (pe_lst (pa_cons (pe_callTy call_list_of (by rfl) gl (by decide +kernel) (pa_cons (pv 0) pa_nil)) (pa_cons pe_int (pa_cons pe_int (pa_cons pe_int (pa_cons pe_int (pa_cons pe_int pa_nil)))))))), ?_⟩
    refine ⟨_, rfl, a, _, rfl, .inl hS, fun p np => ?_⟩
    refine ⟨(show 6 ≤ sizeLine by decide), fun S nS => ?_⟩
    have nSp : S ≠ p := fun z => by
      rw [z, upd_same] at nS
      cases nS
    have n0 : H S = none := by
      rw [upd_ne nSp] at nS
      exact nS
    exact kQ S _ p n0 ((Ex.new np).trans (Ex.new nS)) ⟨0, 0, 0, 0, 1, nSp, by rw [upd_ne (Ne.symm nSp)]; exact upd_same, Int.le_refl _, cl, upd_same⟩
end
/-- what follows does not begin with a sign of z -/
def Off (z : Str) (rest : List Nat) : Prop := ∀ c, rest.head? = some c → c ∉ z.cps.toList
def Bk (b : List Nat) : Prop := ∀ c ∈ b, c ∈ BLK.cps.toList
def glue (ps : List (List Nat × List Nat)) : List Nat := ps.flatMap fun p => p.1 ++ p.2
theorem off_hd {z : Str} {c : Nat} {r : List Nat} (h : c ∉ z.cps.toList) : Off z (c :: r) := fun d hd => by
  cases hd
  exact h
theorem bk_w {c : Nat} (h : c ∈ BLK.cps.toList) : c ∉ WSG.cps.toList ∧ c ≠ 61 := by
  have e1 : BLK.cps.toList = [32, 10, 9] := by decide +kernel
  rw [e1] at h
  have q : c = 32 ∨ c = 10 ∨ c = 9 := by simpa using h
  rcases q with h | h | h <;> (subst h; exact ⟨by decide +kernel, by decide⟩)
theorem w_bk {c : Nat} (h : c ∈ WSG.cps.toList) : c ∉ BLK.cps.toList := fun m => (bk_w m).1 h
theorem let_w {c : Nat} (h : c ∈ LET.cps.toList) : c ∈ WSG.cps.toList := by
  have e : WSG.cps.toList = LET.cps.toList ++ (DIG.cps.toList ++ [95]) := by decide +kernel
  rw [e]
  exact List.mem_append_left _ h
theorem off_bl {b rest : List Nat} (hb : Bk b) (h : Off WSG rest) : Off WSG (b ++ rest) := by
  cases b with
  | nil => exact h
  | cons c b => exact off_hd (bk_w (hb c List.mem_cons_self)).1
/-- a name -/
def Nm (s : Str) : Prop := (∃ (c : Nat) (xs : List Nat), s.cps.toList = c :: xs ∧ c ∈ LET.cps.toList ∧ ∀ d ∈ c :: xs, d ∈ WSG.cps.toList) ∧ s ∉ KWS
theorem StA.ex {H H' : Hp} {S : Addr} {cs : Cel} (h : StA H S cs) (e : Ex H H') : StA H' S cs := by
  obtain ⟨i, r, k, n, x, nS, hL, i0, cl, hS⟩ := h
  exact ⟨i, r, k, n, x, nS, e _ _ hL, i0, cl, e _ _ hS⟩
theorem mkS_app {b : List Nat} {c : Nat} : mkS b ++ (⟨#[c]⟩ : Str) = mkS (b ++ [c]) := by
  show (⟨b.toArray ++ #[c]⟩ : Str) = ⟨(b ++ [c]).toArray⟩
  congr 1
  simp
theorem mkS_len {b : List Nat} : (mkS b).length = b.length := by
  show b.toArray.size = _
  simp
/-! A drawn text -/
abbrev sTex : Stmt := top 42
def LSG : Str := " !#$&'()*+,-./0123456789:;<=>?@ABCXYZ[\\]^_`abcxyz{|}~"
def spTex : Sp := fun vs H Q _ => ∃ (S : Addr) (cs : Cel), vs = [.ref S] ∧ StA H S cs ∧ ∀ (b : List Nat) (H' : Hp), (∀ c ∈ b, c ≠ 34 ∧ 32 ≤ c ∧ c ≤ 126) → b.length ≤ 5 → But S H H' → StA H' S cs → Q (.str (mkS b)) H'
theorem lsg_ok : ∀ c ∈ LSG.cps.toList, c ≠ 34 ∧ 32 ≤ c ∧ c ≤ 126 := by decide +kernel
section
variable {P : Program} {w : World} {K : PySem.W.Frag} {mg : Str → Option Value} {base : Heap} {f : Addr} {fd : FuncData}
def NTe : List Str := ["_law_state_here", "_law_signs_here", "_law_text_here", "_law_k"]
theorem scTex : FnScope NTe ["_law_state_here"] (defScope sTex) := ⟨rfl, rfl, rfl, by decide +kernel, rfl, by decide +kernel, by decide +kernel⟩
theorem ok_tex (F : Fun K "_law_text" "_law_text" sTex f fd) (gr : mg "range" = none) (gl : mg "len" = none) (DR : Df P w K mg base "_law_draw" ["_law_state_here", "_law_many"] 2 spDrw) : FnOk P w K mg base CX0 3 f fd ["_law_state_here"] spTex := by
  refine F.ok scTex (fun vs H Q E h => ?_) (fun cdv A outer s H vs Q E hr h => ?_)
  · obtain ⟨S, cs, rfl, _⟩ := h
    rfl
  · obtain ⟨S, cs, rfl, st, kQ⟩ := h
    have hr2 : Room 2 _ := hr
    refine ⟨_, pss_cons (ps_set (i := 1) scTex.nd rfl (Or.inl rfl) pe_str) (pss_cons (ps_set (i := 2) scTex.nd rfl (Or.inl rfl) pe_str)
      (pss_cons (ps_for PassesOwn.never rfl (pi_range1 rfl gr (pa_cons (pe_df DR hr2 rfl (pa_cons (pv 0) (pa_cons pe_int pa_nil))) pa_nil)) (pg_name (i := 3) scTex.nd rfl (Or.inl rfl))
        (pss_one (ps_set (i := 2) scTex.nd rfl (Or.inl rfl) (pe_op op_add_str (pv 2) (pe_ix ix_str (pv 1) (pe_df DR hr2 rfl (pa_cons (pv 0) (pa_cons (pe_callB call_len_str (by rfl) gl PySem.boot_len (pa_cons (pv 1) pa_nil)) pa_nil))) (fun _ _ => rfl))))))
      (pss_one (ps_ret (pv 2))))), ?_⟩
    refine q_asg ev_c fun H0 e0 => ?_
    refine q_asg ev_c fun H1 e1 => ?_
    have eL : LSG.length = 53 := by decide +kernel
    refine ⟨_, rfl, S, 6, cs, rfl, by decide, by decide, (st.ex e0).ex e1, fun v H2 b2 st2 v0 v1 => ⟨v, rfl, by omega, by omega, ?_⟩⟩
    refine for_range (lo := 0) (n := v.toNat) (fun i σ' H' => ∃ (b : List Nat) (o : Option V), σ' = [some (.ref S), some (.str LSG), some (.str (mkS b)), o] ∧ (∀ c ∈ b, c ≠ 34 ∧ 32 ≤ c ∧ c ≤ 126) ∧ b.length = i ∧ But S H H' ∧ StA H' S cs) ?_ ?_ ?_
    · exact ⟨[], _, rfl, (fun c hc => nomatch hc), rfl, ((But.ofEx (e0.trans e1)).trans b2), st2⟩
    · rintro i σ' H3 hi ⟨b, o, rfl, bk, bl, b3, st3⟩
      refine ⟨_, rfl, _, rfl, _, rfl, _, rfl, LSG, rfl, ?_⟩
      refine ⟨by rw [eL]; decide, S, (LSG.length : Int), cs, rfl, by rw [eL]; decide, by rw [eL]; decide, st3, fun u H4 b4 st4 u0 u1 => ?_⟩
      obtain ⟨j, rfl⟩ := Int.eq_ofNat_of_zero_le u0
      have jl : j < LSG.cps.toList.length := by
        have q : LSG.cps.toList.length = LSG.length := Array.length_toList
        omega
      have hc : LSG.cps.toList[j]? = some LSG.cps.toList[j] := List.getElem?_eq_getElem jl
      generalize LSG.cps.toList[j] = c at hc
      refine ⟨LSG, (j : Int), c, rfl, rfl, by decide +kernel, atI_nat hc, mkS b, ⟨#[c]⟩, rfl, rfl, ?_⟩
      refine ⟨?_, b ++ [c], _, by rw [mkS_app]; rfl, ?_, ?_, b3.trans b4, st4⟩
      · rw [mkS_len]
        have q : b.length + 1 ≤ 16777216 := by omega
        exact q
      · intro d hd
        rcases List.mem_append.mp hd with hd | hd
        · exact bk d hd
        · cases List.mem_singleton.mp hd
          exact lsg_ok _ (List.mem_of_getElem? hc)
      · rw [List.length_append, bl]
        rfl
    · rintro σ' H3 ⟨b, o, rfl, bk, bl, b3, st3⟩
      exact s_ret (ev_var rfl) fun H4 e4 => kQ b H4 bk (by omega) (b3.ex e4) (st3.ex e4)
end
/-! A drawn word -/
abbrev sWd : Stmt := top 41
def spWd : Sp := fun vs H Q _ => ∃ (S : Addr) (cs : Cel), vs = [.ref S] ∧ StA H S cs ∧ ∀ (s : Str) (H' : Hp), Nm s → s.length ≤ 5 → But S H H' → StA H' S cs → Q (.str s) H'
/-- the signs of a word -/
def Wsg (b : List Nat) : Prop := ∃ (c : Nat) (xs : List Nat), b = c :: xs ∧ c ∈ LET.cps.toList ∧ ∀ d ∈ b, d ∈ WSG.cps.toList
section
variable {P : Program} {w : World} {K : PySem.W.Frag} {mg : Str → Option Value} {base : Heap} {f : Addr} {fd : FuncData}
def NWd : List Str := ["_law_state_here", "_law_letters", "_law_word_here", "_law_k"]
theorem scWd : FnScope NWd ["_law_state_here"] (defScope sWd) := ⟨rfl, rfl, rfl, by decide +kernel, rfl, by decide +kernel, by decide +kernel⟩
theorem ok_wd (F : Fun K "_law_word" "_law_word" sWd f fd) (gr : mg "range" = none) (DR : Df P w K mg base "_law_draw" ["_law_state_here", "_law_many"] 2 spDrw) : FnOk P w K mg base CX0 3 f fd ["_law_state_here"] spWd := by
  refine F.ok scWd (fun vs H Q E h => ?_) (fun cdv A outer s H vs Q E hr h => ?_)
  · obtain ⟨S, cs, rfl, _⟩ := h
    rfl
  · obtain ⟨S, cs, rfl, st, kQ⟩ := h
    have hr2 : Room 2 _ := hr
    refine ⟨_, pss_cons (ps_set (i := 1) scWd.nd rfl (Or.inl rfl) pe_str) (pss_cons (ps_set (i := 2) scWd.nd rfl (Or.inl rfl) (pe_ix ix_str (pv 1) (pe_df DR hr2 rfl (pa_cons (pv 0) (pa_cons pe_int pa_nil))) (fun _ _ => rfl)))
      (pss_cons (ps_for PassesOwn.never rfl (pi_range1 rfl gr (pa_cons (pe_df DR hr2 rfl (pa_cons (pv 0) (pa_cons pe_int pa_nil))) pa_nil)) (pg_name (i := 3) scWd.nd rfl (Or.inl rfl))
        (pss_one (ps_set (i := 2) scWd.nd rfl (Or.inl rfl) (pe_op op_add_str (pv 2) (pe_ix ix_str (pv 1) (pe_df DR hr2 rfl (pa_cons (pv 0) (pa_cons pe_int pa_nil))) (fun _ _ => rfl))))))
      (pss_cut (ps_if (pt_cmpR op_in_seq (pv 2) (pe_tup (pa_cons pe_str (pa_cons pe_str (pa_cons pe_str (pa_cons pe_str (pa_cons pe_str (pa_cons pe_str (pa_cons pe_str (pa_cons pe_str (pa_cons pe_str pa_nil)))))))))) rfl) (pss_one (ps_set (i := 2) scWd.nd rfl (Or.inl rfl) (pe_op op_add_str (pv 2) pe_str))) pss_nil)
      (pss_one (ps_ret (pv 2)))))), ?_⟩
    refine q_asg ev_c fun H0 e0 => ?_
    have eW : WSG.cps.toList.length = 37 := by decide +kernel
    refine ⟨_, rfl, _, rfl, S, 26, cs, rfl, by decide, by decide, st.ex e0, fun u H1 b1 st1 u0 u1 => ?_⟩
    obtain ⟨j, rfl⟩ := Int.eq_ofNat_of_zero_le u0
    have jl : j < WSG.cps.toList.length := by omega
    have hc : WSG.cps.toList[j]? = some WSG.cps.toList[j] := List.getElem?_eq_getElem jl
    have hcl : WSG.cps.toList[j] ∈ LET.cps.toList := by
      have q : WSG.cps.toList = LET.cps.toList ++ (DIG.cps.toList ++ [95]) := by decide +kernel
      have ll : LET.cps.toList.length = 26 := by decide +kernel
      have z : WSG.cps.toList[j]? = LET.cps.toList[j]? := by
        rw [q, List.getElem?_append_left (by omega)]
      rw [hc] at z
      exact List.mem_of_getElem? z.symm
    generalize WSG.cps.toList[j] = c at hc hcl
    refine ⟨WSG, (j : Int), c, rfl, rfl, by decide +kernel, atI_nat hc, ?_⟩
    refine ⟨_, rfl, S, 4, cs, rfl, by decide, by decide, st1, fun v H2 b2 st2 v0 v1 => ⟨v, rfl, by omega, by omega, ?_⟩⟩
    have b02 : But S H H2 := ((But.ofEx e0).trans b1).trans b2
    refine for_range (lo := 0) (n := v.toNat) (fun i σ' H' => ∃ (b : List Nat) (o : Option V), σ' = [some (.ref S), some (.str WSG), some (.str (mkS b)), o] ∧ Wsg b ∧ b.length = i + 1 ∧ But S H H' ∧ StA H' S cs) ?_ ?_ ?_
    · exact ⟨[c], _, rfl, ⟨c, [], rfl, hcl, fun d hd => by cases List.mem_singleton.mp hd; exact let_w hcl⟩, rfl, b02, st2⟩
    · rintro i σ' H3 hi ⟨b, o, rfl, bk, bl, b3, st3⟩
      refine ⟨_, rfl, _, rfl, _, rfl, S, 37, cs, rfl, by decide, by decide, st3, fun u H4 b4 st4 u0 u1 => ?_⟩
      obtain ⟨j, rfl⟩ := Int.eq_ofNat_of_zero_le u0
      have jl : j < WSG.cps.toList.length := by omega
      have hc : WSG.cps.toList[j]? = some WSG.cps.toList[j] := List.getElem?_eq_getElem jl
      generalize WSG.cps.toList[j] = c at hc
      refine ⟨WSG, (j : Int), c, rfl, rfl, by decide +kernel, atI_nat hc, mkS b, ⟨#[c]⟩, rfl, rfl, ?_⟩
      refine ⟨?_, b ++ [c], _, by rw [mkS_app]; rfl, ?_, ?_, b3.trans b4, st4⟩
      · rw [mkS_len]
        have q : b.length + 1 ≤ 16777216 := by omega
        exact q
      · obtain ⟨c0, xs, rfl, h0, h1⟩ := bk
        refine ⟨c0, xs ++ [c], rfl, h0, fun d hd => ?_⟩
        rcases List.mem_append.mp hd with hd | hd
        · exact h1 d hd
        · cases List.mem_singleton.mp hd
          exact List.mem_of_getElem? hc
      · rw [List.length_append, bl]
        rfl
    · rintro σ' H3 ⟨b, o, rfl, bk, bl, b3, st3⟩
      have eb : (mkS b).cps.toList = b := rfl
      have lb : (mkS b).length = b.length := mkS_len
      refine q_cut (M := fun σ' H' => ∃ (s : Str) (o : Option V), σ' = [some (.ref S), some (.str WSG), some (.str s), o] ∧ Nm s ∧ s.length ≤ 5 ∧ But S H H' ∧ StA H' S cs) ?_ ?_
      · have tt : EvT (tTest (tOp (rIn K false) (tVar 2) (tTup (tCons (tC (.str "if")) (tCons (tC (.str "else")) (tCons (tC (.str "while")) (tCons (tC (.str "for")) (tCons (tC (.str "in")) (tCons (tC (.str "try")) (tCons (tC (.str "tell")) (tCons (tC (.str "and")) (tCons (tC (.str "or")) tNil)))))))))))) ([some (.ref S), some (.str WSG), some (.str (mkS b)), o] : L2.St) H3 (decide (mkS b ∈ KWS)) := et_test fun H4 e4 Q q =>
          ⟨_, rfl, (show 9 ≤ sizeLine by decide), fun p np => ⟨p, KWS.map V.str, rfl, .inr (st_of upd_same), rfl, flat_strs _, by
            show Q (.bl (inV (.str (mkS b)) (KWS.map V.str))) _
            rw [inV_strs]
            exact q _ (Ex.new np)⟩⟩
        obtain ⟨c0, xs, hb0, h0, h1⟩ := bk
        refine s_when tt (fun hk H4 e4 => ?_) (fun hk H4 e4 => ⟨mkS b, _, rfl, ⟨⟨c0, xs, hb0, h0, by rw [← hb0]; exact h1⟩, of_decide_eq_false hk⟩, by omega, b3.ex e4, st3.ex e4⟩)
        refine ⟨_, rfl, mkS b, "x", rfl, rfl, ?_, ⟨mkS b ++ "x", _, rfl, ⟨⟨c0, xs ++ [120], ?_, h0, fun d hd => ?_⟩, fun hm => ?_⟩, ?_, b3.ex e4, st3.ex e4⟩⟩
        · rw [lb]
          have q : b.length + 1 ≤ 16777216 := by omega
          exact q
        · have q : mkS b ++ "x" = mkS (b ++ [120]) := mkS_app
          rw [q, hb0]
          rfl
        · rcases List.mem_cons.mp hd with hd | hd
          · subst hd
            exact let_w h0
          · rcases List.mem_append.mp hd with hd | hd
            · exact h1 d (by rw [hb0]; exact List.mem_cons_of_mem _ hd)
            · cases List.mem_singleton.mp hd
              decide +kernel
        · have q : mkS b ++ "x" = mkS (b ++ [120]) := mkS_app
          have z : ∀ s ∈ KWS, s.cps.toList.getLast? ≠ some 120 := by decide +kernel
          refine z _ hm ?_
          rw [q]
          show (b ++ [120]).getLast? = some 120
          simp
        · have q : mkS b ++ "x" = mkS (b ++ [120]) := mkS_app
          rw [q, mkS_len, List.length_append]
          show b.length + 1 ≤ 5
          omega
      · rintro σ' H4 ⟨s, o, rfl, hn, hl, b4, st4⟩
        exact s_ret (ev_var rfl) fun H5 e5 => kQ s H5 hn hl (b4.ex e5) (st4.ex e5)
end
end K72
set_option maxHeartbeats 4000000
namespace K72
open PySem PySem.Spec PyProof.Rows L2 Evl My LamX
/-! Words of a text: how they are laid out -/
section
variable {t z : Str} {pre xs rest : List Nat}
theorem sgn_app (h : t.cps.toList = pre ++ rest) (k : Nat) : sgn t (pre.length + k) = rest[k]? := by
  unfold sgn
  rw [h, List.getElem?_append_right (by omega), Nat.add_sub_cancel_left]
theorem lenL (h : t.cps.toList = pre ++ rest) : t.length = pre.length + rest.length := by
  have q := congrArg List.length h
  rw [Array.length_toList, List.length_append] at q
  exact q
theorem run_app (h : t.cps.toList = pre ++ (xs ++ rest)) (hx : ∀ c ∈ xs, c ∈ z.cps.toList) (ho : Off z rest) : RunAt t z pre.length xs.length := by
  refine ⟨fun k hk => ⟨xs[k], ?_, hx _ (List.getElem_mem hk)⟩, fun c hc => ?_⟩
  · rw [sgn_app h, List.getElem?_append_left hk, List.getElem?_eq_getElem hk]
  · rw [sgn_app h, List.getElem?_append_right (Nat.le_refl _), Nat.sub_self] at hc
    exact ho c (by rw [List.head?_eq_getElem?]; exact hc)
theorem sub_app (h : t.cps.toList = pre ++ (xs ++ rest)) : sub t pre.length xs.length = ⟨xs.toArray⟩ := by
  unfold sub
  rw [h, List.drop_left, List.take_left]
theorem cut_app {s : Str} (h : t.cps.toList = pre ++ (s.cps.toList ++ rest)) : cutL t pre.length s = s := by
  have ls : s.cps.toList.length = s.length := Array.length_toList
  have lt := lenL h
  rw [List.length_append, ls] at lt
  have q := sub_app h
  rw [ls] at q
  unfold cutL
  rw [show (pre.length : Int) + (s.length : Int) = ((pre.length + s.length : Nat) : Int) by omega, cut_sub (by omega), q]
end
theorem digs_of {c : Nat} (h : 48 ≤ c ∧ c ≤ 57) : c ∈ DIG.cps.toList := by
  have e : DIG.cps.toList = [48, 49, 50, 51, 52, 53, 54, 55, 56, 57] := by decide +kernel
  rw [e]
  have q : c = 48 ∨ c = 49 ∨ c = 50 ∨ c = 51 ∨ c = 52 ∨ c = 53 ∨ c = 54 ∨ c = 55 ∨ c = 56 ∨ c = 57 := by omega
  simpa using q
theorem dig_w {c : Nat} (h : c ∈ DIG.cps.toList) : c ∈ WSG.cps.toList := by
  have e : WSG.cps.toList = LET.cps.toList ++ (DIG.cps.toList ++ [95]) := by decide +kernel
  rw [e]
  exact List.mem_append_right _ (List.mem_append_left _ h)
/-- a word of a script's text -/
inductive Wo
  | num (m : Nat)
  | txt (xs : List Nat)
  | wrd (s : Str)
  | sg (s : Str)
def Wo.cs : Wo → List Nat
  | .num m => TL.numL m
  | .txt xs => 34 :: (xs ++ [34])
  | .wrd s => s.cps.toList
  | .sg s => s.cps.toList
def Wo.k : Wo → Str
  | .num _ => "number"
  | .txt _ => "text"
  | .wrd _ => "word"
  | .sg _ => "sign"
def Wo.v : Wo → V
  | .num m => .int (m : Int)
  | .txt xs => .str (mkS xs)
  | .wrd s => .str s
  | .sg s => .str s
inductive Wo.Ok : Wo → Prop
  | num {m : Nat} : m < 10 ^ 18 → Wo.Ok (.num m)
  | txt {xs : List Nat} : (∀ c ∈ xs, c ≠ 34 ∧ 32 ≤ c ∧ c ≤ 126) → Wo.Ok (.txt xs)
  | wrd {s : Str} : Nm s → Wo.Ok (.wrd s)
  | sg {s : Str} : s ∈ sigW → Wo.Ok (.sg s)
def soloW : List Str := ["(", ")", "{", "}", ",", ";"]
def Solo (w : Wo) : Prop := ∃ s ∈ soloW, w = .sg s
def Sep (w : Wo) (aft : List Nat) : Prop := Solo w ∨ (Off WSG aft ∧ aft.head? ≠ some 61)
theorem tk_num {t : Str} {pre aft : List Nat} {m : Nat} (hm : m < 10 ^ 18) (ho : Off WSG aft) (h : t.cps.toList = pre ++ (TL.numL m ++ aft)) : Tk t pre.length (TL.numL m).length "number" (.int (m : Int)) := by
  have hd : NumText.AllDigits (TL.numL m) := TL.numL_digits m
  have hne := TL.numL_ne m
  have l18 : (TL.numL m).length ≤ 18 := TL.numL_len (by decide) hm
  have l1 : 1 ≤ (TL.numL m).length := by
    cases e : TL.numL m with
    | nil => exact absurd e hne
    | cons c r => exact Nat.le_add_left 1 _
  have lt := lenL h
  rw [List.length_append] at lt
  have hz : (TL.numL m).length ≤ 1 ∨ ∀ c, (TL.numL m).head? = some c → c ≠ 48 := by
    by_cases hl : (TL.numL m).length ≤ 1
    · exact .inl hl
    · refine .inr fun c hc e => ?_
      subst e
      cases e : TL.numL m with
      | nil => exact hne e
      | cons c r =>
        rw [e] at hc hd hl
        cases hc
        have y := NumText.toDigits_all (48 :: r) hd
        rw [← e, TL.numL_val m] at y
        have z := congrArg List.length y
        have z1 : (Nat.toDigits 10 m).length = (48 :: r).length := by
          rw [← e]
          exact (List.length_map _).symm
        rw [z1, e, List.dropWhile_cons] at z
        have dl : ∀ q : List Nat, (List.dropWhile (fun x => x == 48) q).length ≤ q.length := fun q => (List.dropWhile_sublist _).length_le
        have dr := dl r
        simp only [beq_self_eq_true, if_true] at z
        generalize List.dropWhile (fun x => x == 48) r = q at z dr
        rw [List.length_cons] at z hl
        cases q with
        | nil =>
          have z2 : r.length + 1 = 1 := z
          omega
        | cons a q =>
          have z2 : r.length + 1 = ((a :: q).map Char.ofNat).length := z
          rw [List.length_map] at z2
          omega
  have hv : PySem.intText? ⟨(TL.numL m).toArray⟩ = some (m : Int) := by
    have q := intText_digits (x := ⟨(TL.numL m).toArray⟩) (by simpa using hd) (by simpa using hne) (by show (TL.numL m).toArray.size ≤ 4300; simp; omega)
    rw [q]
    show some ((NumText.digitsVal (TL.numL m) : Nat) : Int) = _
    rw [TL.numL_val]
  refine .num (by omega) l1 (run_app h (fun c hc => digs_of (hd c hc)) (fun c hc m => ho c hc (dig_w m))) l18 (hz.imp id fun q c hc => ?_) (by rw [sub_app h]; exact hv)
  have s0 := sgn_app h 0
  rw [Nat.add_zero, List.getElem?_append_left (by omega)] at s0
  rw [s0] at hc
  exact q c (by rw [List.head?_eq_getElem?]; exact hc)
theorem tk_txt {t : Str} {pre aft xs : List Nat} (hx : ∀ c ∈ xs, c ≠ 34 ∧ 32 ≤ c ∧ c ≤ 126) (h : t.cps.toList = pre ++ ((34 :: (xs ++ [34])) ++ aft)) : Tk t pre.length (34 :: (xs ++ [34])).length "text" (.str (mkS xs)) := by
  have s0 := sgn_app h 0
  rw [Nat.add_zero] at s0
  have h1 : t.cps.toList = (pre ++ [34]) ++ (xs ++ (34 :: aft)) := by
    rw [h]
    simp
  have lp : (pre ++ [34]).length = pre.length + 1 := by simp
  have e := sub_app h1
  rw [lp] at e
  have q : QuoteAt t (pre.length + 1) xs.length := by
    refine ⟨fun k hk => ⟨xs[k], ?_, hx _ (List.getElem_mem hk)⟩, ?_⟩
    · rw [← lp, sgn_app h1, List.getElem?_append_left hk, List.getElem?_eq_getElem hk]
    · rw [← lp, sgn_app h1, List.getElem?_append_right (Nat.le_refl _), Nat.sub_self]
      rfl
  have r := Tk.txt s0 q
  rw [e] at r
  have ll : (34 :: (xs ++ [34])).length = xs.length + 2 := by simp
  rw [ll]
  exact r
theorem tk_wrd {t s : Str} {pre aft : List Nat} {c : Nat} {xs : List Nat} (e : s.cps.toList = c :: xs) (hl : c ∈ LET.cps.toList) (hw : ∀ d ∈ c :: xs, d ∈ WSG.cps.toList) (ho : Off WSG aft) (h : t.cps.toList = pre ++ (s.cps.toList ++ aft)) : Tk t pre.length s.cps.toList.length (wkind s) (.str s) := by
  have lt := lenL h
  rw [List.length_append] at lt
  have s0 := sgn_app h 0
  rw [Nat.add_zero, e] at s0
  have es : (⟨s.cps.toList.toArray⟩ : Str) = s := rfl
  have z := sub_app h
  rw [es] at z
  have q := Tk.wrd (by omega) s0 hl (run_app h (by rw [e]; exact hw) ho)
  rw [z] at q
  exact q
theorem wkind_word {s : Str} (h : s ∉ KWS) : wkind s = "word" := if_neg h
theorem wkind_sign {s : Str} (h : s ∈ KWS) : wkind s = "sign" := if_pos h
/-- two signs, the second ahead in the list: why the text of the first is not taken for it -/
def chkS (s s' : Str) : Bool := match s'.cps.toList[0]?, s.cps.toList[0]? with
  | some d, some e => (d != e) || (match s'.cps.toList[1]? with
    | some d1 => (match s.cps.toList[1]? with
      | some e1 => d1 != e1
      | none => d1 == 61 && !(decide (s ∈ soloW)))
    | none => false)
  | _, _ => false
def fstS (s : Str) : Bool := match s.cps.toList[0]? with
  | some c => decide (c ∉ DIG.cps.toList) && decide (c ∉ LET.cps.toList) && decide (c ≠ 34)
  | none => false
theorem sgs_chk : ((List.range 14).all fun j => (List.range j).all fun i => chkS (SGS.getD j "") (SGS.getD i "")) = true := by decide +kernel
theorem sgs_fst : SGS.all fstS = true := by decide +kernel
theorem tk_sgs {t s : Str} {pre aft : List Nat} (hs : s ∈ SGS) (ho : s ∈ soloW ∨ aft.head? ≠ some 61) (h : t.cps.toList = pre ++ (s.cps.toList ++ aft)) : Tk t pre.length s.cps.toList.length "sign" (.str s) := by
  have f := List.all_eq_true.mp sgs_fst s hs
  unfold fstS at f
  have ls : s.cps.toList.length = s.length := Array.length_toList
  rw [ls]
  cases hc : s.cps.toList[0]? with
  | none =>
    rw [hc] at f
    cases f
  | some c =>
    rw [hc] at f
    simp only [Bool.and_eq_true, decide_eq_true_eq] at f
    have lc : 0 < s.cps.toList.length := (List.getElem?_eq_some_iff.mp hc).1
    have s0 := sgn_app h 0
    rw [Nat.add_zero, List.getElem?_append_left lc, hc] at s0
    obtain ⟨j, hj⟩ := List.mem_iff_getElem?.mp hs
    have j14 : j < 14 := (List.getElem?_eq_some_iff.mp hj).1
    refine Tk.sgn s0 f.1.1 f.1.2 f.2 ⟨j, hj, cut_app h, fun i s' hi hs' z => ?_⟩
    have q := List.all_eq_true.mp (List.all_eq_true.mp sgs_chk j (List.mem_range.mpr j14)) i (List.mem_range.mpr hi)
    rw [List.getD_eq_getElem?_getD, List.getD_eq_getElem?_getD, hj, hs'] at q
    have q2 : chkS s s' = true := q
    unfold chkS at q2
    rw [hc] at q2
    cases h0 : s'.cps.toList[0]? with
    | none =>
      rw [h0] at q2
      cases q2
    | some d =>
      rw [h0] at q2
      have y := cut_at z h0
      rw [Nat.add_zero, s0] at y
      have y2 : c = d := Option.some.inj y
      subst y2
      simp only [bne_self_eq_false, Bool.false_or] at q2
      cases h1 : s'.cps.toList[1]? with
      | none =>
        rw [h1] at q2
        cases q2
      | some d1 =>
        rw [h1] at q2
        have y1 := cut_at z h1
        rw [sgn_app h] at y1
        cases h2 : s.cps.toList[1]? with
        | some e1 =>
          rw [h2] at q2
          have l1 := (List.getElem?_eq_some_iff.mp h2).1
          rw [List.getElem?_append_left l1, h2] at y1
          have y3 : e1 = d1 := Option.some.inj y1
          subst y3
          simp at q2
        | none =>
          rw [h2] at q2
          simp only [Bool.and_eq_true, beq_iff_eq, Bool.not_eq_true', decide_eq_false_iff_not] at q2
          have l1 : s.cps.toList.length = 1 := by
            have := List.getElem?_eq_none_iff.mp h2
            omega
          rw [List.getElem?_append_right (by omega), l1, Nat.sub_self, ← List.head?_eq_getElem?, q2.1] at y1
          rcases ho with ho | ho
          · exact q2.2 ho
          · exact ho y1
def kwB (s : Str) : Bool := match s.cps.toList with
  | c :: xs => decide (c ∈ LET.cps.toList) && (c :: xs).all fun d => decide (d ∈ WSG.cps.toList)
  | [] => false
theorem kws_ok : KWS.all kwB = true := by decide +kernel
theorem sig_split {s : Str} (h : s ∈ sigW) : s ∈ SGS ∨ s ∈ KWS := by
  have e : sigW = SGS ++ KWS := rfl
  rw [e] at h
  exact List.mem_append.mp h
theorem Wo.tk {w : Wo} {t : Str} {pre aft : List Nat} (ok : w.Ok) (sp : Sep w aft) (h : t.cps.toList = pre ++ (w.cs ++ aft)) : Tk t pre.length w.cs.length w.k w.v := by
  cases ok with
  | num hm =>
    rcases sp with ⟨s, _, z⟩ | sp
    · cases z
    · exact tk_num hm sp.1 h
  | txt hx => exact tk_txt hx h
  | wrd hn =>
    rcases sp with ⟨s, _, z⟩ | sp
    · cases z
    · obtain ⟨⟨c, xs, e, hl, hw⟩, nk⟩ := hn
      have q := tk_wrd e hl hw sp.1 h
      rw [wkind_word nk] at q
      exact q
  | @sg s hs =>
    rcases sig_split hs with m | m
    · exact tk_sgs m (sp.imp (fun ⟨s', m', e⟩ => by cases e; exact m') fun q => q.2) h
    · have f := List.all_eq_true.mp kws_ok s m
      unfold kwB at f
      rcases sp with ⟨s', m', e⟩ | sp
      · cases e
        exact absurd m ((by decide +kernel : ∀ s ∈ soloW, s ∉ KWS) s m')
      · cases hc : s.cps.toList with
        | nil =>
          rw [hc] at f
          cases f
        | cons c xs =>
          rw [hc] at f
          simp only [Bool.and_eq_true, decide_eq_true_eq, List.all_eq_true] at f
          have q := tk_wrd hc f.1 f.2 sp.1 h
          rw [wkind_sign m] at q
          exact q
theorem Wo.hd {w : Wo} (ok : w.Ok) : ∃ c r, w.cs = c :: r ∧ c ∉ BLK.cps.toList := by
  cases ok with
  | @num m hm =>
    have hd : NumText.AllDigits (TL.numL m) := TL.numL_digits m
    cases e : TL.numL m with
    | nil => exact absurd e (TL.numL_ne m)
    | cons c r =>
      refine ⟨c, r, e, w_bk (dig_w (digs_of (hd c (by rw [e]; exact List.mem_cons_self))))⟩
  | txt _ => exact ⟨34, _, rfl, by decide +kernel⟩
  | wrd hn =>
    obtain ⟨⟨c, xs, e, hl, hw⟩, nk⟩ := hn
    exact ⟨c, xs, e, w_bk (let_w hl)⟩
  | @sg s hs =>
    have q : ∀ s ∈ sigW, (match s.cps.toList with | c :: _ => decide (c ∉ BLK.cps.toList) | [] => false) = true := by decide +kernel
    have f := q s hs
    cases e : s.cps.toList with
    | nil =>
      rw [e] at f
      cases f
    | cons c r =>
      rw [e] at f
      exact ⟨c, r, e, of_decide_eq_true f⟩
abbrev Pc := List Nat × Wo
/-- words, with the blanks ahead of each -/
def lay : List Pc → List Nat
  | [] => []
  | p :: r => p.1 ++ (p.2.cs ++ lay r)
def Apart (p q : Pc) : Prop := q.1 ≠ [] ∨ Solo p.2 ∨ Solo q.2
def Gap : List Pc → Prop
  | [] => True
  | p :: r => Bk p.1 ∧ p.2.Ok ∧ (∀ q, r.head? = some q → Apart p q) ∧ Gap r
theorem solo_hd {s : Str} (h : s ∈ soloW) : ∃ c, s.cps.toList = [c] ∧ c ∉ WSG.cps.toList ∧ c ≠ 61 := by
  have q : ∀ s ∈ soloW, (match s.cps.toList with | [c] => decide (c ∉ WSG.cps.toList) && decide (c ≠ 61) | _ => false) = true := by decide +kernel
  have f := q s h
  match e : s.cps.toList with
  | [] =>
    rw [e] at f
    cases f
  | [c] =>
    rw [e] at f
    simp only [Bool.and_eq_true, decide_eq_true_eq] at f
    exact ⟨c, rfl, f.1, f.2⟩
  | c :: d :: r =>
    rw [e] at f
    cases f
theorem gap_sep {p : Pc} {r : List Pc} (g : Gap (p :: r)) : Sep p.2 (lay r) := by
  obtain ⟨_, _, ap, g2⟩ := g
  cases r with
  | nil => exact .inr ⟨(fun c hc => nomatch hc), (fun z => nomatch z)⟩
  | cons q r =>
    obtain ⟨bk, _, _, _⟩ := g2
    rcases ap q rfl with h | h | ⟨s, hs, e⟩
    · obtain ⟨b, w⟩ := q
      cases b with
      | nil => exact absurd rfl h
      | cons c b =>
        have k := bk_w (bk c List.mem_cons_self)
        exact .inr ⟨off_hd k.1, (fun z => k.2 (Option.some.inj z))⟩
    · exact .inl h
    · obtain ⟨b, w⟩ := q
      cases b with
      | cons c b =>
        have k := bk_w (bk c List.mem_cons_self)
        exact .inr ⟨off_hd k.1, (fun z => k.2 (Option.some.inj z))⟩
      | nil =>
        have e2 : w = .sg s := e
        subst e2
        obtain ⟨c, hc, k1, k2⟩ := solo_hd hs
        have ee : lay (([], Wo.sg s) :: r) = c :: lay r := by
          show [] ++ (s.cps.toList ++ lay r) = _
          rw [hc]
          rfl
        rw [ee]
        exact .inr ⟨off_hd k1, (fun z => k2 (Option.some.inj z))⟩
theorem gap_off {ps : List Pc} (g : Gap ps) : ∃ b rest, lay ps = b ++ rest ∧ Bk b ∧ Off BLK rest ∧ b = (match ps with | [] => [] | p :: _ => p.1) := by
  cases ps with
  | nil => exact ⟨[], [], rfl, (fun c h => nomatch h), (fun c h => nomatch h), rfl⟩
  | cons p r =>
    obtain ⟨bk, ok, _, _⟩ := g
    refine ⟨p.1, p.2.cs ++ lay r, rfl, bk, ?_, rfl⟩
    obtain ⟨c, x, e, n⟩ := Wo.hd ok
    rw [e]
    exact off_hd n
theorem lay_items {t : Str} : ∀ {ps : List Pc} (pre : List Nat), Gap ps → t.cps.toList = pre ++ lay ps → ∃ (b : Nat) (items : List Tok3), RunAt t BLK pre.length b ∧ pre.length + b ≤ t.length ∧ Lay t (pre.length + b) items ∧ items.map (fun x => (x.1, x.2.1)) = ps.map fun p => (p.2.k, p.2.v)
  | [], pre, g, h => by
    have l := lenL h
    have l2 : t.length = pre.length := l
    refine ⟨0, [], ?_, Nat.le_of_eq l2.symm, ?_, rfl⟩
    · exact run_app (xs := []) (rest := []) h (fun c hc => nomatch hc) (fun c hc => nomatch hc)
    · rw [Nat.add_zero, ← l2]
      exact .nil
  | (b, w) :: r, pre, g, h => by
    have sp := gap_sep g
    obtain ⟨bk, ok, _, g2⟩ := g
    have h1 : t.cps.toList = (pre ++ b) ++ (w.cs ++ lay r) := by
      rw [h]
      show pre ++ (b ++ (w.cs ++ lay r)) = _
      rw [List.append_assoc]
    have h2 : t.cps.toList = ((pre ++ b) ++ w.cs) ++ lay r := by rw [h1, List.append_assoc (pre ++ b)]
    obtain ⟨b', items, run, le, ly, em⟩ := lay_items _ g2 h2
    obtain ⟨c, x, e, n⟩ := Wo.hd ok
    have l1 : 1 ≤ w.cs.length := by rw [e, List.length_cons]; exact Nat.le_add_left 1 _
    have tk := Wo.tk ok sp h1
    rw [List.length_append, List.length_append] at run le ly
    rw [List.length_append] at tk
    refine ⟨b.length, (w.k, w.v, pre.length + b.length) :: items, run_app h bk (by rw [e]; exact off_hd n), by omega, .cons tk l1 run le ly, ?_⟩
    rw [List.map_cons, List.map_cons, em]
end K72
set_option maxHeartbeats 4000000
namespace K72
open PySem PySem.Spec PyProof.Rows L2 Evl My LamX
/-! The words of expressions and statements, and what is read of them -/
inductive TkA (E : Exp → List Wo → Prop) : List Exp → List Wo → Prop
  | nil : TkA E [] []
  | cons {e : Exp} {es : List Exp} {w ws : List Wo} : E e w → TkA E es ws → TkA E (e :: es) (.sg "," :: (w ++ ws))
inductive TkW (E : Exp → List Wo → Prop) (g : Nat) : List Str → List Exp → List Wo → Prop
  | nil : TkW E g [] [] []
  | cons {s : Str} {ss : List Str} {e : Exp} {es : List Exp} {w ws : List Wo} : s ∈ GRS.getD g [] → E e w → TkW E g ss es ws → TkW E g (s :: ss) (e :: es) (.sg s :: (w ++ ws))
/-- n: levels of nesting; r: the group from which on a row needs no parentheses -/
inductive TkE (E : Nat → Nat → Exp → List Wo → Prop) : Nat → Nat → Exp → List Wo → Prop
  | num {n r m : Nat} : m < 10 ^ 18 → TkE E n r (.num m) [.num m]
  | txt {n r : Nat} {xs : List Nat} : (∀ c ∈ xs, c ≠ 34 ∧ 32 ≤ c ∧ c ≤ 126) → TkE E n r (.txt xs) [.txt xs]
  | var {n r : Nat} {s : Str} : Nm s → TkE E n r (.var s) [.wrd s]
  | call {n r : Nat} {s : Str} {e : Exp} {es : List Exp} {w ws : List Wo} : (s, es.length + 1) ∈ ARGN → E n 0 e w → TkA (E n 0) es ws → TkE E (n + 1) r (.call s (e :: es)) (.wrd s :: .sg "(" :: (w ++ (ws ++ [.sg ")"])))
  | row {n r g : Nat} {ss : List Str} {o : Exp} {es : List Exp} {w ws : List Wo} : r ≤ g → g < 5 → E n (g + 1) o w → TkW (E n (g + 1)) g ss es ws → (g = 2 → ss.length ≤ 1) → ss.length ≤ 100 → ss ≠ [] → TkE E n r (.row g ss o es) (w ++ ws)
  | par {n r : Nat} {e : Exp} {ws : List Wo} : E n 0 e ws → TkE E (n + 1) r e (.sg "(" :: (ws ++ [.sg ")"]))
def TKE : Nat → Nat → Nat → Exp → List Wo → Prop
  | 0 => fun _ _ _ _ => False
  | h + 1 => TkE (TKE h)
theorem argn_nm : ∀ y ∈ ARGN, y.1 ∉ KWS ∧ kwB y.1 = true := by decide +kernel
theorem nm_of {s : Str} (h : kwB s = true) (n : s ∉ KWS) : Nm s := by
  unfold kwB at h
  cases hc : s.cps.toList with
  | nil =>
    rw [hc] at h
    cases h
  | cons c xs =>
    rw [hc] at h
    simp only [Bool.and_eq_true, decide_eq_true_eq, List.all_eq_true] at h
    exact ⟨⟨c, xs, hc, h.1, h.2⟩, n⟩
theorem gr_sig : ∀ g, g < 5 → ∀ s ∈ GRS.getD g [], s ∈ sigW ∧ s ≠ "=" ∧ s ∉ soloW ∧ s.length ≤ 3 := by decide +kernel
theorem gr_five {g : Nat} {s : Str} (h : s ∈ GRS.getD g []) : g < 5 := by
  by_cases q : g < 5
  · exact q
  · have e : GRS.getD g [] = [] := by
      rw [List.getD_eq_getElem?_getD, List.getElem?_eq_none_iff.mpr (by show 5 ≤ g; omega)]
      rfl
    rw [e] at h
    cases h
/-- all words are fit -/
theorem TKE.ok : ∀ {h n r : Nat} {e : Exp} {ws : List Wo}, TKE h n r e ws → ∀ w ∈ ws, w.Ok
  | 0, _, _, _, _, t => False.elim t
  | h + 1, n, r, e, ws, t => by
    have ih : ∀ {n r : Nat} {e : Exp} {ws : List Wo}, TKE h n r e ws → ∀ w ∈ ws, w.Ok := fun t => TKE.ok t
    have sg : ∀ {s : Str}, s ∈ sigW → Wo.Ok (.sg s) := fun m => .sg m
    have ihA : ∀ {n r : Nat} {es : List Exp} {ws : List Wo}, TkA (TKE h n r) es ws → ∀ w ∈ ws, w.Ok := fun t => by
      induction t with
      | nil => exact fun w m => nomatch m
      | cons t1 _ i =>
        intro w m
        rcases List.mem_cons.mp m with rfl | m
        · exact sg (by decide +kernel)
        · rcases List.mem_append.mp m with m | m
          · exact ih t1 w m
          · exact i w m
    have ihW : ∀ {n r g : Nat} {ss : List Str} {es : List Exp} {ws : List Wo}, TkW (TKE h n r) g ss es ws → ∀ w ∈ ws, w.Ok := fun t => by
      induction t with
      | nil => exact fun w m => nomatch m
      | cons hs t1 _ i =>
        intro w m
        rcases List.mem_cons.mp m with rfl | m
        · exact sg (gr_sig _ (gr_five hs) _ hs).1
        · rcases List.mem_append.mp m with m | m
          · exact ih t1 w m
          · exact i w m
    have t' : TkE (TKE h) n r e ws := t
    intro w m
    cases t' with
    | num hm =>
      cases List.mem_singleton.mp m
      exact .num hm
    | txt hx =>
      cases List.mem_singleton.mp m
      exact .txt hx
    | var hn =>
      cases List.mem_singleton.mp m
      exact .wrd hn
    | call hs t1 ta =>
      rcases List.mem_cons.mp m with rfl | m
      · have q := argn_nm _ hs
        exact .wrd (nm_of q.2 q.1)
      rcases List.mem_cons.mp m with rfl | m
      · exact sg (by decide +kernel)
      rcases List.mem_append.mp m with m | m
      · exact ih t1 w m
      rcases List.mem_append.mp m with m | m
      · exact ihA ta w m
      · cases List.mem_singleton.mp m
        exact sg (by decide +kernel)
    | row _ _ t1 tw _ _ _ =>
      rcases List.mem_append.mp m with m | m
      · exact ih t1 w m
      · exact ihW tw w m
    | par t1 =>
      rcases List.mem_cons.mp m with rfl | m
      · exact sg (by decide +kernel)
      rcases List.mem_append.mp m with m | m
      · exact ih t1 w m
      · cases List.mem_singleton.mp m
        exact sg (by decide +kernel)
/-- how an expression begins -/
def StartW (w : Wo) : Prop := (∃ m, w = .num m) ∨ (∃ xs, w = .txt xs) ∨ (∃ s, w = .wrd s) ∨ w = .sg "("
def NextW (w : Wo) (ws : List Wo) : Prop := ∀ s, w = .wrd s → ws = [] ∨ ∃ z ws', ws = .sg z :: ws' ∧ z ∈ sigW ∧ z ≠ "="
theorem TKE.first : ∀ {h n r : Nat} {e : Exp} {ws : List Wo}, TKE h n r e ws → ∃ w ws', ws = w :: ws' ∧ StartW w ∧ NextW w ws'
  | 0, _, _, _, _, t => False.elim t
  | h + 1, n, r, e, ws, t => by
    have t' : TkE (TKE h) n r e ws := t
    cases t' with
    | num hm => exact ⟨_, _, rfl, .inl ⟨_, rfl⟩, fun s z => .inl rfl⟩
    | txt hx => exact ⟨_, _, rfl, .inr (.inl ⟨_, rfl⟩), fun s z => .inl rfl⟩
    | var hn => exact ⟨_, _, rfl, .inr (.inr (.inl ⟨_, rfl⟩)), fun s z => .inl rfl⟩
    | call hs t1 ta => exact ⟨_, _, rfl, .inr (.inr (.inl ⟨_, rfl⟩)), fun s z => .inr ⟨_, _, rfl, by decide +kernel, by decide +kernel⟩⟩
    | par t1 => exact ⟨_, _, rfl, .inr (.inr (.inr rfl)), fun s z => nomatch z⟩
    | row _ g5 t1 tw _ _ ne =>
      obtain ⟨w, ws', e, st, nx⟩ := TKE.first t1
      subst e
      refine ⟨w, _, rfl, st, fun s z => ?_⟩
      rcases nx s z with q | ⟨z', ws2, q, m, ne'⟩
      · subst q
        cases tw with
        | nil => exact absurd rfl ne
        | cons hs t2 tr =>
          have q := gr_sig _ g5 _ hs
          exact .inr ⟨_, _, rfl, q.1, q.2.1⟩
      · subst q
        exact .inr ⟨z', _, rfl, m, ne'⟩
/-- the words stand from p on -/
def Seg (toks : List Tok3) (p : Nat) (ws : List Wo) : Prop := ∀ i w, ws[i]? = some w → ∃ a, toks[p + i]? = some ((w.k, w.v, a) : Tok3)
section
variable {toks : List Tok3} {p : Nat} {w : Wo} {us ws : List Wo}
theorem Seg.hd (h : Seg toks p (w :: ws)) : ∃ a, toks[p]? = some ((w.k, w.v, a) : Tok3) := h 0 w rfl
theorem Seg.tl (h : Seg toks p (w :: ws)) : Seg toks (p + 1) ws := fun i x hx => by
  obtain ⟨a, ha⟩ := h (i + 1) x hx
  exact ⟨a, by rw [Nat.add_assoc, Nat.add_comm 1 i]; exact ha⟩
theorem Seg.l (h : Seg toks p (us ++ ws)) : Seg toks p us := fun i x hx => h i x (by rw [List.getElem?_append_left (List.getElem?_eq_some_iff.mp hx).1]; exact hx)
theorem Seg.r (h : Seg toks p (us ++ ws)) : Seg toks (p + us.length) ws := fun i x hx => by
  obtain ⟨a, ha⟩ := h (us.length + i) x (by rw [List.getElem?_append_right (by omega), Nat.add_sub_cancel_left]; exact hx)
  exact ⟨a, by rw [Nat.add_assoc]; exact ha⟩
end
theorem Wo.sc (w : Wo) : Sc w.v := by
  cases w with
  | num m => exact .inr ⟨_, rfl⟩
  | txt xs => exact .inl ⟨_, rfl⟩
  | wrd s => exact .inl ⟨_, rfl⟩
  | sg s => exact .inl ⟨_, rfl⟩
theorem Wo.k3 {w : Wo} (h : ∀ s, w ≠ .sg s) : w.k ∈ kinds3 := by
  cases w with
  | num m => exact (by decide +kernel : ("number" : Str) ∈ kinds3)
  | txt xs => exact (by decide +kernel : ("text" : Str) ∈ kinds3)
  | wrd s => exact (by decide +kernel : ("word" : Str) ∈ kinds3)
  | sg s => exact absurd rfl (h s)
theorem opB_sg {s : Str} {a g : Nat} : opB (("sign", .str s, a) : Tok3) g = decide (s ∈ GRS.getD g []) := by
  unfold opB
  rw [show decide ((("sign", V.str s, a) : Tok3).1 = "sign") = true from decide_eq_true rfl, Bool.true_and]
  exact inV_strs _ _
/-- what may stand behind an operand of the groups from r on -/
structure Fol (x : Tok3) (r : Nat) : Prop where
  sc : Sc x.2.1
  op : ∀ g, r ≤ g → g < 5 → opB x g = false
  no : isB x "(" = false
theorem fol_sg {s : Str} {a r : Nat} (h1 : ∀ g, r ≤ g → g < 5 → s ∉ GRS.getD g []) (h2 : s ≠ "(") : Fol (("sign", .str s, a) : Tok3) r :=
  ⟨sc_s, fun g a b => by rw [opB_sg]; exact decide_eq_false (h1 g a b), by rw [isB_sg]; exact decide_eq_false h2⟩
theorem fol_end {s : Str} {a r : Nat} (h : s ∈ ([")", ",", ";", "{"] : List Str)) : Fol (("sign", .str s, a) : Tok3) r := by
  refine fol_sg (fun g _ b => ?_) ?_
  · exact (by decide +kernel : ∀ s ∈ ([")", ",", ";", "{"] : List Str), ∀ g, g < 5 → s ∉ GRS.getD g []) s h g b
  · exact (by decide +kernel : ∀ s ∈ ([")", ",", ";", "{"] : List Str), s ≠ "(") s h
theorem fol_op {s : Str} {a g : Nat} (h : s ∈ GRS.getD g []) : Fol (("sign", .str s, a) : Tok3) (g + 1) := by
  have g5 := gr_five h
  refine fol_sg (fun g' a b => ?_) ?_
  · exact (by decide +kernel : ∀ g, g < 5 → ∀ s ∈ GRS.getD g [], ∀ g', g' < 5 → g + 1 ≤ g' → s ∉ GRS.getD g' []) g g5 s h g' b a
  · exact (by decide +kernel : ∀ g, g < 5 → ∀ s ∈ GRS.getD g [], s ≠ "(") g g5 s h
theorem Fol.mono {x : Tok3} {r r' : Nat} (f : Fol x r) (h : r ≤ r') : Fol x r' := ⟨f.sc, fun g a b => f.op g (Nat.le_trans h a) b, f.no⟩
/-- an operand alone is read in all the groups ahead of it -/
theorem RowN.up {O : Par} {toks : List Tok3} {p p' : Nat} {d : PyData} {x : Tok3} {j : Nat} (h : RowN O j toks p p' d) (hx : toks[p']? = some x) (sx : Sc x.2.1) : ∀ k, j + k ≤ 5 → (∀ g, 5 - (j + k) ≤ g → g < 5 - j → opB x g = false) → RowN O (j + k) toks p p' d
  | 0, _, _ => h
  | k + 1, l, f => by
    have ih := RowN.up h hx sx k (by omega) fun g a b => f g (by omega) b
    have q : RowOf (4 - (j + k)) (RowN O (j + k)) toks p p' d := ⟨p', d, [], [], x, ih, .nil, hx, sx, f _ (by omega) (by omega), fun _ => Nat.zero_le _, Nat.zero_le _, rfl⟩
    exact q
theorem par_e : ∀ {h n r : Nat} {e : Exp} {ws : List Wo}, TKE h n r e ws → r ≤ 5 → ∀ {toks : List Tok3} {p : Nat} {x : Tok3}, Seg toks p ws → toks[p + ws.length]? = some x → Fol x r → RowN (OpdR (XP n)) (5 - r) toks p (p + ws.length) (exD e)
  | 0, _, _, _, _, t => False.elim t
  | h + 1, n, r, e, ws, t => by
    have t' : TkE (TKE h) n r e ws := t
    intro r5 toks p x sg hx fo
    have up : ∀ {d : PyData}, OpdR (XP n) toks p (p + ws.length) d → RowN (OpdR (XP n)) (5 - r) toks p (p + ws.length) d := fun {d} q => by
      have z := RowN.up (O := OpdR (XP n)) (j := 0) q hx fo.sc (5 - r) (by omega) fun g a b => fo.op g (by omega) (by omega)
      rw [Nat.zero_add] at z
      exact z
    cases t' with
    | @num _ _ m hm =>
      obtain ⟨a, ha⟩ := sg.hd
      rw [exD]
      exact up (.num ha)
    | txt hx2 =>
      obtain ⟨a, ha⟩ := sg.hd
      rw [exD]
      exact up (.txt ha)
    | var hn =>
      obtain ⟨a, ha⟩ := sg.hd
      rw [exD]
      exact up (.var ha hx fo.sc fo.no)
    | @par n _ e us t1 =>
      obtain ⟨a, ha⟩ := sg.hd
      have s2 := sg.tl.l
      obtain ⟨b, hb⟩ := sg.tl.r.hd
      have q := par_e t1 (Nat.zero_le _) s2 hb (fol_end (by decide +kernel))
      have l : (Wo.sg "(" :: (us ++ [Wo.sg ")"])).length = us.length + 1 + 1 := by simp
      have e1 : p + (Wo.sg "(" :: (us ++ [Wo.sg ")"])).length = (p + 1 + us.length) + 1 := by rw [l]; omega
      rw [e1] at up ⊢
      exact up (.par ha q hb)
    | @call n _ s e es w us hs t1 ta =>
      obtain ⟨a, ha⟩ := sg.hd
      have g1 := sg.tl
      obtain ⟨b, hb⟩ := g1.hd
      have g2 := g1.tl
      obtain ⟨w1, wr, ew, st, _⟩ := TKE.first t1
      have g3 := g2.r
      -- the further arguments
      have args : ∀ {es : List Exp} {us : List Wo}, TkA (TKE h n 0) es us → ∀ {q : Nat}, Seg toks q (us ++ [Wo.sg ")"]) → (∃ y : Tok3, toks[q]? = some y ∧ Fol y 0) ∧ ArgT (XP (n + 1)) toks q (q + us.length) (exDs es) := fun ta => by
        induction ta with
        | nil =>
          intro q sq
          obtain ⟨c, hc⟩ := sq.hd
          refine ⟨⟨_, hc, fol_end (by decide +kernel)⟩, ?_⟩
          rw [exDs]
          exact .nil
        | @cons e es w ws t2 _ ih =>
          intro q sq
          have sq' : Seg toks q (Wo.sg "," :: (w ++ (ws ++ [Wo.sg ")"]))) := by
            have z : (Wo.sg "," :: (w ++ ws)) ++ [Wo.sg ")"] = Wo.sg "," :: (w ++ (ws ++ [Wo.sg ")"])) := by simp
            rw [← z]
            exact sq
          obtain ⟨c, hc⟩ := sq'.hd
          obtain ⟨⟨y, hy, fy⟩, ar⟩ := ih sq'.tl.r
          have q2 := par_e t2 (Nat.zero_le _) sq'.tl.l hy fy
          refine ⟨⟨_, hc, fol_end (by decide +kernel)⟩, ?_⟩
          rw [exDs]
          have l : q + (Wo.sg "," :: (w ++ ws)).length = q + 1 + w.length + ws.length := by
            rw [List.length_cons, List.length_append]
            omega
          rw [l]
          exact .cons hc q2 ar
      obtain ⟨⟨y, hy, fy⟩, ar⟩ := args ta g3
      have q1 := par_e t1 (Nat.zero_le _) g2.l hy fy
      obtain ⟨c, hc⟩ := g3.r.hd
      have g2l := g2.l
      subst ew
      obtain ⟨d, hd⟩ := g2l.hd
      have nb : isB ((w1.k, w1.v, d) : Tok3) ")" = false := by
        rcases st with ⟨m, rfl⟩ | ⟨xs, rfl⟩ | ⟨z, rfl⟩ | rfl
        · exact isB_no (by decide +kernel : ("number" : Str) ∈ kinds3)
        · exact isB_no (by decide +kernel : ("text" : Str) ∈ kinds3)
        · exact isB_no (by decide +kernel : ("word" : Str) ∈ kinds3)
        · show isB (("sign", .str "(", d) : Tok3) ")" = false
          rw [isB_sg]
          decide +kernel
      have l : p + (Wo.wrd s :: Wo.sg "(" :: ((w1 :: wr) ++ (us ++ [Wo.sg ")"]))).length = p + 1 + 1 + (w1 :: wr).length + us.length + 1 := by
        simp only [List.length_cons, List.length_append, List.length_nil]
        omega
      rw [l] at up ⊢
      have el : (exDs es).length = es.length := exDs_len es
      have cr : CallR (XP (n + 1)) s toks (p + 1) (p + 1 + 1 + (w1 :: wr).length + us.length + 1) (.tuple [.str "call", .str s, .tuple (exD e :: exDs es)]) :=
        ⟨_, _, b, c, _, _, _, rfl, hb, hd, w1.sc, nb, q1, ar, hc, by rw [el]; exact hs, rfl⟩
      rw [exD, exDs]
      exact up (.call ha cr)
    | @row _ _ g ss o es w us rg g5 t1 tw h2 l100 ne =>
      have tl2 : ∀ {ss : List Str} {es : List Exp} {us : List Wo}, TkW (TKE h n (g + 1)) g ss es us → ∀ {q : Nat}, Seg toks q us → toks[q + us.length]? = some x → (∃ y : Tok3, toks[q]? = some y ∧ Fol y (g + 1)) ∧ Tl2 g (RowN (OpdR (XP n)) (5 - (g + 1))) toks q (q + us.length) ss (exDs es) := fun tw => by
        induction tw with
        | nil =>
          intro q sq hx
          refine ⟨⟨x, hx, fo.mono (by omega)⟩, ?_⟩
          rw [exDs]
          exact .nil
        | @cons s ss e es w ws hs t2 _ ih =>
          intro q sq hx
          obtain ⟨c, hc⟩ := sq.hd
          have l : q + (Wo.sg s :: (w ++ ws)).length = q + 1 + w.length + ws.length := by
            rw [List.length_cons, List.length_append]
            omega
          rw [l] at hx ⊢
          obtain ⟨⟨y, hy, fy⟩, tl⟩ := ih sq.tl.r hx
          have q2 := par_e t2 (by omega) sq.tl.l hy fy
          refine ⟨⟨_, hc, fol_op hs⟩, ?_⟩
          rw [exDs]
          exact .cons hc hs q2 tl
      rw [List.length_append, ← Nat.add_assoc] at hx ⊢
      obtain ⟨⟨y, hy, fy⟩, tl⟩ := tl2 tw sg.r hx
      have q1 := par_e t1 (by omega) sg.l hy fy
      have e4 : 5 - (g + 1) = 4 - g := by omega
      rw [e4] at q1 tl
      have q : RowOf g (RowN (OpdR (XP n)) (4 - g)) toks p (p + w.length + us.length) (exD (.row g ss o es)) := by
        refine ⟨_, _, _, _, x, q1, tl, hx, fo.sc, fo.op g rg g5, h2, l100, ?_⟩
        rw [exD]
        cases ss with
        | nil => exact absurd rfl ne
        | cons s r => rfl
      have q3 : RowN (OpdR (XP n)) (4 - g + 1) toks p (p + w.length + us.length) (exD (.row g ss o es)) := by
        have z : 4 - (4 - g) = g := by omega
        show RowOf (4 - (4 - g)) _ _ _ _ _
        rw [z]
        exact q
      have q4 := RowN.up q3 hx fo.sc (g - r) (by omega) fun g' a b => fo.op g' (by omega) (by omega)
      have e5 : 4 - g + 1 + (g - r) = 5 - r := by omega
      rw [e5] at q4
      exact q4
end K72
set_option maxHeartbeats 4000000
namespace K72
open PySem PySem.Spec PyProof.Rows L2 Evl My LamX
/-! The words of statements, and what is read of them -/
inductive TkO (B : List Stm → List Wo → Prop) : List Stm → List Wo → Prop
  | no : TkO B [] []
  | yes {c : List Stm} {cs : List Wo} : B c cs → TkO B c (.sg "else" :: cs)
inductive TkS (E : Exp → List Wo → Prop) (B : List Stm → List Wo → Prop) : Stm → List Wo → Prop
  | set {s : Str} {e : Exp} {w : List Wo} : Nm s → E e w → TkS E B (.set s e) (.wrd s :: .sg "=" :: (w ++ [.sg ";"]))
  | tell {e : Exp} {w : List Wo} : E e w → TkS E B (.tell e) (.sg "tell" :: (w ++ [.sg ";"]))
  | do_ {e : Exp} {w : List Wo} : E e w → TkS E B (.do_ e) (w ++ [.sg ";"])
  | while_ {e : Exp} {b : List Stm} {w bs : List Wo} : E e w → B b bs → TkS E B (.while_ e b) (.sg "while" :: (w ++ bs))
  | for_ {s : Str} {e : Exp} {b : List Stm} {w bs : List Wo} : Nm s → E e w → B b bs → TkS E B (.for_ s e b) (.sg "for" :: .wrd s :: .sg "in" :: (w ++ bs))
  | if_ {e : Exp} {b c : List Stm} {w bs os : List Wo} : E e w → B b bs → TkO B c os → TkS E B (.if_ e b c) (.sg "if" :: (w ++ (bs ++ os)))
  | try_ {b c : List Stm} {bs os : List Wo} : B b bs → TkO B c os → TkS E B (.try_ b c) (.sg "try" :: (bs ++ os))
inductive TkM (S : Stm → List Wo → Prop) : List Stm → List Wo → Prop
  | nil : TkM S [] []
  | cons {s : Stm} {b : List Stm} {w ws : List Wo} : S s w → TkM S b ws → TkM S (s :: b) (w ++ ws)
def TkB (S : Stm → List Wo → Prop) (b : List Stm) (bs : List Wo) : Prop := ∃ ws, TkM S b ws ∧ b.length ≤ 900 ∧ bs = .sg "{" :: (ws ++ [.sg "}"])
def TKS (E : Exp → List Wo → Prop) : Nat → Stm → List Wo → Prop
  | 0 => TkS E fun _ _ => False
  | m + 1 => TkS E (TkB (TKS E m))
section
variable {E : Exp → List Wo → Prop} {B : List Stm → List Wo → Prop} {S : Stm → List Wo → Prop}
theorem TkO.ok (hB : ∀ b bs, B b bs → ∀ w ∈ bs, w.Ok) {c : List Stm} {cs : List Wo} (t : TkO B c cs) : ∀ w ∈ cs, w.Ok := by
  cases t with
  | no => exact fun w m => nomatch m
  | yes h =>
    intro w m
    rcases List.mem_cons.mp m with rfl | m
    · exact .sg (by decide +kernel)
    · exact hB _ _ h w m
theorem TkS.ok (hE : ∀ e ws, E e ws → ∀ w ∈ ws, w.Ok) (hB : ∀ b bs, B b bs → ∀ w ∈ bs, w.Ok) {s : Stm} {ws : List Wo} (t : TkS E B s ws) : ∀ w ∈ ws, w.Ok := by
  have sg : ∀ {s : Str}, s ∈ sigW → Wo.Ok (.sg s) := fun m => .sg m
  intro w m
  have sm : ∀ {us : List Wo}, (∀ w ∈ us, w.Ok) → w ∈ us ++ [Wo.sg ";"] → w.Ok := fun h m => by
    rcases List.mem_append.mp m with m | m
    · exact h w m
    · cases List.mem_singleton.mp m
      exact sg (by decide +kernel)
  cases t with
  | set hn he =>
    rcases List.mem_cons.mp m with rfl | m
    · exact .wrd hn
    rcases List.mem_cons.mp m with rfl | m
    · exact sg (by decide +kernel)
    · exact sm (hE _ _ he) m
  | tell he =>
    rcases List.mem_cons.mp m with rfl | m
    · exact sg (by decide +kernel)
    · exact sm (hE _ _ he) m
  | do_ he => exact sm (hE _ _ he) m
  | while_ he hb =>
    rcases List.mem_cons.mp m with rfl | m
    · exact sg (by decide +kernel)
    rcases List.mem_append.mp m with m | m
    · exact hE _ _ he w m
    · exact hB _ _ hb w m
  | for_ hn he hb =>
    rcases List.mem_cons.mp m with rfl | m
    · exact sg (by decide +kernel)
    rcases List.mem_cons.mp m with rfl | m
    · exact .wrd hn
    rcases List.mem_cons.mp m with rfl | m
    · exact sg (by decide +kernel)
    rcases List.mem_append.mp m with m | m
    · exact hE _ _ he w m
    · exact hB _ _ hb w m
  | if_ he hb ho =>
    rcases List.mem_cons.mp m with rfl | m
    · exact sg (by decide +kernel)
    rcases List.mem_append.mp m with m | m
    · exact hE _ _ he w m
    rcases List.mem_append.mp m with m | m
    · exact hB _ _ hb w m
    · exact ho.ok hB w m
  | try_ hb ho =>
    rcases List.mem_cons.mp m with rfl | m
    · exact sg (by decide +kernel)
    rcases List.mem_append.mp m with m | m
    · exact hB _ _ hb w m
    · exact ho.ok hB w m
theorem TkM.ok (hS : ∀ s ws, S s ws → ∀ w ∈ ws, w.Ok) {b : List Stm} {ws : List Wo} (t : TkM S b ws) : ∀ w ∈ ws, w.Ok := by
  induction t with
  | nil => exact fun w m => nomatch m
  | cons h _ ih =>
    intro w m
    rcases List.mem_append.mp m with m | m
    · exact hS _ _ h w m
    · exact ih w m
theorem TkB.ok (hS : ∀ s ws, S s ws → ∀ w ∈ ws, w.Ok) (b : List Stm) (ws : List Wo) (t : TkB S b ws) : ∀ w ∈ ws, w.Ok := by
  obtain ⟨us, hu, _, rfl⟩ := t
  intro w m
  rcases List.mem_cons.mp m with rfl | m
  · exact .sg (by decide +kernel)
  rcases List.mem_append.mp m with m | m
  · exact hu.ok hS w m
  · cases List.mem_singleton.mp m
    exact .sg (by decide +kernel)
theorem TKS.ok (hE : ∀ e ws, E e ws → ∀ w ∈ ws, w.Ok) : ∀ {m : Nat} {s : Stm} {ws : List Wo}, TKS E m s ws → ∀ w ∈ ws, w.Ok
  | 0, _, _, t => TkS.ok hE (fun _ _ h => False.elim h) t
  | m + 1, _, _, t => TkS.ok hE (TkB.ok fun s ws h => TKS.ok hE h) t
end
/-- how a statement begins -/
def StartS (w : Wo) : Prop := StartW w ∨ ∃ s ∈ (["if", "while", "for", "try", "tell"] : List Str), w = .sg s
theorem TkS.first {h n r : Nat} {B : List Stm → List Wo → Prop} {s : Stm} {ws : List Wo} (t : TkS (TKE h n r) B s ws) : ∃ w ws', ws = w :: ws' ∧ StartS w := by
  cases t with
  | set hn he => exact ⟨_, _, rfl, .inl (.inr (.inr (.inl ⟨_, rfl⟩)))⟩
  | tell he => exact ⟨_, _, rfl, .inr ⟨_, by decide +kernel, rfl⟩⟩
  | do_ he =>
    obtain ⟨w, ws', rfl, st, _⟩ := TKE.first he
    exact ⟨w, _, rfl, .inl st⟩
  | while_ he hb => exact ⟨_, _, rfl, .inr ⟨_, by decide +kernel, rfl⟩⟩
  | for_ hn he hb => exact ⟨_, _, rfl, .inr ⟨_, by decide +kernel, rfl⟩⟩
  | if_ he hb ho => exact ⟨_, _, rfl, .inr ⟨_, by decide +kernel, rfl⟩⟩
  | try_ hb ho => exact ⟨_, _, rfl, .inr ⟨_, by decide +kernel, rfl⟩⟩
theorem TKS.first {h n r : Nat} : ∀ {m : Nat} {s : Stm} {ws : List Wo}, TKS (TKE h n r) m s ws → ∃ w ws', ws = w :: ws' ∧ StartS w
  | 0, _, _, t => TkS.first t
  | _ + 1, _, _, t => TkS.first t
theorem start_s {w : Wo} (h : StartS w) (a : Nat) : isB ((w.k, w.v, a) : Tok3) "}" = false ∧ isB ((w.k, w.v, a) : Tok3) "else" = false ∧ w.k ≠ "end" := by
  have go : ∀ {w : Wo}, w.k ∈ kinds3 → isB ((w.k, w.v, a) : Tok3) "}" = false ∧ isB ((w.k, w.v, a) : Tok3) "else" = false ∧ w.k ≠ "end" := fun {w} m =>
    ⟨isB_no m, isB_no m, (by decide +kernel : ∀ k ∈ kinds3, k ≠ "end") _ m⟩
  have gs : ∀ {s : Str}, s ∈ (["(", "if", "while", "for", "try", "tell"] : List Str) → isB ((Wo.k (.sg s), Wo.v (.sg s), a) : Tok3) "}" = false ∧ isB ((Wo.k (.sg s), Wo.v (.sg s), a) : Tok3) "else" = false ∧ Wo.k (.sg s) ≠ "end" := fun {s} m => by
    have q := (by decide +kernel : ∀ s ∈ (["(", "if", "while", "for", "try", "tell"] : List Str), s ≠ "}" ∧ s ≠ "else") s m
    refine ⟨?_, ?_, (by decide +kernel : ("sign" : Str) ≠ "end")⟩
    · show isB (("sign", .str s, a) : Tok3) "}" = false
      rw [isB_sg]
      exact decide_eq_false q.1
    · show isB (("sign", .str s, a) : Tok3) "else" = false
      rw [isB_sg]
      exact decide_eq_false q.2
  rcases h with (⟨m, rfl⟩ | ⟨xs, rfl⟩ | ⟨z, rfl⟩ | rfl) | ⟨s, m, rfl⟩
  · exact go (by decide +kernel : ("number" : Str) ∈ kinds3)
  · exact go (by decide +kernel : ("text" : Str) ∈ kinds3)
  · exact go (by decide +kernel : ("word" : Str) ∈ kinds3)
  · exact gs (by decide +kernel)
  · exact gs (List.mem_cons_of_mem _ m)
/-- what may stand behind a statement -/
structure FolS (x : Tok3) : Prop where
  sc : Sc x.2.1
  no : isB x "else" = false
theorem fols_end {a : Nat} {s : Str} (h : s ≠ "else") : FolS (("sign", .str s, a) : Tok3) := ⟨sc_s, by rw [isB_sg]; exact decide_eq_false h⟩
abbrev PrS (S : Stm → List Wo → Prop) (P : Par) : Prop := ∀ {s : Stm} {ws : List Wo}, S s ws → ∀ {toks : List Tok3} {p : Nat} {x : Tok3}, Seg toks p ws → toks[p + ws.length]? = some x → FolS x → P toks p (p + ws.length) (stD s)
abbrev FsS (S : Stm → List Wo → Prop) : Prop := ∀ {s : Stm} {ws : List Wo}, S s ws → ∃ w ws', ws = w :: ws' ∧ StartS w
/-- statements one behind the other -/
theorem par_l {S : Stm → List Wo → Prop} {P : Par} (hS : PrS S P) (hF : FsS S) {b : List Stm} {ws : List Wo} (t : TkM S b ws) : ∀ {toks : List Tok3} {p : Nat} {x : Tok3}, Seg toks p ws → toks[p + ws.length]? = some x → FolS x → PSs P toks p (p + ws.length) (stDs b) ∧ ∃ y, toks[p]? = some y ∧ FolS y := by
  induction t with
  | nil =>
    intro toks p x sg hx fo
    rw [stDs]
    exact ⟨.nil, x, hx, fo⟩
  | @cons s b w ws h _ ih =>
    intro toks p x sg hx fo
    rw [List.length_append, ← Nat.add_assoc] at hx ⊢
    obtain ⟨q, y, hy, fy⟩ := ih sg.r hx fo
    have q1 := hS h sg.l hy fy
    obtain ⟨w1, wr, ew, st⟩ := hF h
    have sl := sg.l
    rw [ew] at sl
    obtain ⟨a, ha⟩ := sl.hd
    have z := start_s st a
    rw [stDs]
    exact ⟨.cons ha w1.sc z.1 z.2.2 q1 q, _, ha, w1.sc, z.2.1⟩
theorem par_b {S : Stm → List Wo → Prop} {P : Par} (hS : PrS S P) (hF : FsS S) {b : List Stm} {bs : List Wo} (t : TkB S b bs) {toks : List Tok3} {p : Nat} (sg : Seg toks p bs) : BlkR P toks p (p + bs.length) (.tuple (stDs b)) := by
  obtain ⟨ws, tl, l, rfl⟩ := t
  obtain ⟨a, ha⟩ := sg.hd
  obtain ⟨c, hc⟩ := sg.tl.r.hd
  obtain ⟨q, _⟩ := par_l hS hF tl sg.tl.l hc (fols_end (by decide +kernel))
  have e : p + (Wo.sg "{" :: (ws ++ [Wo.sg "}"])).length = p + 1 + ws.length + 1 := by
    simp only [List.length_cons, List.length_append, List.length_nil]
    omega
  rw [e]
  exact ⟨_, a, c, stDs b, ha, q, hc, rfl, by rw [stDs_len]; exact l, rfl⟩
theorem par_o {B : List Stm → List Wo → Prop} {P : Par} (hB : ∀ {b : List Stm} {bs : List Wo}, B b bs → ∀ {toks : List Tok3} {p : Nat}, Seg toks p bs → P toks p (p + bs.length) (.tuple (stDs b))) {c : List Stm} {cs : List Wo} (t : TkO B c cs) {toks : List Tok3} {p : Nat} {x : Tok3} (sg : Seg toks p cs) (hx : toks[p + cs.length]? = some x) (fo : FolS x) : OthR P toks p (p + cs.length) (.tuple (stDs c)) := by
  cases t with
  | no =>
    rw [stDs]
    exact .no hx fo.sc fo.no
  | @yes _ cs h =>
    obtain ⟨a, ha⟩ := sg.hd
    have q := hB h sg.tl
    have e : p + (Wo.sg "else" :: cs).length = p + 1 + cs.length := by
      rw [List.length_cons]
      omega
    rw [e]
    exact .yes ha q
theorem par_st {h n : Nat} {B : List Stm → List Wo → Prop} {P : Par} (hB : ∀ {b : List Stm} {bs : List Wo}, B b bs → (∃ bs', bs = .sg "{" :: bs') ∧ ∀ {toks : List Tok3} {p : Nat}, Seg toks p bs → P toks p (p + bs.length) (.tuple (stDs b))) : PrS (TkS (TKE h n 0) B) (PS (XP (n + 1)) P) := by
  intro s ws t toks p x sg hx fo
  have ex : ∀ {e : Exp} {w : List Wo}, TKE h n 0 e w → ∀ {q : Nat} {y : Tok3}, Seg toks q w → toks[q + w.length]? = some y → Fol y 0 → XP (n + 1) toks q (q + w.length) (exD e) := fun {e w} te {q y} sg hy fy => par_e te (Nat.zero_le _) sg hy fy
  have bsF : ∀ {b : List Stm} {bs : List Wo}, B b bs → ∀ {q : Nat}, Seg toks q bs → ∃ y, toks[q]? = some y ∧ Fol y 0 := fun {b bs} hb {q} sg => by
    obtain ⟨⟨bs', e⟩, _⟩ := hB hb
    rw [e] at sg
    obtain ⟨a, ha⟩ := sg.hd
    exact ⟨_, ha, fol_end (by decide +kernel)⟩
  cases t with
  | @set s e w hn he =>
    obtain ⟨a, ha⟩ := sg.hd
    obtain ⟨b, hb⟩ := sg.tl.hd
    obtain ⟨c, hc⟩ := sg.tl.tl.r.hd
    have q := ex he sg.tl.tl.l hc (fol_end (by decide +kernel))
    have l : p + (Wo.wrd s :: Wo.sg "=" :: (w ++ [Wo.sg ";"])).length = p + 1 + 1 + w.length + 1 := by
      simp only [List.length_cons, List.length_append, List.length_nil]
      omega
    rw [l, stD]
    exact .set ha hb q hc
  | @tell e w he =>
    obtain ⟨a, ha⟩ := sg.hd
    obtain ⟨c, hc⟩ := sg.tl.r.hd
    have q := ex he sg.tl.l hc (fol_end (by decide +kernel))
    have l : p + (Wo.sg "tell" :: (w ++ [Wo.sg ";"])).length = p + 1 + w.length + 1 := by
      simp only [List.length_cons, List.length_append, List.length_nil]
      omega
    rw [l, stD]
    exact .tell ha q hc
  | @do_ e w he =>
    obtain ⟨c, hc⟩ := sg.r.hd
    have q := ex he sg.l hc (fol_end (by decide +kernel))
    have l : p + (w ++ [Wo.sg ";"]).length = p + w.length + 1 := by
      simp only [List.length_cons, List.length_append, List.length_nil]
      omega
    rw [l, stD]
    obtain ⟨w1, wr, ew, st, nx⟩ := TKE.first he
    subst ew
    obtain ⟨a, ha⟩ := sg.l.hd
    refine .do_ ha w1.sc ?_ ?_ q hc
    · rcases st with ⟨m, rfl⟩ | ⟨xs, rfl⟩ | ⟨z, rfl⟩ | rfl
      · exact .inl (by decide +kernel : ("number" : Str) ∈ kinds3)
      · exact .inl (by decide +kernel : ("text" : Str) ∈ kinds3)
      · exact .inl (by decide +kernel : ("word" : Str) ∈ kinds3)
      · exact .inr ⟨a, rfl⟩
    · intro kw
      have kw2 : w1.k = "word" := kw
      rcases st with ⟨m, rfl⟩ | ⟨xs, rfl⟩ | ⟨z, rfl⟩ | rfl
      · exact absurd kw2 (by decide +kernel : ("number" : Str) ≠ "word")
      · exact absurd kw2 (by decide +kernel : ("text" : Str) ≠ "word")
      · rcases nx z rfl with e0 | ⟨y, ws', e0, m, ne⟩
        · subst e0
          exact ⟨";", c, hc, by decide +kernel, by decide +kernel⟩
        · subst e0
          obtain ⟨d, hd⟩ := sg.l.tl.hd
          exact ⟨y, d, hd, m, ne⟩
      · exact absurd kw2 (by decide +kernel : ("sign" : Str) ≠ "word")
  | @while_ e b w bs he hb =>
    obtain ⟨a, ha⟩ := sg.hd
    obtain ⟨y, hy, fy⟩ := bsF hb sg.tl.r
    have q := ex he sg.tl.l hy fy
    have q2 := (hB hb).2 sg.tl.r
    have l : p + (Wo.sg "while" :: (w ++ bs)).length = p + 1 + w.length + bs.length := by
      simp only [List.length_cons, List.length_append]
      omega
    rw [l, stD]
    exact .blk ha (by decide +kernel) (.while_ q q2)
  | @for_ s e b w bs hn he hb =>
    obtain ⟨a, ha⟩ := sg.hd
    obtain ⟨a1, ha1⟩ := sg.tl.hd
    obtain ⟨a2, ha2⟩ := sg.tl.tl.hd
    obtain ⟨y, hy, fy⟩ := bsF hb sg.tl.tl.tl.r
    have q := ex he sg.tl.tl.tl.l hy fy
    have q2 := (hB hb).2 sg.tl.tl.tl.r
    have l : p + (Wo.sg "for" :: Wo.wrd s :: Wo.sg "in" :: (w ++ bs)).length = p + 1 + 1 + 1 + w.length + bs.length := by
      simp only [List.length_cons, List.length_append]
      omega
    rw [l, stD]
    exact .blk ha (by decide +kernel) (.for_ ha1 ha2 q q2)
  | @if_ e b c w bs os he hb ho =>
    obtain ⟨a, ha⟩ := sg.hd
    obtain ⟨y, hy, fy⟩ := bsF hb sg.tl.r.l
    have q := ex he sg.tl.l hy fy
    have q2 := (hB hb).2 sg.tl.r.l
    have l : p + (Wo.sg "if" :: (w ++ (bs ++ os))).length = p + 1 + w.length + bs.length + os.length := by
      simp only [List.length_cons, List.length_append]
      omega
    rw [l] at hx ⊢
    rw [stD]
    have q3 := par_o (fun h => (hB h).2) ho sg.tl.r.r hx fo
    exact .blk ha (by decide +kernel) (.if_ q q2 q3)
  | @try_ b c bs os hb ho =>
    obtain ⟨a, ha⟩ := sg.hd
    have q2 := (hB hb).2 sg.tl.l
    have l : p + (Wo.sg "try" :: (bs ++ os)).length = p + 1 + bs.length + os.length := by
      simp only [List.length_cons, List.length_append]
      omega
    rw [l] at hx ⊢
    rw [stD]
    have q3 := par_o (fun h => (hB h).2) ho sg.tl.r hx fo
    exact .blk ha (by decide +kernel) (.try_ q2 q3)
theorem par_s {h n : Nat} : ∀ m, PrS (TKS (TKE h n 0) m) (SP (XP (n + 1)) m)
  | 0 => par_st (B := fun _ _ => False) fun h => False.elim h
  | m + 1 => par_st (B := TkB (TKS (TKE h n 0) m)) fun {b bs} hb => ⟨by obtain ⟨ws, _, _, rfl⟩ := hb; exact ⟨_, rfl⟩, fun sg => par_b (par_s m) (fun t => TKS.first t) hb sg⟩
theorem seg_of {t : Str} {items : List Tok3} {ps : List Pc} (e : items.map (fun x => (x.1, x.2.1)) = ps.map fun p => (p.2.k, p.2.v)) : Seg (items ++ [endT t]) 0 (ps.map Prod.snd) := fun i w hw => by
  rw [List.getElem?_map] at hw
  cases hp : ps[i]? with
  | none =>
    rw [hp] at hw
    cases hw
  | some p =>
    rw [hp] at hw
    have ew : p.2 = w := Option.some.inj hw
    subst ew
    have q := congrArg (fun l => l[i]?) e
    simp only [List.getElem?_map, hp] at q
    cases h : items[i]? with
    | none =>
      rw [h] at q
      cases q
    | some y =>
      rw [h] at q
      have q2 : (y.1, y.2.1) = (p.2.k, p.2.v) := Option.some.inj q
      obtain ⟨y1, y2, y3⟩ := y
      obtain ⟨z1, z2⟩ := Prod.mk.inj q2
      have z1' : y1 = p.2.k := z1
      have z2' : y2 = p.2.v := z2
      subst z1' z2'
      refine ⟨y3, ?_⟩
      have li := (List.getElem?_eq_some_iff.mp h).1
      rw [Nat.zero_add, List.getElem?_append_left li]
      exact h
/-- a text that lays these words out is read as these statements -/
theorem read_ok {t : Str} {ps : List Pc} {h n m : Nat} {b : List Stm} (g : Gap ps) (ht : t.cps.toList = lay ps) (tl : TkM (TKS (TKE h n 0) m) b (ps.map Prod.snd)) : ∃ (k : Nat) (items : List Tok3), RunAt t BLK 0 k ∧ Lay t k items ∧ PSs (SP (XP (n + 1)) m) (items ++ [endT t]) 0 items.length (stDs b) := by
  obtain ⟨k, items, run, _, ly, em⟩ := lay_items (t := t) [] g (by rw [ht]; rfl)
  have z : ([] : List Nat).length + k = k := Nat.zero_add k
  rw [z] at ly
  refine ⟨k, items, run, ly, ?_⟩
  have sg := seg_of (t := t) em
  have l : items.length = (ps.map Prod.snd).length := by
    have q := congrArg List.length em
    simpa using q
  have hx : (items ++ [endT t])[0 + (ps.map Prod.snd).length]? = some (endT t) := by
    rw [Nat.zero_add, ← l, List.getElem?_append_right (Nat.le_refl _), Nat.sub_self]
    rfl
  obtain ⟨q, _⟩ := par_l (par_s m) (fun t => TKS.first t) tl sg hx ⟨sc_s, by
    show (decide (("end" : Str) = "sign") && _) = false
    rw [decide_eq_false (by decide +kernel), Bool.false_and]⟩
  rw [Nat.zero_add, ← l] at q
  exact q
end K72
set_option maxHeartbeats 4000000
namespace K72
open PySem PySem.Spec PyProof.Rows L2 Evl My LamX
/-! The written form, in words with blanks -/
abbrev sgs (s : Str) : List Nat := s.cps.toList
theorem sgs_app (a b : Str) : sgs (a ++ b) = sgs a ++ sgs b := by
  show (a.cps ++ b.cps).toList = _
  exact Array.toList_append
theorem joinL_flat (S : List Nat) : ∀ (p : List Nat) (r : List (List Nat)), TL.joinL S (p :: r) = p ++ r.flatMap fun q => S ++ q
  | p, [] => by simp [TL.joinL]
  | p, q :: r => by
    show p ++ (S ++ TL.joinL S (q :: r)) = _
    rw [joinL_flat S q r, List.flatMap_cons, List.append_assoc]
theorem sgs_join (y p : Str) (r : List Str) : sgs (Txt.join y (p :: r)) = sgs p ++ r.flatMap fun q => sgs y ++ sgs q := by
  have e := TL.tl_join y (p :: r)
  rw [TL.join_eq]
  show TL.tl (Str.join y (p :: r)) = _
  rw [e, List.map_cons, joinL_flat, List.flatMap_map]
theorem lay_app : ∀ xs ys : List Pc, lay (xs ++ ys) = lay xs ++ lay ys
  | [], _ => rfl
  | p :: xs, ys => by
    show p.1 ++ (p.2.cs ++ lay (xs ++ ys)) = (p.1 ++ (p.2.cs ++ lay xs)) ++ lay ys
    rw [lay_app xs ys]
    simp
theorem lay_one (p : Pc) : lay [p] = p.1 ++ p.2.cs := by
  show p.1 ++ (p.2.cs ++ []) = _
  rw [List.append_nil]
theorem gap_one {p : Pc} (h : Bk p.1) (o : p.2.Ok) : Gap [p] := ⟨h, o, (fun q z => nomatch z), trivial⟩
theorem gap_cons {p : Pc} {r : List Pc} (h : Bk p.1) (o : p.2.Ok) (g : Gap r) (a : ∀ q, r.head? = some q → Apart p q) : Gap (p :: r) := ⟨h, o, a, g⟩
/-- what may follow anything -/
def HdF (r : List Pc) : Prop := ∀ q, r.head? = some q → q.1 ≠ [] ∨ Solo q.2
theorem HdF.ap {r : List Pc} (h : HdF r) (p : Pc) : ∀ q, r.head? = some q → Apart p q := fun q z => (h q z).imp id .inr
theorem gap_app {ys : List Pc} (gy : Gap ys) (f : HdF ys) : ∀ {xs : List Pc}, Gap xs → Gap (xs ++ ys)
  | [], _ => gy
  | [p], g => gap_cons g.1 g.2.1 gy (f.ap p)
  | p :: q :: xs, g => ⟨g.1, g.2.1, g.2.2.1, gap_app gy f g.2.2.2⟩
theorem solo_of {s : Str} (h : s ∈ soloW) : Solo (.sg s) := ⟨s, h, rfl⟩
theorem hdf_solo {b : List Nat} {s : Str} {r : List Pc} (h : s ∈ soloW) : HdF ((b, Wo.sg s) :: r) := fun q z => by
  cases z
  exact .inr (solo_of h)
theorem hdf_bl {b : List Nat} {w : Wo} {r : List Pc} (h : b ≠ []) : HdF ((b, w) :: r) := fun q z => by
  cases z
  exact .inl h
theorem bk_nil : Bk [] := fun c h => nomatch h
theorem bk_sp : Bk [32] := fun c h => by
  cases List.mem_singleton.mp h
  decide +kernel
mutual
def wrE (b : List Nat) (r : Nat) : Exp → List Pc
  | .num m => [(b, .num m)]
  | .txt xs => [(b, .txt xs)]
  | .var s => [(b, .wrd s)]
  | .call s es => (b, .wrd s) :: ([], .sg "(") :: (wrA es ++ [([], .sg ")")])
  | .row g ss o es => if g < r then (b, .sg "(") :: ((wrE [] (g + 1) o ++ wrW g ss es) ++ [([], .sg ")")]) else wrE b (g + 1) o ++ wrW g ss es
def wrA : List Exp → List Pc
  | [] => []
  | e :: es => wrE [] 0 e ++ wrR es
def wrR : List Exp → List Pc
  | [] => []
  | e :: es => ([], .sg ",") :: (wrE [32] 0 e ++ wrR es)
def wrW (g : Nat) : List Str → List Exp → List Pc
  | s :: ss, e :: es => ([32], .sg s) :: (wrE [32] (g + 1) e ++ wrW g ss es)
  | _, [] => []
  | [], _ :: _ => []
end
/-- an expression as an operand of the groups from r on -/
def exR (r : Nat) (e : Exp) : Str := match e with
  | .row g _ _ _ => if g < r then ("(" ++ exT e) ++ ")" else exT e
  | _ => exT e
theorem wrap_exR {g : Nat} {e : Exp} : wrap g e (exT e) = exR (g + 1) e := by
  cases e with
  | row g' ss o es =>
    show (if g' ≤ g then ("(" ++ exT (.row g' ss o es)) ++ ")" else exT (.row g' ss o es)) = (if g' < g + 1 then ("(" ++ exT (.row g' ss o es)) ++ ")" else exT (.row g' ss o es))
    by_cases h : g' ≤ g
    · rw [if_pos h, if_pos (by omega)]
    · rw [if_neg h, if_neg (by omega)]
  | _ => rfl
theorem exR_zero {e : Exp} : exR 0 e = exT e := by
  cases e with
  | row g' ss o es =>
    show (if g' < 0 then ("(" ++ exT (.row g' ss o es)) ++ ")" else exT (.row g' ss o es)) = _
    rw [if_neg (by omega)]
  | _ => rfl
theorem sg_po : sgs "(" = [40] ∧ sgs ")" = [41] ∧ sgs "," = [44] ∧ sgs ", " = [44, 32] ∧ sgs " " = [32] ∧ sgs "\"" = [34] ∧ sgs ";" = [59] := by decide +kernel
mutual
theorem lay_wrE : ∀ (e : Exp) (b : List Nat) (r : Nat), lay (wrE b r e) = b ++ sgs (exR r e)
  | .num m, b, r => by
    rw [wrE, lay_one]
    show b ++ TL.numL m = b ++ sgs (exT (.num m))
    rw [exT]
    exact congrArg _ (TL.tl_num m).symm
  | .txt xs, b, r => by
    rw [wrE, lay_one]
    show b ++ (34 :: (xs ++ [34])) = b ++ sgs (exT (.txt xs))
    rw [exT, sgs_app, sgs_app, sg_po.2.2.2.2.2.1]
    rfl
  | .var s, b, r => by
    rw [wrE, lay_one]
    show b ++ sgs s = b ++ sgs (exT (.var s))
    rw [exT]
  | .call s es, b, r => by
    rw [wrE]
    show b ++ (sgs s ++ ([] ++ (sgs "(" ++ lay (wrA es ++ [([], .sg ")")])))) = b ++ sgs (exT (.call s es))
    rw [exT, lay_app, lay_wrA es, lay_one, sgs_app, sgs_app, sgs_app]
    show b ++ (sgs s ++ ([] ++ (sgs "(" ++ (sgs (Txt.join ", " (exTs es)) ++ ([] ++ sgs ")"))))) = _
    simp only [List.nil_append, List.append_assoc]
  | .row g ss o es, b, r => by
    have core : ∀ b, lay (wrE b (g + 1) o ++ wrW g ss es) = b ++ sgs (exT (.row g ss o es)) := fun b => by
      rw [lay_app, lay_wrE o b (g + 1), lay_wrW g ss es, exT, wrap_exR, sgs_join, List.append_assoc]
    rw [wrE]
    show _ = b ++ sgs (if g < r then ("(" ++ exT (.row g ss o es)) ++ ")" else exT (.row g ss o es))
    by_cases h : g < r
    · rw [if_pos h, if_pos h]
      show b ++ (sgs "(" ++ lay ((wrE [] (g + 1) o ++ wrW g ss es) ++ [([], .sg ")")])) = _
      rw [lay_app, core [], lay_one, sgs_app, sgs_app]
      show b ++ (sgs "(" ++ (([] ++ sgs (exT (.row g ss o es))) ++ ([] ++ sgs ")"))) = _
      simp only [List.nil_append, List.append_assoc]
    · rw [if_neg h, if_neg h]
      exact core b
theorem lay_wrA : ∀ es : List Exp, lay (wrA es) = sgs (Txt.join ", " (exTs es))
  | [] => by
    rw [wrA, exTs]
    rfl
  | e :: es => by
    rw [wrA, exTs, lay_app, lay_wrE e [] 0, lay_wrR es, sgs_join, exR_zero, List.nil_append]
theorem lay_wrR : ∀ es : List Exp, lay (wrR es) = (exTs es).flatMap fun q => sgs ", " ++ sgs q
  | [] => by
    rw [wrR, exTs]
    rfl
  | e :: es => by
    rw [wrR, exTs, List.flatMap_cons]
    show [] ++ (sgs "," ++ lay (wrE [32] 0 e ++ wrR es)) = _
    rw [lay_app, lay_wrE e [32] 0, lay_wrR es, exR_zero, sg_po.2.2.1, sg_po.2.2.2.1]
    rfl
theorem lay_wrW (g : Nat) : ∀ (ss : List Str) (es : List Exp), lay (wrW g ss es) = (weave ss (exTw g es)).flatMap fun q => sgs " " ++ sgs q
  | s :: ss, e :: es => by
    rw [wrW, exTw]
    show [32] ++ (sgs s ++ lay (wrE [32] (g + 1) e ++ wrW g ss es)) = List.flatMap _ (s :: wrap g e (exT e) :: weave ss (exTw g es))
    rw [lay_app, lay_wrE e [32] (g + 1), lay_wrW g ss es, wrap_exR, List.flatMap_cons, List.flatMap_cons, sg_po.2.2.2.2.1]
    simp only [List.append_assoc]
  | s :: ss, [] => by
    rw [wrW, exTw]
    rfl
  | [], [] => by
    rw [wrW, exTw]
    rfl
  | [], e :: es => by
    rw [wrW, exTw]
    rfl
end
/-- what the law draws: expressions -/
inductive DnS (D : Exp → Prop) : Exp → Prop
  | num {m : Nat} : m < 10 ^ 9 → DnS D (.num m)
  | txt {xs : List Nat} : (∀ c ∈ xs, c ≠ 34 ∧ 32 ≤ c ∧ c ≤ 126) → xs.length ≤ 5 → DnS D (.txt xs)
  | var {s : Str} : Nm s → s.length ≤ 5 → DnS D (.var s)
  | call {s : Str} {e : Exp} {es : List Exp} : (s, es.length + 1) ∈ ARGN → D e → (∀ x ∈ es, D x) → DnS D (.call s (e :: es))
  | row {g : Nat} {ss : List Str} {o : Exp} {es : List Exp} : g < 5 → (∀ s ∈ ss, s ∈ GRS.getD g []) → ss.length = es.length → (g = 2 → ss.length ≤ 1) → 1 ≤ ss.length → ss.length ≤ 3 → D o → (∀ x ∈ es, D x) → DnS D (.row g ss o es)
def Dn : Nat → Exp → Prop
  | 0 => DnS fun _ => False
  | k + 1 => DnS (Dn k)
theorem DnS.mono {D D' : Exp → Prop} (h : ∀ e, D e → D' e) {e : Exp} (d : DnS D e) : DnS D' e := by
  cases d with
  | num a => exact .num a
  | txt a b => exact .txt a b
  | var a b => exact .var a b
  | call a b c => exact .call a (h _ b) fun x m => h x (c x m)
  | row a b c d e f g i => exact .row a b c d e f (h _ g) fun x m => h x (i x m)
theorem Dn.up : ∀ {k : Nat} {e : Exp}, Dn k e → Dn (k + 1) e
  | 0, _, h => DnS.mono (fun _ z => False.elim z) h
  | k + 1, _, h => DnS.mono (fun _ z => Dn.up z) h
/-- the words of the written form, and their blanks -/
structure WrOk (T : Exp → List Wo → Prop) (b : List Nat) (ps : List Pc) (e : Exp) : Prop where
  t : T e (ps.map Prod.snd)
  g : Gap ps
  h : ∃ w r, ps = (b, w) :: r
theorem WrOk.hdf {T : Exp → List Wo → Prop} {b : List Nat} {ps : List Pc} {e : Exp} (w : WrOk T b ps e) (h : b ≠ []) (qs : List Pc) : HdF (ps ++ qs) := by
  obtain ⟨w1, r, e⟩ := w.h
  rw [e]
  exact hdf_bl h
abbrev WrP (D : Exp → Prop) (H N : Nat) : Prop := ∀ {e : Exp}, D e → ∀ {h n : Nat}, H ≤ h → N ≤ n → ∀ {b : List Nat} {r : Nat}, Bk b → WrOk (TKE h n r) b (wrE b r e) e
theorem hdf_R : ∀ es : List Exp, HdF (wrR es)
  | [] => by
    rw [wrR]
    exact fun q z => nomatch z
  | e :: es => by
    rw [wrR]
    exact hdf_solo (by decide +kernel)
theorem hdf_W (g : Nat) : ∀ (ss : List Str) (es : List Exp), HdF (wrW g ss es)
  | s :: ss, e :: es => by
    rw [wrW]
    exact hdf_bl (by decide)
  | [], [] => by
    rw [wrW]
    exact fun q z => nomatch z
  | s :: ss, [] => by
    rw [wrW]
    exact fun q z => nomatch z
  | [], e :: es => by
    rw [wrW]
    exact fun q z => nomatch z
theorem wr_R {D : Exp → Prop} {H N h n : Nat} (ih : WrP D H N) (lh : H ≤ h) (ln : N ≤ n) : ∀ {es : List Exp}, (∀ x ∈ es, D x) → TkA (TKE h n 0) es ((wrR es).map Prod.snd) ∧ Gap (wrR es)
  | [], _ => by
    rw [wrR]
    exact ⟨.nil, trivial⟩
  | e :: es, hd => by
    obtain ⟨t, g⟩ := wr_R ih lh ln fun x m => hd x (List.mem_cons_of_mem _ m)
    have w := ih (hd e List.mem_cons_self) lh ln (r := 0) bk_sp
    rw [wrR, List.map_cons, List.map_append]
    exact ⟨.cons w.t t, gap_cons bk_nil (.sg (by decide +kernel)) (gap_app g (hdf_R es) w.g) fun q _ => .inr (.inl (solo_of (by decide +kernel)))⟩
theorem wr_W {D : Exp → Prop} {H N h n g : Nat} (ih : WrP D H N) (lh : H ≤ h) (ln : N ≤ n) : ∀ {ss : List Str} {es : List Exp}, ss.length = es.length → (∀ s ∈ ss, s ∈ GRS.getD g []) → (∀ x ∈ es, D x) → TkW (TKE h n (g + 1)) g ss es ((wrW g ss es).map Prod.snd) ∧ Gap (wrW g ss es)
  | [], [], _, _, _ => by
    rw [wrW]
    exact ⟨.nil, trivial⟩
  | s :: ss, e :: es, l, hs, hd => by
    obtain ⟨t, gp⟩ := wr_W ih lh ln (by simpa using l) (fun x m => hs x (List.mem_cons_of_mem _ m)) fun x m => hd x (List.mem_cons_of_mem _ m)
    have w := ih (hd e List.mem_cons_self) lh ln (r := g + 1) bk_sp
    have ms := hs s List.mem_cons_self
    rw [wrW, List.map_cons, List.map_append]
    exact ⟨.cons ms w.t t, gap_cons bk_sp (.sg (gr_sig g (gr_five ms) s ms).1) (gap_app gp (hdf_W g ss es) w.g) ((w.hdf (by decide) _).ap _)⟩
theorem wr_step {D : Exp → Prop} {H N h n : Nat} (ih : WrP D H N) (h1 : 1 ≤ h) (hc : ∀ e, D e → H + 2 ≤ h ∧ N + 2 ≤ n) {e : Exp} (d : DnS D e) {b : List Nat} {r : Nat} (hb : Bk b) : WrOk (TKE h n r) b (wrE b r e) e := by
  obtain ⟨h, rfl⟩ : ∃ j, h = j + 1 := ⟨h - 1, by omega⟩
  cases d with
  | num hm =>
    rw [wrE]
    have m18 : ∀ m : Nat, m < 10 ^ 9 → m < 10 ^ 18 := fun m hm => Nat.lt_trans hm (by decide)
    exact ⟨.num (m18 _ hm), gap_one hb (.num (m18 _ hm)), _, _, rfl⟩
  | txt hx _ =>
    rw [wrE]
    exact ⟨.txt hx, gap_one hb (.txt hx), _, _, rfl⟩
  | var hn _ =>
    rw [wrE]
    exact ⟨.var hn, gap_one hb (.wrd hn), _, _, rfl⟩
  | @call s e es hs hd hds =>
    obtain ⟨l1, l2⟩ := hc _ hd
    obtain ⟨n, rfl⟩ : ∃ j, n = j + 1 := ⟨n - 1, by omega⟩
    have w := ih hd (h := h) (n := n) (by omega) (by omega) (r := 0) bk_nil
    obtain ⟨t, g⟩ := wr_R ih (h := h) (n := n) (by omega) (by omega) hds
    have q := argn_nm _ hs
    rw [wrE, wrA]
    refine ⟨?_, ?_, _, _, rfl⟩
    · have z := TkE.call (r := r) hs w.t t
      have em : ((b, Wo.wrd s) :: ([], Wo.sg "(") :: ((wrE [] 0 e ++ wrR es) ++ [([], Wo.sg ")")])).map Prod.snd = Wo.wrd s :: Wo.sg "(" :: ((wrE [] 0 e).map Prod.snd ++ ((wrR es).map Prod.snd ++ [Wo.sg ")"])) := by
        simp only [List.map_cons, List.map_append, List.map_nil, List.append_assoc]
      rw [em]
      exact z
    · refine gap_cons hb (.wrd (nm_of q.2 q.1)) (gap_cons bk_nil (.sg (by decide +kernel)) (gap_app (gap_one bk_nil (.sg (by decide +kernel))) (hdf_solo (by decide +kernel)) (gap_app g (hdf_R es) w.g)) fun q _ => .inr (.inl (solo_of (by decide +kernel)))) fun q z => ?_
      cases z
      exact .inr (.inr (solo_of (by decide +kernel)))
  | @row g ss o es g5 hs ln h2 l1 l3 hd hds =>
    obtain ⟨l4, l5⟩ := hc _ hd
    have core : ∀ {j i r' : Nat} {b : List Nat}, H ≤ j → N ≤ i → r' ≤ g → Bk b → TKE (j + 1) i r' (.row g ss o es) ((wrE b (g + 1) o ++ wrW g ss es).map Prod.snd) ∧ Gap (wrE b (g + 1) o ++ wrW g ss es) ∧ ∃ w x, wrE b (g + 1) o ++ wrW g ss es = (b, w) :: x := fun {j i r' b} a1 a2 a3 a4 => by
      have w := ih hd (h := j) (n := i) a1 a2 (r := g + 1) a4
      obtain ⟨t, gp⟩ := wr_W ih (h := j) (n := i) (g := g) a1 a2 ln hs hds
      obtain ⟨w1, x1, e1⟩ := w.h
      have z := TkE.row a3 g5 w.t t h2 (by omega) (by
        intro z
        rw [z] at l1
        exact absurd l1 (by decide))
      rw [List.map_append]
      exact ⟨z, gap_app gp (hdf_W g ss es) w.g, w1, x1 ++ wrW g ss es, by rw [e1]; rfl⟩
    rw [wrE]
    by_cases hg : g < r
    · rw [if_pos hg]
      obtain ⟨n, rfl⟩ : ∃ j, n = j + 1 := ⟨n - 1, by omega⟩
      obtain ⟨j, rfl⟩ : ∃ j, h = j + 1 := ⟨h - 1, by omega⟩
      obtain ⟨t, gp, _⟩ := core (j := j) (i := n) (r' := 0) (by omega) (by omega) (Nat.zero_le _) bk_nil
      refine ⟨?_, ?_, _, _, rfl⟩
      · rw [List.map_cons, List.map_append (l₂ := [([], Wo.sg ")")])]
        exact TkE.par t
      · exact gap_cons hb (.sg (by decide +kernel)) (gap_app (gap_one bk_nil (.sg (by decide +kernel))) (hdf_solo (by decide +kernel)) gp) fun q _ => .inr (.inl (solo_of (by decide +kernel)))
    · rw [if_neg hg]
      obtain ⟨t, gp, hh⟩ := core (j := h) (i := n) (r' := r) (by omega) (by omega) (by omega) hb
      exact ⟨t, gp, hh⟩
theorem wr_ok : ∀ k, WrP (Dn k) (2 * k + 1) (2 * k)
  | 0 => fun d {h n} l1 l2 {b r} hb => wr_step (D := fun _ => False) (H := 0) (N := 0) (fun z => False.elim z) (by omega) (fun e z => False.elim z) d hb
  | k + 1 => fun d {h n} l1 l2 {b r} hb => wr_step (wr_ok k) (by omega) (fun e z => ⟨by omega, by omega⟩) d hb
end K72
set_option maxHeartbeats 4000000
namespace K72
open PySem PySem.Spec PyProof.Rows L2 Evl My LamX
/-! The written form of statements, in words with blanks; line by line -/
def preB (b : List Nat) : List Pc → List Pc
  | [] => []
  | p :: r => (b ++ p.1, p.2) :: r
def inP (ls : List (List Pc)) : List (List Pc) := ls.map (preB [32, 32])
def othP (c : List Stm) (ls : List (List Pc)) : List (List Pc) := match c with
  | [] => []
  | _ :: _ => [([], Wo.sg "}"), ([32], Wo.sg "else"), ([32], Wo.sg "{")] :: inP ls
mutual
def stP : Stm → List (List Pc)
  | .set s e => [([], .wrd s) :: ([32], .sg "=") :: (wrE [32] 0 e ++ [([], .sg ";")])]
  | .tell e => [([], .sg "tell") :: (wrE [32] 0 e ++ [([], .sg ";")])]
  | .do_ e => [wrE [] 0 e ++ [([], .sg ";")]]
  | .while_ e b => ((([], .sg "while") :: (wrE [32] 0 e ++ [([32], .sg "{")])) :: inP (stPs b)) ++ [[([], .sg "}")]]
  | .for_ s e b => ((([], .sg "for") :: ([32], .wrd s) :: ([32], .sg "in") :: (wrE [32] 0 e ++ [([32], .sg "{")])) :: inP (stPs b)) ++ [[([], .sg "}")]]
  | .if_ e b c => ((([], .sg "if") :: (wrE [32] 0 e ++ [([32], .sg "{")])) :: inP (stPs b)) ++ othP c (stPs c) ++ [[([], .sg "}")]]
  | .try_ b c => ([([], .sg "try"), ([32], .sg "{")] :: inP (stPs b)) ++ othP c (stPs c) ++ [[([], .sg "}")]]
def stPs : List Stm → List (List Pc)
  | [] => []
  | s :: b => stP s ++ stPs b
end
theorem lay_pre {b : List Nat} : ∀ {l : List Pc}, l ≠ [] → lay (preB b l) = b ++ lay l
  | [], h => absurd rfl h
  | p :: r, _ => by
    show (b ++ p.1) ++ (p.2.cs ++ lay r) = b ++ (p.1 ++ (p.2.cs ++ lay r))
    rw [List.append_assoc]
theorem snd_pre {b : List Nat} : ∀ {l : List Pc}, (preB b l).map Prod.snd = l.map Prod.snd
  | [] => rfl
  | p :: r => rfl
theorem pre_ne {b : List Nat} : ∀ {l : List Pc}, l ≠ [] → preB b l ≠ []
  | [], h => absurd rfl h
  | p :: r, _ => fun z => nomatch z
theorem bk_app {a b : List Nat} (x : Bk a) (y : Bk b) : Bk (a ++ b) := fun c h => (List.mem_append.mp h).elim (x c) (y c)
theorem gap_pre {b : List Nat} (hb : Bk b) : ∀ {l : List Pc}, Gap l → Gap (preB b l)
  | [], g => g
  | p :: r, g => ⟨bk_app hb g.1, g.2.1, fun q hq => g.2.2.1 q hq, g.2.2.2⟩
theorem hdf_pre {b : List Nat} (h : b ≠ []) : ∀ {l : List Pc}, HdF (preB b l)
  | [] => fun q z => nomatch z
  | p :: r => hdf_bl (by
    cases b with
    | nil => exact absurd rfl h
    | cons c b => exact fun z => nomatch z)
/-- lines as they are written -/
def Tx (ls : List (List Pc)) (ts : List Str) : Prop := ls.map lay = ts.map sgs ∧ ∀ l ∈ ls, l ≠ []
theorem tx_app {a b : List (List Pc)} {x y : List Str} (h : Tx a x) (g : Tx b y) : Tx (a ++ b) (x ++ y) := ⟨by rw [List.map_append, List.map_append, h.1, g.1], fun l m => (List.mem_append.mp m).elim (h.2 l) (g.2 l)⟩
theorem tx_cons {l : List Pc} {t : Str} {a : List (List Pc)} {x : List Str} (e : lay l = sgs t) (n : l ≠ []) (h : Tx a x) : Tx (l :: a) (t :: x) := ⟨by rw [List.map_cons, List.map_cons, h.1, e], fun l' m => by
  rcases List.mem_cons.mp m with rfl | m
  · exact n
  · exact h.2 l' m⟩
theorem tx_nil : Tx [] [] := ⟨rfl, fun l m => nomatch m⟩
theorem tx_in {a : List (List Pc)} {x : List Str} (h : Tx a x) : Tx (inP a) (inn x) := by
  refine ⟨?_, fun l m => ?_⟩
  · have e : (inP a).map lay = (a.map lay).map fun q => [32, 32] ++ q := by
      unfold inP
      rw [List.map_map, List.map_map]
      refine List.map_congr_left fun l m => ?_
      exact lay_pre (h.2 l m)
    rw [e, h.1]
    unfold inn
    rw [List.map_map, List.map_map]
    refine List.map_congr_left fun z _ => ?_
    show [32, 32] ++ sgs z = sgs ("  " ++ z)
    rw [sgs_app]
    rfl
  · unfold inP at m
    obtain ⟨l', m', rfl⟩ := List.mem_map.mp m
    exact pre_ne (h.2 l' m')
theorem kw_sg : sgs "tell" = [116, 101, 108, 108] ∧ sgs "tell " = sgs "tell" ++ [32] ∧ sgs " = " = [32] ++ sgs "=" ++ [32] ∧ sgs "while " = sgs "while" ++ [32] ∧ sgs " {" = [32] ++ sgs "{" ∧ sgs "for " = sgs "for" ++ [32] ∧ sgs " in " = [32] ++ sgs "in" ++ [32] ∧ sgs "if " = sgs "if" ++ [32] ∧ sgs "try {" = sgs "try" ++ ([32] ++ sgs "{") ∧ sgs "} else {" = sgs "}" ++ ([32] ++ (sgs "else" ++ ([32] ++ sgs "{"))) := by decide +kernel
theorem lay_c (b : List Nat) (w : Wo) (r : List Pc) : lay ((b, w) :: r) = b ++ (w.cs ++ lay r) := rfl
theorem lay_n : lay [] = [] := rfl
theorem cs_sg (s : Str) : (Wo.sg s).cs = sgs s := rfl
theorem cs_wrd (s : Str) : (Wo.wrd s).cs = sgs s := rfl
theorem tx_oth {c : List Stm} {ls : List (List Pc)} {ts : List Str} (h : Tx ls ts) : Tx (othP c ls) (othL c ts) := by
  cases c with
  | nil => exact tx_nil
  | cons s b =>
    refine tx_cons ?_ (fun z => nomatch z) (tx_in h)
    rw [lay_c, lay_c, lay_c, lay_n, cs_sg, cs_sg, cs_sg, kw_sg.2.2.2.2.2.2.2.2.2]
    simp only [List.nil_append, List.append_nil, List.append_assoc]
theorem tx_end : Tx [[([], Wo.sg "}")]] [("}" : Str)] := tx_cons (by rw [lay_one]; rfl) (fun z => nomatch z) tx_nil
mutual
theorem tx_st : ∀ s : Stm, Tx (stP s) (stL s)
  | .set s e => by
    rw [stP, stL]
    refine tx_cons ?_ (fun z => nomatch z) tx_nil
    rw [lay_c, lay_c, lay_app, lay_wrE, lay_one, cs_sg, cs_wrd, exR_zero, sgs_app, sgs_app, sgs_app, kw_sg.2.2.1]
    simp only [List.nil_append, List.append_assoc, cs_sg]
  | .tell e => by
    rw [stP, stL]
    refine tx_cons ?_ (fun z => nomatch z) tx_nil
    rw [lay_c, lay_app, lay_wrE, lay_one, cs_sg, exR_zero, sgs_app, sgs_app, kw_sg.2.1]
    simp only [List.nil_append, List.append_assoc, cs_sg]
  | .do_ e => by
    rw [stP, stL]
    refine tx_cons ?_ (fun z => by simp at z) tx_nil
    rw [lay_app, lay_wrE, lay_one, exR_zero, sgs_app]
    simp only [List.nil_append, List.append_assoc, cs_sg]
  | .while_ e b => by
    rw [stP, stL]
    refine tx_app (tx_cons ?_ (fun z => nomatch z) (tx_in (tx_sts b))) tx_end
    rw [lay_c, lay_app, lay_wrE, lay_one, cs_sg, exR_zero, sgs_app, sgs_app, kw_sg.2.2.2.1, kw_sg.2.2.2.2.1]
    simp only [List.nil_append, List.append_assoc, cs_sg]
  | .for_ s e b => by
    rw [stP, stL]
    refine tx_app (tx_cons ?_ (fun z => nomatch z) (tx_in (tx_sts b))) tx_end
    rw [lay_c, lay_c, lay_c, lay_app, lay_wrE, lay_one, cs_sg, cs_sg, cs_wrd, exR_zero, sgs_app, sgs_app, sgs_app, sgs_app, kw_sg.2.2.2.2.2.1, kw_sg.2.2.2.2.2.2.1, kw_sg.2.2.2.2.1]
    simp only [List.nil_append, List.append_assoc, cs_sg]
  | .if_ e b c => by
    rw [stP, stL]
    refine tx_app (tx_app (tx_cons ?_ (fun z => nomatch z) (tx_in (tx_sts b))) (tx_oth (tx_sts c))) tx_end
    rw [lay_c, lay_app, lay_wrE, lay_one, cs_sg, exR_zero, sgs_app, sgs_app, kw_sg.2.2.2.2.2.2.2.1, kw_sg.2.2.2.2.1]
    simp only [List.nil_append, List.append_assoc, cs_sg]
  | .try_ b c => by
    rw [stP, stL]
    refine tx_app (tx_app (tx_cons ?_ (fun z => nomatch z) (tx_in (tx_sts b))) (tx_oth (tx_sts c))) tx_end
    rw [lay_c, lay_c, lay_n, cs_sg, cs_sg, kw_sg.2.2.2.2.2.2.2.2.1]
    simp only [List.nil_append, List.append_nil, List.append_assoc]
theorem tx_sts : ∀ b : List Stm, Tx (stPs b) (stLs b)
  | [] => by
    rw [stPs, stLs]
    exact tx_nil
  | s :: b => by
    rw [stPs, stLs]
    exact tx_app (tx_st s) (tx_sts b)
end
/-- lines joined -/
def joinP : List (List Pc) → List Pc
  | [] => []
  | l :: ls => l ++ (ls.map (preB [10])).flatten
theorem lay_join {ls : List (List Pc)} {ts : List Str} (h : Tx ls ts) : lay (joinP ls) = sgs (Txt.join "\n" ts) := by
  obtain ⟨e, n⟩ := h
  cases ls with
  | nil =>
    cases ts with
    | nil => rfl
    | cons t ts => cases e
  | cons l ls =>
    cases ts with
    | nil => cases e
    | cons t ts =>
      rw [List.map_cons, List.map_cons] at e
      obtain ⟨e1, e2⟩ := List.cons.inj e
      rw [sgs_join]
      show lay (l ++ (ls.map (preB [10])).flatten) = _
      rw [lay_app, e1]
      have n2 : ∀ l ∈ ls, l ≠ [] := fun l m => n l (List.mem_cons_of_mem _ m)
      clear n e1 e
      congr 1
      induction ls generalizing ts with
      | nil =>
        cases ts with
        | nil => rfl
        | cons t ts => cases e2
      | cons l ls ih =>
        cases ts with
        | nil => cases e2
        | cons t ts =>
          rw [List.map_cons, List.map_cons] at e2
          obtain ⟨e3, e4⟩ := List.cons.inj e2
          rw [List.map_cons, List.flatten_cons, lay_app, lay_pre (n2 l List.mem_cons_self), e3, List.flatMap_cons, ih ts e4 fun l m => n2 l (List.mem_cons_of_mem _ m)]
          rfl
theorem snd_join : ∀ ls : List (List Pc), (joinP ls).map Prod.snd = ls.flatten.map Prod.snd
  | [] => rfl
  | l :: ls => by
    show (l ++ (ls.map (preB [10])).flatten).map Prod.snd = _
    rw [List.flatten_cons, List.map_append, List.map_append]
    congr 1
    induction ls with
    | nil => rfl
    | cons l ls ih => rw [List.map_cons, List.flatten_cons, List.flatten_cons, List.map_append, List.map_append, snd_pre, ih]
theorem snd_in (ls : List (List Pc)) : (inP ls).flatten.map Prod.snd = ls.flatten.map Prod.snd := by
  unfold inP
  induction ls with
  | nil => rfl
  | cons l ls ih => rw [List.map_cons, List.flatten_cons, List.flatten_cons, List.map_append, List.map_append, snd_pre, ih]
theorem hdf_lines : ∀ ls : List (List Pc), HdF (ls.map (preB [10])).flatten
  | [] => fun q z => nomatch z
  | [] :: ls => hdf_lines ls
  | (p :: r) :: ls => hdf_bl (fun z => nomatch z)
theorem gap_join : ∀ {ls : List (List Pc)}, (∀ l ∈ ls, Gap l) → Gap (joinP ls)
  | [], _ => trivial
  | l :: ls, h => by
    have z : Gap (ls.map (preB [10])).flatten := by
      have h2 : ∀ l ∈ ls, Gap l := fun l m => h l (List.mem_cons_of_mem _ m)
      clear h
      induction ls with
      | nil => trivial
      | cons l ls ih =>
        rw [List.map_cons, List.flatten_cons]
        exact gap_app (ih fun l m => h2 l (List.mem_cons_of_mem _ m)) (hdf_lines ls) (gap_pre (fun c m => by cases List.mem_singleton.mp m; decide +kernel) (h2 l List.mem_cons_self))
    exact gap_app z (hdf_lines ls) (h l List.mem_cons_self)
/-- what the law draws: statements -/
inductive DsS (E : Exp → Prop) (B : List Stm → Prop) : Stm → Prop
  | set {s : Str} {e : Exp} : Nm s → s.length ≤ 5 → E e → DsS E B (.set s e)
  | tell {e : Exp} : E e → DsS E B (.tell e)
  | do_ {e : Exp} : E e → DsS E B (.do_ e)
  | while_ {e : Exp} {b : List Stm} : E e → B b → DsS E B (.while_ e b)
  | for_ {s : Str} {e : Exp} {b : List Stm} : Nm s → s.length ≤ 5 → E e → B b → DsS E B (.for_ s e b)
  | if_ {e : Exp} {b c : List Stm} : E e → B b → B c → DsS E B (.if_ e b c)
  | try_ {b c : List Stm} : B b → B c → DsS E B (.try_ b c)
def DsB (S : Stm → Prop) (b : List Stm) : Prop := b.length ≤ 2 ∧ ∀ s ∈ b, S s
def Ds : Nat → Stm → Prop
  | 0 => DsS (Dn 2) fun _ => False
  | m + 1 => DsS (Dn 2) (DsB (Ds m))
theorem DsS.mono {E : Exp → Prop} {B B' : List Stm → Prop} (h : ∀ b, B b → B' b) {s : Stm} (d : DsS E B s) : DsS E B' s := by
  cases d with
  | set a b c => exact .set a b c
  | tell a => exact .tell a
  | do_ a => exact .do_ a
  | while_ a b => exact .while_ a (h _ b)
  | for_ a b c d => exact .for_ a b c (h _ d)
  | if_ a b c => exact .if_ a (h _ b) (h _ c)
  | try_ b c => exact .try_ (h _ b) (h _ c)
theorem Ds.up : ∀ {m : Nat} {s : Stm}, Ds m s → Ds (m + 1) s
  | 0, _, h => DsS.mono (fun _ z => False.elim z) h
  | m + 1, _, h => DsS.mono (fun _ z => ⟨z.1, fun s q => Ds.up (z.2 s q)⟩) h
abbrev Tk2 : Exp → List Wo → Prop := TKE 6 6 0
theorem dn2 {e : Exp} (d : Dn 2 e) {b : List Nat} (hb : Bk b) : WrOk Tk2 b (wrE b 0 e) e := wr_ok 2 d (by decide) (by decide) hb
/-- all lines of a statement: their words, and where blanks are -/
def LnOk (T : List Wo → Prop) (ls : List (List Pc)) : Prop := T (ls.flatten.map Prod.snd) ∧ ∀ l ∈ ls, Gap l
theorem gap_in {ls : List (List Pc)} (h : ∀ l ∈ ls, Gap l) : ∀ l ∈ inP ls, Gap l := fun l m => by
  unfold inP at m
  obtain ⟨l', m', rfl⟩ := List.mem_map.mp m
  exact gap_pre (fun c m => by
    have q : c = 32 := by simpa using m
    rw [q]
    decide +kernel) (h l' m')
theorem gap_sg {b : List Nat} {s : Str} {r : List Pc} (hb : Bk b) (hs : s ∈ sigW) (g : Gap r) (f : HdF r) : Gap ((b, Wo.sg s) :: r) := gap_cons hb (.sg hs) g (f.ap _)
theorem gap_end {b : List Nat} {s : Str} (hb : Bk b) (hs : s ∈ sigW) : Gap [(b, Wo.sg s)] := gap_one hb (.sg hs)
theorem ln_step {B : List Stm → Prop} {T : List Stm → List Wo → Prop} (ih : ∀ b, B b → LnOk (fun ws => T b (.sg "{" :: (ws ++ [.sg "}"]))) (stPs b)) {s : Stm} (d : DsS (Dn 2) B s) : LnOk (TkS Tk2 T s) (stP s) := by
  have one : ∀ {l : List Pc}, Gap l → ∀ l' ∈ [l], Gap l' := fun g l' m => by
    cases List.mem_singleton.mp m
    exact g
  have ge : Gap [([], Wo.sg "}")] := gap_end bk_nil (by decide +kernel)
  have blk : ∀ {hd : List Pc} {b : List Stm} {rest : List (List Pc)}, Gap hd → B b → (∀ l ∈ rest, Gap l) → ∀ l ∈ (hd :: inP (stPs b)) ++ rest, Gap l := fun {hd b rest} g1 g2 g3 l m => by
    rcases List.mem_append.mp m with m | m
    · rcases List.mem_cons.mp m with rfl | m
      · exact g1
      · exact gap_in (ih b g2).2 l m
    · exact g3 l m
  have wb : ∀ {b : List Stm}, B b → ∃ ws, (inP (stPs b)).flatten.map Prod.snd = ws ∧ T b (.sg "{" :: (ws ++ [.sg "}"])) := fun {b} hb => ⟨_, rfl, by rw [snd_in]; exact (ih b hb).1⟩
  have oth : ∀ {c : List Stm}, B c → ∃ os, (othP c (stPs c)).flatten.map Prod.snd ++ [Wo.sg "}"] = Wo.sg "}" :: os ∧ TkO T c os ∧ ∀ l ∈ othP c (stPs c), Gap l := fun {c} hc => by
    cases c with
    | nil => exact ⟨[], rfl, .no, fun l m => nomatch m⟩
    | cons s0 c0 =>
      obtain ⟨ws, e, t⟩ := wb hc
      refine ⟨_, ?_, .yes t, fun l m => ?_⟩
      · show ((([([], Wo.sg "}"), ([32], Wo.sg "else"), ([32], Wo.sg "{")] : List Pc) :: inP (stPs (s0 :: c0))).flatten.map Prod.snd) ++ [Wo.sg "}"] = _
        rw [List.flatten_cons, List.map_append, e]
        rfl
      · rcases List.mem_cons.mp (show l ∈ ([([], Wo.sg "}"), ([32], Wo.sg "else"), ([32], Wo.sg "{")] : List Pc) :: inP (stPs (s0 :: c0)) from m) with rfl | m
        · exact gap_sg bk_nil (by decide +kernel) (gap_sg bk_sp (by decide +kernel) (gap_end bk_sp (by decide +kernel)) (hdf_bl (by decide))) (hdf_bl (by decide))
        · exact gap_in (ih _ hc).2 l m
  cases d with
  | @set s e hn _ he =>
    have w := dn2 he bk_sp
    rw [stP]
    refine ⟨?_, one ?_⟩
    · have z := TkS.set (B := T) hn w.t
      simpa using z
    · exact gap_cons bk_nil (.wrd hn) (gap_cons bk_sp (.sg (by decide +kernel)) (gap_app (gap_end bk_nil (by decide +kernel)) (hdf_solo (by decide +kernel)) w.g) ((w.hdf (by decide) _).ap _)) ((hdf_bl (b := [32]) (by decide)).ap _)
  | @tell e he =>
    have w := dn2 he bk_sp
    rw [stP]
    refine ⟨?_, one ?_⟩
    · have z := TkS.tell (B := T) w.t
      simpa using z
    · exact gap_cons bk_nil (.sg (by decide +kernel)) (gap_app (gap_end bk_nil (by decide +kernel)) (hdf_solo (by decide +kernel)) w.g) ((w.hdf (by decide) _).ap _)
  | @do_ e he =>
    have w := dn2 he bk_nil
    rw [stP]
    refine ⟨?_, one ?_⟩
    · have z := TkS.do_ (B := T) w.t
      simpa using z
    · exact gap_app (gap_end bk_nil (by decide +kernel)) (hdf_solo (by decide +kernel)) w.g
  | @while_ e b he hb =>
    have w := dn2 he bk_sp
    obtain ⟨ws, ew, t⟩ := wb hb
    rw [stP]
    refine ⟨?_, blk ?_ hb (one ge)⟩
    · have z := TkS.while_ w.t t
      rw [List.flatten_append, List.map_append, List.flatten_cons, List.map_append, ew]
      simpa using z
    · exact gap_cons bk_nil (.sg (by decide +kernel)) (gap_app (gap_end bk_sp (by decide +kernel)) (hdf_bl (by decide)) w.g) ((w.hdf (by decide) _).ap _)
  | @for_ s e b hn _ he hb =>
    have w := dn2 he bk_sp
    obtain ⟨ws, ew, t⟩ := wb hb
    rw [stP]
    refine ⟨?_, blk ?_ hb (one ge)⟩
    · have z := TkS.for_ hn w.t t
      rw [List.flatten_append, List.map_append, List.flatten_cons, List.map_append, ew]
      simpa using z
    · exact gap_cons bk_nil (.sg (by decide +kernel)) (gap_cons bk_sp (.wrd hn) (gap_cons bk_sp (.sg (by decide +kernel)) (gap_app (gap_end bk_sp (by decide +kernel)) (hdf_bl (by decide)) w.g) ((w.hdf (by decide) _).ap _)) ((hdf_bl (b := [32]) (by decide)).ap _)) ((hdf_bl (b := [32]) (by decide)).ap _)
  | @if_ e b c he hb hc =>
    have w := dn2 he bk_sp
    obtain ⟨ws, ew, t⟩ := wb hb
    obtain ⟨os, eo, to, go⟩ := oth hc
    rw [stP]
    refine ⟨?_, ?_⟩
    · have z := TkS.if_ w.t t to
      have e1 : (((((([], Wo.sg "if") : Pc) :: (wrE [32] 0 e ++ [([32], Wo.sg "{")])) :: inP (stPs b)) ++ othP c (stPs c)) ++ [[([], Wo.sg "}")]]).flatten.map Prod.snd = (Wo.sg "if" :: ((wrE [32] 0 e).map Prod.snd ++ [Wo.sg "{"])) ++ (ws ++ ((othP c (stPs c)).flatten.map Prod.snd ++ [Wo.sg "}"])) := by
        rw [List.flatten_append, List.map_append, List.flatten_append, List.map_append, List.flatten_cons, List.map_append, ew]
        simp
      rw [e1, eo]
      simpa using z
    · rw [List.append_assoc]
      refine blk ?_ hb fun l m => ?_
      · exact gap_cons bk_nil (.sg (by decide +kernel)) (gap_app (gap_end bk_sp (by decide +kernel)) (hdf_bl (by decide)) w.g) ((w.hdf (by decide) _).ap _)
      · rcases List.mem_append.mp m with m | m
        · exact go l m
        · exact one ge l m
  | @try_ b c hb hc =>
    obtain ⟨ws, ew, t⟩ := wb hb
    obtain ⟨os, eo, to, go⟩ := oth hc
    rw [stP]
    refine ⟨?_, ?_⟩
    · have z := TkS.try_ (E := Tk2) t to
      have e1 : (((([([], Wo.sg "try"), ([32], Wo.sg "{")] : List Pc) :: inP (stPs b)) ++ othP c (stPs c)) ++ [[([], Wo.sg "}")]]).flatten.map Prod.snd = [Wo.sg "try", Wo.sg "{"] ++ (ws ++ ((othP c (stPs c)).flatten.map Prod.snd ++ [Wo.sg "}"])) := by
        rw [List.flatten_append, List.map_append, List.flatten_append, List.map_append, List.flatten_cons, List.map_append, ew]
        simp
      rw [e1, eo]
      simpa using z
    · rw [List.append_assoc]
      refine blk ?_ hb fun l m => ?_
      · exact gap_sg bk_nil (by decide +kernel) (gap_end bk_sp (by decide +kernel)) (hdf_bl (by decide))
      · rcases List.mem_append.mp m with m | m
        · exact go l m
        · exact one ge l m
theorem ln_list {S : Stm → Prop} {T : Stm → List Wo → Prop} (h : ∀ s, S s → LnOk (T s) (stP s)) : ∀ {b : List Stm}, (∀ s ∈ b, S s) → LnOk (TkM T b) (stPs b)
  | [], _ => by
    rw [stPs]
    exact ⟨.nil, fun l m => nomatch m⟩
  | s :: b, hb => by
    obtain ⟨t1, g1⟩ := h s (hb s List.mem_cons_self)
    obtain ⟨t2, g2⟩ := ln_list h fun x m => hb x (List.mem_cons_of_mem _ m)
    rw [stPs]
    refine ⟨?_, fun l m => (List.mem_append.mp m).elim (g1 l) (g2 l)⟩
    rw [List.flatten_append, List.map_append]
    exact .cons t1 t2
theorem ln_ok : ∀ {m : Nat} {s : Stm}, Ds m s → LnOk (TKS Tk2 m s) (stP s)
  | 0, s, d => ln_step (B := fun _ => False) (T := fun _ _ => False) (fun b z => False.elim z) d
  | m + 1, s, d => ln_step (B := DsB (Ds m)) (T := TkB (TKS Tk2 m)) (fun b z => by
      obtain ⟨t, g⟩ := ln_list (fun s q => ln_ok q) z.2
      exact ⟨⟨_, t, by have := z.1; omega, rfl⟩, g⟩) d
/-- the written form of a block is read as the block -/
theorem read_wr {m : Nat} {b : List Stm} (hb : ∀ s ∈ b, Ds m s) : ∃ (k : Nat) (items : List Tok3), RunAt (Txt.join "\n" (stLs b)) BLK 0 k ∧ Lay (Txt.join "\n" (stLs b)) k items ∧ PSs (SP (XP 7) m) (items ++ [endT (Txt.join "\n" (stLs b))]) 0 items.length (stDs b) := by
  obtain ⟨t, g⟩ := ln_list (fun s q => ln_ok q) hb
  refine read_ok (ps := joinP (stPs b)) (h := 6) (n := 6) (gap_join g) (lay_join (tx_sts b)).symm ?_
  rw [snd_join]
  exact t
end K72
set_option maxHeartbeats 4000000
namespace K72
open PySem PySem.Spec PyProof.Rows L2 Evl My LamX
/-! How great what is drawn may be -/
mutual
def exN : Exp → Nat
  | .num _ => 0
  | .txt _ => 0
  | .var _ => 0
  | .call _ es => exNs es + 1
  | .row _ _ o es => exN o + exNs es + 1
def exNs : List Exp → Nat
  | [] => 0
  | e :: es => exN e + exNs es
end
mutual
def stN : Stm → Nat
  | .set _ e => exN e + 1
  | .tell e => exN e + 1
  | .do_ e => exN e + 1
  | .while_ e b => exN e + stNs b + 1
  | .for_ _ e b => exN e + stNs b + 1
  | .if_ e b c => exN e + stNs b + stNs c + 1
  | .try_ b c => stNs b + stNs c + 1
def stNs : List Stm → Nat
  | [] => 0
  | s :: b => stN s + stNs b
end
theorem stNs_app : ∀ b c : List Stm, stNs (b ++ c) = stNs b + stNs c
  | [], c => by
    show stNs c = stNs [] + stNs c
    rw [stNs]
    omega
  | s :: b, c => by
    show stNs (s :: (b ++ c)) = _
    rw [stNs, stNs, stNs_app b c]
    omega
theorem exNs_mem : ∀ {es : List Exp} {e : Exp}, e ∈ es → exN e ≤ exNs es
  | x :: es, e, h => by
    rw [exNs]
    rcases List.mem_cons.mp h with rfl | h
    · omega
    · have := exNs_mem h
      omega
theorem stNs_mem : ∀ {b : List Stm} {s : Stm}, s ∈ b → stN s ≤ stNs b
  | x :: b, s, h => by
    rw [stNs]
    rcases List.mem_cons.mp h with rfl | h
    · omega
    · have := stNs_mem h
      omega
theorem num9 {m : Nat} (h : m < 10 ^ 9) : (TL.numL m).length ≤ 9 := TL.numL_len (by decide) h
theorem argn_b : ∀ y ∈ ARGN, y.1.length ≤ 7 ∧ y.2 ≤ 4 := by decide +kernel
theorem slen (s : Str) : (sgs s).length = s.length := Array.length_toList
theorem jl (y p : Str) (r : List Str) : (Txt.join y (p :: r)).length = p.length + (r.map fun q => y.length + q.length).sum := by
  rw [← slen, sgs_join, List.length_append, slen]
  congr 1
  induction r with
  | nil => rfl
  | cons q r ih => rw [List.flatMap_cons, List.length_append, List.length_append, slen, slen, ih, List.map_cons, List.sum_cons]
theorem exR_len {r : Nat} {e : Exp} : (exR r e).length ≤ (exT e).length + 2 := by
  cases e with
  | row g ss o es =>
    show (if g < r then ("(" ++ exT (.row g ss o es)) ++ ")" else exT (.row g ss o es)).length ≤ _
    have e1 : ("(" : Str).length = 1 := by decide +kernel
    have e2 : (")" : Str).length = 1 := by decide +kernel
    split
    · rw [app_len, app_len]
      omega
    · omega
  | _ => exact Nat.le_add_right _ 2
/-- lengths of the written form -/
abbrev LnP (D : Exp → Prop) : Prop := ∀ {e : Exp}, D e → ∀ r, (exR r e).length ≤ 9 + 44 * exN e
theorem ln_R {D : Exp → Prop} (ih : LnP D) : ∀ {es : List Exp}, (∀ x ∈ es, D x) → ((exTs es).map fun q => (", " : Str).length + q.length).sum ≤ 11 * es.length + 44 * exNs es
  | [], _ => by
    rw [exTs, exNs]
    exact Nat.zero_le _
  | e :: es, h => by
    have q := ln_R ih fun x m => h x (List.mem_cons_of_mem _ m)
    have q1 := ih (h e List.mem_cons_self) 0
    rw [exR_zero] at q1
    have e2' : (", " : Str).length = 2 := by decide +kernel
    rw [exTs, exNs, List.map_cons, List.sum_cons, List.length_cons]
    omega
theorem ln_W {D : Exp → Prop} {g : Nat} (ih : LnP D) : ∀ {ss : List Str} {es : List Exp}, ss.length = es.length → (∀ s ∈ ss, s.length ≤ 3) → (∀ x ∈ es, D x) → ((weave ss (exTw g es)).map fun q => (" " : Str).length + q.length).sum ≤ 14 * es.length + 44 * exNs es
  | [], [], _, _, _ => by
    rw [exTw, exNs]
    exact Nat.zero_le _
  | s :: ss, e :: es, l, hs, h => by
    have q := ln_W (g := g) ih (by simpa using l) (fun x m => hs x (List.mem_cons_of_mem _ m)) fun x m => h x (List.mem_cons_of_mem _ m)
    have q1 := ih (h e List.mem_cons_self) (g + 1)
    have q2 := hs s List.mem_cons_self
    have e1' : (" " : Str).length = 1 := by decide +kernel
    rw [exTw, exNs, List.length_cons]
    show (((" " : Str).length + s.length) :: ((" " : Str).length + (wrap g e (exT e)).length) :: (weave ss (exTw g es)).map fun q => (" " : Str).length + q.length).sum ≤ _
    rw [List.sum_cons, List.sum_cons, wrap_exR]
    omega
theorem len_step {D : Exp → Prop} (ih : LnP D) {e : Exp} (d : DnS D e) (r : Nat) : (exR r e).length ≤ 9 + 44 * exN e := by
  have e1 : ("(" : Str).length = 1 := by decide +kernel
  have e2 : (")" : Str).length = 1 := by decide +kernel
  have e3 : ("\"" : Str).length = 1 := by decide +kernel
  cases d with
  | @num m hm =>
    show (exT (.num m)).length ≤ _
    rw [exT, ← slen]
    have z : sgs (toString (m : Int)) = TL.numL m := TL.tl_num m
    rw [z]
    have := num9 hm
    omega
  | @txt xs hx l =>
    show (exT (.txt xs)).length ≤ _
    have ml : (mkS xs).length = xs.length := mkS_len
    rw [exT, app_len, app_len]
    omega
  | @var s hn l =>
    show (exT (.var s)).length ≤ _
    rw [exT]
    omega
  | @call s e es hs hd hds =>
    show (exT (.call s (e :: es))).length ≤ _
    have q : s.length ≤ 7 ∧ es.length + 1 ≤ 4 := argn_b _ hs
    have q1 := ih hd 0
    rw [exR_zero] at q1
    have q2 := ln_R ih hds
    rw [exT, exTs, app_len, app_len, app_len, jl, exN, exNs]
    omega
  | @row g ss o es g5 hs ln h2 l1 l3 hd hds =>
    have q1 := ih hd (g + 1)
    have q2 := ln_W (g := g) ih ln (fun s m => (gr_sig g g5 s (hs s m)).2.2.2) hds
    have q3 := exR_len (r := r) (e := .row g ss o es)
    have q4 : (exT (.row g ss o es)).length ≤ 9 + 44 * exN o + (14 * es.length + 44 * exNs es) := by
      rw [exT, jl, wrap_exR]
      omega
    rw [exN]
    omega
theorem ln_ex : ∀ k, LnP (Dn k)
  | 0 => fun d r => len_step (D := fun _ => False) (fun z => False.elim z) d r
  | k + 1 => fun d r => len_step (ln_ex k) d r
theorem Dn.len {k : Nat} {e : Exp} (d : Dn k e) : (exT e).length ≤ 9 + 44 * exN e := by
  have q := ln_ex k d 0
  rw [exR_zero] at q
  exact q
theorem fit_step {D : Exp → Prop} {k : Nat} (ih : ∀ {e : Exp}, D e → exN e ≤ 60 → Fit e ∧ exH e ≤ k) (le : ∀ {e : Exp}, DnS D e → (exT e).length ≤ 9 + 44 * exN e) {e : Exp} (d : DnS D e) (h : exN e ≤ 60) : Fit e ∧ exH e ≤ k + 1 := by
  have ll := le d
  have hs' : ∀ {es : List Exp}, (∀ x ∈ es, exH x ≤ k) → exHs es ≤ k := fun {es} => by
    induction es with
    | nil => exact fun _ => by rw [exHs]; exact Nat.zero_le _
    | cons e es ih =>
      intro h
      rw [exHs]
      exact Nat.max_le.mpr ⟨h e List.mem_cons_self, ih fun x m => h x (List.mem_cons_of_mem _ m)⟩
  cases d with
  | num hm => exact ⟨.num (Nat.lt_trans hm (by decide)), by rw [exH]; exact Nat.zero_le _⟩
  | txt hx l => exact ⟨.txt (by omega), by rw [exH]; exact Nat.zero_le _⟩
  | var hn l => exact ⟨.var (by omega), by rw [exH]; exact Nat.zero_le _⟩
  | @call s e es hs hd hds =>
    have a := (argn_b _ hs).2
    have a2 : es.length + 1 ≤ 4 := a
    rw [exN] at h ll
    have all : ∀ x ∈ e :: es, Fit x ∧ exH x ≤ k := fun x m => by
      have := exNs_mem m
      exact ih (by
        rcases List.mem_cons.mp m with rfl | m
        · exact hd
        · exact hds x m) (by omega)
    refine ⟨.call (by omega) (by rw [List.length_cons]; omega) fun x m => (all x m).1, ?_⟩
    have := hs' (es := e :: es) fun x m => (all x m).2
    rw [exH]
    omega
  | @row g ss o es g5 hs ln h2 l1 l3 hd hds =>
    rw [exN] at h ll
    have q1 := ih hd (by omega)
    have all : ∀ x ∈ es, Fit x ∧ exH x ≤ k := fun x m => by
      have := exNs_mem m
      exact ih (hds x m) (by omega)
    refine ⟨.row (by omega) ln (by omega) (fun s m => ?_) q1.1 fun x m => (all x m).1, ?_⟩
    · have := (gr_sig g g5 s (hs s m)).2.2.2
      omega
    · have := hs' (es := es) fun x m => (all x m).2
      rw [exH]
      have := q1.2
      omega
theorem fit_ex : ∀ k {e : Exp}, Dn k e → exN e ≤ 60 → Fit e ∧ exH e ≤ k + 1
  | 0, e, d, h => fit_step (D := fun _ => False) (k := 0) (fun z => False.elim z) (fun d => by have q := len_step (D := fun _ => False) (fun z => False.elim z) d 0; rw [exR_zero] at q; exact q) d h
  | k + 1, e, d, h => fit_step (D := Dn k) (k := k + 1) (fit_ex k) (fun d => by have q := len_step (ln_ex k) d 0; rw [exR_zero] at q; exact q) d h
/-! data that can be compared -/
structure Sh (d : PyData) (n : Nat) : Prop where
  cl : d.canLay0 = true
  dp : d.depth ≤ n
theorem sh_str {s : Str} (h : PyData.strOk s = true) {n : Nat} : Sh (.str s) n := ⟨h, Nat.zero_le _⟩
theorem sh_int {i : Int} {n : Nat} : Sh (.int i) n := ⟨rfl, Nat.zero_le _⟩
theorem sh_non {n : Nat} : Sh .none n := ⟨rfl, Nat.zero_le _⟩
theorem Sh.up {d : PyData} {n m : Nat} (h : Sh d n) (l : n ≤ m) : Sh d m := ⟨h.cl, Nat.le_trans h.dp l⟩
inductive Shs : List PyData → Nat → Prop
  | nil {n : Nat} : Shs [] n
  | cons {d : PyData} {ds : List PyData} {n : Nat} : Sh d n → Shs ds n → Shs (d :: ds) n
theorem Shs.of : ∀ {ds : List PyData} {n : Nat}, (∀ d ∈ ds, Sh d n) → Shs ds n
  | [], _, _ => .nil
  | d :: ds, _, h => .cons (h d List.mem_cons_self) (Shs.of fun x m => h x (List.mem_cons_of_mem _ m))
theorem Shs.all {ds : List PyData} {n : Nat} (h : Shs ds n) : PyData.canLayAll0 ds = true ∧ PyData.depthAll ds ≤ n := by
  induction h with
  | nil => exact ⟨rfl, Nat.zero_le _⟩
  | cons g _ ih =>
    refine ⟨?_, ?_⟩
    · show (PyData.canLay0 _ && PyData.canLayAll0 _) = true
      rw [g.cl, ih.1]
      rfl
    · have e : ∀ (d : PyData) (ds : List PyData), PyData.depthAll (d :: ds) = max d.depth (PyData.depthAll ds) := fun d ds => by
        first | rfl | simp [PyData.depthAll]
      rw [e]
      exact Nat.max_le.mpr ⟨g.dp, ih.2⟩
theorem sh_tup {ds : List PyData} {n : Nat} (h : Shs ds n) : Sh (.tuple ds) (n + 1) := ⟨h.all.1, Nat.succ_le_succ h.all.2⟩
theorem sh_lst {ds : List PyData} {n : Nat} (h : Shs ds n) : Sh (.list ds) (n + 1) := ⟨h.all.1, Nat.succ_le_succ h.all.2⟩
theorem Sh.shaped {d : PyData} {n : Nat} (h : Sh d n) (l : n ≤ 64) : SeqAt.shaped d = true := by
  unfold SeqAt.shaped
  rw [h.cl, decide_eq_true (Nat.le_trans h.dp l)]
  rfl
theorem sok {s : Str} (h : ∀ c ∈ s.cps.toList, c < 0x110000) : PyData.strOk s = true := by
  show s.cps.all (fun c => decide (c < 0x110000)) = true
  rw [← Array.all_toList]
  exact List.all_eq_true.mpr fun c hc => decide_eq_true (h c hc)
theorem wsg_lt {c : Nat} (h : c ∈ WSG.cps.toList) : c < 0x110000 := by
  have q : ∀ c ∈ WSG.cps.toList, c < 0x110000 := by decide +kernel
  exact q c h
theorem nm_sok {s : Str} (h : Nm s) : PyData.strOk s = true := by
  obtain ⟨⟨c, xs, e, _, hw⟩, _⟩ := h
  exact sok fun c hc => wsg_lt (hw c (by rw [← e]; exact hc))
theorem sig_sok : ∀ s ∈ sigW, PyData.strOk s = true := by decide +kernel
theorem sh_lit {s : Str} {n : Nat} (h : PyData.strOk s = true := by decide +kernel) : Sh (.str s) n := sh_str h
theorem sh_step {D : Exp → Prop} {n : Nat} (ih : ∀ {e : Exp}, D e → Sh (exD e) n) {e : Exp} (d : DnS D e) : Sh (exD e) (n + 2) := by
  cases d with
  | num hm =>
    rw [exD]
    exact (sh_tup (n := 0) (.cons sh_lit (.cons sh_int .nil))).up (by omega)
  | txt hx l =>
    rw [exD]
    exact (sh_tup (n := 0) (.cons sh_lit (.cons (sh_str (sok fun c hc => by
      have q := hx c hc
      omega)) .nil))).up (by omega)
  | var hn l =>
    rw [exD]
    exact (sh_tup (n := 0) (.cons sh_lit (.cons (sh_str (nm_sok hn)) .nil))).up (by omega)
  | @call s e es hs hd hds =>
    have q := argn_nm _ hs
    rw [exD, exDs, exDs_map]
    refine sh_tup (n := n + 1) (.cons sh_lit (.cons (sh_str (nm_sok (nm_of q.2 q.1))) (.cons (sh_tup (.cons (ih hd) (.of fun d m => ?_))) .nil)))
    obtain ⟨x, mx, rfl⟩ := List.mem_map.mp m
    exact ih (hds x mx)
  | @row g ss o es g5 hs ln h2 l1 l3 hd hds =>
    rw [exD, exDs_map]
    refine sh_tup (n := n + 1) (.cons sh_lit (.cons sh_int (.cons (sh_tup (.cons (ih hd) (.of fun d m => ?_))) (.cons ((sh_tup (n := 0) (.of fun d m => ?_)).up (by omega)) .nil))))
    · obtain ⟨x, mx, rfl⟩ := List.mem_map.mp m
      exact ih (hds x mx)
    · obtain ⟨x, mx, rfl⟩ := List.mem_map.mp m
      exact sh_str (sig_sok _ (gr_sig g g5 x (hs x mx)).1)
theorem sh_ex : ∀ k {e : Exp}, Dn k e → Sh (exD e) (2 * k + 2)
  | 0, _, d => sh_step (D := fun _ => False) (n := 0) (fun z => False.elim z) d
  | k + 1, _, d => sh_step (n := 2 * k + 2) (fun z => sh_ex k z) d
theorem shs_sts {S : Stm → Prop} {n : Nat} (ih : ∀ {s : Stm}, S s → Sh (stD s) n) {b : List Stm} (h : ∀ s ∈ b, S s) : Sh (.tuple (stDs b)) (n + 1) := by
  rw [stDs_map]
  refine sh_tup (.of fun d m => ?_)
  obtain ⟨x, mx, rfl⟩ := List.mem_map.mp m
  exact ih (h x mx)
theorem shS_step {B : List Stm → Prop} {n : Nat} (n6 : 6 ≤ n) (ih : ∀ {b : List Stm}, B b → Sh (.tuple (stDs b)) n) {s : Stm} (d : DsS (Dn 2) B s) : Sh (stD s) (n + 1) := by
  have ex : ∀ {e : Exp}, Dn 2 e → Sh (exD e) n := fun d => (sh_ex 2 d).up n6
  have nt : Sh (.tuple []) n := (sh_tup (n := 0) .nil).up (by omega)
  cases d with
  | set hn _ he =>
    rw [stD]
    exact sh_tup (.cons sh_lit (.cons (sh_str (nm_sok hn)) (.cons (ex he) (.cons nt (.cons nt .nil)))))
  | tell he =>
    rw [stD]
    exact sh_tup (.cons sh_lit (.cons sh_non (.cons (ex he) (.cons nt (.cons nt .nil)))))
  | do_ he =>
    rw [stD]
    exact sh_tup (.cons sh_lit (.cons sh_non (.cons (ex he) (.cons nt (.cons nt .nil)))))
  | while_ he hb =>
    rw [stD]
    exact sh_tup (.cons sh_lit (.cons sh_non (.cons (ex he) (.cons (ih hb) (.cons nt .nil)))))
  | for_ hn _ he hb =>
    rw [stD]
    exact sh_tup (.cons sh_lit (.cons (sh_str (nm_sok hn)) (.cons (ex he) (.cons (ih hb) (.cons nt .nil)))))
  | if_ he hb hc =>
    rw [stD]
    exact sh_tup (.cons sh_lit (.cons sh_non (.cons (ex he) (.cons (ih hb) (.cons (ih hc) .nil)))))
  | try_ hb hc =>
    rw [stD]
    exact sh_tup (.cons sh_lit (.cons sh_non (.cons sh_non (.cons (ih hb) (.cons (ih hc) .nil)))))
theorem sh_st : ∀ m {s : Stm}, Ds m s → Sh (stD s) (2 * m + 7)
  | 0, _, d => shS_step (B := fun _ => False) (n := 6) (by decide) (fun z => False.elim z) d
  | m + 1, _, d => shS_step (n := 2 * m + 8) (by omega) (fun z => shs_sts (n := 2 * m + 7) (fun q => sh_st m q) z.2) d
theorem sh_sts {m : Nat} {b : List Stm} (h : ∀ s ∈ b, Ds m s) : Sh (.tuple (stDs b)) (2 * m + 8) := shs_sts (fun q => sh_st m q) h
end K72
set_option maxHeartbeats 4000000
namespace K72
open PySem PySem.Spec PyProof.Rows L2 Evl My LamX
/-! The lines of what is drawn; the law's own tuples; when two are equal -/
def Wd (k : Nat) (ls : List Str) : Nat := (ls.map fun z => z.length + k).sum
theorem wd_app (k : Nat) (a b : List Str) : Wd k (a ++ b) = Wd k a + Wd k b := by
  unfold Wd
  rw [List.map_append, List.sum_append]
theorem wd_cons (k : Nat) (z : Str) (b : List Str) : Wd k (z :: b) = z.length + k + Wd k b := by
  unfold Wd
  rw [List.map_cons, List.sum_cons]
theorem wd_nil (k : Nat) : Wd k [] = 0 := rfl
theorem wd_inn (k : Nat) (a : List Str) : Wd k (inn a) = Wd (k + 2) a := by
  have e2 : ("  " : Str).length = 2 := by decide +kernel
  induction a with
  | nil => rfl
  | cons z a ih =>
    show Wd k (("  " ++ z) :: inn a) = _
    rw [wd_cons, wd_cons, ih, app_len]
    omega
theorem wd_len {k : Nat} (h : 1 ≤ k) : ∀ ls : List Str, k * ls.length ≤ Wd k ls ∧ ∀ z ∈ ls, z.length ≤ Wd k ls
  | [] => ⟨by rw [List.length_nil, Nat.mul_zero]; exact Nat.zero_le _, fun z m => nomatch m⟩
  | z :: ls => by
    obtain ⟨a, b⟩ := wd_len h ls
    rw [wd_cons, List.length_cons, Nat.mul_add]
    refine ⟨by omega, fun y m => ?_⟩
    rcases List.mem_cons.mp m with rfl | m
    · omega
    · have := b y m
      omega
theorem wd_fit {k : Nat} {ls : List Str} (h : 3 ≤ k) (w : Wd k ls ≤ 2700) : FitL ls := by
  obtain ⟨a, b⟩ := wd_len (k := k) (by omega) ls
  have h3 : 3 * ls.length ≤ k * ls.length := Nat.mul_le_mul_right _ h
  generalize k * ls.length = x at a h3
  exact ⟨by omega, fun z m => by have := b z m; omega⟩
theorem wd_oth {k : Nat} {c : List Stm} {ls : List Str} (n : c = [] → ls = []) : Wd k (othL c ls) ≤ 8 + k + Wd (k + 2) ls := by
  have e8 : ("} else {" : Str).length = 8 := by decide +kernel
  cases c with
  | nil =>
    show Wd k [] ≤ _
    rw [wd_nil]
    exact Nat.zero_le _
  | cons s b =>
    show Wd k ("} else {" :: inn ls) ≤ _
    rw [wd_cons, wd_inn]
    omega
theorem wd_step {B : List Stm → Prop} {k : Nat} (k7 : k ≤ 7) (ih : ∀ {b : List Stm}, B b → Wd (k + 2) (stLs b) ≤ 44 * stNs b) {s : Stm} (d : DsS (Dn 2) B s) : Wd k (stL s) ≤ 44 * stN s := by
  have e1 : (";" : Str).length = 1 := by decide +kernel
  have e2 : (" = " : Str).length = 3 := by decide +kernel
  have e3 : ("tell " : Str).length = 5 := by decide +kernel
  have e4 : ("while " : Str).length = 6 := by decide +kernel
  have e5 : (" {" : Str).length = 2 := by decide +kernel
  have e6 : ("}" : Str).length = 1 := by decide +kernel
  have e7 : ("for " : Str).length = 4 := by decide +kernel
  have e8 : (" in " : Str).length = 4 := by decide +kernel
  have e9 : ("if " : Str).length = 3 := by decide +kernel
  have e10 : ("try {" : Str).length = 5 := by decide +kernel
  cases d with
  | set hn l he =>
    have := he.len
    rw [stL, stN, wd_cons, wd_nil, app_len, app_len, app_len]
    omega
  | tell he =>
    have := he.len
    rw [stL, stN, wd_cons, wd_nil, app_len, app_len]
    omega
  | do_ he =>
    have := he.len
    rw [stL, stN, wd_cons, wd_nil, app_len]
    omega
  | while_ he hb =>
    have := he.len
    have := ih hb
    rw [stL, stN, wd_app, wd_cons, wd_cons, wd_nil, wd_inn, app_len, app_len]
    omega
  | for_ hn l he hb =>
    have := he.len
    have := ih hb
    rw [stL, stN, wd_app, wd_cons, wd_cons, wd_nil, wd_inn, app_len, app_len, app_len, app_len]
    omega
  | @if_ e b c he hb hc =>
    have := he.len
    have := ih hb
    have := ih hc
    have := wd_oth (k := k) (c := c) (ls := stLs c) fun z => by rw [z, stLs]
    rw [stL, stN, wd_app, wd_app, wd_cons, wd_cons, wd_nil, wd_inn, app_len, app_len]
    omega
  | @try_ b c hb hc =>
    have := ih hb
    have := ih hc
    have := wd_oth (k := k) (c := c) (ls := stLs c) fun z => by rw [z, stLs]
    rw [stL, stN, wd_app, wd_app, wd_cons, wd_cons, wd_nil, wd_inn]
    omega
theorem wd_list {S : Stm → Prop} {k : Nat} (h : ∀ {s : Stm}, S s → Wd k (stL s) ≤ 44 * stN s) : ∀ {b : List Stm}, (∀ s ∈ b, S s) → Wd k (stLs b) ≤ 44 * stNs b
  | [], _ => by
    rw [stLs, wd_nil]
    exact Nat.zero_le _
  | s :: b, hb => by
    have q1 := h (hb s List.mem_cons_self)
    have q2 := wd_list h fun x m => hb x (List.mem_cons_of_mem _ m)
    rw [stLs, stNs, wd_app]
    omega
theorem wd_st : ∀ m {s : Stm} {k : Nat}, k + 2 * m ≤ 7 → Ds m s → Wd k (stL s) ≤ 44 * stN s
  | 0, _, k, l, d => wd_step (B := fun _ => False) (by omega) (fun z => False.elim z) d
  | m + 1, _, k, l, d => wd_step (B := DsB (Ds m)) (by omega) (fun z => wd_list (fun q => wd_st m (by omega) q) z.2) d
theorem wd_sts {m k : Nat} {b : List Stm} (l : k + 2 * m ≤ 7) (h : ∀ s ∈ b, Ds m s) : Wd k (stLs b) ≤ 44 * stNs b := wd_list (fun q => wd_st m l q) h
theorem join_wd {ls : List Str} {k : Nat} (h : 1 ≤ k) : (Txt.join "\n" ls).length ≤ Wd k ls := by
  have e1 : ("\n" : Str).length = 1 := by decide +kernel
  cases ls with
  | nil => exact Nat.zero_le _
  | cons z ls =>
    rw [jl, wd_cons]
    have q : (ls.map fun q => ("\n" : Str).length + q.length).sum ≤ Wd k ls := by
      induction ls with
      | nil => exact Nat.zero_le _
      | cons y ls ih =>
        rw [List.map_cons, List.sum_cons, wd_cons]
        omega
    omega
theorem fs_step {B : List Stm → Prop} {m : Nat} (ih : ∀ {b : List Stm}, B b → stNs b ≤ 60 → FitL (stLs b) ∧ b.length ≤ 900 ∧ (∀ s ∈ b, FitS 4 m s) ∧ SeqAt.shaped (.tuple (stDs b)) = true) {s : Stm} (d : DsS (Dn 2) B s) (h : stN s ≤ 60) : FitS 4 (m + 1) s := by
  have ex : ∀ {e : Exp}, Dn 2 e → exN e ≤ 60 → Fit e ∧ exH e < 4 := fun d h => by
    obtain ⟨a, b⟩ := fit_ex 2 d h
    exact ⟨a, by omega⟩
  cases d with
  | set hn l he =>
    rw [stN] at h
    have q := ex he (by omega)
    exact .set (by omega) q.1 q.2
  | tell he =>
    rw [stN] at h
    have q := ex he (by omega)
    exact .tell q.1 q.2
  | do_ he =>
    rw [stN] at h
    have q := ex he (by omega)
    exact .do_ q.1 q.2
  | while_ he hb =>
    rw [stN] at h
    have q := ex he (by omega)
    obtain ⟨a, b, c, _⟩ := ih hb (by omega)
    exact .while_ q.1 q.2 a b c
  | for_ hn l he hb =>
    rw [stN] at h
    have q := ex he (by omega)
    obtain ⟨a, b, c, _⟩ := ih hb (by omega)
    exact .for_ (by omega) q.1 q.2 a b c
  | if_ he hb hc =>
    rw [stN] at h
    have q := ex he (by omega)
    obtain ⟨a, b, c, _⟩ := ih hb (by omega)
    obtain ⟨a2, b2, c2, d2⟩ := ih hc (by omega)
    exact .if_ q.1 q.2 a b c a2 b2 c2 d2
  | try_ hb hc =>
    rw [stN] at h
    obtain ⟨a, b, c, _⟩ := ih hb (by omega)
    obtain ⟨a2, b2, c2, d2⟩ := ih hc (by omega)
    exact .try_ a b c a2 b2 c2 d2
theorem fs_st : ∀ m {s : Stm}, m ≤ 2 → Ds m s → stN s ≤ 60 → FitS 4 (m + 1) s
  | 0, _, _, d, h => fs_step (B := fun _ => False) (fun z => False.elim z) d h
  | m + 1, _, m2, d, h => fs_step (B := DsB (Ds m)) (fun {b} z hb => by
      have w := wd_sts (k := 7 - 2 * m) (by omega) z.2
      refine ⟨wd_fit (k := 7 - 2 * m) (by omega) (by omega), by have := z.1; omega, fun s q => ?_, (sh_sts z.2).shaped (by omega)⟩
      have := stNs_mem q
      exact fs_st m (by omega) (z.2 s q) (by omega)) d h
/-- a drawn block as a whole -/
structure Blk2 (b : List Stm) : Prop where
  d : ∀ s ∈ b, Ds 2 s
  n : stNs b ≤ 40
  l : b.length ≤ 8
theorem Blk2.fs {b : List Stm} (h : Blk2 b) : ∀ s ∈ b, FitS 4 3 s := fun s m => by
  have := stNs_mem m
  have := h.n
  exact fs_st 2 (by decide) (h.d s m) (by omega)
theorem Blk2.wd {b : List Stm} (h : Blk2 b) : Wd 3 (stLs b) ≤ 1760 := by
  have := wd_sts (m := 2) (k := 3) (by decide) h.d
  have := h.n
  omega
theorem Blk2.fl {b : List Stm} (h : Blk2 b) : FitL (stLs b) := wd_fit (k := 3) (by decide) (by have := h.wd; omega)
theorem Blk2.tl {b : List Stm} (h : Blk2 b) : (Txt.join "\n" (stLs b)).length ≤ 2000 := by
  have := h.wd
  have := join_wd (ls := stLs b) (k := 3) (by decide)
  omega
theorem Blk2.sh {b : List Stm} (h : Blk2 b) : SeqAt.shaped (.tuple (stDs b)) = true := (sh_sts h.d).shaped (by decide)
/-! equal data -/
mutual
def nb : PyData → Bool
  | .none => true
  | .bool _ => false
  | .int _ => true
  | .str _ => true
  | .list ds => nbs ds
  | .tuple ds => nbs ds
  | .dict _ => false
def nbs : List PyData → Bool
  | [] => true
  | d :: ds => nb d && nbs ds
end
mutual
theorem eqv_iff : ∀ a b : PyData, nb a = true → nb b = true → (PyData.eqv a b = true ↔ a = b)
  | .none, b, _, h => by cases b <;> simp [PyData.eqv, nb] at h ⊢
  | .bool _, b, h, _ => by cases h
  | .int i, b, _, h => by cases b <;> simp [PyData.eqv, nb] at h ⊢
  | .str x, b, _, h => by cases b <;> simp [PyData.eqv, nb] at h ⊢
  | .list xs, b, h1, h2 => by
    cases b with
    | list ys =>
      have q := eqvs_iff xs ys h1 h2
      show PyData.eqvAll xs ys = true ↔ _
      rw [q, PyData.list.injEq]
    | _ => simp [PyData.eqv]
  | .tuple xs, b, h1, h2 => by
    cases b with
    | tuple ys =>
      have q := eqvs_iff xs ys h1 h2
      show PyData.eqvAll xs ys = true ↔ _
      rw [q, PyData.tuple.injEq]
    | _ => simp [PyData.eqv]
  | .dict _, b, h, _ => by cases h
theorem eqvs_iff : ∀ a b : List PyData, nbs a = true → nbs b = true → (PyData.eqvAll a b = true ↔ a = b)
  | [], [], _, _ => by simp [PyData.eqvAll]
  | [], _ :: _, _, _ => by simp [PyData.eqvAll]
  | _ :: _, [], _, _ => by simp [PyData.eqvAll]
  | x :: xs, y :: ys, h1, h2 => by
    have g1 : (nb x && nbs xs) = true := h1
    have g2 : (nb y && nbs ys) = true := h2
    rw [Bool.and_eq_true] at g1 g2
    have q1 := eqv_iff x y g1.1 g2.1
    have q2 := eqvs_iff xs ys g1.2 g2.2
    show (PyData.eqv x y && PyData.eqvAll xs ys) = true ↔ _
    rw [Bool.and_eq_true, q1, q2, List.cons.injEq]
end
theorem nbs_of : ∀ {ds : List PyData}, (∀ d ∈ ds, nb d = true) → nbs ds = true
  | [], _ => rfl
  | d :: ds, h => by
    show (nb d && nbs ds) = true
    rw [h d List.mem_cons_self, nbs_of fun x m => h x (List.mem_cons_of_mem _ m)]
    rfl
def hdS : PyData → Str
  | .tuple (.str s :: _) => s
  | _ => ""
mutual
theorem nb_ex : ∀ e : Exp, nb (exD e) = true
  | .num _ => by rw [exD]; rfl
  | .txt _ => by rw [exD]; rfl
  | .var _ => by rw [exD]; rfl
  | .call s es => by
    rw [exD]
    show (true && (true && (nbs (exDs es) && true))) = true
    rw [nb_exs es]
    rfl
  | .row g ss o es => by
    rw [exD]
    show (true && (true && ((nb (exD o) && nbs (exDs es)) && (nbs (ss.map PyData.str) && true)))) = true
    rw [nb_ex o, nb_exs es, nbs_of (ds := ss.map PyData.str) fun d m => by
      obtain ⟨x, _, rfl⟩ := List.mem_map.mp m
      rfl]
    rfl
theorem nb_exs : ∀ es : List Exp, nbs (exDs es) = true
  | [] => by rw [exDs]; rfl
  | e :: es => by
    rw [exDs]
    show (nb (exD e) && nbs (exDs es)) = true
    rw [nb_ex e, nb_exs es]
    rfl
end
theorem map_str_inj : ∀ {a b : List Str}, a.map PyData.str = b.map PyData.str → a = b
  | [], [], _ => rfl
  | x :: a, y :: b, h => by
    rw [List.map_cons, List.map_cons] at h
    obtain ⟨h1, h2⟩ := List.cons.inj h
    rw [PyData.str.inj h1, map_str_inj h2]
theorem hd_ex : ∀ e : Exp, hdS (exD e) = kdE e
  | .num _ => by rw [exD]; rfl
  | .txt _ => by rw [exD]; rfl
  | .var _ => by rw [exD]; rfl
  | .call _ _ => by rw [exD]; rfl
  | .row _ _ _ _ => by rw [exD]; rfl
theorem kds : ("number" : Str) ≠ "text" ∧ ("number" : Str) ≠ "variable" ∧ ("number" : Str) ≠ "call" ∧ ("number" : Str) ≠ "row" ∧ ("text" : Str) ≠ "variable" ∧ ("text" : Str) ≠ "call" ∧ ("text" : Str) ≠ "row" ∧ ("variable" : Str) ≠ "call" ∧ ("variable" : Str) ≠ "row" ∧ ("call" : Str) ≠ "row" := by decide +kernel
mutual
theorem exD_inj : ∀ a b : Exp, exD a = exD b → a = b
  | .num m, b, h => by
    have k : ("number" : Str) = kdE b := by rw [← hd_ex b, ← h, exD]; rfl
    cases b with
    | num m' =>
      rw [exD, exD] at h
      simp only [PyData.tuple.injEq, List.cons.injEq, PyData.int.injEq, true_and, and_true] at h
      rw [Int.ofNat.inj h]
    | txt _ => exact absurd k kds.1
    | var _ => exact absurd k kds.2.1
    | call _ _ => exact absurd k kds.2.2.1
    | row _ _ _ _ => exact absurd k kds.2.2.2.1
  | .txt xs, b, h => by
    have k : ("text" : Str) = kdE b := by rw [← hd_ex b, ← h, exD]; rfl
    cases b with
    | txt ys =>
      rw [exD, exD] at h
      simp only [PyData.tuple.injEq, List.cons.injEq, PyData.str.injEq, true_and, and_true] at h
      have z := congrArg (fun s : Str => s.cps.toList) h
      exact congrArg Exp.txt z
    | num _ => exact absurd k.symm kds.1
    | var _ => exact absurd k kds.2.2.2.2.1
    | call _ _ => exact absurd k kds.2.2.2.2.2.1
    | row _ _ _ _ => exact absurd k kds.2.2.2.2.2.2.1
  | .var s, b, h => by
    have k : ("variable" : Str) = kdE b := by rw [← hd_ex b, ← h, exD]; rfl
    cases b with
    | var s' =>
      rw [exD, exD] at h
      simp only [PyData.tuple.injEq, List.cons.injEq, PyData.str.injEq, true_and, and_true] at h
      rw [h]
    | num _ => exact absurd k.symm kds.2.1
    | txt _ => exact absurd k.symm kds.2.2.2.2.1
    | call _ _ => exact absurd k kds.2.2.2.2.2.2.2.1
    | row _ _ _ _ => exact absurd k kds.2.2.2.2.2.2.2.2.1
  | .call s es, b, h => by
    have k : ("call" : Str) = kdE b := by rw [← hd_ex b, ← h, exD]; rfl
    cases b with
    | call s' es' =>
      rw [exD, exD] at h
      simp only [PyData.tuple.injEq, List.cons.injEq, PyData.str.injEq, true_and, and_true] at h
      rw [h.1, exDs_inj es es' h.2]
    | num _ => exact absurd k.symm kds.2.2.1
    | txt _ => exact absurd k.symm kds.2.2.2.2.2.1
    | var _ => exact absurd k.symm kds.2.2.2.2.2.2.2.1
    | row _ _ _ _ => exact absurd k kds.2.2.2.2.2.2.2.2.2
  | .row g ss o es, b, h => by
    have k : ("row" : Str) = kdE b := by rw [← hd_ex b, ← h, exD]; rfl
    cases b with
    | row g' ss' o' es' =>
      rw [exD, exD] at h
      simp only [PyData.tuple.injEq, List.cons.injEq, PyData.int.injEq, true_and, and_true] at h
      obtain ⟨h1, ⟨h2, h3⟩, h4⟩ := h
      rw [Int.ofNat.inj h1, exD_inj o o' h2, exDs_inj es es' h3, map_str_inj h4]
    | num _ => exact absurd k.symm kds.2.2.2.1
    | txt _ => exact absurd k.symm kds.2.2.2.2.2.2.1
    | var _ => exact absurd k.symm kds.2.2.2.2.2.2.2.2.1
    | call _ _ => exact absurd k.symm kds.2.2.2.2.2.2.2.2.2
theorem exDs_inj : ∀ a b : List Exp, exDs a = exDs b → a = b
  | [], [], _ => rfl
  | [], e :: b, h => by
    rw [exDs, exDs] at h
    cases h
  | e :: a, [], h => by
    rw [exDs, exDs] at h
    cases h
  | e :: a, e' :: b, h => by
    rw [exDs, exDs] at h
    obtain ⟨h1, h2⟩ := List.cons.inj h
    rw [exD_inj e e' h1, exDs_inj a b h2]
end
mutual
theorem nb_st : ∀ s : Stm, nb (stD s) = true
  | .set _ e => by rw [stD]; show (true && (true && (nb (exD e) && (true && (true && true))))) = true; rw [nb_ex e]; rfl
  | .tell e => by rw [stD]; show (true && (true && (nb (exD e) && (true && (true && true))))) = true; rw [nb_ex e]; rfl
  | .do_ e => by rw [stD]; show (true && (true && (nb (exD e) && (true && (true && true))))) = true; rw [nb_ex e]; rfl
  | .while_ e b => by rw [stD]; show (true && (true && (nb (exD e) && (nbs (stDs b) && (true && true))))) = true; rw [nb_ex e, nb_sts b]; rfl
  | .for_ _ e b => by rw [stD]; show (true && (true && (nb (exD e) && (nbs (stDs b) && (true && true))))) = true; rw [nb_ex e, nb_sts b]; rfl
  | .if_ e b c => by rw [stD]; show (true && (true && (nb (exD e) && (nbs (stDs b) && (nbs (stDs c) && true))))) = true; rw [nb_ex e, nb_sts b, nb_sts c]; rfl
  | .try_ b c => by rw [stD]; show (true && (true && (true && (nbs (stDs b) && (nbs (stDs c) && true))))) = true; rw [nb_sts b, nb_sts c]; rfl
theorem nb_sts : ∀ b : List Stm, nbs (stDs b) = true
  | [] => by rw [stDs]; rfl
  | s :: b => by rw [stDs]; show (nb (stD s) && nbs (stDs b)) = true; rw [nb_st s, nb_sts b]; rfl
end
def kdS : Stm → Nat
  | .set _ _ => 0
  | .tell _ => 1
  | .do_ _ => 2
  | .while_ _ _ => 3
  | .for_ _ _ _ => 4
  | .if_ _ _ _ => 5
  | .try_ _ _ => 6
def kwS : List Str := ["set", "tell", "do", "while", "for", "if", "try"]
theorem kws_inj : ∀ i, i < 7 → ∀ j, j < 7 → kwS.getD i "" = kwS.getD j "" → i = j := by decide +kernel
theorem kdS_lt (s : Stm) : kdS s < 7 := by cases s <;> exact Nat.lt_of_le_of_lt (Nat.le_of_ble_eq_true rfl : _ ≤ 6) (by decide : 6 < 7)
theorem hd_st : ∀ s : Stm, hdS (stD s) = kwS.getD (kdS s) ""
  | .set _ _ => by rw [stD]; rfl
  | .tell _ => by rw [stD]; rfl
  | .do_ _ => by rw [stD]; rfl
  | .while_ _ _ => by rw [stD]; rfl
  | .for_ _ _ _ => by rw [stD]; rfl
  | .if_ _ _ _ => by rw [stD]; rfl
  | .try_ _ _ => by rw [stD]; rfl
theorem kd_eq {F : Stm → PyData} (hF : ∀ s, hdS (F s) = kwS.getD (kdS s) "") {a b : Stm} (h : F a = F b) : kdS a = kdS b := kws_inj _ (kdS_lt a) _ (kdS_lt b) (by rw [← hF a, ← hF b, h])
mutual
theorem stD_inj : ∀ a b : Stm, stD a = stD b → a = b
  | .set s e, b, h => by
    have k := kd_eq hd_st h
    cases b with
    | set s' e' =>
      rw [stD, stD] at h
      simp only [PyData.tuple.injEq, List.cons.injEq, PyData.str.injEq, true_and, and_true] at h
      rw [h.1, exD_inj _ _ h.2]
    | _ => cases k
  | .tell e, b, h => by
    have k := kd_eq hd_st h
    cases b with
    | tell e' =>
      rw [stD, stD] at h
      simp only [PyData.tuple.injEq, List.cons.injEq, PyData.str.injEq, true_and, and_true] at h
      rw [exD_inj _ _ h]
    | _ => cases k
  | .do_ e, b, h => by
    have k := kd_eq hd_st h
    cases b with
    | do_ e' =>
      rw [stD, stD] at h
      simp only [PyData.tuple.injEq, List.cons.injEq, PyData.str.injEq, true_and, and_true] at h
      rw [exD_inj _ _ h]
    | _ => cases k
  | .while_ e c, b, h => by
    have k := kd_eq hd_st h
    cases b with
    | while_ e' c' =>
      rw [stD, stD] at h
      simp only [PyData.tuple.injEq, List.cons.injEq, PyData.str.injEq, true_and, and_true] at h
      rw [exD_inj _ _ h.1, stDs_inj _ _ h.2]
    | _ => cases k
  | .for_ s e c, b, h => by
    have k := kd_eq hd_st h
    cases b with
    | for_ s' e' c' =>
      rw [stD, stD] at h
      simp only [PyData.tuple.injEq, List.cons.injEq, PyData.str.injEq, true_and, and_true] at h
      rw [h.1, exD_inj _ _ h.2.1, stDs_inj _ _ h.2.2]
    | _ => cases k
  | .if_ e c d, b, h => by
    have k := kd_eq hd_st h
    cases b with
    | if_ e' c' d' =>
      rw [stD, stD] at h
      simp only [PyData.tuple.injEq, List.cons.injEq, PyData.str.injEq, true_and, and_true] at h
      rw [exD_inj _ _ h.1, stDs_inj _ _ h.2.1, stDs_inj _ _ h.2.2]
    | _ => cases k
  | .try_ c d, b, h => by
    have k := kd_eq hd_st h
    cases b with
    | try_ c' d' =>
      rw [stD, stD] at h
      simp only [PyData.tuple.injEq, List.cons.injEq, PyData.str.injEq, true_and, and_true] at h
      rw [stDs_inj _ _ h.1, stDs_inj _ _ h.2]
    | _ => cases k
theorem stDs_inj : ∀ a b : List Stm, stDs a = stDs b → a = b
  | [], [], _ => rfl
  | [], e :: b, h => by
    rw [stDs, stDs] at h
    cases h
  | e :: a, [], h => by
    rw [stDs, stDs] at h
    cases h
  | e :: a, e' :: b, h => by
    rw [stDs, stDs] at h
    obtain ⟨h1, h2⟩ := List.cons.inj h
    rw [stD_inj e e' h1, stDs_inj a b h2]
end
theorem eq_st (a b : List Stm) : PyData.eqv (.tuple (stDs a)) (.tuple (stDs b)) = true ↔ a = b := by
  rw [eqv_iff (.tuple (stDs a)) (.tuple (stDs b)) (nb_sts a) (nb_sts b), PyData.tuple.injEq]
  exact ⟨stDs_inj a b, fun h => by rw [h]⟩
end K72
set_option maxHeartbeats 4000000
namespace K72
open PySem PySem.Spec PyProof.Rows L2 Evl My LamX
/-! The law's own tuples -/
mutual
def lwD : Exp → PyData
  | .num m => .tuple [.str "leaf", .str (exT (.num m))]
  | .txt xs => .tuple [.str "leaf", .str (exT (.txt xs))]
  | .var s => .tuple [.str "leaf", .str (exT (.var s))]
  | .call s es => .tuple [.str "call", .str s, .list (lwDs es)]
  | .row g ss o es => .tuple [.str "row", .int (g : Int), lwD o, .list (lwR ss es)]
def lwDs : List Exp → List PyData
  | [] => []
  | e :: es => lwD e :: lwDs es
def lwR : List Str → List Exp → List PyData
  | s :: ss, e :: es => .tuple [.str s, lwD e] :: lwR ss es
  | _, [] => []
  | [], _ :: _ => []
end
mutual
def lsD : Stm → PyData
  | .set s e => .tuple [.str "set", .str s, lwD e]
  | .tell e => .tuple [.str "tell", lwD e]
  | .do_ e => .tuple [.str "do", lwD e]
  | .while_ e b => .tuple [.str "while", lwD e, .list (lsDs b)]
  | .for_ s e b => .tuple [.str "for", .str s, lwD e, .list (lsDs b)]
  | .if_ e b c => .tuple [.str "if", lwD e, .list (lsDs b), .list (lsDs c)]
  | .try_ b c => .tuple [.str "try", .none, .list (lsDs b), .list (lsDs c)]
def lsDs : List Stm → List PyData
  | [] => []
  | s :: b => lsD s :: lsDs b
end
theorem lwDs_map : ∀ es, lwDs es = es.map lwD
  | [] => rfl
  | e :: es => by rw [lwDs, lwDs_map es]; rfl
theorem lsDs_map : ∀ b, lsDs b = b.map lsD
  | [] => rfl
  | e :: es => by rw [lsDs, lsDs_map es]; rfl
theorem lwDs_len (es : List Exp) : (lwDs es).length = es.length := by rw [lwDs_map, List.length_map]
theorem lsDs_len (b : List Stm) : (lsDs b).length = b.length := by rw [lsDs_map, List.length_map]
theorem lwR_len : ∀ {ss : List Str} {es : List Exp}, ss.length = es.length → (lwR ss es).length = ss.length
  | [], [], _ => by rw [lwR]; rfl
  | s :: ss, e :: es, h => by rw [lwR, List.length_cons, List.length_cons, lwR_len (by simpa using h)]
def leafB : Exp → Bool
  | .num _ => true
  | .txt _ => true
  | .var _ => true
  | _ => false
def kdL : Exp → Str
  | .call _ _ => "call"
  | .row _ _ _ _ => "row"
  | _ => "leaf"
theorem hd_lw : ∀ e : Exp, hdS (lwD e) = kdL e
  | .num _ => by rw [lwD]; rfl
  | .txt _ => by rw [lwD]; rfl
  | .var _ => by rw [lwD]; rfl
  | .call _ _ => by rw [lwD]; rfl
  | .row _ _ _ _ => by rw [lwD]; rfl
theorem hd_ls : ∀ s : Stm, hdS (lsD s) = kwS.getD (kdS s) ""
  | .set _ _ => by rw [lsD]; rfl
  | .tell _ => by rw [lsD]; rfl
  | .do_ _ => by rw [lsD]; rfl
  | .while_ _ _ => by rw [lsD]; rfl
  | .for_ _ _ _ => by rw [lsD]; rfl
  | .if_ _ _ _ => by rw [lsD]; rfl
  | .try_ _ _ => by rw [lsD]; rfl
theorem numL_inj {m n : Nat} (h : TL.numL m = TL.numL n) : m = n := by
  have a := TL.numL_val m
  have b := TL.numL_val n
  rw [h] at a
  exact a.symm.trans b
theorem sgs_num (m : Nat) : sgs (exT (.num m)) = TL.numL m := by
  rw [exT]
  exact TL.tl_num m
theorem sgs_txt (xs : List Nat) : sgs (exT (.txt xs)) = 34 :: (xs ++ [34]) := by
  rw [exT, sgs_app, sgs_app, sg_po.2.2.2.2.2.1]
  rfl
theorem num_hd (m : Nat) : ∃ c r, TL.numL m = c :: r ∧ 48 ≤ c ∧ c ≤ 57 := by
  have hd : NumText.AllDigits (TL.numL m) := TL.numL_digits m
  cases e : TL.numL m with
  | nil => exact absurd e (TL.numL_ne m)
  | cons c r =>
    have q := hd c (by rw [e]; exact List.mem_cons_self)
    exact ⟨c, r, rfl, q.1, q.2⟩
theorem let_lo : ∀ c ∈ LET.cps.toList, 97 ≤ c := by decide +kernel
theorem leaf_eq {D E : Exp → Prop} {a b : Exp} (la : leafB a = true) (lb : leafB b = true) (da : DnS D a) (db : DnS E b) (h : exT a = exT b) : a = b := by
  have hs : sgs (exT a) = sgs (exT b) := by rw [h]
  have nv : ∀ {m : Nat} {s : Str}, Nm s → TL.numL m = sgs s → False := fun {m s} hn z => by
    obtain ⟨⟨c, xs, e, hl, _⟩, _⟩ := hn
    obtain ⟨d, r, e2, q1, q2⟩ := num_hd m
    rw [e2, show sgs s = _ from e] at z
    have := let_lo c hl
    have := (List.cons.inj z).1
    omega
  have tv : ∀ {xs : List Nat} {s : Str}, Nm s → 34 :: (xs ++ [34]) = sgs s → False := fun {xs s} hn z => by
    obtain ⟨⟨c, ys, e, hl, _⟩, _⟩ := hn
    rw [show sgs s = _ from e] at z
    have := let_lo c hl
    have := (List.cons.inj z).1
    omega
  have nt : ∀ {m : Nat} {xs : List Nat}, TL.numL m = 34 :: (xs ++ [34]) → False := fun {m xs} z => by
    obtain ⟨d, r, e2, q1, q2⟩ := num_hd m
    rw [e2] at z
    have := (List.cons.inj z).1
    omega
  have ev : ∀ s : Str, exT (.var s) = s := fun s => by rw [exT]
  cases a with
  | num m =>
    rw [sgs_num] at hs
    cases b with
    | num n =>
      rw [sgs_num] at hs
      rw [numL_inj hs]
    | txt ys =>
      rw [sgs_txt] at hs
      exact (nt hs).elim
    | var s =>
      rw [ev] at hs
      cases db with
      | var hn _ => exact (nv hn hs).elim
    | call _ _ => cases lb
    | row _ _ _ _ => cases lb
  | txt xs =>
    rw [sgs_txt] at hs
    cases b with
    | num n =>
      rw [sgs_num] at hs
      exact (nt hs.symm).elim
    | txt ys =>
      rw [sgs_txt] at hs
      have z := (List.cons.inj hs).2
      have z2 := List.append_inj_left' z rfl
      rw [z2]
    | var s =>
      rw [ev] at hs
      cases db with
      | var hn _ => exact (tv hn hs).elim
    | call _ _ => cases lb
    | row _ _ _ _ => cases lb
  | var s =>
    rw [ev] at hs
    cases da with
    | var hn _ =>
      cases b with
      | num n =>
        rw [sgs_num] at hs
        exact (nv hn hs.symm).elim
      | txt ys =>
        rw [sgs_txt] at hs
        exact (tv hn hs.symm).elim
      | var s' =>
        rw [ev, ev] at h
        rw [h]
      | call _ _ => cases lb
      | row _ _ _ _ => cases lb
  | call _ _ => cases la
  | row _ _ _ _ => cases la
theorem lw_leaf {e : Exp} (h : leafB e = true) : lwD e = .tuple [.str "leaf", .str (exT e)] := by
  cases e with
  | num _ => rw [lwD]
  | txt _ => rw [lwD]
  | var _ => rw [lwD]
  | call _ _ => cases h
  | row _ _ _ _ => cases h
theorem kdl_leaf {e : Exp} : kdL e = "leaf" ↔ leafB e = true := by
  cases e with
  | num _ => exact ⟨fun _ => rfl, fun _ => rfl⟩
  | txt _ => exact ⟨fun _ => rfl, fun _ => rfl⟩
  | var _ => exact ⟨fun _ => rfl, fun _ => rfl⟩
  | call _ _ => exact ⟨fun z => absurd z (show ("call" : Str) ≠ "leaf" by decide +kernel), fun z => nomatch z⟩
  | row _ _ _ _ => exact ⟨fun z => absurd z (show ("row" : Str) ≠ "leaf" by decide +kernel), fun z => nomatch z⟩
abbrev InjP (D : Exp → Prop) : Prop := ∀ {a b : Exp}, D a → D b → lwD a = lwD b → a = b
theorem lwDs_inj {D : Exp → Prop} (ih : InjP D) : ∀ {as bs : List Exp}, (∀ x ∈ as, D x) → (∀ x ∈ bs, D x) → lwDs as = lwDs bs → as = bs
  | [], [], _, _, _ => rfl
  | [], e :: b, _, _, h => by
    rw [lwDs, lwDs] at h
    cases h
  | e :: a, [], _, _, h => by
    rw [lwDs, lwDs] at h
    cases h
  | e :: a, e' :: b, ha, hb, h => by
    rw [lwDs, lwDs] at h
    obtain ⟨h1, h2⟩ := List.cons.inj h
    rw [ih (ha e List.mem_cons_self) (hb e' List.mem_cons_self) h1, lwDs_inj ih (fun x m => ha x (List.mem_cons_of_mem _ m)) (fun x m => hb x (List.mem_cons_of_mem _ m)) h2]
theorem lwR_inj {D : Exp → Prop} (ih : InjP D) : ∀ {ss ts : List Str} {as bs : List Exp}, ss.length = as.length → ts.length = bs.length → (∀ x ∈ as, D x) → (∀ x ∈ bs, D x) → lwR ss as = lwR ts bs → ss = ts ∧ as = bs
  | [], [], [], [], _, _, _, _, _ => ⟨rfl, rfl⟩
  | [], t :: ts, [], e :: b, _, _, _, _, h => by
    rw [lwR, lwR] at h
    cases h
  | s :: ss, [], e :: a, [], _, _, _, _, h => by
    rw [lwR, lwR] at h
    cases h
  | s :: ss, t :: ts, e :: a, e' :: b, l1, l2, ha, hb, h => by
    rw [lwR, lwR] at h
    obtain ⟨h1, h2⟩ := List.cons.inj h
    simp only [PyData.tuple.injEq, List.cons.injEq, PyData.str.injEq, true_and, and_true] at h1
    obtain ⟨q1, q2⟩ := lwR_inj ih (by simpa using l1) (by simpa using l2) (fun x m => ha x (List.mem_cons_of_mem _ m)) (fun x m => hb x (List.mem_cons_of_mem _ m)) h2
    rw [h1.1, ih (ha e List.mem_cons_self) (hb e' List.mem_cons_self) h1.2, q1, q2]
    exact ⟨rfl, rfl⟩
theorem inj_step {D : Exp → Prop} (ih : InjP D) {a b : Exp} (da : DnS D a) (db : DnS D b) (h : lwD a = lwD b) : a = b := by
  have k : kdL a = kdL b := by rw [← hd_lw a, ← hd_lw b, h]
  by_cases la : leafB a = true
  · have lb : leafB b = true := kdl_leaf.mp (k ▸ kdl_leaf.mpr la)
    rw [lw_leaf la, lw_leaf lb] at h
    simp only [PyData.tuple.injEq, List.cons.injEq, PyData.str.injEq, true_and, and_true] at h
    exact leaf_eq la lb da db h
  · have lb : ¬ leafB b = true := fun z => la (kdl_leaf.mp (k.trans (kdl_leaf.mpr z)))
    cases da with
    | num _ => exact absurd rfl la
    | txt _ _ => exact absurd rfl la
    | var _ _ => exact absurd rfl la
    | call hs hd hds =>
      cases db with
      | num _ => exact absurd rfl lb
      | txt _ _ => exact absurd rfl lb
      | var _ _ => exact absurd rfl lb
      | call hs' hd' hds' =>
        rw [lwD, lwD] at h
        simp only [PyData.tuple.injEq, List.cons.injEq, PyData.str.injEq, PyData.list.injEq, true_and, and_true] at h
        have q := lwDs_inj ih (fun x m => (List.mem_cons.mp m).elim (fun z => z ▸ hd) (hds x)) (fun x m => (List.mem_cons.mp m).elim (fun z => z ▸ hd') (hds' x)) h.2
        rw [h.1, q]
      | row _ _ _ _ _ _ _ _ => exact absurd k (show ("call" : Str) ≠ "row" by decide +kernel)
    | row g5 hs ln h2 l1 l3 hd hds =>
      cases db with
      | num _ => exact absurd rfl lb
      | txt _ _ => exact absurd rfl lb
      | var _ _ => exact absurd rfl lb
      | call _ _ _ => exact absurd k.symm (show ("call" : Str) ≠ "row" by decide +kernel)
      | row g5' hs' ln' h2' l1' l3' hd' hds' =>
        rw [lwD, lwD] at h
        simp only [PyData.tuple.injEq, List.cons.injEq, PyData.int.injEq, PyData.list.injEq, true_and, and_true] at h
        obtain ⟨q1, q2⟩ := lwR_inj ih ln ln' hds hds' h.2.2
        rw [Int.ofNat.inj h.1, ih hd hd' h.2.1, q1, q2]
theorem lw_inj : ∀ k, InjP (Dn k)
  | 0 => fun da db h => inj_step (D := fun _ => False) (fun z => False.elim z) da db h
  | k + 1 => fun da db h => inj_step (lw_inj k) da db h
theorem lsDs_inj {S : Stm → Prop} (ih : ∀ {a b : Stm}, S a → S b → lsD a = lsD b → a = b) : ∀ {as bs : List Stm}, (∀ x ∈ as, S x) → (∀ x ∈ bs, S x) → lsDs as = lsDs bs → as = bs
  | [], [], _, _, _ => rfl
  | [], e :: b, _, _, h => by
    rw [lsDs, lsDs] at h
    cases h
  | e :: a, [], _, _, h => by
    rw [lsDs, lsDs] at h
    cases h
  | e :: a, e' :: b, ha, hb, h => by
    rw [lsDs, lsDs] at h
    obtain ⟨h1, h2⟩ := List.cons.inj h
    rw [ih (ha e List.mem_cons_self) (hb e' List.mem_cons_self) h1, lsDs_inj ih (fun x m => ha x (List.mem_cons_of_mem _ m)) (fun x m => hb x (List.mem_cons_of_mem _ m)) h2]
theorem injS_step {B : List Stm → Prop} (ih : ∀ {a b : List Stm}, B a → B b → lsDs a = lsDs b → a = b) {a b : Stm} (da : DsS (Dn 2) B a) (db : DsS (Dn 2) B b) (h : lsD a = lsD b) : a = b := by
  have k := kd_eq hd_ls h
  have ie : ∀ {a b : Exp}, Dn 2 a → Dn 2 b → lwD a = lwD b → a = b := fun x y z => lw_inj 2 x y z
  cases da with
  | set hn l he =>
    cases db with
    | set hn' l' he' =>
      rw [lsD, lsD] at h
      simp only [PyData.tuple.injEq, List.cons.injEq, PyData.str.injEq, true_and, and_true] at h
      rw [h.1, ie he he' h.2]
    | _ => cases k
  | tell he =>
    cases db with
    | tell he' =>
      rw [lsD, lsD] at h
      simp only [PyData.tuple.injEq, List.cons.injEq, PyData.str.injEq, true_and, and_true] at h
      rw [ie he he' h]
    | _ => cases k
  | do_ he =>
    cases db with
    | do_ he' =>
      rw [lsD, lsD] at h
      simp only [PyData.tuple.injEq, List.cons.injEq, PyData.str.injEq, true_and, and_true] at h
      rw [ie he he' h]
    | _ => cases k
  | while_ he hb =>
    cases db with
    | while_ he' hb' =>
      rw [lsD, lsD] at h
      simp only [PyData.tuple.injEq, List.cons.injEq, PyData.list.injEq, true_and, and_true] at h
      rw [ie he he' h.1, ih hb hb' h.2]
    | _ => cases k
  | for_ hn l he hb =>
    cases db with
    | for_ hn' l' he' hb' =>
      rw [lsD, lsD] at h
      simp only [PyData.tuple.injEq, List.cons.injEq, PyData.str.injEq, PyData.list.injEq, true_and, and_true] at h
      rw [h.1, ie he he' h.2.1, ih hb hb' h.2.2]
    | _ => cases k
  | if_ he hb hc =>
    cases db with
    | if_ he' hb' hc' =>
      rw [lsD, lsD] at h
      simp only [PyData.tuple.injEq, List.cons.injEq, PyData.list.injEq, true_and, and_true] at h
      rw [ie he he' h.1, ih hb hb' h.2.1, ih hc hc' h.2.2]
    | _ => cases k
  | try_ hb hc =>
    cases db with
    | try_ hb' hc' =>
      rw [lsD, lsD] at h
      simp only [PyData.tuple.injEq, List.cons.injEq, PyData.list.injEq, true_and, and_true] at h
      rw [ih hb hb' h.1, ih hc hc' h.2]
    | _ => cases k
theorem ls_inj : ∀ m {a b : Stm}, Ds m a → Ds m b → lsD a = lsD b → a = b
  | 0, _, _, da, db, h => injS_step (B := fun _ => False) (fun z => False.elim z) da db h
  | m + 1, _, _, da, db, h => injS_step (B := DsB (Ds m)) (fun x y z => lsDs_inj (fun p q r => ls_inj m p q r) x.2 y.2 z) da db h
mutual
theorem nb_lw : ∀ e : Exp, nb (lwD e) = true
  | .num _ => by rw [lwD]; rfl
  | .txt _ => by rw [lwD]; rfl
  | .var _ => by rw [lwD]; rfl
  | .call s es => by
    rw [lwD]
    show (true && (true && (nbs (lwDs es) && true))) = true
    rw [nb_lws es]
    rfl
  | .row g ss o es => by
    rw [lwD]
    show (true && (true && (nb (lwD o) && (nbs (lwR ss es) && true)))) = true
    rw [nb_lw o, nb_lwR ss es]
    rfl
theorem nb_lws : ∀ es : List Exp, nbs (lwDs es) = true
  | [] => by rw [lwDs]; rfl
  | e :: es => by
    rw [lwDs]
    show (nb (lwD e) && nbs (lwDs es)) = true
    rw [nb_lw e, nb_lws es]
    rfl
theorem nb_lwR : ∀ (ss : List Str) (es : List Exp), nbs (lwR ss es) = true
  | s :: ss, e :: es => by
    rw [lwR]
    show ((true && (nb (lwD e) && true)) && nbs (lwR ss es)) = true
    rw [nb_lw e, nb_lwR ss es]
    rfl
  | [], [] => by rw [lwR]; rfl
  | s :: ss, [] => by rw [lwR]; rfl
  | [], e :: es => by rw [lwR]; rfl
end
mutual
theorem nb_ls : ∀ s : Stm, nb (lsD s) = true
  | .set _ e => by rw [lsD]; show (true && (true && (nb (lwD e) && true))) = true; rw [nb_lw e]; rfl
  | .tell e => by rw [lsD]; show (true && (nb (lwD e) && true)) = true; rw [nb_lw e]; rfl
  | .do_ e => by rw [lsD]; show (true && (nb (lwD e) && true)) = true; rw [nb_lw e]; rfl
  | .while_ e b => by rw [lsD]; show (true && (nb (lwD e) && (nbs (lsDs b) && true))) = true; rw [nb_lw e, nb_lss b]; rfl
  | .for_ _ e b => by rw [lsD]; show (true && (true && (nb (lwD e) && (nbs (lsDs b) && true)))) = true; rw [nb_lw e, nb_lss b]; rfl
  | .if_ e b c => by rw [lsD]; show (true && (nb (lwD e) && (nbs (lsDs b) && (nbs (lsDs c) && true)))) = true; rw [nb_lw e, nb_lss b, nb_lss c]; rfl
  | .try_ b c => by rw [lsD]; show (true && (true && (nbs (lsDs b) && (nbs (lsDs c) && true)))) = true; rw [nb_lss b, nb_lss c]; rfl
theorem nb_lss : ∀ b : List Stm, nbs (lsDs b) = true
  | [] => by rw [lsDs]; rfl
  | s :: b => by rw [lsDs]; show (nb (lsD s) && nbs (lsDs b)) = true; rw [nb_ls s, nb_lss b]; rfl
end
theorem eq_ls {m : Nat} {a b : List Stm} (ha : ∀ s ∈ a, Ds m s) (hb : ∀ s ∈ b, Ds m s) : PyData.eqv (.list (lsDs a)) (.list (lsDs b)) = true ↔ a = b := by
  rw [eqv_iff (.list (lsDs a)) (.list (lsDs b)) (nb_lss a) (nb_lss b), PyData.list.injEq]
  exact ⟨lsDs_inj (fun p q r => ls_inj m p q r) ha hb, fun h => by rw [h]⟩
theorem eq_both {m : Nat} {a b : List Stm} (ha : ∀ s ∈ a, Ds m s) (hb : ∀ s ∈ b, Ds m s) : PyData.eqv (.tuple (stDs a)) (.tuple (stDs b)) = PyData.eqv (.list (lsDs a)) (.list (lsDs b)) := by
  rw [Bool.eq_iff_iff, eq_st, eq_ls ha hb]
/-! their shape -/
theorem sok_app {a b : Str} (x : PyData.strOk a = true) (y : PyData.strOk b = true) : PyData.strOk (a ++ b) = true := by
  have x' : a.cps.all (fun c => decide (c < 0x110000)) = true := x
  have y' : b.cps.all (fun c => decide (c < 0x110000)) = true := y
  rw [← Array.all_toList] at x' y'
  show (a.cps ++ b.cps).all (fun c => decide (c < 0x110000)) = true
  rw [← Array.all_toList, Array.toList_append, List.all_append, x', y']
  rfl
theorem sok_leaf {D : Exp → Prop} {e : Exp} (l : leafB e = true) (d : DnS D e) : PyData.strOk (exT e) = true := by
  cases d with
  | @num m hm =>
    refine sok fun c hc => ?_
    have z : (exT (.num m)).cps.toList = TL.numL m := sgs_num m
    rw [z] at hc
    have hd : NumText.AllDigits (TL.numL m) := TL.numL_digits m
    have := (hd c hc).2
    omega
  | @txt xs hx _ =>
    refine sok fun c hc => ?_
    have z : (exT (.txt xs)).cps.toList = 34 :: (xs ++ [34]) := sgs_txt xs
    rw [z] at hc
    rcases List.mem_cons.mp hc with rfl | hc
    · decide
    rcases List.mem_append.mp hc with hc | hc
    · have := (hx c hc).2.2
      omega
    · cases List.mem_singleton.mp hc
      decide
  | var hn _ =>
    rw [exT]
    exact nm_sok hn
  | call _ _ _ => cases l
  | row _ _ _ _ _ _ _ _ => cases l
theorem shs_lwR {D : Exp → Prop} {n : Nat} (ih : ∀ {e : Exp}, D e → Sh (lwD e) n) : ∀ {ss : List Str} {es : List Exp}, (∀ s ∈ ss, s ∈ sigW) → (∀ x ∈ es, D x) → Shs (lwR ss es) (n + 1)
  | [], [], _, _ => by
    rw [lwR]
    exact .nil
  | [], e :: es, _, _ => by
    rw [lwR]
    exact .nil
  | s :: ss, [], _, _ => by
    rw [lwR]
    exact .nil
  | s :: ss, e :: es, hs, h => by
    rw [lwR]
    exact .cons (sh_tup (.cons (sh_str (sig_sok _ (hs s List.mem_cons_self))) (.cons (ih (h e List.mem_cons_self)) .nil))) (shs_lwR ih (fun x m => hs x (List.mem_cons_of_mem _ m)) fun x m => h x (List.mem_cons_of_mem _ m))
theorem shL_step {D : Exp → Prop} {n : Nat} (ih : ∀ {e : Exp}, D e → Sh (lwD e) n) {e : Exp} (d : DnS D e) : Sh (lwD e) (n + 3) := by
  by_cases l : leafB e = true
  · rw [lw_leaf l]
    exact (sh_tup (n := 0) (.cons sh_lit (.cons (sh_str (sok_leaf l d)) .nil))).up (by omega)
  · cases d with
    | num _ => exact absurd rfl l
    | txt _ _ => exact absurd rfl l
    | var _ _ => exact absurd rfl l
    | @call s e es hs hd hds =>
      have q := argn_nm _ hs
      rw [lwD, lwDs, lwDs_map]
      refine (sh_tup (n := n + 1) (.cons sh_lit (.cons (sh_str (nm_sok (nm_of q.2 q.1))) (.cons (sh_lst (.cons (ih hd) (.of fun d m => ?_))) .nil)))).up (by omega)
      obtain ⟨x, mx, rfl⟩ := List.mem_map.mp m
      exact ih (hds x mx)
    | @row g ss o es g5 hs ln h2 l1 l3 hd hds =>
      rw [lwD]
      exact sh_tup (n := n + 2) (.cons sh_lit (.cons sh_int (.cons ((ih hd).up (by omega)) (.cons (sh_lst (shs_lwR ih (fun s m => (gr_sig g g5 s (hs s m)).1) hds)) .nil))))
theorem sh_lw : ∀ k {e : Exp}, Dn k e → Sh (lwD e) (3 * k + 3)
  | 0, _, d => shL_step (D := fun _ => False) (n := 0) (fun z => False.elim z) d
  | k + 1, _, d => shL_step (n := 3 * k + 3) (fun z => sh_lw k z) d
theorem shs_ls {S : Stm → Prop} {n : Nat} (ih : ∀ {s : Stm}, S s → Sh (lsD s) n) {b : List Stm} (h : ∀ s ∈ b, S s) : Sh (.list (lsDs b)) (n + 1) := by
  rw [lsDs_map]
  refine sh_lst (.of fun d m => ?_)
  obtain ⟨x, mx, rfl⟩ := List.mem_map.mp m
  exact ih (h x mx)
theorem shLS_step {B : List Stm → Prop} {n : Nat} (n6 : 9 ≤ n) (ih : ∀ {b : List Stm}, B b → Sh (.list (lsDs b)) n) {s : Stm} (d : DsS (Dn 2) B s) : Sh (lsD s) (n + 1) := by
  have ex : ∀ {e : Exp}, Dn 2 e → Sh (lwD e) n := fun d => (sh_lw 2 d).up n6
  cases d with
  | set hn _ he =>
    rw [lsD]
    exact sh_tup (.cons sh_lit (.cons (sh_str (nm_sok hn)) (.cons (ex he) .nil)))
  | tell he =>
    rw [lsD]
    exact sh_tup (.cons sh_lit (.cons (ex he) .nil))
  | do_ he =>
    rw [lsD]
    exact sh_tup (.cons sh_lit (.cons (ex he) .nil))
  | while_ he hb =>
    rw [lsD]
    exact sh_tup (.cons sh_lit (.cons (ex he) (.cons (ih hb) .nil)))
  | for_ hn _ he hb =>
    rw [lsD]
    exact sh_tup (.cons sh_lit (.cons (sh_str (nm_sok hn)) (.cons (ex he) (.cons (ih hb) .nil))))
  | if_ he hb hc =>
    rw [lsD]
    exact sh_tup (.cons sh_lit (.cons (ex he) (.cons (ih hb) (.cons (ih hc) .nil))))
  | try_ hb hc =>
    rw [lsD]
    exact sh_tup (.cons sh_lit (.cons sh_non (.cons (ih hb) (.cons (ih hc) .nil))))
theorem sh_ls : ∀ m {s : Stm}, Ds m s → Sh (lsD s) (2 * m + 10)
  | 0, _, d => shLS_step (B := fun _ => False) (n := 9) (by decide) (fun z => False.elim z) d
  | m + 1, _, d => shLS_step (n := 2 * m + 11) (by omega) (fun z => shs_ls (n := 2 * m + 10) (fun q => sh_ls m q) z.2) d
theorem sh_lss {m : Nat} {b : List Stm} (h : ∀ s ∈ b, Ds m s) : Sh (.list (lsDs b)) (2 * m + 11) := shs_ls (fun q => sh_ls m q) h
mutual
theorem ndw_ex : ∀ e : Exp, noDict (lwD e) = true
  | .num _ => by rw [lwD]; rfl
  | .txt _ => by rw [lwD]; rfl
  | .var _ => by rw [lwD]; rfl
  | .call s es => by
    rw [lwD]
    show (true && (true && (noDicts (lwDs es) && true))) = true
    rw [ndw_exs es]
    rfl
  | .row g ss o es => by
    rw [lwD]
    show (true && (true && (noDict (lwD o) && (noDicts (lwR ss es) && true)))) = true
    rw [ndw_ex o, ndw_R ss es]
    rfl
theorem ndw_exs : ∀ es : List Exp, noDicts (lwDs es) = true
  | [] => by rw [lwDs]; rfl
  | e :: es => by
    rw [lwDs]
    show (noDict (lwD e) && noDicts (lwDs es)) = true
    rw [ndw_ex e, ndw_exs es]
    rfl
theorem ndw_R : ∀ (ss : List Str) (es : List Exp), noDicts (lwR ss es) = true
  | s :: ss, e :: es => by
    rw [lwR]
    show ((true && (noDict (lwD e) && true)) && noDicts (lwR ss es)) = true
    rw [ndw_ex e, ndw_R ss es]
    rfl
  | [], [] => by rw [lwR]; rfl
  | s :: ss, [] => by rw [lwR]; rfl
  | [], e :: es => by rw [lwR]; rfl
end
mutual
theorem ndw_st : ∀ s : Stm, noDict (lsD s) = true
  | .set _ e => by rw [lsD]; show (true && (true && (noDict (lwD e) && true))) = true; rw [ndw_ex e]; rfl
  | .tell e => by rw [lsD]; show (true && (noDict (lwD e) && true)) = true; rw [ndw_ex e]; rfl
  | .do_ e => by rw [lsD]; show (true && (noDict (lwD e) && true)) = true; rw [ndw_ex e]; rfl
  | .while_ e b => by rw [lsD]; show (true && (noDict (lwD e) && (noDicts (lsDs b) && true))) = true; rw [ndw_ex e, ndw_sts b]; rfl
  | .for_ _ e b => by rw [lsD]; show (true && (true && (noDict (lwD e) && (noDicts (lsDs b) && true)))) = true; rw [ndw_ex e, ndw_sts b]; rfl
  | .if_ e b c => by rw [lsD]; show (true && (noDict (lwD e) && (noDicts (lsDs b) && (noDicts (lsDs c) && true)))) = true; rw [ndw_ex e, ndw_sts b, ndw_sts c]; rfl
  | .try_ b c => by rw [lsD]; show (true && (true && (noDicts (lsDs b) && (noDicts (lsDs c) && true)))) = true; rw [ndw_sts b, ndw_sts c]; rfl
theorem ndw_sts : ∀ b : List Stm, noDicts (lsDs b) = true
  | [] => by rw [lsDs]; rfl
  | s :: b => by rw [lsDs]; show (noDict (lsD s) && noDicts (lsDs b)) = true; rw [ndw_st s, ndw_sts b]; rfl
end
end K72
set_option maxHeartbeats 4000000
namespace K72
open PySem PySem.Spec PyProof.Rows L2 Evl My LamX
/-! Data whose lists lie in a region; what stands when lists outside of it change -/
mutual
inductive DT (K : PySem.W.Frag) (H : Hp) (B : Addr → Prop) : V → PyData → Prop
  | non : DT K H B .non .none
  | int (i : Int) : DT K H B (.int i) (.int i)
  | str (x : Str) : DT K H B (.str x) (.str x)
  | lst {a : Addr} {xs : List V} {ds : List PyData} : H a = some (.lst xs) → B a → DTs K H B xs ds → DT K H B (.ref a) (.list ds)
  | tup {a : Addr} {xs : List V} {ds : List PyData} : SqT K H a xs → DTs K H B xs ds → DT K H B (.ref a) (.tuple ds)
inductive DTs (K : PySem.W.Frag) (H : Hp) (B : Addr → Prop) : List V → List PyData → Prop
  | nil : DTs K H B [] []
  | cons {v : V} {vs : List V} {d : PyData} {ds : List PyData} : DT K H B v d → DTs K H B vs ds → DTs K H B (v :: vs) (d :: ds)
end
mutual
theorem DT.dd {K : PySem.W.Frag} {H : Hp} {B : Addr → Prop} : ∀ (d : PyData) (v : V), DT K H B v d → Dd K H v d
  | .none, _, h => by cases h; exact .non
  | .bool b, _, h => by cases h
  | .int i, _, h => by cases h; exact .int i
  | .str x, _, h => by cases h; exact .str x
  | .list ds, _, h => by
    cases h with
    | lst hs _ ha => exact .lst (sq_of hs) (DTs.dd ds _ ha)
  | .tuple ds, _, h => by
    cases h with
    | tup hs ha => exact .tup hs (DTs.dd ds _ ha)
  | .dict _, _, h => by cases h
theorem DTs.dd {K : PySem.W.Frag} {H : Hp} {B : Addr → Prop} : ∀ (ds : List PyData) (vs : List V), DTs K H B vs ds → Dds K H vs ds
  | [], _, h => by cases h; exact .nil
  | d :: ds, _, h => by
    cases h with
    | cons a b => exact .cons (DT.dd d _ a) (DTs.dd ds _ b)
end
mutual
theorem DT.pres {K : PySem.W.Frag} {H H' : Hp} {B B' : Addr → Prop} (hl : ∀ a xs, B a → H a = some (.lst xs) → H' a = some (.lst xs) ∧ B' a) (ht : ∀ a xs, SqT K H a xs → SqT K H' a xs) : ∀ (d : PyData) (v : V), DT K H B v d → DT K H' B' v d
  | .none, _, h => by cases h; exact .non
  | .bool b, _, h => by cases h
  | .int i, _, h => by cases h; exact .int i
  | .str x, _, h => by cases h; exact .str x
  | .list ds, _, h => by
    cases h with
    | lst hs b ha =>
      obtain ⟨q1, q2⟩ := hl _ _ b hs
      exact .lst q1 q2 (DTs.pres hl ht ds _ ha)
  | .tuple ds, _, h => by
    cases h with
    | tup hs ha => exact .tup (ht _ _ hs) (DTs.pres hl ht ds _ ha)
  | .dict _, _, h => by cases h
theorem DTs.pres {K : PySem.W.Frag} {H H' : Hp} {B B' : Addr → Prop} (hl : ∀ a xs, B a → H a = some (.lst xs) → H' a = some (.lst xs) ∧ B' a) (ht : ∀ a xs, SqT K H a xs → SqT K H' a xs) : ∀ (ds : List PyData) (vs : List V), DTs K H B vs ds → DTs K H' B' vs ds
  | [], _, h => by cases h; exact .nil
  | d :: ds, _, h => by
    cases h with
    | cons a b => exact .cons (DT.pres hl ht d _ a) (DTs.pres hl ht ds _ b)
end
def New (H : Hp) : Addr → Prop := fun a => H a = none
def Gro (H H' : Hp) : Prop := ∀ a, H' a = none → H a = none
theorem Gro.of {H H' : Hp} (e : Ex H H') : Gro H H' := fun a h => by
  cases z : H a with
  | none => rfl
  | some o =>
    rw [e a o z] at h
    cases h
theorem Gro.trans {A B C : Hp} (x : Gro A B) (y : Gro B C) : Gro A C := fun a h => x a (y a h)
theorem sqt_keep {K : PySem.W.Frag} {H H' : Hp} (hk : ∀ b o, (∀ ys, o ≠ .lst ys) → H b = some o → H' b = some o) : ∀ a xs, SqT K H a xs → SqT K H' a xs := fun a xs h => by
  rcases h with (h | ⟨o, h⟩) | h
  · exact .inl (.inl (hk _ _ (fun ys z => nomatch z) h))
  · exact .inl (.inr ⟨o, hk _ _ (fun ys z => nomatch z) h⟩)
  · exact .inr h
/-- a change of lists alone, none of them in the region -/
structure Apt (B : Addr → Prop) (H H' : Hp) : Prop where
  l : ∀ a xs, B a → H a = some (.lst xs) → H' a = some (.lst xs)
  o : ∀ b o, (∀ ys, o ≠ .lst ys) → H b = some o → H' b = some o
section
variable {K : PySem.W.Frag} {H H' H2 : Hp} {B B' : Addr → Prop} {v : V} {d : PyData} {vs : List V} {ds : List PyData}
theorem DT.apt (h : DT K H B v d) (a : Apt B H H') : DT K H' B v d := DT.pres (fun x xs b hx => ⟨a.l x xs b hx, b⟩) (sqt_keep a.o) d v h
theorem DTs.apt (h : DTs K H B vs ds) (a : Apt B H H') : DTs K H' B vs ds := DTs.pres (fun x xs b hx => ⟨a.l x xs b hx, b⟩) (sqt_keep a.o) ds vs h
theorem DT.mono (h : DT K H B v d) (m : ∀ a, B a → B' a) : DT K H B' v d := DT.pres (fun x xs b hx => ⟨hx, m x b⟩) (fun _ _ z => z) d v h
theorem DTs.mono (h : DTs K H B vs ds) (m : ∀ a, B a → B' a) : DTs K H B' vs ds := DTs.pres (fun x xs b hx => ⟨hx, m x b⟩) (fun _ _ z => z) ds vs h
theorem Apt.ex (e : Ex H H') : Apt B H H' := ⟨fun a xs _ h => e a _ h, fun b o _ h => e b o h⟩
theorem Apt.trans (x : Apt B H H') (y : Apt B H' H2) : Apt B H H2 := ⟨fun a xs b h => y.l a xs b (x.l a xs b h), fun b o n h => y.o b o n (x.o b o n h)⟩
theorem Apt.upd {a : Addr} {xs : List V} {u : HO} (h : H a = some (.lst xs)) (n : ¬ B a) : Apt B H (L2.upd H a u) := ⟨fun b ys hb hy => by
  have q : b ≠ a := fun z => n (by rw [← z]; exact hb)
  rw [upd_ne q]
  exact hy, fun b o no ho => by
  have q : b ≠ a := fun z => by
    rw [z, h] at ho
    exact no xs (Option.some.inj ho).symm
  rw [upd_ne q]
  exact ho⟩
theorem DT.ext (h : DT K H B v d) (e : Ex H H') : DT K H' B v d := h.apt (.ex e)
theorem DTs.ext (h : DTs K H B vs ds) (e : Ex H H') : DTs K H' B vs ds := h.apt (.ex e)
theorem DTs.len : ∀ {vs : List V} {ds : List PyData}, DTs K H B vs ds → vs.length = ds.length
  | _, _, .nil => rfl
  | _, _, .cons _ t => by rw [List.length_cons, List.length_cons, t.len]
theorem DTs.app : ∀ {vs ws : List V} {ds es : List PyData}, DTs K H B vs ds → DTs K H B ws es → DTs K H B (vs ++ ws) (ds ++ es)
  | _, _, _, _, .nil, t => t
  | _, _, _, _, .cons h r, t => .cons h (DTs.app r t)
theorem DTs.at : ∀ {vs : List V} {ds : List PyData}, DTs K H B vs ds → ∀ {i : Nat} {d : PyData}, ds[i]? = some d → ∃ v, vs[i]? = some v ∧ DT K H B v d
  | _, _, .nil, i, d, h => by simp at h
  | _, _, .cons h t, 0, d, e => by
    simp at e
    subst e
    exact ⟨_, rfl, h⟩
  | _, _, .cons h t, i + 1, d, e => by
    simp at e
    obtain ⟨v, e1, e2⟩ := t.at e
    exact ⟨v, by simpa using e1, e2⟩
theorem DTs.txts : ∀ {vs : List V} {ys : List Str}, DTs K H B vs (ys.map PyData.str) → vs = ys.map V.str
  | _, [], .nil => rfl
  | _, y :: ys, .cons h t => by
    cases h
    rw [List.map_cons, t.txts]
theorem DTs.strs : ∀ ys : List Str, DTs K H B (ys.map V.str) (ys.map PyData.str)
  | [] => .nil
  | y :: ys => .cons (.str y) (DTs.strs ys)
end
/-! evaluation to such data -/
def EvR (K : PySem.W.Frag) (B : Addr → Prop) (te : TE) (σ : L2.St) (H : Hp) (d : PyData) : Prop := ∀ H1, Ex H H1 → ∀ Q : VK, (∀ v H2, Ex H1 H2 → DT K H2 B v d → Q v H2) → te σ H1 Q
def EvRs (K : PySem.W.Frag) (B : Addr → Prop) (ta : TA) (σ : L2.St) (H : Hp) (ds : List PyData) : Prop := ∀ H1, Ex H H1 → ∀ Q : List V → Hp → Prop, (∀ vs H2, Ex H1 H2 → DTs K H2 B vs ds → Q vs H2) → ta σ H1 Q
section
variable {K : PySem.W.Frag} {B : Addr → Prop} {σ : L2.St} {H H0 : Hp} {te : TE} {ta : TA} {d : PyData} {ds : List PyData} {v : V} {i : Nat}
theorem er_nil : EvRs K B tNil σ H [] := fun H1 _ Q q => q [] H1 (Ex.refl H1) .nil
theorem er_cons (h : EvR K B te σ H d) (hr : EvRs K B ta σ H ds) : EvRs K B (tCons te ta) σ H (d :: ds) := fun H1 e Q q =>
  h H1 e _ fun v H2 e2 g => hr H2 (e.trans e2) _ fun vs H3 e3 gs => q (v :: vs) H3 (e2.trans e3) (.cons (g.ext e3) gs)
theorem er_tup (h : EvRs K B ta σ H ds) (hl : ds.length ≤ 100000) : EvR K B (tTup ta) σ H (.tuple ds) := fun H1 e Q q =>
  h H1 e _ fun vs H2 e2 g => ⟨sz_of (by rw [g.len]; exact hl), fun p hp => q (.ref p) _ (e2.trans (Ex.new hp)) (.tup (st_of upd_same) (g.ext (Ex.new hp)))⟩
theorem er_lst (h : EvRs K (New H0) ta σ H ds) (e0 : Gro H0 H) (hl : ds.length ≤ 100000) : EvR K (New H0) (tLst ta) σ H (.list ds) := fun H1 e Q q =>
  h H1 e _ fun vs H2 e2 g => ⟨sz_of (by rw [g.len]; exact hl), fun p hp => q (.ref p) _ (e2.trans (Ex.new hp)) (.lst upd_same (((e0.trans (Gro.of e)).trans (Gro.of e2)) p hp) (g.ext (Ex.new hp)))⟩
theorem er_str {z : Str} (h : Ev te σ H (.str z)) : EvR K B te σ H (.str z) := fun H1 e Q q => h H1 e Q fun H2 e2 => q _ H2 e2 (.str z)
theorem er_int {z : Int} (h : Ev te σ H (.int z)) : EvR K B te σ H (.int z) := fun H1 e Q q => h H1 e Q fun H2 e2 => q _ H2 e2 (.int z)
theorem er_non (h : Ev te σ H .non) : EvR K B te σ H .none := fun H1 e Q q => h H1 e Q fun H2 e2 => q _ H2 e2 .non
theorem er_var (h : σ[i]? = some (some v)) (g : DT K H B v d) : EvR K B (tVar i) σ H d := fun H1 e Q q => ⟨v, h, q v H1 (Ex.refl H1) (g.ext e)⟩
theorem er_ev (h : Ev te σ H v) (g : DT K H B v d) : EvR K B te σ H d := fun H1 e Q q => h H1 e Q fun H2 e2 => q v H2 e2 (g.ext (e.trans e2))
end
/-! the state of the draws and the room -/
def Bt (S R : Addr) (H H' : Hp) : Prop := ∀ b o, b ≠ S → b ≠ R → H b = some o → H' b = some o
structure StR (H : Hp) (S R : Addr) (cs : Cel) (n : Nat) : Prop where
  s : StA H S cs
  ns : R ≠ S
  nc : R ≠ cs.1
  r : H R = some (.lst [.int (n : Int)])
section
variable {S R : Addr} {cs : Cel} {n m : Nat} {H H' H2 : Hp}
theorem Bt.refl : Bt S R H H := fun _ _ _ _ h => h
theorem Bt.trans (a : Bt S R H H') (b : Bt S R H' H2) : Bt S R H H2 := fun x o n1 n2 h => b x o n1 n2 (a x o n1 n2 h)
theorem Bt.ex (a : Bt S R H H') (e : Ex H' H2) : Bt S R H H2 := fun x o n1 n2 h => e x o (a x o n1 n2 h)
theorem Bt.ofEx (e : Ex H H') : Bt S R H H' := fun x o _ _ h => e x o h
theorem Bt.but (a : Bt S R H H') (b : But S H' H2) : Bt S R H H2 := fun x o n1 n2 h => b x o n1 (a x o n1 n2 h)
theorem Bt.updR {u : HO} (a : Bt S R H H') : Bt S R H (L2.upd H' R u) := fun x o n1 n2 h => by
  rw [upd_ne n2]
  exact a x o n1 n2 h
theorem Bt.updN {L : Addr} {u : HO} (a : Bt S R H H') (n : H L = none) : Bt S R H (L2.upd H' L u) := fun x o n1 n2 h => by
  rw [upd_ne (ne_of_none h n)]
  exact a x o n1 n2 h
theorem StA.lst (h : StA H S cs) : ∃ xs, H S = some (.lst xs) := by
  obtain ⟨i, r, k, n, e, _, _, _, _, hS⟩ := h
  exact ⟨_, hS⟩
theorem StA.upd {a : Addr} {u : HO} (h : StA H S cs) (n1 : a ≠ S) (n2 : a ≠ cs.1) : StA (L2.upd H a u) S cs := by
  obtain ⟨i, r, k, n, e, x1, x2, x3, x4, x5⟩ := h
  exact ⟨i, r, k, n, e, x1, by rw [upd_ne (Ne.symm n2)]; exact x2, x3, x4, by rw [upd_ne (Ne.symm n1)]; exact x5⟩
theorem StR.ext (h : StR H S R cs n) (e : Ex H H') : StR H' S R cs n := ⟨h.s.ex e, h.ns, h.nc, e _ _ h.r⟩
theorem StR.but (h : StR H S R cs n) (b : But S H H') (s : StA H' S cs) : StR H' S R cs n := ⟨s, h.ns, h.nc, b _ _ h.ns h.r⟩
theorem StR.set (h : StR H S R cs n) : StR (L2.upd H R (.lst [.int (m : Int)])) S R cs m := ⟨h.s.upd h.ns h.nc, h.ns, h.nc, upd_same⟩
theorem StR.updN {L : Addr} {u : HO} (h : StR H S R cs n) (a : L ≠ S) (b : L ≠ R) (c : L ≠ cs.1) : StR (L2.upd H L u) S R cs n := ⟨h.s.upd a c, h.ns, h.nc, by rw [upd_ne (Ne.symm b)]; exact h.r⟩
theorem StR.fre (h : StR H S R cs n) {L : Addr} (nL : H L = none) : L ≠ S ∧ L ≠ R ∧ L ≠ cs.1 := by
  obtain ⟨xs, hS⟩ := h.s.lst
  obtain ⟨i, r, k, n, e, x1, x2, x3, x4, x5⟩ := h.s
  exact ⟨(fun z => by rw [z, hS] at nL; cases nL), (fun z => by rw [z, h.r] at nL; cases nL), (fun z => by rw [z, x2] at nL; cases nL)⟩
theorem StA.fre (h : StA H S cs) {L : Addr} (nL : H L = none) : L ≠ S := by
  obtain ⟨xs, hS⟩ := h.lst
  exact fun z => by rw [z, hS] at nL; cases nL
theorem gro_but (b : But S H H') (s : StA H' S cs) : Gro H H' := fun a h => by
  obtain ⟨xs, hS⟩ := s.lst
  cases z : H a with
  | none => rfl
  | some o =>
    by_cases e : a = S
    · rw [e, hS] at h
      cases h
    · rw [b a o e z] at h
      cases h
theorem gro_bt (b : Bt S R H H') (s : StR H' S R cs n) : Gro H H' := fun a h => by
  obtain ⟨n1, n2, _⟩ := s.fre h
  cases z : H a with
  | none => rfl
  | some o =>
    rw [b a o n1 n2 z] at h
    cases h
theorem apt_but {B : Addr → Prop} (s : StA H S cs) (b : But S H H') (nB : ¬ B S) : Apt B H H' := by
  obtain ⟨xs, hS⟩ := s.lst
  exact ⟨fun a ys hb h => b a _ (fun z => nB (z ▸ hb)) h, fun a o no h => b a o (fun z => by rw [z, hS] at h; exact no xs (Option.some.inj h).symm) h⟩
theorem apt_bt {B : Addr → Prop} (s : StR H S R cs n) (b : Bt S R H H') (nS : ¬ B S) (nR : ¬ B R) : Apt B H H' := by
  obtain ⟨xs, hS⟩ := s.s.lst
  exact ⟨fun a ys hb h => b a _ (fun z => nS (z ▸ hb)) (fun z => nR (z ▸ hb)) h, fun a o no h => b a o (fun z => by rw [z, hS] at h; exact no xs (Option.some.inj h).symm) (fun z => by rw [z, s.r] at h; exact no _ (Option.some.inj h).symm) h⟩
theorem new_S (s : StA H S cs) : ¬ New H S := fun z => by
  obtain ⟨xs, hS⟩ := s.lst
  have z' : H S = none := z
  rw [hS] at z'
  cases z'
theorem new_R (s : StR H S R cs n) : ¬ New H R := fun z => by
  have z' : H R = none := z
  rw [s.r] at z'
  cases z'
end
/-! the words that are called, and the operators -/
abbrev sClls : Stmt := top 43
abbrev sSgns : Stmt := top 44
def argD (y : Str × Nat) : PyData := .tuple [.str y.1, .int (y.2 : Int)]
def grsD (ws : List Str) : PyData := .list (ws.map PyData.str)
def spCon (K : PySem.W.Frag) (d : PyData) : Sp := fun vs H Q _ => vs = [] ∧ ∀ v H', Ex H H' → DT K H' (New H) v d → Q v H'
section
variable {X : Cx} {x : Str} {k : Nat} {sp : Sp} {p pos : Pos}
theorem pe_df0 (D : Df X.prog X.w X.K X.mg X.base x [] k sp) (hr : Room k X.A) (hg : Gl X x) (hdb : (x == ("__debug__" : Str)) = false := by decide) : PE X (.Call (.Name x p) [] [] pos) (tCall sp [] E0 tNil) := by
  obtain ⟨f, fd, hm, hk, F, b⟩ := D.ex
  exact pe_call0 F hr hg hm hk b .nil pass0 hdb
end
section
variable {P : Program} {w : World} {K : PySem.W.Frag} {mg : Str → Option Value} {base : Heap} {f : Addr} {fd : FuncData}
theorem scClls : FnScope [] [] (defScope sClls) := ⟨rfl, rfl, rfl, by decide +kernel, rfl, by decide +kernel, by decide +kernel⟩
theorem er_arg {B : Addr → Prop} {σ : L2.St} {H : Hp} {s : Str} {n : Int} : EvR K B (tTup (tCons (tC (.str s)) (tCons (tC (.int n)) tNil))) σ H (.tuple [.str s, .int n]) := er_tup (er_cons (er_str ev_c) (er_cons (er_int ev_c) er_nil)) (show 2 ≤ 100000 by decide)
theorem ok_clls (F : Fun K "_law_calls" "_law_calls" sClls f fd) : FnOk P w K mg base CX0 1 f fd [] (spCon K (.list (ARGN.map argD))) := by
  refine F.ok scClls (fun vs H Q E h => ?_) (fun cdv A outer s H vs Q E hr h => ?_)
  · obtain ⟨rfl, _⟩ := h
    rfl
  · obtain ⟨rfl, kQ⟩ := h
    have pa : ∀ {X : Cx} {s : Str} {n : Int} {p1 p2 p3 : Pos} {i j : Nat}, True := fun {X s n p1 p2 p3 i j} => trivial
    refine ⟨_, pss_one (ps_ret (pe_lst (pa_cons (pe_tup (pa_cons pe_str (pa_cons pe_int pa_nil))) (pa_cons (pe_tup (pa_cons pe_str (pa_cons pe_int pa_nil))) (pa_cons (pe_tup (pa_cons pe_str (pa_cons pe_int pa_nil))) (pa_cons (pe_tup (pa_cons pe_str (pa_cons pe_int pa_nil))) (pa_cons (pe_tup (pa_cons pe_str (pa_cons pe_int pa_nil))) (pa_cons (pe_tup (pa_cons pe_str (pa_cons pe_int pa_nil))) (pa_cons (pe_tup (pa_cons pe_str (pa_cons pe_int pa_nil))) (pa_cons (pe_tup (pa_cons pe_str (pa_cons pe_int pa_nil))) (pa_cons (pe_tup (pa_cons pe_str (pa_cons pe_int pa_nil))) (pa_cons (pe_tup (pa_cons pe_str (pa_cons pe_int pa_nil))) (pa_cons (pe_tup (pa_cons pe_str (pa_cons pe_int pa_nil))) (pa_cons (pe_tup (pa_cons pe_str (pa_cons pe_int pa_nil))) (pa_cons (pe_tup (pa_cons pe_str (pa_cons pe_int pa_nil))) (pa_cons (pe_tup (pa_cons pe_str (pa_cons pe_int pa_nil))) (pa_cons (pe_tup (pa_cons pe_str (pa_cons pe_int pa_nil))) (pa_cons (pe_tup (pa_cons pe_str (pa_cons pe_int pa_nil))) (pa_cons (pe_tup (pa_cons pe_str (pa_cons pe_int pa_nil))) (pa_cons (pe_tup (pa_cons pe_str (pa_cons pe_int pa_nil))) pa_nil)))))))))))))))))))), ?_⟩
    exact er_lst (ds := ARGN.map argD) (H0 := H) (er_cons er_arg (er_cons er_arg (er_cons er_arg (er_cons er_arg (er_cons er_arg (er_cons er_arg (er_cons er_arg (er_cons er_arg (er_cons er_arg (er_cons er_arg (er_cons er_arg (er_cons er_arg (er_cons er_arg (er_cons er_arg (er_cons er_arg (er_cons er_arg (er_cons er_arg (er_cons er_arg er_nil)))))))))))))))))) (Gro.of (Ex.refl _)) (by decide) H (Ex.refl _) _ fun v H1 e1 g => kQ v H1 e1 g
theorem scSgns : FnScope [] [] (defScope sSgns) := ⟨rfl, rfl, rfl, by decide +kernel, rfl, by decide +kernel, by decide +kernel⟩
theorem ok_sgns (F : Fun K "_law_signs" "_law_signs" sSgns f fd) : FnOk P w K mg base CX0 1 f fd [] (spCon K (.list (GRS.map grsD))) := by
  refine F.ok scSgns (fun vs H Q E h => ?_) (fun cdv A outer s H vs Q E hr h => ?_)
  · obtain ⟨rfl, _⟩ := h
    rfl
  · obtain ⟨rfl, kQ⟩ := h
    refine ⟨_, pss_one (ps_ret (pe_lst (pa_cons (pe_lst (pa_cons pe_str pa_nil)) (pa_cons (pe_lst (pa_cons pe_str pa_nil)) (pa_cons (pe_lst (pa_cons pe_str (pa_cons pe_str (pa_cons pe_str (pa_cons pe_str pa_nil))))) (pa_cons (pe_lst (pa_cons pe_str (pa_cons pe_str pa_nil))) (pa_cons (pe_lst (pa_cons pe_str pa_nil)) pa_nil))))))), ?_⟩
    have g0 : Gro H H := Gro.of (Ex.refl _)
    have l1 : ∀ {s : Str}, EvR K (New H) (tLst (tCons (tC (.str s)) tNil)) ([] : L2.St) H (.list [.str s]) := fun {s} => er_lst (er_cons (er_str ev_c) er_nil) g0 (show 1 ≤ 100000 by decide)
    exact er_lst (ds := GRS.map grsD) (H0 := H) (er_cons l1 (er_cons l1 (er_cons (er_lst (er_cons (er_str ev_c) (er_cons (er_str ev_c) (er_cons (er_str ev_c) (er_cons (er_str ev_c) er_nil)))) g0 (show 4 ≤ 100000 by decide)) (er_cons (er_lst (er_cons (er_str ev_c) (er_cons (er_str ev_c) er_nil)) g0 (show 2 ≤ 100000 by decide)) (er_cons l1 er_nil))))) g0 (by decide) H (Ex.refl _) _ fun v H1 e1 g => kQ v H1 e1 g
end
/-! a leaf -/
abbrev sLf : Stmt := top 45
def spLf (K : PySem.W.Frag) : Sp := fun vs H Q _ => ∃ (S : Addr) (cs : Cel), vs = [.ref S] ∧ StA H S cs ∧ ∀ (v : V) (e : Exp) (H' : Hp), leafB e = true → Dn 0 e → But S H H' → StA H' S cs → DT K H' (New H) v (lwD e) → Q v H'
theorem num_str (m : Nat) : exT (.num m) = toString (m : Int) := by rw [exT]
theorem small9 {x : Int} (x0 : 0 ≤ x) (x1 : x < 10 ^ 9) : x.natAbs.log2 < 1920 := by
  by_cases hz : x.natAbs = 0
  · rw [hz]
    decide
  · have h2 : x.natAbs < 2 ^ 60 := by
      have h3 : x.natAbs < 10 ^ 9 := by omega
      exact Nat.lt_of_lt_of_le h3 (by decide)
    have := (Nat.log2_lt hz).mpr h2
    omega
section
variable {P : Program} {w : World} {K : PySem.W.Frag} {mg : Str → Option Value} {base : Heap} {f : Addr} {fd : FuncData}
def NLf : List Str := ["_law_state_here", "_law_kind"]
theorem scLf : FnScope NLf ["_law_state_here"] (defScope sLf) := ⟨rfl, rfl, rfl, by decide +kernel, rfl, by decide +kernel, by decide +kernel⟩
theorem ok_lf (F : Fun K "_law_leaf" "_law_leaf" sLf f fd) (gs : mg "str" = none) (DR : Df P w K mg base "_law_draw" ["_law_state_here", "_law_many"] 2 spDrw) (TX : Df P w K mg base "_law_text" ["_law_state_here"] 3 spTex) (WD : Df P w K mg base "_law_word" ["_law_state_here"] 3 spWd) : FnOk P w K mg base CX0 4 f fd ["_law_state_here"] (spLf K) := by
  refine F.ok scLf (fun vs H Q E h => ?_) (fun cdv A outer s H vs Q E hr h => ?_)
  · obtain ⟨S, cs, rfl, _⟩ := h
    rfl
  · obtain ⟨S, cs, rfl, st, kQ⟩ := h
    have hr3 : Room 3 _ := hr
    have hr2 : Room 2 _ := hr3.mono (by decide)
    refine ⟨_, pss_cons (ps_set (i := 1) scLf.nd rfl (Or.inl rfl) (pe_df DR hr2 rfl (pa_cons (pv 0) (pa_cons pe_int pa_nil))))
      (pss_cons (ps_if (pt_cmpR op_eq (pv 1) pe_int (nomark _)) (pss_one (ps_ret (pe_tup (pa_cons pe_str (pa_cons (pe_callTy call_strB (by rfl) gs (by decide +kernel) (pa_cons (pe_df DR hr2 rfl (pa_cons (pv 0) (pa_cons (pe_op op_pow pe_int pe_int) pa_nil))) pa_nil)) pa_nil))))) pss_nil)
      (pss_cons (ps_if (pt_cmpR op_eq (pv 1) pe_int (nomark _)) (pss_one (ps_ret (pe_tup (pa_cons pe_str (pa_cons (pe_op op_add_str (pe_op op_add_str pe_str (pe_df TX hr3 rfl (pa_cons (pv 0) pa_nil))) pe_str) pa_nil))))) pss_nil)
      (pss_one (ps_ret (pe_tup (pa_cons pe_str (pa_cons (pe_df WD hr3 rfl (pa_cons (pv 0) pa_nil)) pa_nil))))))), ?_⟩
    refine ⟨_, rfl, S, 4, cs, rfl, by decide, by decide, st, fun u H1 b1 st1 u0 u1 => ?_⟩
    have fin : ∀ {e : Exp} {H' : Hp}, leafB e = true → Dn 0 e → But S H H' → StA H' S cs → ∀ p, H' p = none → Q (.ref p) (upd H' p (.tup [.str "leaf", .str (exT e)])) := fun {e H'} l d b s' p np => by
      refine kQ _ e _ l d (b.ex (Ex.new np)) (s'.ex (Ex.new np)) ?_
      rw [lw_leaf l]
      exact .tup (st_of upd_same) (.cons (.str _) (.cons (.str _) .nil))
    have tst : ∀ (j : Int) (G : Hp), EvT (tTest (tOp rEq (tVar 1) (tC (.int j)))) ([some (.ref S), some (.int u)] : L2.St) G (decide (V.int u = .int j)) := fun j G => et_test (ev_op (ev_var rfl) ev_c (rv_eq rfl))
    refine q_when (tst 0 _) (fun _ H2 e2 => ?_) (fun _ H2 e2 => ?_)
    · refine ⟨_, rfl, (evPo ev_c ev_c ⟨by decide, by decide, by decide⟩) H2 (Ex.refl _) _ fun H3 e3 => ?_⟩
      refine ⟨S, 10 ^ 9, cs, rfl, by decide, by decide, st1.ex (e2.trans e3), fun x H4 b4 st4 x0 x1 => .inr ⟨x, rfl, small9 x0 x1, ?_⟩⟩
      obtain ⟨m, rfl⟩ := Int.eq_ofNat_of_zero_le x0
      have hm : m < 10 ^ 9 := by omega
      refine ⟨(show 2 ≤ sizeLine by decide), fun p np => ?_⟩
      have z := fin (e := .num m) rfl (.num hm) ((b1.ex (e2.trans e3)).trans b4) st4 p np
      rw [num_str] at z
      exact z
    · refine q_when (tst 1 _) (fun _ H3 e3 => ?_) (fun _ H3 e3 => ?_)
      · refine ⟨_, rfl, S, cs, rfl, st1.ex (e2.trans e3), fun b H4 bk bl b4 st4 => ⟨"\"", mkS b, rfl, rfl, ?_, "\"" ++ mkS b, "\"", rfl, rfl, ?_, ?_⟩⟩
        · show 1 + (mkS b).length ≤ 16777216
          rw [mkS_len]
          omega
        · have q : ("\"" ++ mkS b) = mkS (34 :: b) := by
            show (⟨#[34] ++ b.toArray⟩ : Str) = ⟨(34 :: b).toArray⟩
            congr 1
            simp
          show ("\"" ++ mkS b).length + 1 ≤ 16777216
          rw [q, mkS_len, List.length_cons]
          omega
        · refine ⟨(show 2 ≤ sizeLine by decide), fun p np => ?_⟩
          have z := fin (e := .txt b) rfl (.txt bk bl) ((b1.ex (e2.trans e3)).trans b4) st4 p np
          rw [exT] at z
          exact z
      · refine ⟨_, rfl, S, cs, rfl, st1.ex (e2.trans e3), fun s H4 hn hl b4 st4 => ⟨(show 2 ≤ sizeLine by decide), fun p np => ?_⟩⟩
        have z := fin (e := .var s) rfl (.var hn hl) ((b1.ex (e2.trans e3)).trans b4) st4 p np
        rw [exT] at z
        exact z
end
end K72
set_option maxHeartbeats 8000000
namespace K72
open PySem PySem.Spec PyProof.Rows L2 Evl My LamX
/-! a drawn expression -/
abbrev sEx : Stmt := top 46
def spEx (K : PySem.W.Frag) (n : Nat) : Sp := fun vs H Q _ => ∃ (S R : Addr) (cs : Cel) (r : Nat), vs = [.ref S, .int (n : Int), .ref R] ∧ StR H S R cs r ∧ r ≤ 1000 ∧ ∀ (v : V) (e : Exp) (r' : Nat) (H' : Hp), Bt S R H H' → StR H' S R cs r' → DT K H' (New H) v (lwD e) → Dn n e → exN e + r' = r → Q v H'
theorem leaf_n {e : Exp} (h : leafB e = true) : exN e = 0 := by
  cases e with
  | num _ => rw [exN]
  | txt _ => rw [exN]
  | var _ => rw [exN]
  | call _ _ => cases h
  | row _ _ _ _ => cases h
theorem dn_leaf {e : Exp} (d : Dn 0 e) : ∀ n, Dn n e
  | 0 => d
  | n + 1 => (dn_leaf d n).up
theorem exNs_app : ∀ b c : List Exp, exNs (b ++ c) = exNs b + exNs c
  | [], c => by
    show exNs c = exNs [] + exNs c
    rw [exNs]
    omega
  | s :: b, c => by
    show exNs (s :: (b ++ c)) = _
    rw [exNs, exNs, exNs_app b c]
    omega
theorem lwDs_app (a b : List Exp) : lwDs (a ++ b) = lwDs a ++ lwDs b := by rw [lwDs_map, lwDs_map, lwDs_map, List.map_append]
theorem lwR_app : ∀ {ss : List Str} {es : List Exp} {s : Str} {e : Exp}, ss.length = es.length → lwR (ss ++ [s]) (es ++ [e]) = lwR ss es ++ [.tuple [.str s, lwD e]]
  | [], [], s, e, _ => by
    show lwR [s] [e] = _
    rw [lwR, lwR]
    rfl
  | t :: ss, x :: es, s, e, h => by
    show lwR (t :: (ss ++ [s])) (x :: (es ++ [e])) = _
    rw [lwR, lwR, lwR_app (by simpa using h)]
    rfl
theorem exNs_one (e : Exp) : exNs [e] = exN e := by
  rw [exNs, exNs]
  omega
section
variable {K : PySem.W.Frag} {σ : L2.St} {H : Hp} {S : Addr} {xs : List V} {v : V} {tv : TE} {tz : TS} {D : Ends} {i j : Nat}
theorem ev_atI (h0 : σ[i]? = some (some (.ref S))) (hS : H S = some (.lst xs)) (hj : xs[j]? = some v) : Ev (tOp (rIxL K) (tVar i) (tC (.int (j : Int)))) σ H v := ev_op (ev_var h0) ev_c (rv_ixL (SqL.of hS) (atI_nat hj))
theorem s_stI (hv : Ev tv σ H v) (h0 : σ[i]? = some (some (.ref S))) (hS : H S = some (.lst xs)) (hj : j < xs.length) (q : ∀ H1, Ex H H1 → D.nx σ (upd H1 S (.lst (xs.set j v)))) : tAsg tv (gSub (tVar i) (tC (.int (j : Int))) rSetL) D σ H :=
  hv H (Ex.refl H) _ fun H1 e1 => ⟨_, h0, S, xs, (j : Int), j, rfl, rfl, e1 _ _ hS, by
    unfold ixN
    rw [if_pos (by omega), if_pos (by omega)]
    rfl, q H1 e1⟩
theorem q_stI (hv : Ev tv σ H v) (h0 : σ[i]? = some (some (.ref S))) (hS : H S = some (.lst xs)) (hj : j < xs.length) (q : ∀ H1, Ex H H1 → tz D σ (upd H1 S (.lst (xs.set j v)))) : tSeq (tAsg tv (gSub (tVar i) (tC (.int (j : Int))) rSetL)) tz D σ H := s_stI (D := { D with nx := tz D }) hv h0 hS hj q
end
section
variable {P : Program} {w : World} {K : PySem.W.Frag} {mg : Str → Option Value} {base : Heap} {f : Addr} {fd : FuncData}
def NEx : List Str := ["_law_state_here", "_law_deep", "_law_room", "_law_kind", "_law_word_here", "_law_many", "_law_k", "_law_rank", "_law_signs_here", "_law_rest", "_law_first", "_law_sign"]
theorem scEx : FnScope NEx ["_law_state_here", "_law_deep", "_law_room"] (defScope sEx) := ⟨rfl, rfl, rfl, by decide +kernel, rfl, by decide +kernel, by decide +kernel⟩
theorem room_test {σ : L2.St} {H : Hp} {R : Addr} {u d r : Int} (h3 : σ[3]? = some (some (.int u))) (h1 : σ[1]? = some (some (.int d))) (h2 : σ[2]? = some (some (.ref R))) (hR : H R = some (.lst [.int r])) :
    EvT (tOr (tTest (tOp rEq (tVar 3) (tC (.int 0)))) (tOr (tTest (tOp rEq (tVar 1) (tC (.int 0)))) (tTest (tOp rEq (tOp (rIxL K) (tVar 2) (tC (.int 0))) (tC (.int 0)))))) σ H (decide (V.int u = .int 0) || (decide (V.int d = .int 0) || decide (V.int r = .int 0))) :=
  et_or (et_test (ev_op (ev_var h3) ev_c (rv_eq rfl))) fun _ => fun H1 e1 Q q => et_or (H := H1) (et_test (ev_op (ev_var h1) ev_c (rv_eq rfl))) (fun _ => et_test (ev_op (ev_atI (j := 0) h2 (e1 _ _ hR) rfl) ev_c (rv_eq rfl))) H1 (Ex.refl _) Q q
theorem ok_ex0 (F : Fun K "_law_expression" "_law_expression" sEx f fd) (DR : Df P w K mg base "_law_draw" ["_law_state_here", "_law_many"] 2 spDrw) (LF : Df P w K mg base "_law_leaf" ["_law_state_here"] 4 (spLf K)) : FnOk P w K mg base CX0 5 f fd ["_law_state_here", "_law_deep", "_law_room"] (spEx K 0) := by
  refine F.ok scEx (fun vs H Q E h => ?_) (fun cdv A outer s H vs Q E hr h => ?_)
  · obtain ⟨S, R, cs, r, rfl, _⟩ := h
    rfl
  · obtain ⟨S, R, cs, r, rfl, st, r1000, kQ⟩ := h
    have hr4 : Room 4 _ := hr
    have hr2 : Room 2 _ := hr4.mono (by decide)
    refine ⟨_, pss_cons (ps_set (i := 3) scEx.nd rfl (Or.inl rfl) (pe_df DR hr2 rfl (pa_cons (pv 0) (pa_cons pe_int pa_nil))))
      (pss_cons (ps_if (PW.pt (pw_or (pt_cmpR op_eq (pv 3) pe_int (nomark _)) (pw_or (pt_cmpR op_eq (pv 1) pe_int (nomark _)) (pw_or1 (pt_cmpR op_eq (pe_ix ix_list (pv 2) pe_int (fun _ _ => rfl)) pe_int (nomark _)))))) (pss_one (ps_ret (pe_df LF hr4 rfl (pa_cons (pv 0) pa_nil)))) pss_nil)
      pss_no), ?_⟩
    refine ⟨_, rfl, S, 3, cs, rfl, by decide, by decide, st.s, fun u H1 b1 st1 u0 u1 => ?_⟩
    have sr1 := st.but b1 st1
    refine q_when (b := true) (et_is (room_test rfl rfl rfl sr1.r) (by
      rw [show decide (V.int ((0 : Nat) : Int) = .int 0) = true from decide_eq_true rfl, Bool.true_or, Bool.or_true])) (fun _ H2 e2 => ?_) fun z => by cases z
    refine ⟨_, rfl, S, cs, rfl, (sr1.ext e2).s, fun v e H3 l d b3 st3 g => ?_⟩
    have sr3 := (sr1.ext e2).but b3 st3
    refine kQ v e r H3 (((Bt.refl.but b1).ex e2).but b3) sr3 (g.mono fun a ha => ?_) d (by rw [leaf_n l, Nat.zero_add])
    exact (((gro_but b1 st1).trans (Gro.of e2)) a ha)
theorem ok_ex {k n : Nat} (k4 : 4 ≤ k) (F : Fun K "_law_expression" "_law_expression" sEx f fd) (gr : mg "range" = none) (gl : mg "len" = none) (DR : Df P w K mg base "_law_draw" ["_law_state_here", "_law_many"] 2 spDrw) (LF : Df P w K mg base "_law_leaf" ["_law_state_here"] 4 (spLf K))
    (CL : Df P w K mg base "_law_calls" [] 1 (spCon K (.list (ARGN.map argD)))) (SG : Df P w K mg base "_law_signs" [] 1 (spCon K (.list (GRS.map grsD)))) (EX : Df P w K mg base "_law_expression" ["_law_state_here", "_law_deep", "_law_room"] k (spEx K n)) : FnOk P w K mg base CX0 (k + 1) f fd ["_law_state_here", "_law_deep", "_law_room"] (spEx K (n + 1)) := by
  refine F.ok scEx (fun vs H Q E h => ?_) (fun cdv A outer s H vs Q E hr h => ?_)
  · obtain ⟨S, R, cs, r, rfl, _⟩ := h
    rfl
  · obtain ⟨S, R, cs, r, rfl, st, r1000, kQ⟩ := h
    have hrk : Room k _ := hr
    have hr4 : Room 4 _ := hrk.mono k4
    have hr2 : Room 2 _ := hr4.mono (by decide)
    have hr1 : Room 1 _ := hr4.mono (by decide)
    refine ⟨_, pss_cons (ps_set (i := 3) scEx.nd rfl (Or.inl rfl) (pe_df DR hr2 rfl (pa_cons (pv 0) (pa_cons pe_int pa_nil))))
      (pss_cons (ps_if (PW.pt (pw_or (pt_cmpR op_eq (pv 3) pe_int (nomark _)) (pw_or (pt_cmpR op_eq (pv 1) pe_int (nomark _)) (pw_or1 (pt_cmpR op_eq (pe_ix ix_list (pv 2) pe_int (fun _ _ => rfl)) pe_int (nomark _)))))) (pss_one (ps_ret (pe_df LF hr4 rfl (pa_cons (pv 0) pa_nil)))) pss_nil)
      (pss_cons (ps_asg (pe_op op_sub (pe_ix ix_list (pv 2) pe_int (fun _ _ => rfl)) pe_int) (pg_sub (pv 2) pe_int set_list))
      (pss_cons (ps_if (pt_cmpR op_eq (pv 3) pe_int (nomark _))
        (pss_cons (ps_asg (pe_ix ix_list (pe_df0 CL hr1 rfl) (pe_df DR hr2 rfl (pa_cons (pv 0) (pa_cons pe_int pa_nil))) (fun _ _ => rfl)) (pg_tup rfl (pgs_cons (pg_name (i := 4) scEx.nd rfl (Or.inl rfl)) (pgs_cons (pg_name (i := 5) scEx.nd rfl (Or.inl rfl)) pgs_nil))))
        (pss_one (ps_ret (pe_tup (pa_cons pe_str (pa_cons (pv 4) (pa_cons (pe_lc (own := [("_law_k", 6)]) (g := gName 6) (tt := tYes) (te := tCall (spEx K n) [] E0 (tCons (tVar 0) (tCons (tOp (rI0 fun i j => .int (i - j)) (tVar 1) (tC (.int 1))) (tCons (tVar 2) tNil)))) rfl scEx.nd (pi_range1 rfl gr (pa_cons (pv 5) pa_nil)) (blkOk_by (own := [("_law_k", 6)]) (N := NEx) (sc := defScope sEx) (by decide +kernel)) (fun _ _ _ _ _ => pg_name (i := 6) scEx.nd rfl (Or.inl rfl)) (fun _ _ _ _ _ => pts_nil)
          (fun _ _ _ _ _ => pe_df EX hrk rfl (pa_cons (pv 0) (pa_cons (pe_op op_sub (pv 1) pe_int) (pa_cons (pv 2) pa_nil))))) pa_nil))))))) pss_nil)
      (pss_cons (ps_set (i := 7) scEx.nd rfl (Or.inl rfl) (pe_df DR hr2 rfl (pa_cons (pv 0) (pa_cons pe_int pa_nil))))
      (pss_cut (ps_set (i := 5) scEx.nd rfl (Or.inl rfl) (pe_ifExp (pt_cmpR op_eq (pv 7) pe_int (nomark _)) pe_int (pe_op op_add pe_int (pe_df DR hr2 rfl (pa_cons (pv 0) (pa_cons pe_int pa_nil))))))
      (pss_cons (ps_set (i := 8) scEx.nd rfl (Or.inl rfl) (pe_ix ix_list (pe_df0 SG hr1 rfl) (pv 7) (fun _ _ => rfl)))
      (pss_cons (ps_set (i := 9) scEx.nd rfl (Or.inl rfl) (pe_lst pa_nil))
      (pss_cons (ps_set (i := 10) scEx.nd rfl (Or.inl rfl) (pe_df EX hrk rfl (pa_cons (pv 0) (pa_cons (pe_op op_sub (pv 1) pe_int) (pa_cons (pv 2) pa_nil)))))
      (pss_cons (ps_for PassesOwn.never rfl (pi_range1 rfl gr (pa_cons (pv 5) pa_nil)) (pg_name (i := 6) scEx.nd rfl (Or.inl rfl))
        (pss_cons (ps_set (i := 11) scEx.nd rfl (Or.inl rfl) (pe_ix ix_list (pv 8) (pe_df DR hr2 rfl (pa_cons (pv 0) (pa_cons (pe_callB call_len_seq (by rfl) gl PySem.boot_len (pa_cons (pv 8) pa_nil)) pa_nil))) (fun _ _ => rfl)))
        (pss_one (ps_expr (pe_bm PySem.F.plainAttrs_list PySem.F.slot_list_append PySem.F.type_list_append mt_append (pv 9) (pa_cons (pe_tup (pa_cons (pv 11) (pa_cons (pe_df EX hrk rfl (pa_cons (pv 0) (pa_cons (pe_op op_sub (pv 1) pe_int) (pa_cons (pv 2) pa_nil)))) pa_nil))) pa_nil))))))
      (pss_one (ps_ret (pe_tup (pa_cons pe_str (pa_cons (pv 7) (pa_cons (pv 10) (pa_cons (pv 9) pa_nil)))))))))))))))), ?_⟩
    refine ⟨_, rfl, S, 3, cs, rfl, by decide, by decide, st.s, fun u H1 b1 st1 u0 u1 => ?_⟩
    have sr1 := st.but b1 st1
    have bt1 : Bt S R H H1 := Bt.refl.but b1
    have dec1 : ((n + 1 : Nat) : Int) - 1 = (n : Int) := by omega
    refine q_when (room_test rfl rfl rfl sr1.r) (fun _ H2 e2 => ?_) (fun hb H2 e2 => ?_)
    · refine ⟨_, rfl, S, cs, rfl, (sr1.ext e2).s, fun v e H3 l d b3 st3 g => ?_⟩
      have sr3 := (sr1.ext e2).but b3 st3
      refine kQ v e r H3 ((bt1.ex e2).but b3) sr3 (g.mono fun a ha => ?_) (dn_leaf d _) (by rw [leaf_n l, Nat.zero_add])
      exact (((gro_but b1 st1).trans (Gro.of e2)) a ha)
    have r1 : 1 ≤ r := by
      rw [Bool.or_eq_false_iff, Bool.or_eq_false_iff] at hb
      have q := of_decide_eq_false hb.2.2
      by_cases z : r = 0
      · exact absurd (by rw [z]; rfl) q
      · omega
    obtain ⟨r, rfl⟩ : ∃ j, r = j + 1 := ⟨r - 1, by omega⟩
    have sr2 := sr1.ext e2
    have bt2 := bt1.ex e2
    refine q_stI (j := 0) (v := .int (r : Int)) (ev_is (evSub (ev_atI (j := 0) rfl sr2.r rfl) ev_c) (by rw [show ((r + 1 : Nat) : Int) - 1 = (r : Int) by omega])) rfl sr2.r (show 0 < 1 by decide) fun H3 e3 => ?_
    have sr4 : StR (upd H3 R (.lst [.int (r : Int)])) S R cs r := (sr2.ext e3).set
    have bt4 : Bt S R H (upd H3 R (.lst [.int (r : Int)])) := (bt2.ex e3).updR
    show tSeq _ _ _ _ (upd H3 R (.lst [.int (r : Int)]))
    generalize upd H3 R (.lst [.int (r : Int)]) = H4 at sr4 bt4 ⊢
    have arg1 : ∀ {σ : L2.St} {G : Hp}, σ[1]? = some (some (.int ((n + 1 : Nat) : Int))) → Ev (tOp (rI0 fun i j => .int (i - j)) (tVar 1) (tC (.int 1))) σ G (.int (n : Int)) := fun h => ev_is (evSub (ev_var h) ev_c) (by rw [dec1])
    refine q_when (b := decide (V.int u = .int 1)) (et_test (ev_op (ev_var rfl) ev_c (rv_eq rfl))) (fun _ H5 e5 => ?_) (fun _ H5 e5 => ?_)
    · -- a call
      have sr5 := sr4.ext e5
      have bt5 := bt4.ex e5
      refine ⟨rfl, fun v6 H6 e6 g6 => ?_⟩
      have sr6 := sr5.ext e6
      refine ⟨_, rfl, S, 18, cs, rfl, by decide, by decide, sr6.s, fun j H7 b7 st7 j0 j1 => ?_⟩
      have sr7 := sr6.but b7 st7
      have bt7 := (bt5.ex e6).but b7
      have g7 := g6.apt (apt_but sr6.s b7 fun z => new_S sr5.s z)
      cases g7 with
      | lst ha hB hs =>
      rename_i a xs
      obtain ⟨j, rfl⟩ := Int.eq_ofNat_of_zero_le j0
      have jl : j < ARGN.length := by
        have : ARGN.length = 18 := rfl
        omega
      obtain ⟨y, hy⟩ : ∃ y, ARGN[j]? = some y := ⟨_, List.getElem?_eq_getElem jl⟩
      obtain ⟨vy, hvy, gy⟩ := hs.at (i := j) (d := argD y) (by rw [List.getElem?_map, hy]; rfl)
      have gy' : DT K H7 (New H5) vy (.tuple [.str y.1, .int (y.2 : Int)]) := gy
      have my : y ∈ ARGN := List.mem_of_getElem? hy
      obtain ⟨ys, ym⟩ := y
      cases gy' with
      | tup hq hds =>
      rename_i a2 zs
      cases hds with
      | cons h1 hds =>
      cases hds with
      | cons h2 hds =>
      cases hds
      cases h1
      cases h2
      have m4 : ym ≤ 4 ∧ 1 ≤ ym := (by decide +kernel : ∀ y ∈ ARGN, y.2 ≤ 4 ∧ 1 ≤ y.2) _ my
      refine ⟨a, xs, (j : Int), .ref a2, rfl, rfl, SqL.of ha, atI_nat hvy, ?_⟩
      refine ⟨a2, _, rfl, hq, rfl, _, _, rfl, _, _, rfl, rfl, ?_⟩
      refine ⟨_, rfl, _, rfl, (ym : Int), rfl, by omega, by omega, fun D nD => ?_⟩
      have fD := sr7.fre nD
      have nD0 : H D = none := gro_bt bt7 sr7 D nD
      refine lc_range (lo := 0) (n := (ym : Int).toNat) (fun i H' => ∃ (es : List Exp) (r' : Nat) (acc : List V), Bt S R H H' ∧ StR H' S R cs r' ∧ H' D = some (.lst acc) ∧ DTs K H' (fun a => H a = none ∧ a ≠ D) acc (lwDs es) ∧ es.length = i ∧ (∀ x ∈ es, Dn n x) ∧ exNs es + r' = r) ?_ ?_ ?_
      · refine ⟨[], r, [], bt7.updN nD0, sr7.updN fD.1 fD.2.1 fD.2.2, upd_same, ?_, rfl, (fun x m => nomatch m), ?_⟩
        · rw [lwDs]
          exact .nil
        · rw [exNs, Nat.zero_add]
      · rintro i H8 hi ⟨es, r', acc, bt8, sr8, hD8, ds8, el, dn8, en8⟩
        refine ⟨rfl, yes_if ?_⟩
        refine ⟨_, rfl, arg1 rfl H8 (Ex.refl _) _ fun H9 e9 => ⟨_, rfl, S, R, cs, r', rfl, sr8.ext e9, by omega, fun v e r2 H10 bt10 sr10 g10 d10 en10 => ?_⟩⟩
        have hD9 := e9 _ _ hD8
        have hD10 : H10 D = some (.lst acc) := bt10 _ _ fD.1 fD.2.1 hD9
        have al := ds8.len
        rw [lwDs_len] at al
        refine ⟨acc, hD10, sz_lt (by omega), es ++ [e], r2, acc ++ [v], ((bt8.ex e9).trans bt10).updN nD0, sr10.updN fD.1 fD.2.1 fD.2.2, upd_same, ?_, by rw [List.length_append, el]; rfl, fun x m => ?_, ?_⟩
        · have nS : ¬ (H S = none ∧ S ≠ D) := fun z => new_S st.s z.1
          have nR : ¬ (H R = none ∧ R ≠ D) := fun z => new_R st z.1
          have a1 : Apt (fun a => H a = none ∧ a ≠ D) H8 (upd H10 D (.lst (acc ++ [v]))) := ((Apt.ex e9).trans (apt_bt (sr8.ext e9) bt10 nS nR)).trans (.upd hD10 fun z => z.2 rfl)
          have a2 : Apt (fun a => H a = none ∧ a ≠ D) H10 (upd H10 D (.lst (acc ++ [v]))) := .upd hD10 fun z => z.2 rfl
          rw [lwDs_app]
          refine (ds8.apt a1).app (.cons ((g10.mono fun a ha => ?_).apt a2) .nil)
          exact ⟨((gro_bt bt8 sr8).trans (Gro.of e9)) a ha, fun z => by
            have ha' : H9 a = none := ha
            rw [z, hD9] at ha'
            cases ha'⟩
        · rcases List.mem_append.mp m with m | m
          · exact dn8 x m
          · cases List.mem_singleton.mp m
            exact d10
        · rw [exNs_app, exNs_one]
          omega
      · rintro H8 ⟨es, r', acc, bt8, sr8, hD8, ds8, el, dn8, en8⟩
        refine ⟨(show 3 ≤ sizeLine by decide), fun t nt => ?_⟩
        have et : Ex H8 (upd H8 t (.tup [.str "call", .str ys, .ref D])) := Ex.new nt
        have el2 : es.length = ym := by rw [el]; exact Int.toNat_natCast ym
        cases es with
        | nil => exact absurd el2 (by show ¬ (0 = ym); omega)
        | cons e0 es =>
          refine kQ (.ref t) (.call ys (e0 :: es)) r' _ (bt8.ex et) (sr8.ext et) ?_ ?_ ?_
          · rw [lwD]
            exact .tup (st_of upd_same) (.cons (.str _) (.cons (.str _) (.cons (.lst (et _ _ hD8) nD0 ((ds8.mono fun a z => z.1).ext et)) .nil)))
          · refine .call ?_ (dn8 e0 List.mem_cons_self) fun x m => dn8 x (List.mem_cons_of_mem _ m)
            have z : es.length + 1 = ym := el2
            rw [z]
            exact my
          · rw [exN]
            omega
    · -- a row
      have sr5 := sr4.ext e5
      have bt5 := bt4.ex e5
      refine ⟨_, rfl, S, 5, cs, rfl, by decide, by decide, sr5.s, fun g H6 b6 st6 g0 g1 => ?_⟩
      have sr6 := sr5.but b6 st6
      have bt6 := bt5.but b6
      obtain ⟨g, rfl⟩ := Int.eq_ofNat_of_zero_le g0
      have g5 : g < 5 := by omega
      refine q_cut (M := fun σ' H' => ∃ (m : Int), σ' = [some (.ref S), some (.int ((n + 1 : Nat) : Int)), some (.ref R), some (.int u), none, some (.int m), none, some (.int (g : Int)), none, none, none, none] ∧ 1 ≤ m ∧ m ≤ 3 ∧ (g = 2 → m = 1) ∧ Bt S R H H' ∧ StR H' S R cs r) ?_ ?_
      · refine (et_test (ev_op (ev_var rfl) ev_c (rv_eq rfl)) : EvT (tTest (tOp rEq (tVar 7) (tC (.int 2)))) _ H6 (decide (V.int (g : Int) = .int 2))) H6 (Ex.refl _) _ fun H7 e7 => ?_
        by_cases h2 : g = 2
        · rw [if_pos (decide_eq_true (by rw [h2]; rfl))]
          exact ⟨1, rfl, by decide, by decide, fun _ => rfl, bt6.ex e7, sr6.ext e7⟩
        · rw [if_neg (fun z => h2 (by
            have := V.int.inj (of_decide_eq_true z)
            omega))]
          refine ⟨_, rfl, S, 3, cs, rfl, by decide, by decide, (sr6.ext e7).s, fun x H8 b8 st8 x0 x1 => ?_⟩
          exact ⟨1, x, rfl, rfl, 1 + x, rfl, by omega, by omega, fun z => absurd z h2, (bt6.ex e7).but b8, (sr6.ext e7).but b8 st8⟩
      · rintro σ' H7 ⟨m, rfl, m1, m3, m2, bt7, sr7⟩
        refine ⟨rfl, fun v8 H8 e8 g8 => ?_⟩
        have sr8 := sr7.ext e8
        have bt8 := bt7.ex e8
        cases g8 with
        | lst ha hB hs =>
        rename_i a xs
        obtain ⟨ws, hw⟩ : ∃ ws, GRS[g]? = some ws := ⟨_, List.getElem?_eq_getElem (show g < 5 from g5)⟩
        have ew : GRS.getD g [] = ws := by
          rw [List.getD_eq_getElem?_getD, hw]
          rfl
        obtain ⟨vy, hvy, gy⟩ := hs.at (i := g) (d := grsD ws) (by rw [List.getElem?_map, hw]; rfl)
        have gy' : DT K H8 (New H7) vy (.list (ws.map PyData.str)) := gy
        cases gy' with
        | lst ha2 hB2 hs2 =>
        rename_i a2 zs
        have ez := hs2.txts
        subst ez
        refine ⟨_, rfl, a, xs, (g : Int), .ref a2, rfl, rfl, SqL.of ha, atI_nat hvy, ?_⟩
        have n2 : a2 ≠ S ∧ a2 ≠ R := ⟨(sr7.fre hB2).1, (sr7.fre hB2).2.1⟩
        have wl : 1 ≤ ws.length ∧ ws.length ≤ 4 := (by decide +kernel : ∀ ws ∈ GRS, 1 ≤ ws.length ∧ ws.length ≤ 4) ws (List.mem_of_getElem? hw)
        refine ⟨Nat.zero_le _, fun L nL => ?_⟩
        have fL := sr8.fre nL
        have nL0 : H L = none := gro_bt bt8 sr8 L nL
        have aL : a2 ≠ L := fun z => by
          rw [z, nL] at ha2
          cases ha2
        have eL : Ex H8 (upd H8 L (.lst [])) := Ex.new nL
        have sr9 := sr8.ext eL
        have bt9 := bt8.ex eL
        have hL9 : (upd H8 L (.lst [])) L = some (.lst []) := upd_same
        have ha9 := eL _ _ ha2
        show tSeq _ _ _ _ (upd H8 L (.lst []))
        generalize upd H8 L (.lst []) = H9 at sr9 bt9 hL9 ha9 ⊢
        refine ⟨_, rfl, arg1 rfl H9 (Ex.refl _) _ fun H10 e10 => ⟨_, rfl, S, R, cs, r, rfl, sr9.ext e10, by omega, fun v0 o r2 H11 bt11 sr11 g11 d11 en11 => ?_⟩⟩
        have hL11 : H11 L = some (.lst []) := bt11 _ _ fL.1 fL.2.1 (e10 _ _ hL9)
        have ha11 := bt11 _ _ n2.1 n2.2 (e10 _ _ ha9)
        have bt0 := (bt9.ex e10).trans bt11
        have nS : ¬ (H S = none ∧ S ≠ L) := fun z => new_S st.s z.1
        have nR : ¬ (H R = none ∧ R ≠ L) := fun z => new_R st z.1
        have g0' : DT K H11 (fun a => H a = none ∧ a ≠ L) v0 (lwD o) := g11.mono fun a ha => ⟨((gro_bt bt9 sr9).trans (Gro.of e10)) a ha, fun z => by
          have ha' : H10 a = none := ha
          rw [z, e10 _ _ hL9] at ha'
          cases ha'⟩
        refine ⟨_, rfl, m, rfl, by omega, by omega, ?_⟩
        refine for_range (lo := 0) (n := m.toNat) (fun i σ' H' => ∃ (ss : List Str) (es : List Exp) (r' : Nat) (acc : List V) (o6 o11 : Option V), σ' = [some (.ref S), some (.int ((n + 1 : Nat) : Int)), some (.ref R), some (.int u), none, some (.int m), o6, some (.int (g : Int)), some (.ref a2), some (.ref L), some v0, o11] ∧ Bt S R H H' ∧ StR H' S R cs r' ∧ H' L = some (.lst acc) ∧ H' a2 = some (.lst (ws.map V.str)) ∧ DT K H' (fun a => H a = none ∧ a ≠ L) v0 (lwD o) ∧ DTs K H' (fun a => H a = none ∧ a ≠ L) acc (lwR ss es) ∧ ss.length = es.length ∧ es.length = i ∧ (∀ x ∈ es, Dn n x) ∧ (∀ x ∈ ss, x ∈ ws) ∧ exN o + exNs es + r' = r) ?_ ?_ ?_
        · refine ⟨[], [], r2, [], _, _, rfl, bt0, sr11, hL11, ha11, g0', ?_, rfl, rfl, (fun x m => nomatch m), (fun x m => nomatch m), ?_⟩
          · rw [lwR]
            exact .nil
          · rw [exNs]
            omega
        · rintro i σ' H12 hi ⟨ss, es, r', acc, o6, o11, rfl, bt12, sr12, hL12, ha12, g12, ds12, sl, el, dn12, mw12, en12⟩
          refine ⟨_, rfl, _, rfl, _, rfl, a2, _, rfl, .inl (SqL.of ha12), ?_⟩
          refine ⟨S, ((ws.map V.str).length : Int), cs, rfl, by rw [List.length_map]; omega, by rw [List.length_map]; omega, sr12.s, fun j H13 b13 st13 j0 j1 => ?_⟩
          have sr13 := sr12.but b13 st13
          obtain ⟨j, rfl⟩ := Int.eq_ofNat_of_zero_le j0
          rw [List.length_map] at j1
          obtain ⟨sj, hsj⟩ : ∃ sj, ws[j]? = some sj := ⟨_, List.getElem?_eq_getElem (by omega)⟩
          have msj := List.mem_of_getElem? hsj
          have ha13 := b13 _ _ n2.1 ha12
          refine ⟨a2, _, (j : Int), .str sj, rfl, rfl, SqL.of ha13, atI_nat (by rw [List.getElem?_map, hsj]; rfl), ?_⟩
          have hL13 := b13 _ _ fL.1 hL12
          refine ⟨_, rfl, .inl ⟨rfl, _, SqL.of hL13⟩, _, rfl, _, rfl, arg1 rfl H13 (Ex.refl _) _ fun H14 e14 => ⟨_, rfl, S, R, cs, r', rfl, sr13.ext e14, by omega, fun v e r3 H15 bt15 sr15 g15 d15 en15 => ⟨(show 2 ≤ sizeLine by decide), fun t nt => ?_⟩⟩⟩
          have hL14 := e14 _ _ hL13
          have hL15 : H15 L = some (.lst acc) := bt15 _ _ fL.1 fL.2.1 hL14
          have et : Ex H15 (upd H15 t (.tup [.str sj, v])) := Ex.new nt
          have hL16 := et _ _ hL15
          have ht16 : (upd H15 t (.tup [.str sj, v])) t = some (.tup [.str sj, v]) := upd_same
          have ha16 := et _ _ (bt15 _ _ n2.1 n2.2 (e14 _ _ ha13))
          have sr16 := sr15.ext et
          have bt16 : Bt S R H (upd H15 t (.tup [.str sj, v])) := ((((bt12.but b13).ex e14).trans bt15).ex et)
          have ap : Apt (fun a => H a = none ∧ a ≠ L) H12 (upd H15 t (.tup [.str sj, v])) := (((apt_but sr12.s b13 nS).trans (Apt.ex e14)).trans (apt_bt (sr13.ext e14) bt15 nS nR)).trans (.ex et)
          have g16 : DT K (upd H15 t (.tup [.str sj, v])) (fun a => H a = none ∧ a ≠ L) v (lwD e) := (g15.mono fun a ha => ⟨((gro_bt (bt12.but b13) sr13).trans (Gro.of e14)) a ha, fun z => by
            have ha' : H14 a = none := ha
            rw [z, hL14] at ha'
            cases ha'⟩).ext et
          generalize upd H15 t (.tup [.str sj, v]) = H16 at hL16 ht16 ha16 sr16 bt16 ap g16 ⊢
          have al := ds12.len
          rw [lwR_len sl] at al
          refine ⟨L, acc, .ref t, rfl, rfl, hL16, sz_lt (by omega), ?_⟩
          have a2' : Apt (fun a => H a = none ∧ a ≠ L) H16 (upd H16 L (.lst (acc ++ [.ref t]))) := .upd hL16 fun z => z.2 rfl
          refine ⟨ss ++ [sj], es ++ [e], r3, acc ++ [.ref t], _, _, rfl, bt16.updN nL0, sr16.updN fL.1 fL.2.1 fL.2.2, upd_same, by rw [upd_ne aL]; exact ha16, g12.apt (ap.trans a2'), ?_, by rw [List.length_append, List.length_append, sl]; rfl, by rw [List.length_append, el]; rfl, fun x mx => ?_, fun x mx => ?_, ?_⟩
          · rw [lwR_app sl]
            exact (ds12.apt (ap.trans a2')).app (.cons ((DT.tup (st_of ht16) (.cons (.str _) (.cons g16 .nil))).apt a2') .nil)
          · rcases List.mem_append.mp mx with mx | mx
            · exact dn12 x mx
            · cases List.mem_singleton.mp mx
              exact d15
          · rcases List.mem_append.mp mx with mx | mx
            · exact mw12 x mx
            · cases List.mem_singleton.mp mx
              exact msj
          · rw [exNs_app, exNs_one]
            omega
        · rintro σ' H12 ⟨ss, es, r', acc, o6, o11, rfl, bt12, sr12, hL12, ha12, g12, ds12, sl, el, dn12, mw12, en12⟩
          have el2 : (es.length : Int) = m := by rw [el]; omega
          refine ⟨_, rfl, _, rfl, _, rfl, (show 4 ≤ sizeLine by decide), fun t nt => ?_⟩
          have et : Ex H12 (upd H12 t (.tup [.str "row", .int (g : Int), v0, .ref L])) := Ex.new nt
          refine kQ (.ref t) (.row g ss o es) r' _ (bt12.ex et) (sr12.ext et) ?_ ?_ ?_
          · rw [lwD]
            exact .tup (st_of upd_same) (.cons (.str _) (.cons (.int _) (.cons ((g12.mono fun a z => z.1).ext et) (.cons (.lst (et _ _ hL12) nL0 ((ds12.mono fun a z => z.1).ext et)) .nil))))
          · refine .row g5 (fun x mx => by rw [ew]; exact mw12 x mx) sl (fun h2 => ?_) (by omega) (by omega) d11 dn12
            have := m2 h2
            omega
          · rw [exN]
            omega
end
end K72
set_option maxHeartbeats 8000000
namespace K72
open PySem PySem.Spec PyProof.Rows L2 Evl My LamX
/-! drawn statements, blocks, scripts -/
abbrev sBk : Stmt := top 47
abbrev sSt : Stmt := top 48
abbrev sSc : Stmt := top 58
def spSt (K : PySem.W.Frag) (m : Nat) : Sp := fun vs H Q _ => ∃ (S R : Addr) (cs : Cel) (r : Nat), vs = [.ref S, .int (m : Int), .ref R] ∧ StR H S R cs r ∧ r ≤ 1000 ∧ ∀ (v : V) (s : Stm) (r' : Nat) (H' : Hp), Bt S R H H' → StR H' S R cs r' → DT K H' (New H) v (lsD s) → Ds m s → stN s + r' ≤ r - 1 + 1 → Q v H'
def spBk (K : PySem.W.Frag) (B : List Stm → Prop) (m : Int) : Sp := fun vs H Q _ => ∃ (S R : Addr) (cs : Cel) (r : Nat), vs = [.ref S, .int m, .ref R] ∧ StR H S R cs r ∧ r ≤ 1000 ∧ ∀ (v : V) (b : List Stm) (r' : Nat) (H' : Hp), Bt S R H H' → StR H' S R cs r' → DT K H' (New H) v (.list (lsDs b)) → B b → stNs b + r' ≤ r → Q v H'
theorem lsDs_app (a b : List Stm) : lsDs (a ++ b) = lsDs a ++ lsDs b := by rw [lsDs_map, lsDs_map, lsDs_map, List.map_append]
theorem stNs_one (s : Stm) : stNs [s] = stN s := by
  rw [stNs, stNs]
  omega
section
variable {K : PySem.W.Frag} {S R : Addr} {cs : Cel} {H Hc : Hp} {r0 r n : Nat} {σ : L2.St} {Q : VK} {ta : TA}
theorem ex_go (st : StR H S R cs r0) (bt : Bt S R H Hc) (sr : StR Hc S R cs r) (rl : r ≤ 1000) (ha : EvA ta σ Hc [.ref S, .int (n : Int), .ref R]) (k : ∀ v e r' H', Bt S R H H' → StR H' S R cs r' → Apt (New H) Hc H' → DT K H' (New H) v (lwD e) → Dn n e → exN e + r' = r → Q v H') : tCall (spEx K n) [] E0 ta σ Hc Q :=
  ha Hc (Ex.refl _) _ fun H1 e1 => ⟨S, R, cs, r, rfl, sr.ext e1, rl, fun v e r' H' b s g d en => k v e r' H' ((bt.ex e1).trans b) s ((Apt.ex e1).trans (apt_bt (sr.ext e1) b (new_S st.s) (new_R st))) (g.mono fun a h => ((gro_bt bt sr).trans (Gro.of e1)) a h) d en⟩
theorem bk_go {B : List Stm → Prop} {m : Int} (st : StR H S R cs r0) (bt : Bt S R H Hc) (sr : StR Hc S R cs r) (rl : r ≤ 1000) (ha : EvA ta σ Hc [.ref S, .int m, .ref R]) (k : ∀ v b r' H', Bt S R H H' → StR H' S R cs r' → Apt (New H) Hc H' → DT K H' (New H) v (.list (lsDs b)) → B b → stNs b + r' ≤ r → Q v H') : tCall (spBk K B m) [] E0 ta σ Hc Q :=
  ha Hc (Ex.refl _) _ fun H1 e1 => ⟨S, R, cs, r, rfl, sr.ext e1, rl, fun v e r' H' b s g d en => k v e r' H' ((bt.ex e1).trans b) s ((Apt.ex e1).trans (apt_bt (sr.ext e1) b (new_S st.s) (new_R st))) (g.mono fun a h => ((gro_bt bt sr).trans (Gro.of e1)) a h) d en⟩
/-- a word -/
theorem wd_go (st : StR H S R cs r0) (bt : Bt S R H Hc) (sr : StR Hc S R cs r) (ha : EvA ta σ Hc [.ref S]) (k : ∀ s H', Nm s → s.length ≤ 5 → Bt S R H H' → StR H' S R cs r → Apt (New H) Hc H' → Q (.str s) H') : tCall spWd [] E0 ta σ Hc Q :=
  ha Hc (Ex.refl _) _ fun H1 e1 => ⟨S, cs, rfl, (sr.ext e1).s, fun s H' hn hl b s' => k s H' hn hl ((bt.ex e1).but b) ((sr.ext e1).but b s') ((Apt.ex e1).trans (apt_but (sr.ext e1).s b (new_S st.s)))⟩
end
section
variable {P : Program} {w : World} {K : PySem.W.Frag} {mg : Str → Option Value} {base : Heap} {f : Addr} {fd : FuncData}
def NBk : List Str := ["_law_state_here", "_law_deep", "_law_room", "_law_found", "_law_k"]
theorem scBk : FnScope NBk ["_law_state_here", "_law_deep", "_law_room"] (defScope sBk) := ⟨rfl, rfl, rfl, by decide +kernel, rfl, by decide +kernel, by decide +kernel⟩
theorem ok_bk {k m : Nat} (k2 : 2 ≤ k) (F : Fun K "_law_block" "_law_block" sBk f fd) (gr : mg "range" = none) (DR : Df P w K mg base "_law_draw" ["_law_state_here", "_law_many"] 2 spDrw) (ST : Df P w K mg base "_law_statement" ["_law_state_here", "_law_deep", "_law_room"] k (spSt K m)) : FnOk P w K mg base CX0 (k + 1) f fd ["_law_state_here", "_law_deep", "_law_room"] (spBk K (DsB (Ds m)) (m : Int)) := by
  refine F.ok scBk (fun vs H Q E h => ?_) (fun cdv A outer s H vs Q E hr h => ?_)
  · obtain ⟨S, R, cs, r, rfl, _⟩ := h
    rfl
  · obtain ⟨S, R, cs, r, rfl, st, rl, kQ⟩ := h
    have hrk : Room k _ := hr
    have hr2 : Room 2 _ := hrk.mono k2
    refine ⟨_, pss_cons (ps_set (i := 3) scBk.nd rfl (Or.inl rfl) (pe_lst pa_nil))
      (pss_cons (ps_for PassesOwn.never rfl (pi_range1 rfl gr (pa_cons (pe_df DR hr2 rfl (pa_cons (pv 0) (pa_cons pe_int pa_nil))) pa_nil)) (pg_name (i := 4) scBk.nd rfl (Or.inl rfl))
        (pss_one (ps_if (pt_cmpR op_gt (pe_ix ix_list (pv 2) pe_int (fun _ _ => rfl)) pe_int (nomark _)) (pss_one (ps_expr (pe_bm PySem.F.plainAttrs_list PySem.F.slot_list_append PySem.F.type_list_append mt_append (pv 3) (pa_cons (pe_df ST hrk rfl (pa_cons (pv 0) (pa_cons (pv 1) (pa_cons (pv 2) pa_nil)))) pa_nil)))) pss_nil)))
      (pss_one (ps_ret (pv 3)))), ?_⟩
    refine ⟨Nat.zero_le _, fun L nL => ?_⟩
    have fL := st.fre nL
    have e1 : Ex H (upd H L (.lst [])) := Ex.new nL
    have sr1 := st.ext e1
    have hL1 : (upd H L (.lst [])) L = some (.lst []) := upd_same
    have bt1 : Bt S R H (upd H L (.lst [])) := .ofEx e1
    show tSeq _ _ _ _ (upd H L (.lst []))
    generalize upd H L (.lst []) = H1 at sr1 hL1 bt1 ⊢
    refine ⟨_, rfl, S, 3, cs, rfl, by decide, by decide, sr1.s, fun x H2 b2 st2 x0 x1 => ⟨x, rfl, by omega, by omega, ?_⟩⟩
    have nS : ¬ (H S = none ∧ S ≠ L) := fun z => new_S st.s z.1
    have nR : ¬ (H R = none ∧ R ≠ L) := fun z => new_R st z.1
    refine for_range (lo := 0) (n := x.toNat) (fun i σ' H' => ∃ (b : List Stm) (r' : Nat) (acc : List V) (o : Option V), σ' = [some (.ref S), some (.int (m : Int)), some (.ref R), some (.ref L), o] ∧ Bt S R H H' ∧ StR H' S R cs r' ∧ H' L = some (.lst acc) ∧ DTs K H' (fun a => H a = none ∧ a ≠ L) acc (lsDs b) ∧ b.length ≤ i ∧ (∀ s ∈ b, Ds m s) ∧ stNs b + r' ≤ r) ?_ ?_ ?_
    · refine ⟨[], r, [], _, rfl, bt1.but b2, sr1.but b2 st2, b2 _ _ fL.1 hL1, ?_, Nat.zero_le _, (fun x m => nomatch m), ?_⟩
      · rw [lsDs]
        exact .nil
      · rw [stNs, Nat.zero_add]
        exact Nat.le_refl _
    · rintro i σ' H3 hi ⟨b, r', acc, o, rfl, bt3, sr3, hL3, ds3, bl, dn3, en3⟩
      refine s_when (etGt (ev_atI (j := 0) rfl sr3.r rfl) ev_c) (fun hb H4 e4 => ?_) (fun hb H4 e4 => ?_)
      · have r1 : 1 ≤ r' := by
          have := of_decide_eq_true hb
          omega
        have hL4 := e4 _ _ hL3
        have sr4 := sr3.ext e4
        refine ⟨_, rfl, .inl ⟨rfl, _, SqL.of hL4⟩, _, rfl, _, rfl, _, rfl, S, R, cs, r', rfl, sr4, by omega, fun v s r2 H5 bt5 sr5 g5 d5 en5 => ?_⟩
        have hL5 : H5 L = some (.lst acc) := bt5 _ _ fL.1 fL.2.1 hL4
        have al := ds3.len
        rw [lsDs_len] at al
        refine ⟨L, acc, v, rfl, rfl, hL5, sz_lt (by omega), ?_⟩
        have a2 : Apt (fun a => H a = none ∧ a ≠ L) H5 (upd H5 L (.lst (acc ++ [v]))) := .upd hL5 fun z => z.2 rfl
        have a1 : Apt (fun a => H a = none ∧ a ≠ L) H3 (upd H5 L (.lst (acc ++ [v]))) := ((Apt.ex e4).trans (apt_bt sr4 bt5 nS nR)).trans a2
        refine ⟨b ++ [s], r2, acc ++ [v], _, rfl, ((bt3.ex e4).trans bt5).updN nL, sr5.updN fL.1 fL.2.1 fL.2.2, upd_same, ?_, by rw [List.length_append, List.length_singleton]; omega, fun x mx => ?_, ?_⟩
        · rw [lsDs_app]
          refine (ds3.apt a1).app (.cons ((g5.mono fun a ha => ?_).apt a2) ?_)
          · exact ⟨((gro_bt bt3 sr3).trans (Gro.of e4)) a ha, fun z => by
              have ha' : H4 a = none := ha
              rw [z, hL4] at ha'
              cases ha'⟩
          · rw [lsDs]
            exact .nil
        · rcases List.mem_append.mp mx with mx | mx
          · exact dn3 x mx
          · cases List.mem_singleton.mp mx
            exact d5
        · rw [stNs_app, stNs_one]
          omega
      · exact ⟨b, r', acc, _, rfl, bt3.ex e4, sr3.ext e4, e4 _ _ hL3, ds3.ext e4, by omega, dn3, en3⟩
    · rintro σ' H3 ⟨b, r', acc, o, rfl, bt3, sr3, hL3, ds3, bl, dn3, en3⟩
      refine ⟨_, rfl, ?_⟩
      exact kQ (.ref L) b r' H3 bt3 sr3 (.lst hL3 nL (ds3.mono fun a z => z.1)) ⟨by omega, dn3⟩ en3
def NSt : List Str := ["_law_state_here", "_law_deep", "_law_room", "_law_kind", "_law_word_here", "_law_test"]
theorem scSt : FnScope NSt ["_law_state_here", "_law_deep", "_law_room"] (defScope sSt) := ⟨rfl, rfl, rfl, by decide +kernel, rfl, by decide +kernel, by decide +kernel⟩
theorem max_pred {r : Nat} : (if ((r : Int) - 1) > 0 then ((r : Int) - 1) else 0) = ((r - 1 : Nat) : Int) := by
  split <;> omega
theorem fn_nob {k : Nat} {ps : List Str} {m : Int} (l : ps.length = 3) : FnOk P w K mg base CX0 k f fd ps (spBk K (fun _ => False) m) → True := fun _ => trivial
theorem ok_st {k m : Nat} {B : List Stm → Prop} {kB : Nat} {sB : Sp} (hB : 0 < m → sB = spBk K B ((m : Int) - 1)) (k5 : 5 ≤ k) (lB : kB ≤ k) (F : Fun K "_law_statement" "_law_statement" sSt f fd) (gm : mg "max" = none) (DR : Df P w K mg base "_law_draw" ["_law_state_here", "_law_many"] 2 spDrw) (WD : Df P w K mg base "_law_word" ["_law_state_here"] 3 spWd) (EX : Df P w K mg base "_law_expression" ["_law_state_here", "_law_deep", "_law_room"] k (spEx K 2))
    (BK : Df P w K mg base "_law_block" ["_law_state_here", "_law_deep", "_law_room"] kB sB) (hD : ∀ {s : Stm}, DsS (Dn 2) (fun b => 0 < m ∧ B b) s → Ds m s) : FnOk P w K mg base CX0 (k + 1) f fd ["_law_state_here", "_law_deep", "_law_room"] (spSt K m) := by
  refine F.ok scSt (fun vs H Q E h => ?_) (fun cdv A outer s H vs Q E hr h => ?_)
  · obtain ⟨S, R, cs, r, rfl, _⟩ := h
    rfl
  · obtain ⟨S, R, cs, r, rfl, st, rl, kQ⟩ := h
    have hrk : Room k _ := hr
    have hrB : Room kB _ := hrk.mono lB
    have hr3 : Room 3 _ := hrk.mono (by omega)
    have hr2 : Room 2 _ := hrk.mono (by omega)
    refine ⟨_, pss_cons (ps_asg (pe_callB (call_max2 rfl) (by rfl) gm (by decide +kernel) (pa_cons pe_int (pa_cons (pe_op op_sub (pe_ix ix_list (pv 2) pe_int (fun _ _ => rfl)) pe_int) pa_nil))) (pg_sub (pv 2) pe_int set_list))
      (pss_cut (ps_set (i := 3) scSt.nd rfl (Or.inl rfl) (pe_ifExp (pt_cmpR op_gt (pv 1) pe_int (nomark _)) (pe_df DR hr2 rfl (pa_cons (pv 0) (pa_cons pe_int pa_nil))) (pe_df DR hr2 rfl (pa_cons (pv 0) (pa_cons pe_int pa_nil)))))
      (pss_cons (ps_if (pt_cmpR op_eq (pv 3) pe_int (nomark _)) (pss_one (ps_ret (pe_tup (pa_cons pe_str (pa_cons (pe_df WD hr3 rfl (pa_cons (pv 0) pa_nil)) (pa_cons (pe_df EX hrk rfl (pa_cons (pv 0) (pa_cons pe_int (pa_cons (pv 2) pa_nil)))) pa_nil)))))) pss_nil)
      (pss_cons (ps_if (pt_cmpR op_eq (pv 3) pe_int (nomark _)) (pss_one (ps_ret (pe_tup (pa_cons pe_str (pa_cons (pe_df EX hrk rfl (pa_cons (pv 0) (pa_cons pe_int (pa_cons (pv 2) pa_nil)))) pa_nil))))) pss_nil)
      (pss_cons (ps_if (pt_cmpR op_eq (pv 3) pe_int (nomark _)) (pss_one (ps_ret (pe_tup (pa_cons pe_str (pa_cons (pe_df EX hrk rfl (pa_cons (pv 0) (pa_cons pe_int (pa_cons (pv 2) pa_nil)))) pa_nil))))) pss_nil)
      (pss_cons (ps_if (pt_cmpR op_eq (pv 3) pe_int (nomark _)) (pss_one (ps_ret (pe_tup (pa_cons pe_str (pa_cons (pe_df EX hrk rfl (pa_cons (pv 0) (pa_cons pe_int (pa_cons (pv 2) pa_nil)))) (pa_cons (pe_df BK hrB rfl (pa_cons (pv 0) (pa_cons (pe_op op_sub (pv 1) pe_int) (pa_cons (pv 2) pa_nil)))) pa_nil)))))) pss_nil)
      (pss_cons (ps_if (pt_cmpR op_eq (pv 3) pe_int (nomark _))
        (pss_cons (ps_set (i := 4) scSt.nd rfl (Or.inl rfl) (pe_df WD hr3 rfl (pa_cons (pv 0) pa_nil)))
        (pss_one (ps_ret (pe_tup (pa_cons pe_str (pa_cons (pv 4) (pa_cons (pe_df EX hrk rfl (pa_cons (pv 0) (pa_cons pe_int (pa_cons (pv 2) pa_nil)))) (pa_cons (pe_df BK hrB rfl (pa_cons (pv 0) (pa_cons (pe_op op_sub (pv 1) pe_int) (pa_cons (pv 2) pa_nil)))) pa_nil)))))))) pss_nil)
      (pss_cons (ps_if (pt_cmpR op_eq (pv 3) pe_int (nomark _))
        (pss_cons (ps_set (i := 5) scSt.nd rfl (Or.inl rfl) (pe_df EX hrk rfl (pa_cons (pv 0) (pa_cons pe_int (pa_cons (pv 2) pa_nil)))))
        (pss_one (ps_ret (pe_tup (pa_cons pe_str (pa_cons (pv 5) (pa_cons (pe_df BK hrB rfl (pa_cons (pv 0) (pa_cons (pe_op op_sub (pv 1) pe_int) (pa_cons (pv 2) pa_nil)))) (pa_cons (pe_df BK hrB rfl (pa_cons (pv 0) (pa_cons (pe_op op_sub (pv 1) pe_int) (pa_cons (pv 2) pa_nil)))) pa_nil)))))))) pss_nil)
      (pss_one (ps_ret (pe_tup (pa_cons pe_str (pa_cons pe_non (pa_cons (pe_df BK hrB rfl (pa_cons (pv 0) (pa_cons (pe_op op_sub (pv 1) pe_int) (pa_cons (pv 2) pa_nil)))) (pa_cons (pe_df BK hrB rfl (pa_cons (pv 0) (pa_cons (pe_op op_sub (pv 1) pe_int) (pa_cons (pv 2) pa_nil)))) pa_nil)))))))))))))), ?_⟩
    have mx : Ev (tCB (fun xs H Q => ∃ i j : Int, xs = [.int i, .int j] ∧ Q (.int (if j > i then j else i)) H) (tCons (tC (.int 0)) (tCons (tOp (rI0 fun i j => .int (i - j)) (tOp (rIxL K) (tVar 2) (tC (.int 0))) (tC (.int 1))) tNil))) ([some (.ref S), some (.int (m : Int)), some (.ref R), none, none, none] : L2.St) H (.int ((r - 1 : Nat) : Int)) := fun H1 e1 Q q =>
      evSub (ev_atI (j := 0) rfl st.r rfl) ev_c H1 e1 _ fun H2 e2 => ⟨0, (r : Int) - 1, rfl, by rw [max_pred]; exact q H2 e2⟩
    refine q_stI (j := 0) mx rfl st.r (show 0 < 1 by decide) fun H1 e1 => ?_
    have sr2 : StR (upd H1 R (.lst [.int ((r - 1 : Nat) : Int)])) S R cs (r - 1) := (st.ext e1).set
    have bt2 : Bt S R H (upd H1 R (.lst [.int ((r - 1 : Nat) : Int)])) := (Bt.ofEx e1).updR
    rw [show ([V.int (r : Int)] : List V).set 0 (V.int ((r - 1 : Nat) : Int)) = [V.int ((r - 1 : Nat) : Int)] from rfl]
    generalize upd H1 R (.lst [.int ((r - 1 : Nat) : Int)]) = H2 at sr2 bt2 ⊢
    refine q_cut (M := fun σ' H' => ∃ (u : Int), σ' = [some (.ref S), some (.int (m : Int)), some (.ref R), some (.int u), none, none] ∧ (u = 0 ∨ u = 1 ∨ u = 2 ∨ 0 < m) ∧ Bt S R H H' ∧ StR H' S R cs (r - 1)) ?_ ?_
    · refine (etGt (ev_var rfl) ev_c : EvT _ _ H2 (decide ((0 : Int) < (m : Int)))) H2 (Ex.refl _) _ fun H3 e3 => ?_
      by_cases h2 : 0 < m
      · rw [if_pos (decide_eq_true (by omega))]
        exact ⟨_, rfl, S, 7, cs, rfl, by decide, by decide, (sr2.ext e3).s, fun u H4 b4 st4 u0 u1 => ⟨u, rfl, .inr (.inr (.inr h2)), (bt2.ex e3).but b4, (sr2.ext e3).but b4 st4⟩⟩
      · rw [if_neg (fun z => h2 (by
          have := of_decide_eq_true z
          omega))]
        exact ⟨_, rfl, S, 3, cs, rfl, by decide, by decide, (sr2.ext e3).s, fun u H4 b4 st4 u0 u1 => ⟨u, rfl, by omega, (bt2.ex e3).but b4, (sr2.ext e3).but b4 st4⟩⟩
    · rintro σ' H3 ⟨u, rfl, hu, bt3, sr3⟩
      have rl1 : r - 1 ≤ 1000 := by omega
      have tst : ∀ (j : Int) (G : Hp), EvT (tTest (tOp rEq (tVar 3) (tC (.int j)))) ([some (.ref S), some (.int (m : Int)), some (.ref R), some (.int u), none, none] : L2.St) G (decide (V.int u = .int j)) := fun j G => et_test (ev_op (ev_var rfl) ev_c (rv_eq rfl))
      have nu : ∀ {j : Int}, decide (V.int u = .int j) = false → u ≠ j := fun h z => of_decide_eq_false h (by rw [z])
      have argE : ∀ {σ : L2.St} {G : Hp}, σ[0]? = some (some (.ref S)) → σ[2]? = some (some (.ref R)) → EvA (tCons (tVar 0) (tCons (tC (.int 2)) (tCons (tVar 2) tNil))) σ G [.ref S, .int ((2 : Nat) : Int), .ref R] := fun h0 h2 => ea_cons (ev_var h0) (ea_cons ev_c (ea_cons (ev_var h2) ea_nil))
      have argB : ∀ {σ : L2.St} {G : Hp}, σ[0]? = some (some (.ref S)) → σ[1]? = some (some (.int (m : Int))) → σ[2]? = some (some (.ref R)) → EvA (tCons (tVar 0) (tCons (tOp (rI0 fun i j => .int (i - j)) (tVar 1) (tC (.int 1))) (tCons (tVar 2) tNil))) σ G [.ref S, .int ((m : Int) - 1), .ref R] := fun h0 h1 h2 => ea_cons (ev_var h0) (ea_cons (evSub (ev_var h1) ev_c) (ea_cons (ev_var h2) ea_nil))
      -- the end: a new tuple
      have fin : ∀ {xs : List V} {ds : List PyData} {s : Stm} {r' : Nat} {G : Hp}, lsD s = .tuple ds → xs.length ≤ 10 → Bt S R H G → StR G S R cs r' → DTs K G (New H) xs ds → Ds m s → stN s + r' ≤ r - 1 + 1 → xs.length ≤ sizeLine ∧ ∀ p, G p = none → Q (.ref p) (upd G p (.tup xs)) := fun {xs ds s r' G} e l b sr g d en => ⟨sz_of (by omega), fun p np => kQ (.ref p) s r' _ (b.ex (Ex.new np)) (sr.ext (Ex.new np)) (by rw [e]; exact .tup (st_of upd_same) (g.ext (Ex.new np))) d en⟩
      refine q_when (tst 0 _) (fun _ H4 e4 => ?_) (fun h0 H4 e4 => ?_)
      · refine wd_go st (bt3.ex e4) (sr3.ext e4) (ea_cons (ev_var rfl) ea_nil) fun nm H5 hn hl bt5 sr5 _ => ?_
        refine ex_go st bt5 sr5 rl1 (argE rfl rfl) fun v e r' H6 bt6 sr6 _ g6 d6 en6 => ?_
        exact fin (s := .set nm e) (by rw [lsD]) (show 3 ≤ 10 by decide) bt6 sr6 (.cons (.str _) (.cons (.str _) (.cons g6 .nil))) (hD (.set hn hl d6)) (by rw [stN]; omega)
      refine q_when (tst 1 _) (fun _ H5 e5 => ?_) (fun h1 H5 e5 => ?_)
      · refine ex_go st ((bt3.ex e4).ex e5) ((sr3.ext e4).ext e5) rl1 (argE rfl rfl) fun v e r' H6 bt6 sr6 _ g6 d6 en6 => ?_
        exact fin (s := .tell e) (by rw [lsD]) (show 2 ≤ 10 by decide) bt6 sr6 (.cons (.str _) (.cons g6 .nil)) (hD (.tell d6)) (by rw [stN]; omega)
      refine q_when (tst 2 _) (fun _ H6 e6 => ?_) (fun h2 H6 e6 => ?_)
      · refine ex_go st (((bt3.ex e4).ex e5).ex e6) (((sr3.ext e4).ext e5).ext e6) rl1 (argE rfl rfl) fun v e r' H7 bt7 sr7 _ g7 d7 en7 => ?_
        exact fin (s := .do_ e) (by rw [lsD]) (show 2 ≤ 10 by decide) bt7 sr7 (.cons (.str _) (.cons g7 .nil)) (hD (.do_ d7)) (by rw [stN]; omega)
      have m1 : 0 < m := by
        rcases hu with z | z | z | z
        · exact absurd z (nu h0)
        · exact absurd z (nu h1)
        · exact absurd z (nu h2)
        · exact z
      have eB := hB m1
      subst eB
      have bt6 := ((bt3.ex e4).ex e5).ex e6
      have sr6 := ((sr3.ext e4).ext e5).ext e6
      refine q_when (tst 3 _) (fun _ H7 e7 => ?_) (fun h3 H7 e7 => ?_)
      · refine ex_go st (bt6.ex e7) (sr6.ext e7) rl1 (argE rfl rfl) fun v e r' H8 bt8 sr8 _ g8 d8 en8 => ?_
        refine bk_go st bt8 sr8 (by omega) (argB rfl rfl rfl) fun vb b r2 H9 bt9 sr9 ap9 g9 d9 en9 => ?_
        exact fin (s := .while_ e b) (by rw [lsD]) (show 3 ≤ 10 by decide) bt9 sr9 (.cons (.str _) (.cons (g8.apt ap9) (.cons g9 .nil))) (hD (.while_ d8 ⟨m1, d9⟩)) (by rw [stN]; omega)
      refine q_when (tst 4 _) (fun _ H8 e8 => ?_) (fun h4 H8 e8 => ?_)
      · refine wd_go st ((bt6.ex e7).ex e8) ((sr6.ext e7).ext e8) (ea_cons (ev_var rfl) ea_nil) fun nm H9 hn hl bt9 sr9 _ => ?_
        refine ⟨_, rfl, ex_go st bt9 sr9 rl1 (argE rfl rfl) fun v e r' H10 bt10 sr10 _ g10 d10 en10 => ?_⟩
        refine bk_go st bt10 sr10 (by omega) (argB rfl rfl rfl) fun vb b r2 H11 bt11 sr11 ap11 g11 d11 en11 => ?_
        exact fin (s := .for_ nm e b) (by rw [lsD]) (show 4 ≤ 10 by decide) bt11 sr11 (.cons (.str _) (.cons (.str _) (.cons (g10.apt ap11) (.cons g11 .nil)))) (hD (.for_ hn hl d10 ⟨m1, d11⟩)) (by rw [stN]; omega)
      have bt8 := (bt6.ex e7).ex e8
      have sr8 := (sr6.ext e7).ext e8
      refine q_when (tst 5 _) (fun _ H9 e9 => ?_) (fun h5 H9 e9 => ?_)
      · refine ex_go st (bt8.ex e9) (sr8.ext e9) rl1 (argE rfl rfl) fun v e r' H10 bt10 sr10 _ g10 d10 en10 => ?_
        refine ⟨_, rfl, bk_go st bt10 sr10 (by omega) (argB rfl rfl rfl) fun vb b r2 H11 bt11 sr11 ap11 g11 d11 en11 => ?_⟩
        refine bk_go st bt11 sr11 (by omega) (argB rfl rfl rfl) fun vc c r3 H12 bt12 sr12 ap12 g12 d12 en12 => ?_
        exact fin (s := .if_ e b c) (by rw [lsD]) (show 4 ≤ 10 by decide) bt12 sr12 (.cons (.str _) (.cons (g10.apt (ap11.trans ap12)) (.cons (g11.apt ap12) (.cons g12 .nil)))) (hD (.if_ d10 ⟨m1, d11⟩ ⟨m1, d12⟩)) (by rw [stN]; omega)
      · refine bk_go st (bt8.ex e9) (sr8.ext e9) (by omega) (argB rfl rfl rfl) fun vb b r2 H11 bt11 sr11 ap11 g11 d11 en11 => ?_
        refine bk_go st bt11 sr11 (by omega) (argB rfl rfl rfl) fun vc c r3 H12 bt12 sr12 ap12 g12 d12 en12 => ?_
        exact fin (s := .try_ b c) (by rw [lsD]) (show 4 ≤ 10 by decide) bt12 sr12 (.cons (.str _) (.cons .non (.cons (g11.apt ap12) (.cons g12 .nil)))) (hD (.try_ ⟨m1, d11⟩ ⟨m1, d12⟩)) (by rw [stN]; omega)
/-! a drawn script -/
def NScr : List Str := ["_law_state_here", "_law_room", "_law_block_here", "_law_k"]
def spScr (K : PySem.W.Frag) : Sp := fun vs H Q _ => ∃ (S R : Addr) (cs : Cel) (r : Nat), vs = [.ref S, .ref R] ∧ StR H S R cs r ∧ r ≤ 30 ∧ ∀ (v : V) (b : List Stm) (H' : Hp), Bt S R H H' → StA H' S cs → Gro H H' → DT K H' (New H) v (.list (lsDs b)) → (∀ s ∈ b, Ds 2 s) → b.length ≤ 4 → stNs b ≤ r + 2 → Q v H'
theorem scScr : FnScope NScr ["_law_state_here", "_law_room"] (defScope sSc) := ⟨rfl, rfl, rfl, by decide +kernel, rfl, by decide +kernel, by decide +kernel⟩
theorem ok_scr {k : Nat} (k2 : 2 ≤ k) (F : Fun K "_law_script" "_law_script" sSc f fd) (gr : mg "range" = none) (DR : Df P w K mg base "_law_draw" ["_law_state_here", "_law_many"] 2 spDrw) (ST : Df P w K mg base "_law_statement" ["_law_state_here", "_law_deep", "_law_room"] k (spSt K 2)) : FnOk P w K mg base CX0 (k + 1) f fd ["_law_state_here", "_law_room"] (spScr K) := by
  refine F.ok scScr (fun vs H Q E h => ?_) (fun cdv A outer s H vs Q E hr h => ?_)
  · obtain ⟨S, R, cs, r, rfl, _⟩ := h
    rfl
  · obtain ⟨S, R, cs, r, rfl, st, rl, kQ⟩ := h
    have hrk : Room k _ := hr
    have hr2 : Room 2 _ := hrk.mono k2
    refine ⟨_, pss_cons (ps_set (i := 2) scScr.nd rfl (Or.inl rfl) (pe_lst pa_nil))
      (pss_cons (ps_for PassesOwn.never rfl (pi_range1 rfl gr (pa_cons (pe_df DR hr2 rfl (pa_cons (pv 0) (pa_cons pe_int pa_nil))) pa_nil)) (pg_name (i := 3) scScr.nd rfl (Or.inl rfl))
        (pss_one (ps_if (PW.pt (pw_or (pt_cmpR op_lt (pv 3) pe_int (nomark _)) (pw_or1 (pt_cmpR op_gt (pe_ix ix_list (pv 1) pe_int (fun _ _ => rfl)) pe_int (nomark _))))) (pss_one (ps_expr (pe_bm PySem.F.plainAttrs_list PySem.F.slot_list_append PySem.F.type_list_append mt_append (pv 2) (pa_cons (pe_df ST hrk rfl (pa_cons (pv 0) (pa_cons pe_int (pa_cons (pv 1) pa_nil)))) pa_nil)))) pss_nil)))
      (pss_one (ps_ret (pv 2)))), ?_⟩
    refine ⟨Nat.zero_le _, fun L nL => ?_⟩
    have fL := st.fre nL
    have e1 : Ex H (upd H L (.lst [])) := Ex.new nL
    have sr1 := st.ext e1
    have hL1 : (upd H L (.lst [])) L = some (.lst []) := upd_same
    have bt1 : Bt S R H (upd H L (.lst [])) := .ofEx e1
    show tSeq _ _ _ _ (upd H L (.lst []))
    generalize upd H L (.lst []) = H1 at sr1 hL1 bt1 ⊢
    refine ⟨_, rfl, S, 5, cs, rfl, by decide, by decide, sr1.s, fun x H2 b2 st2 x0 x1 => ⟨x, rfl, by omega, by omega, ?_⟩⟩
    have nS : ¬ (H S = none ∧ S ≠ L) := fun z => new_S st.s z.1
    have nR : ¬ (H R = none ∧ R ≠ L) := fun z => new_R st z.1
    refine for_range (lo := 0) (n := x.toNat) (fun i σ' H' => ∃ (b : List Stm) (r' : Nat) (acc : List V) (o : Option V), σ' = [some (.ref S), some (.ref R), some (.ref L), o] ∧ Bt S R H H' ∧ StR H' S R cs r' ∧ H' L = some (.lst acc) ∧ DTs K H' (fun a => H a = none ∧ a ≠ L) acc (lsDs b) ∧ b.length ≤ i ∧ (∀ s ∈ b, Ds 2 s) ∧ stNs b + r' ≤ r + i ∧ stNs b + r' ≤ r + 2) ?_ ?_ ?_
    · refine ⟨[], r, [], _, rfl, bt1.but b2, sr1.but b2 st2, b2 _ _ fL.1 hL1, ?_, Nat.zero_le _, (fun x m => nomatch m), ?_, ?_⟩
      · rw [lsDs]
        exact .nil
      · rw [stNs]
        omega
      · rw [stNs]
        omega
    · rintro i σ' H3 hi ⟨b, r', acc, o, rfl, bt3, sr3, hL3, ds3, bl, dn3, en3, en3'⟩
      refine s_when (b := decide ((0 : Int) + (i : Int) < 2) || decide ((0 : Int) < (r' : Int))) (et_or (etLt (ev_var rfl) ev_c) fun _ => etGt (ev_atI (j := 0) rfl sr3.r rfl) ev_c) (fun hb H4 e4 => ?_) (fun hb H4 e4 => ?_)
      · have hc : i < 2 ∨ 1 ≤ r' := by
          rw [Bool.or_eq_true] at hb
          rcases hb with hb | hb
          · have := of_decide_eq_true hb
            exact .inl (by omega)
          · have := of_decide_eq_true hb
            exact .inr (by omega)
        have hL4 := e4 _ _ hL3
        have sr4 := sr3.ext e4
        refine ⟨_, rfl, .inl ⟨rfl, _, SqL.of hL4⟩, _, rfl, _, rfl, S, R, cs, r', rfl, sr4, by omega, fun v s r2 H5 bt5 sr5 g5 d5 en5 => ?_⟩
        have hL5 : H5 L = some (.lst acc) := bt5 _ _ fL.1 fL.2.1 hL4
        have al := ds3.len
        rw [lsDs_len] at al
        refine ⟨L, acc, v, rfl, rfl, hL5, sz_lt (by omega), ?_⟩
        have a2 : Apt (fun a => H a = none ∧ a ≠ L) H5 (upd H5 L (.lst (acc ++ [v]))) := .upd hL5 fun z => z.2 rfl
        have a1 : Apt (fun a => H a = none ∧ a ≠ L) H3 (upd H5 L (.lst (acc ++ [v]))) := ((Apt.ex e4).trans (apt_bt sr4 bt5 nS nR)).trans a2
        refine ⟨b ++ [s], r2, acc ++ [v], _, rfl, ((bt3.ex e4).trans bt5).updN nL, sr5.updN fL.1 fL.2.1 fL.2.2, upd_same, ?_, by rw [List.length_append, List.length_singleton]; omega, fun x mx => ?_, ?_, ?_⟩
        · rw [lsDs_app]
          refine (ds3.apt a1).app (.cons ((g5.mono fun a ha => ?_).apt a2) ?_)
          · exact ⟨((gro_bt bt3 sr3).trans (Gro.of e4)) a ha, fun z => by
              have ha' : H4 a = none := ha
              rw [z, hL4] at ha'
              cases ha'⟩
          · rw [lsDs]
            exact .nil
        · rcases List.mem_append.mp mx with mx | mx
          · exact dn3 x mx
          · cases List.mem_singleton.mp mx
            exact d5
        · rw [stNs_app, stNs_one]
          omega
        · rw [stNs_app, stNs_one]
          omega
      · exact ⟨b, r', acc, _, rfl, bt3.ex e4, sr3.ext e4, e4 _ _ hL3, ds3.ext e4, by omega, dn3, by omega, en3'⟩
    · rintro σ' H3 ⟨b, r', acc, o, rfl, bt3, sr3, hL3, ds3, bl, dn3, en3, en3'⟩
      refine ⟨_, rfl, ?_⟩
      exact kQ (.ref L) b H3 bt3 sr3.s (gro_bt bt3 sr3) (.lst hL3 nL (ds3.mono fun a z => z.1)) dn3 (by omega) (by omega)
end
end K72
set_option maxHeartbeats 8000000
namespace K72
open PySem PySem.Spec PyProof.Rows L2 Evl My LamX
/-! the law's own written form, and its words -/
abbrev sLn : Stmt := top 49
abbrev sWs : Stmt := top 56
section
variable {K : PySem.W.Frag} {σ : L2.St} {H : Hp} {ta tb : TE} {a b : Str} {xs ys : List V} {p : Addr}
theorem ev_cat (ha : Ev ta σ H (.str a)) (hb : Ev tb σ H (.str b)) (l : a.length + b.length ≤ 100000) : Ev (tOp (fun x y H Q => ∃ i j, x = .str i ∧ y = .str j ∧ i.length + j.length ≤ sizeLine ∧ Q (.str (i ++ j)) H) ta tb) σ H (.str (a ++ b)) := fun H1 e1 Q q =>
  ha H1 e1 _ fun H2 e2 => hb H2 (e1.trans e2) _ fun H3 e3 => ⟨a, b, rfl, rfl, sz_of l, q H3 (e2.trans e3)⟩
theorem el_catL (ha : EvL ta σ H xs) (hb : EvL tb σ H ys) (l : xs.length + ys.length ≤ 100000) : EvL (tOp rCat ta tb) σ H (xs ++ ys) := fun H1 e1 Q q =>
  ha H1 e1 _ fun p H2 np e2 hp => hb H2 (e1.trans e2) _ fun p2 H3 np2 e3 hp2 => ⟨p, p2, xs, ys, rfl, rfl, e3 _ _ hp, hp2, sz_of l, fun r nr => q r _ (fresh_back (e2.trans e3) nr) ((e2.trans e3).trans (Ex.new nr)) upd_same⟩
theorem el_catV (ha : Ev ta σ H (.ref p)) (hp : H p = some (.lst xs)) (hb : EvL tb σ H ys) (l : xs.length + ys.length ≤ 100000) : EvL (tOp rCat ta tb) σ H (xs ++ ys) := fun H1 e1 Q q =>
  ha H1 e1 _ fun H2 e2 => hb H2 (e1.trans e2) _ fun p2 H3 np2 e3 hp2 => ⟨p, p2, xs, ys, rfl, rfl, ((e1.trans e2).trans e3) _ _ hp, hp2, sz_of l, fun r nr => q r _ (fresh_back (e2.trans e3) nr) ((e2.trans e3).trans (Ex.new nr)) upd_same⟩
/-- [f(x) for x in xs], texts -/
theorem el_mapL {a : Addr} {xs : List V} {ds : List PyData} {zs : List Str} {tl te : TE} {j : Nat} {vs : List Nat} (h : Ev tl σ H (.ref a)) (hx : SqL K H a xs) (hz : xs.length ≤ 40000) (hw : ∀ x, wipe ((wipe σ vs).set j (some x)) vs = wipe σ vs) (g : Dds K H xs ds) (l : zs.length = ds.length)
    (he : ∀ (i : Nat) (x : V) (d : PyData) (z : Str) H1, Ex H H1 → ds[i]? = some d → zs[i]? = some z → Dd K H1 x d → Ev te ((wipe σ vs).set j (some x)) H1 (.str z)) : EvL (tLc (iList K tl) (gName j) tYes te vs) σ H (zs.map V.str) := by
  have q := el_lcL (K := K) (t := tYes) (te := te) (j := j) (vs := vs) (fun _ => true) (fun i => V.str (zs.getD i "")) h hx hz hw (fun i x H1 e1 hx => et_yes) (fun i x H1 e1 hi _ => by
    obtain ⟨d, hd, gd⟩ := g.get hi
    have li := (List.getElem?_eq_some_iff.mp hd).1
    have hz : zs[i]? = some zs[i] := List.getElem?_eq_getElem (by omega)
    have ez : zs.getD i "" = zs[i] := by rw [List.getD_eq_getElem?_getD, hz]; rfl
    show Ev te _ H1 (.str (zs.getD i ""))
    rw [ez]
    exact he i x d _ H1 e1 hd hz (Dd.ext e1 _ _ gd))
  have e : given xs.length (fun _ => true) (fun i => V.str (zs.getD i "")) = zs.map V.str := by
    unfold given
    rw [List.filter_eq_self.mpr (fun _ _ => rfl), g.len, ← l]
    refine List.ext_getElem (by simp) fun i h1 h2 => ?_
    simp only [List.getElem_map, List.getElem_range]
    rw [List.getD_eq_getElem?_getD, List.getElem?_eq_getElem (by simpa using h2)]
    rfl
  rw [e] at q
  exact q
end
theorem lwR_get : ∀ {ss : List Str} {es : List Exp} {i : Nat} {d : PyData}, (lwR ss es)[i]? = some d → ∃ s e, ss[i]? = some s ∧ es[i]? = some e ∧ d = .tuple [.str s, lwD e]
  | s :: ss, e :: es, 0, d, h => by
    rw [lwR] at h
    cases h
    exact ⟨s, e, rfl, rfl, rfl⟩
  | s :: ss, e :: es, i + 1, d, h => by
    rw [lwR] at h
    exact lwR_get (ss := ss) (es := es) (i := i) (by simpa using h)
  | [], [], i, d, h => by
    rw [lwR] at h
    cases h
  | s :: ss, [], i, d, h => by
    rw [lwR] at h
    cases h
  | [], e :: es, i, d, h => by
    rw [lwR] at h
    cases h
theorem lwDs_get {es : List Exp} {i : Nat} {d : PyData} (h : (lwDs es)[i]? = some d) : ∃ e, es[i]? = some e ∧ d = lwD e := by
  rw [lwDs_map, List.getElem?_map] at h
  cases hh : es[i]? with
  | none =>
    rw [hh] at h
    cases h
  | some e =>
    rw [hh] at h
    exact ⟨e, rfl, (Option.some.inj h).symm⟩
theorem lsDs_get {b : List Stm} {i : Nat} {d : PyData} (h : (lsDs b)[i]? = some d) : ∃ s, b[i]? = some s ∧ d = lsD s := by
  rw [lsDs_map, List.getElem?_map] at h
  cases hh : b[i]? with
  | none =>
    rw [hh] at h
    cases h
  | some e =>
    rw [hh] at h
    exact ⟨e, rfl, (Option.some.inj h).symm⟩
theorem str_ext {a b : Str} (h : sgs a = sgs b) : a = b := by
  cases a with
  | mk x =>
    cases b with
    | mk y =>
      have h2 : x.toList = y.toList := h
      have h3 := congrArg List.toArray h2
      simp at h3
      rw [h3]
def catW (g : Nat) (acc : Str) : List Str → List Exp → Str
  | s :: ss, e :: es => catW g ((((acc ++ " ") ++ s) ++ " ") ++ exR (g + 1) e) ss es
  | _, _ => acc
theorem catW_sgs (g : Nat) : ∀ (ss : List Str) (es : List Exp) (acc : Str), sgs (catW g acc ss es) = sgs acc ++ (weave ss (exTw g es)).flatMap fun q => sgs " " ++ sgs q
  | s :: ss, e :: es, acc => by
    show sgs (catW g ((((acc ++ " ") ++ s) ++ " ") ++ exR (g + 1) e) ss es) = _
    rw [catW_sgs g ss es, exTw, ← wrap_exR, sgs_app, sgs_app, sgs_app, sgs_app]
    show _ = sgs acc ++ List.flatMap _ (s :: wrap g e (exT e) :: weave ss (exTw g es))
    rw [List.flatMap_cons, List.flatMap_cons]
    simp only [List.append_assoc]
  | [], [], acc => by
    show sgs acc = _
    rw [exTw]
    simp [weave]
  | s :: ss, [], acc => by
    show sgs acc = _
    rw [exTw]
    simp [weave]
  | [], e :: es, acc => by
    show sgs acc = _
    simp [weave]
theorem catW_row (g : Nat) (ss : List Str) (o : Exp) (es : List Exp) : catW g (exR (g + 1) o) ss es = exT (.row g ss o es) := str_ext (by rw [catW_sgs, exT, sgs_join, wrap_exR])
theorem catW_len (g : Nat) : ∀ (ss : List Str) (es : List Exp) (acc : Str), acc.length ≤ (catW g acc ss es).length
  | s :: ss, e :: es, acc => by
    have q := catW_len g ss es ((((acc ++ " ") ++ s) ++ " ") ++ exR (g + 1) e)
    rw [app_len, app_len, app_len, app_len] at q
    show _ ≤ (catW g ((((acc ++ " ") ++ s) ++ " ") ++ exR (g + 1) e) ss es).length
    omega
  | [], [], acc => Nat.le_refl _
  | s :: ss, [], acc => Nat.le_refl _
  | [], e :: es, acc => Nat.le_refl _
def spLn (K : PySem.W.Frag) (D : Exp → Prop) : Sp := fun vs H Q _ => ∃ (v : V) (e : Exp) (r : Nat), vs = [v, .int (r : Int)] ∧ Dd K H v (lwD e) ∧ D e ∧ exN e ≤ 60 ∧ ∀ H', Ex H H' → Q (.str (exR r e)) H'
def spWs (K : PySem.W.Frag) (D : Exp → Prop) : Sp := fun vs H Q _ => ∃ (v : V) (e : Exp), vs = [v] ∧ Dd K H v (lwD e) ∧ D e ∧ exN e ≤ 60 ∧ NewL (exW e) H Q
/-- the words of a part are as many as its calls -/
theorem exW_len : ∀ {k : Nat} {e : Exp}, Dn k e → (exW e).length ≤ exN e := by
  have h1 : ∀ e : Exp, (exW e).length ≤ exN e := by
    have both : ∀ n : Nat, (∀ e : Exp, sizeOf e ≤ n → (exW e).length ≤ exN e) ∧ (∀ es : List Exp, sizeOf es ≤ n → (exWs es).length ≤ exNs es) := by
      intro n
      induction n with
      | zero =>
        refine ⟨fun e h => ?_, fun es h => ?_⟩
        · cases e <;> simp at h
        · cases es <;> simp at h
      | succ n ih =>
        refine ⟨fun e h => ?_, fun es h => ?_⟩
        · cases e with
          | num _ => rw [exW]; exact Nat.zero_le _
          | txt _ => rw [exW]; exact Nat.zero_le _
          | var _ => rw [exW]; exact Nat.zero_le _
          | call s es =>
            have q := ih.2 es (by simp at h; omega)
            rw [exW, exN, List.length_append]
            show _ + 1 ≤ _
            omega
          | row g ss o es =>
            have q1 := ih.1 o (by simp at h; omega)
            have q2 := ih.2 es (by simp at h; omega)
            rw [exW, exN, List.length_append]
            omega
        · cases es with
          | nil => rw [exWs]; exact Nat.zero_le _
          | cons e es =>
            have q1 := ih.1 e (by simp at h; omega)
            have q2 := ih.2 es (by simp at h; omega)
            rw [exWs, exNs, List.length_append]
            omega
    exact fun e => (both _).1 e (Nat.le_refl _)
  exact fun {k e} _ => h1 e
theorem exW_le (e : Exp) : (exW e).length ≤ exN e := by
  have h1 : ∀ n : Nat, (∀ e : Exp, sizeOf e ≤ n → (exW e).length ≤ exN e) ∧ (∀ es : List Exp, sizeOf es ≤ n → (exWs es).length ≤ exNs es) := by
    intro n
    induction n with
    | zero =>
      refine ⟨fun e h => ?_, fun es h => ?_⟩
      · cases e <;> simp at h
      · cases es <;> simp at h
    | succ n ih =>
      refine ⟨fun e h => ?_, fun es h => ?_⟩
      · cases e with
        | num _ => rw [exW]; exact Nat.zero_le _
        | txt _ => rw [exW]; exact Nat.zero_le _
        | var _ => rw [exW]; exact Nat.zero_le _
        | call s es =>
          have q := ih.2 es (by simp at h; omega)
          rw [exW, exN, List.length_append]
          show _ + 1 ≤ _
          omega
        | row g ss o es =>
          have q1 := ih.1 o (by simp at h; omega)
          have q2 := ih.2 es (by simp at h; omega)
          rw [exW, exN, List.length_append]
          omega
      · cases es with
        | nil => rw [exWs]; exact Nat.zero_le _
        | cons e es =>
          have q1 := ih.1 e (by simp at h; omega)
          have q2 := ih.2 es (by simp at h; omega)
          rw [exWs, exNs, List.length_append]
          omega
  exact (h1 _).1 e (Nat.le_refl _)
theorem exWs_app : ∀ a b : List Exp, exWs (a ++ b) = exWs a ++ exWs b
  | [], b => by
    rw [exWs]
    rfl
  | e :: a, b => by
    show exWs (e :: (a ++ b)) = _
    rw [exWs, exWs, exWs_app a b, List.append_assoc]
section
variable {K : PySem.W.Frag}
theorem ev_kl {σ : L2.St} {H : Hp} {i : Nat} {v : V} {e : Exp} {s : Str} (h0 : σ[i]? = some (some v)) (g : Dd K H v (lwD e)) : EvT (tTest (tOp rEq (tOp (rIxT K) (tVar i) (tC (.int 0))) (tC (.str s)))) σ H (decide (kdL e = s)) := by
  have z : ∃ r, lwD e = .tuple (.str (kdL e) :: r) := by
    cases e with
    | num _ => exact ⟨_, by rw [lwD]; rfl⟩
    | txt _ => exact ⟨_, by rw [lwD]; rfl⟩
    | var _ => exact ⟨_, by rw [lwD]; rfl⟩
    | call _ _ => exact ⟨_, by rw [lwD]; rfl⟩
    | row _ _ _ _ => exact ⟨_, by rw [lwD]; rfl⟩
  obtain ⟨r, ed⟩ := z
  rw [ed] at g
  exact et_is (et_test (ev_eqS (EvD.str' (ed_ix (j := 0) h0 g rfl)) ev_c sc_s)) dec_str
/-- d[j] of a datum that is a tuple, a list there -/
theorem ed_ixL {σ : L2.St} {H : Hp} {i j : Nat} {v : V} {ds es : List PyData} (h0 : σ[i]? = some (some v)) (g : Dd K H v (.tuple ds)) (hd : ds[j]? = some (.list es)) : ∃ (a : Addr) (xs : List V), Ev (tOp (rIxT K) (tVar i) (tC (.int (j : Int)))) σ H (.ref a) ∧ SqL K H a xs ∧ Dds K H xs es := by
  cases g with
  | tup hs ha =>
    obtain ⟨x, hx, gx⟩ := ha.at hd
    cases gx with
    | lst h1 h2 => exact ⟨_, _, ev_op (ev_var h0) ev_c (rv_ixT (i := (j : Int)) hs (atI_nat hx)), h1, h2⟩
end
theorem drop_at {α : Type} {l : List α} {i : Nat} {x : α} (h : l[i]? = some x) : l.drop i = x :: l.drop (i + 1) := by
  obtain ⟨hi, e⟩ := List.getElem?_eq_some_iff.mp h
  rw [List.drop_eq_getElem_cons hi, e]
section
variable {P : Program} {w : World} {K : PySem.W.Frag} {mg : Str → Option Value} {base : Heap} {f : Addr} {fd : FuncData}
def NLn : List Str := ["_law_part", "_law_rank", "_law_line_here", "_law_sign", "_law_one"]
theorem scLn : FnScope NLn ["_law_part", "_law_rank"] (defScope sLn) := ⟨rfl, rfl, rfl, by decide +kernel, rfl, by decide +kernel, by decide +kernel⟩
theorem ok_ln {k : Nat} {D : Exp → Prop} (ihl : LnP D) (F : Fun K "_law_line" "_law_line" sLn f fd) (LN : Df P w K mg base "_law_line" ["_law_part", "_law_rank"] k (spLn K D)) : FnOk P w K mg base CX0 (k + 1) f fd ["_law_part", "_law_rank"] (spLn K (DnS D)) := by
  refine F.ok scLn (fun vs H Q E h => ?_) (fun cdv A outer s H vs Q E hr h => ?_)
  · obtain ⟨v, e, r, rfl, _⟩ := h
    rfl
  · obtain ⟨v, e, r, rfl, g, d, n60, kQ⟩ := h
    have hrk : Room k _ := hr
    refine ⟨_, pss_cons (ps_if (pt_cmpR op_eq (pe_ix ix_tup (pv 0) pe_int (fun _ _ => rfl)) pe_str (nomark _)) (pss_one (ps_ret (pe_ix ix_tup (pv 0) pe_int (fun _ _ => rfl)))) pss_nil)
      (pss_cons (ps_if (pt_cmpR op_eq (pe_ix ix_tup (pv 0) pe_int (fun _ _ => rfl)) pe_str (nomark _)) (pss_one (ps_ret (pe_op op_add_str (pe_op op_add_str (pe_op op_add_str (pe_ix ix_tup (pv 0) pe_int (fun _ _ => rfl)) pe_str) (pe_bm PySem.F.plainAttrs_str PySem.F.slot_str_join PySem.F.type_str_join mt_join pe_str (pa_cons
          (pe_lc (own := [("_law_one", 4)]) (g := gName 4) (tt := tYes) (te := tCall (spLn K D) [] E0 (tCons (tVar 4) (tCons (tC (.int 0)) tNil))) rfl scLn.nd (pi_list (pe_ix ix_tup (pv 0) pe_int (fun _ _ => rfl))) (blkOk_by (own := [("_law_one", 4)]) (N := NLn) (sc := defScope sLn) (by decide +kernel)) (fun _ _ _ _ _ => pg_name (i := 4) scLn.nd rfl (Or.inl rfl)) (fun _ _ _ _ _ => pts_nil) (fun _ _ _ _ _ => pe_df LN hrk rfl (pa_cons (pv 4) (pa_cons pe_int pa_nil)))) pa_nil))) pe_str))) pss_nil)
      (pss_cons (ps_set (i := 2) scLn.nd rfl (Or.inl rfl) (pe_df LN hrk rfl (pa_cons (pe_ix ix_tup (pv 0) pe_int (fun _ _ => rfl)) (pa_cons (pe_op op_add (pe_ix ix_tup (pv 0) pe_int (fun _ _ => rfl)) pe_int) pa_nil))))
      (pss_cons (ps_for PassesOwn.never rfl (pi_list (pe_ix ix_tup (pv 0) pe_int (fun _ _ => rfl))) (pg_tup rfl (pgs_cons (pg_name (i := 3) scLn.nd rfl (Or.inl rfl)) (pgs_cons (pg_name (i := 4) scLn.nd rfl (Or.inl rfl)) pgs_nil)))
        (pss_one (ps_set (i := 2) scLn.nd rfl (Or.inl rfl) (pe_op op_add_str (pe_op op_add_str (pe_op op_add_str (pe_op op_add_str (pv 2) pe_str) (pv 3)) pe_str) (pe_df LN hrk rfl (pa_cons (pv 4) (pa_cons (pe_op op_add (pe_ix ix_tup (pv 0) pe_int (fun _ _ => rfl)) pe_int) pa_nil)))))))
      (pss_one (ps_ret (pe_ifExp (pt_cmpR op_lt (pe_ix ix_tup (pv 0) pe_int (fun _ _ => rfl)) (pv 1) (nomark _)) (pe_op op_add_str (pe_op op_add_str pe_str (pv 2)) pe_str) (pv 2))))))), ?_⟩
    have tl := len_step ihl d r
    have ePo : ("(" : Str).length = 1 := by decide +kernel
    have ePc : (")" : Str).length = 1 := by decide +kernel
    have eC : (", " : Str).length = 2 := by decide +kernel
    have eB : (" " : Str).length = 1 := by decide +kernel
    by_cases lf : leafB e = true
    · refine q_when (b := true) (et_is (ev_kl rfl g) (decide_eq_true (kdl_leaf.mpr lf))) (fun _ H1 e1 => ?_) fun z => by cases z
      rw [lw_leaf lf] at g
      have er : exR r e = exT e := by
        cases e with
        | row _ _ _ _ => cases lf
        | _ => rfl
      rw [er] at kQ
      exact s_ret (EvD.str' (ed_ix (j := 1) rfl (Dd.ext e1 _ _ g) rfl)) fun H2 e2 => kQ H2 (e1.trans e2)
    · have nl : kdL e ≠ "leaf" := fun z => lf (kdl_leaf.mp z)
      refine q_when (b := false) (et_is (ev_kl rfl g) (decide_eq_false nl)) (fun z => by cases z) fun _ H1 e1 => ?_
      have g1 := Dd.ext e1 _ _ g
      cases d with
      | num _ => exact absurd rfl lf
      | txt _ _ => exact absurd rfl lf
      | var _ _ => exact absurd rfl lf
      | @call s e0 es hs hd hds =>
        refine q_when (b := true) (et_is (ev_kl rfl g1) (decide_eq_true rfl)) (fun _ H2 e2 => ?_) fun z => by cases z
        have g2 := Dd.ext e2 _ _ g1
        rw [lwD] at g2
        obtain ⟨a, xs, ea, sa, da⟩ := ed_ixL (σ := ([some v, some (.int (r : Int)), none, none, none] : L2.St)) (i := 0) (j := 2) rfl g2 rfl
        have tl2 : (exT (.call s (e0 :: es))).length ≤ 9 + 44 * exN (.call s (e0 :: es)) := tl
        rw [exT, app_len, app_len, app_len, ePo, ePc] at tl2
        have all : ∀ x ∈ e0 :: es, D x := fun x m => (List.mem_cons.mp m).elim (fun z => z ▸ hd) (hds x)
        rw [exN] at n60 tl2
        have xl := da.len
        rw [lwDs_len] at xl
        have q4 : s.length ≤ 7 ∧ es.length + 1 ≤ 4 := argn_b _ hs
        have lc := el_mapL (K := K) (j := 4) (vs := [4]) (te := tCall (spLn K D) [] E0 (tCons (tVar 4) (tCons (tC (.int 0)) tNil))) (zs := exTs (e0 :: es)) ea sa (by rw [xl, List.length_cons]; omega) (fun x => rfl) da (by rw [exTs_map, lwDs_len, List.length_map]) (fun i x d z H3 e3 hd2 hz gx => by
          obtain ⟨ee, hee, rfl⟩ := lwDs_get hd2
          rw [exTs_map, List.getElem?_map, hee] at hz
          have hz2 := Option.some.inj hz
          subst hz2
          have me := List.mem_of_getElem? hee
          have := exNs_mem me
          exact fun H4 e4 Q q => ⟨_, rfl, x, ee, 0, rfl, Dd.ext e4 _ _ gx, all ee me, by omega, fun H5 e5 => by
            rw [exR_zero]
            exact q H5 e5⟩)
        have js : Ev (tBM K "str" (fun x xs H Q => ∃ a p, ∃ ys : List Str, x = .str a ∧ xs = [.ref p] ∧ (SqL K H p (ys.map V.str) ∨ SqT K H p (ys.map V.str)) ∧ (ys.map (·.length)).sum + ys.length * a.length ≤ 16777216 ∧ Q (.str (Txt.join a ys)) H) (tC (.str ", ")) (tCons (tLc (iList K (tOp (rIxT K) (tVar 0) (tC (.int 2)))) (gName 4) tYes (tCall (spLn K D) [] E0 (tCons (tVar 4) (tCons (tC (.int 0)) tNil))) [4]) tNil)) ([some v, some (.int (r : Int)), none, none, none] : L2.St) H2 (.str (Txt.join ", " (exTs (e0 :: es)))) := fun H3 e3 Q q =>
          ⟨rfl, lc H3 e3 _ fun p H4 np e4 hp => ⟨", ", p, exTs (e0 :: es), rfl, rfl, .inl (sq_of hp), (by
            have lj := tl2
            rw [exTs, jl] at lj
            have s2 : ((exTs es).map (·.length)).sum ≤ ((exTs es).map fun q => (", " : Str).length + q.length).sum := by
              generalize exTs es = ts
              induction ts with
              | nil => exact Nat.le_refl _
              | cons t ts ih =>
                rw [List.map_cons, List.map_cons, List.sum_cons, List.sum_cons]
                omega
            have l5 : (exTs (e0 :: es)).length = es.length + 1 := by rw [exTs_map, List.length_map, List.length_cons]
            rw [l5, eC, exTs, List.map_cons, List.sum_cons]
            omega), q H4 e4⟩⟩
        have ln1 := app_len s "("
        have ln2 := app_len (s ++ "(") (Txt.join ", " (exTs (e0 :: es)))
        have fin : Ev _ ([some v, some (.int (r : Int)), none, none, none] : L2.St) H2 (.str (((s ++ "(") ++ Txt.join ", " (exTs (e0 :: es))) ++ ")")) := ev_cat (ev_cat (ev_cat (EvD.str' (ed_ix (i := 0) (j := 1) rfl g2 rfl)) ev_c (by omega)) js (by omega)) ev_c (by omega)
        refine s_ret fin fun H3 e3 => ?_
        have er : exR r (.call s (e0 :: es)) = ((s ++ "(") ++ Txt.join ", " (exTs (e0 :: es))) ++ ")" := by
          show exT (.call s (e0 :: es)) = _
          rw [exT]
        rw [er] at kQ
        exact kQ H3 ((e1.trans e2).trans e3)
      | @row gg ss o es g5 hs ln h2 l1 l3 hd hds =>
        refine q_when (b := false) (et_is (ev_kl rfl g1) (show decide (("row" : Str) = "call") = false by decide +kernel)) (fun z => by cases z) fun _ H2 e2 => ?_
        have g2 := Dd.ext e2 _ _ g1
        rw [lwD] at g2
        rw [exN] at n60
        have g5' := g2
        refine (ed_ix (K := K) (i := 0) (j := 2) (σ := ([some v, some (.int (r : Int)), none, none, none] : L2.St)) rfl g2 rfl) H2 (Ex.refl _) _ fun vo H3 e3 go => ?_
        have ig : ∀ {σ : L2.St} {G : Hp}, σ[0]? = some (some v) → Ex H2 G → Ev (tOp (rI0 fun i j => .int (i + j)) (tOp (rIxT K) (tVar 0) (tC (.int 1))) (tC (.int 1))) σ G (.int ((gg + 1 : Nat) : Int)) := fun h0 e => ev_is (evAdd (EvD.int' (ed_ix (j := 1) h0 (Dd.ext e _ _ g2) rfl)) ev_c) (by congr 1)
        refine ig (σ := ([some v, some (.int (r : Int)), none, none, none] : L2.St)) rfl e3 H3 (Ex.refl _) _ fun H4 e4 => ⟨vo, o, gg + 1, rfl, Dd.ext e4 _ _ go, hd, by omega, fun H5 e5 => ?_⟩
        have e25 := (e3.trans e4).trans e5
        obtain ⟨a, xs, ea, sa, da⟩ := ed_ixL (σ := ([some v, some (.int (r : Int)), some (.str (exR (gg + 1) o)), none, none] : L2.St)) (i := 0) (j := 3) rfl (Dd.ext e25 _ _ g2) rfl
        have tot : (exT (.row gg ss o es)).length ≤ 9 + 44 * 60 := by
          have q := len_step ihl (e := .row gg ss o es) (.row g5 hs ln h2 l1 l3 hd hds) 0
          rw [exR_zero] at q
          rw [exN] at q
          omega
        have xl := da.len
        rw [lwR_len ln] at xl
        refine q_forL ea sa (fun i σ' H' => ∃ (acc : Str) (o3 o4 : Option V), σ' = [some v, some (.int (r : Int)), some (.str acc), o3, o4] ∧ Ex H5 H' ∧ catW gg acc (ss.drop i) (es.drop i) = exT (.row gg ss o es)) ?_ ?_ ?_ ?_
        · intro H6 e6
          exact ⟨_, _, _, rfl, e6, by rw [List.drop_zero, List.drop_zero]; exact catW_row gg ss o es⟩
        · rintro i σ' H' hi ⟨acc, o3, o4, rfl, e6, _⟩
          exact ex_l e6 sa
        · rintro i x σ' H' hx ⟨acc, o3, o4, rfl, e6, hc⟩
          obtain ⟨dx, hdx, gx⟩ := da.get hx
          obtain ⟨sj, ej, hsj, hej, rfl⟩ := lwR_get hdx
          have gx' := Dd.ext e6 _ _ gx
          cases gx' with
          | tup hq hds2 =>
          rename_i a2 zs
          cases hds2 with
          | cons h1 hds2 =>
          cases hds2 with
          | cons h2 hds2 =>
          cases hds2
          cases h1
          rename_i ve
          refine ⟨a2, _, rfl, hq, rfl, _, _, rfl, _, _, rfl, rfl, ?_⟩
          rw [drop_at hsj, drop_at hej] at hc
          have hc2 : catW gg ((((acc ++ " ") ++ sj) ++ " ") ++ exR (gg + 1) ej) (ss.drop (i + 1)) (es.drop (i + 1)) = exT (.row gg ss o es) := hc
          have cl := catW_len gg (ss.drop (i + 1)) (es.drop (i + 1)) ((((acc ++ " ") ++ sj) ++ " ") ++ exR (gg + 1) ej)
          rw [hc2] at cl
          have a1 := app_len acc " "
          have a2' := app_len (acc ++ " ") sj
          have a3 := app_len ((acc ++ " ") ++ sj) " "
          have a4 := app_len (((acc ++ " ") ++ sj) ++ " ") (exR (gg + 1) ej)
          have me := List.mem_of_getElem? hej
          have := exNs_mem me
          have lv : Ev (tCall (spLn K D) [] E0 (tCons (tVar 4) (tCons (tOp (rI0 fun i j => .int (i + j)) (tOp (rIxT K) (tVar 0) (tC (.int 1))) (tC (.int 1))) tNil))) ([some v, some (.int (r : Int)), some (.str acc), some (.str sj), some ve] : L2.St) H' (.str (exR (gg + 1) ej)) := fun H7 e7 Q q => ⟨_, rfl, ig rfl ((e25.trans e6).trans e7) H7 (Ex.refl _) _ fun H8 e8 => ⟨ve, ej, gg + 1, rfl, Dd.ext (e7.trans e8) _ _ h2, hds ej me, by omega, fun H9 e9 => q H9 (e8.trans e9)⟩⟩
          exact s_asg (ev_cat (ev_cat (ev_cat (ev_cat (ev_var rfl) ev_c (by omega)) (ev_var rfl) (by omega)) ev_c (by omega)) lv (by omega)) fun H7 e7 => ⟨_, _, _, rfl, e6.trans e7, hc2⟩
        · rintro σ' H' ⟨acc, o3, o4, rfl, e6, hc⟩
          rw [xl, List.drop_length, ln, List.drop_length] at hc
          have hacc : acc = exT (.row gg ss o es) := hc
          have e0 := e25.trans e6
          have lt : EvT (tTest (tOp (rI0 fun i j => .bl (decide (i < j))) (tOp (rIxT K) (tVar 0) (tC (.int 1))) (tVar 1))) ([some v, some (.int (r : Int)), some (.str acc), o3, o4] : L2.St) H' (decide ((gg : Int) < (r : Int))) := etLt (EvD.int' (ed_ix (j := 1) rfl (Dd.ext e0 _ _ g2) rfl)) (ev_var rfl)
          refine lt H' (Ex.refl _) _ fun H7 e7 => ?_
          have ee : Ex H H7 := ((e1.trans e2).trans e0).trans e7
          have al := congrArg Str.length hacc
          by_cases hg : gg < r
          · rw [if_pos (decide_eq_true (by omega))]
            have er : exR r (.row gg ss o es) = ("(" ++ acc) ++ ")" := by
              show (if gg < r then ("(" ++ exT (.row gg ss o es)) ++ ")" else exT (.row gg ss o es)) = _
              rw [if_pos hg, hacc]
            rw [er] at kQ
            have b1 := app_len "(" acc
            exact (ev_cat (ev_cat ev_c (ev_var (σ := ([some v, some (.int (r : Int)), some (.str acc), o3, o4] : L2.St)) (i := 2) rfl) (by omega)) ev_c (by omega)) H7 (Ex.refl _) _ fun H8 e8 => kQ H8 (ee.trans e8)
          · rw [if_neg (fun z => hg (by
              have := of_decide_eq_true z
              omega))]
            have er : exR r (.row gg ss o es) = acc := by
              show (if gg < r then ("(" ++ exT (.row gg ss o es)) ++ ")" else exT (.row gg ss o es)) = _
              rw [if_neg hg, hacc]
            rw [er] at kQ
            exact ⟨_, rfl, kQ H7 ee⟩
def NWs : List Str := ["_law_part", "_law_found", "_law_one", "_law_sign"]
theorem scWs : FnScope NWs ["_law_part"] (defScope sWs) := ⟨rfl, rfl, rfl, by decide +kernel, rfl, by decide +kernel, by decide +kernel⟩
theorem ok_ws {k : Nat} {D : Exp → Prop} (F : Fun K "_law_words" "_law_words" sWs f fd) (WS : Df P w K mg base "_law_words" ["_law_part"] k (spWs K D)) : FnOk P w K mg base CX0 (k + 1) f fd ["_law_part"] (spWs K (DnS D)) := by
  refine F.ok scWs (fun vs H Q E h => ?_) (fun cdv A outer s H vs Q E hr h => ?_)
  · obtain ⟨v, e, rfl, _⟩ := h
    rfl
  · obtain ⟨v, e, rfl, g, d, n60, kQ⟩ := h
    have hrk : Room k _ := hr
    refine ⟨_, pss_cons (ps_if (pt_cmpR op_eq (pe_ix ix_tup (pv 0) pe_int (fun _ _ => rfl)) pe_str (nomark _)) (pss_one (ps_ret (pe_lst pa_nil))) pss_nil)
      (pss_cons (ps_set (i := 1) scWs.nd rfl (Or.inl rfl) (pe_lst pa_nil))
      (pss_cons (ps_if (pt_cmpR op_eq (pe_ix ix_tup (pv 0) pe_int (fun _ _ => rfl)) pe_str (nomark _))
        (pss_cons (ps_for PassesOwn.never rfl (pi_list (pe_ix ix_tup (pv 0) pe_int (fun _ _ => rfl))) (pg_name (i := 2) scWs.nd rfl (Or.inl rfl)) (pss_one (ps_set (i := 1) scWs.nd rfl (Or.inl rfl) (pe_op op_cat (pv 1) (pe_df WS hrk rfl (pa_cons (pv 2) pa_nil))))))
        (pss_one (ps_ret (pe_op op_cat (pv 1) (pe_lst (pa_cons (pe_ix ix_tup (pv 0) pe_int (fun _ _ => rfl)) pa_nil)))))) pss_nil)
      (pss_cons (ps_set (i := 1) scWs.nd rfl (Or.inl rfl) (pe_df WS hrk rfl (pa_cons (pe_ix ix_tup (pv 0) pe_int (fun _ _ => rfl)) pa_nil)))
      (pss_cons (ps_for PassesOwn.never rfl (pi_list (pe_ix ix_tup (pv 0) pe_int (fun _ _ => rfl))) (pg_tup rfl (pgs_cons (pg_name (i := 3) scWs.nd rfl (Or.inl rfl)) (pgs_cons (pg_name (i := 2) scWs.nd rfl (Or.inl rfl)) pgs_nil)))
        (pss_one (ps_set (i := 1) scWs.nd rfl (Or.inl rfl) (pe_op op_cat (pv 1) (pe_df WS hrk rfl (pa_cons (pv 2) pa_nil))))))
      (pss_one (ps_ret (pv 1))))))), ?_⟩
    have wl := exW_le e
    by_cases lf : leafB e = true
    · refine q_when (b := true) (et_is (ev_kl rfl g) (decide_eq_true (kdl_leaf.mpr lf))) (fun _ H1 e1 => ?_) fun z => by cases z
      have ew : exW e = [] := by
        cases e with
        | num _ => rw [exW]
        | txt _ => rw [exW]
        | var _ => rw [exW]
        | call _ _ => cases lf
        | row _ _ _ _ => cases lf
      rw [ew] at kQ
      exact ⟨Nat.zero_le _, fun p np => kQ p _ (fresh_back e1 np) (e1.trans (Ex.new np)) upd_same⟩
    · have nl : kdL e ≠ "leaf" := fun z => lf (kdl_leaf.mp z)
      refine q_when (b := false) (et_is (ev_kl rfl g) (decide_eq_false nl)) (fun z => by cases z) fun _ H1 e1 => ?_
      have g1 := Dd.ext e1 _ _ g
      refine ⟨Nat.zero_le _, fun L nL => ?_⟩
      have eL : Ex H1 (upd H1 L (.lst [])) := Ex.new nL
      have hL2 : (upd H1 L (.lst [])) L = some (.lst []) := upd_same
      have g2 := Dd.ext eL _ _ g1
      have e02 := e1.trans eL
      show tSeq _ _ _ _ (upd H1 L (.lst []))
      generalize upd H1 L (.lst []) = H2 at eL hL2 g2 e02 ⊢
      cases d with
      | num _ => exact absurd rfl lf
      | txt _ _ => exact absurd rfl lf
      | var _ _ => exact absurd rfl lf
      | @call s e0 es hs hd hds =>
        refine q_when (b := true) (et_is (ev_kl rfl g2) (decide_eq_true rfl)) (fun _ H3 e3 => ?_) fun z => by cases z
        have g3 := Dd.ext e3 _ _ g2
        rw [lwD] at g3
        rw [exW] at kQ wl
        rw [exN] at n60
        rw [List.length_append, exN] at wl
        have all : ∀ x ∈ e0 :: es, D x := fun x m => (List.mem_cons.mp m).elim (fun z => z ▸ hd) (hds x)
        obtain ⟨a, xs, ea, sa, da⟩ := ed_ixL (σ := ([some v, some (.ref L), none, none] : L2.St)) (i := 0) (j := 2) rfl g3 rfl
        have xl := da.len
        rw [lwDs_len] at xl
        generalize e0 :: es = fs at *
        refine q_forLn ea sa (fun i σ' H' => ∃ (acc : List Str) (p : Addr) (o2 : Option V), σ' = [some v, some (.ref p), o2, none] ∧ Ex H3 H' ∧ H' p = some (.lst (acc.map V.str)) ∧ acc ++ exWs (fs.drop i) = exWs fs) ?_ ?_ ?_ ?_
        · intro H4 e4
          exact ⟨[], L, _, rfl, e4, (e3.trans e4) _ _ hL2, by rw [List.drop_zero]; rfl⟩
        · rintro i σ' H' hi ⟨acc, p, o2, rfl, e4, _⟩
          exact ex_l e4 sa
        · rintro i x σ' H' hx ⟨acc, p, o2, rfl, e4, hp, hc⟩
          obtain ⟨dx, hdx, gx⟩ := da.get hx
          obtain ⟨ee, hee, rfl⟩ := lwDs_get hdx
          have me := List.mem_of_getElem? hee
          have := exNs_mem me
          rw [drop_at hee, exWs, ← List.append_assoc] at hc
          have cl := congrArg List.length hc
          rw [List.length_append, List.length_append] at cl
          have lv : EvL (tCall (spWs K D) [] E0 (tCons (tVar 2) tNil)) ([some v, some (.ref p), some x, none] : L2.St) H' ((exW ee).map V.str) := fun H5 e5 Q q => ⟨_, rfl, x, ee, rfl, Dd.ext (e4.trans e5) _ _ gx, all ee me, by omega, fun p2 H6 np2 e6 hp2 => q p2 H6 np2 e6 hp2⟩
          refine s_asgL (el_catV (ev_var rfl) hp lv (by rw [List.length_map, List.length_map]; omega)) fun p2 H5 np2 e5 hp2 => ?_
          exact ⟨acc ++ exW ee, p2, _, rfl, e4.trans e5, by rw [hp2, List.map_append], hc⟩
        · rintro σ' H' ⟨acc, p, o2, rfl, e4, hp, hc⟩
          rw [xl, List.drop_length, exWs, List.append_nil] at hc
          subst hc
          have sv : Ev (tOp (rIxT K) (tVar 0) (tC (.int 1))) ([some v, some (.ref p), o2, none] : L2.St) H' (.str s) := EvD.str' (ed_ix (j := 1) rfl (Dd.ext e4 _ _ g3) rfl)
          refine s_retL (el_catV (ev_var rfl) hp (el_lst (ea_cons sv ea_nil) (show 1 ≤ 100000 by decide)) (by rw [List.length_map]; show _ + 1 ≤ _; omega)) fun p2 H5 np2 e5 hp2 => ?_
          exact kQ p2 H5 (fresh_back ((e02.trans e3).trans e4) np2) (((e02.trans e3).trans e4).trans e5) (by rw [hp2, List.map_append]; rfl)
      | @row gg ss o es g5 hs ln h2 l1 l3 hd hds =>
        refine q_when (b := false) (et_is (ev_kl rfl g2) (show decide (("row" : Str) = "call") = false by decide +kernel)) (fun z => by cases z) fun _ H3 e3 => ?_
        have g3 := Dd.ext e3 _ _ g2
        rw [lwD] at g3
        rw [exW] at kQ wl
        rw [exN] at n60
        rw [List.length_append, exN] at wl
        refine (ed_ix (K := K) (i := 0) (j := 2) (σ := ([some v, some (.ref L), none, none] : L2.St)) rfl g3 rfl) H3 (Ex.refl _) _ fun vo H4 e4 go => ⟨vo, o, rfl, go, hd, by omega, fun q H5 nq e5 hq => ?_⟩
        have e35 := e4.trans e5
        obtain ⟨a, xs, ea, sa, da⟩ := ed_ixL (σ := ([some v, some (.ref q), none, none] : L2.St)) (i := 0) (j := 3) rfl (Dd.ext e35 _ _ g3) rfl
        have xl := da.len
        rw [lwR_len ln] at xl
        refine q_forL ea sa (fun i σ' H' => ∃ (acc : List Str) (p : Addr) (o2 o3 : Option V), σ' = [some v, some (.ref p), o2, o3] ∧ Ex H5 H' ∧ H' p = some (.lst (acc.map V.str)) ∧ acc ++ exWs (es.drop i) = exW o ++ exWs es ∧ H p = none) ?_ ?_ ?_ ?_
        · intro H6 e6
          exact ⟨exW o, q, _, _, rfl, e6, e6 _ _ hq, by rw [List.drop_zero], fresh_back ((e02.trans e3).trans e4) nq⟩
        · rintro i σ' H' hi ⟨acc, p, o2, o3, rfl, e6, _⟩
          exact ex_l e6 sa
        · rintro i x σ' H' hx ⟨acc, p, o2, o3, rfl, e6, hp, hc, np⟩
          obtain ⟨dx, hdx, gx⟩ := da.get hx
          obtain ⟨sj, ej, hsj, hej, rfl⟩ := lwR_get hdx
          have gx' := Dd.ext e6 _ _ gx
          cases gx' with
          | tup hq2 hds2 =>
          rename_i a2 zs
          cases hds2 with
          | cons h1 hds2 =>
          cases hds2 with
          | cons h2 hds2 =>
          cases hds2
          cases h1
          rename_i ve
          refine ⟨a2, _, rfl, hq2, rfl, _, _, rfl, _, _, rfl, rfl, ?_⟩
          have me := List.mem_of_getElem? hej
          have := exNs_mem me
          rw [drop_at hej, exWs, ← List.append_assoc] at hc
          have cl := congrArg List.length hc
          rw [List.length_append, List.length_append, List.length_append] at cl
          have lv : EvL (tCall (spWs K D) [] E0 (tCons (tVar 2) tNil)) ([some v, some (.ref p), some ve, some (.str sj)] : L2.St) H' ((exW ej).map V.str) := fun H7 e7 Q q => ⟨_, rfl, ve, ej, rfl, Dd.ext e7 _ _ h2, hds ej me, by omega, fun p2 H8 np2 e8 hp2 => q p2 H8 np2 e8 hp2⟩
          refine s_asgL (el_catV (ev_var rfl) hp lv (by rw [List.length_map, List.length_map]; omega)) fun p2 H7 np2 e7 hp2 => ?_
          exact ⟨acc ++ exW ej, p2, _, _, rfl, e6.trans e7, by rw [hp2, List.map_append], hc, fresh_back ((((e02.trans e3).trans e35).trans e6)) np2⟩
        · rintro σ' H' ⟨acc, p, o2, o3, rfl, e6, hp, hc, np⟩
          rw [xl, ln, List.drop_length, exWs, List.append_nil] at hc
          subst hc
          exact ⟨_, rfl, kQ p H' np (((e02.trans e3).trans e35).trans e6) hp⟩
end
end K72
set_option maxHeartbeats 8000000
namespace K72
open PySem PySem.Spec PyProof.Rows L2 Evl My LamX
/-! the law's own lines of statements, and the words of all calls -/
abbrev sIs : Stmt := top 50
abbrev sRs : Stmt := top 51
abbrev sAw : Stmt := top 57
def spRs (K : PySem.W.Frag) (S : Stm → Prop) : Sp := fun vs H Q _ => ∃ (v : V) (s : Stm), vs = [v] ∧ Dd K H v (lsD s) ∧ S s ∧ stN s ≤ 60 ∧ NewL (stL s) H Q
def spIs2 (K : PySem.W.Frag) (B : List Stm → Prop) : Sp := fun vs H Q _ => ∃ (v : V) (b : List Stm), vs = [v] ∧ Dd K H v (.list (lsDs b)) ∧ B b ∧ stNs b ≤ 60 ∧ NewL (inn (stLs b)) H Q
def spAw (K : PySem.W.Frag) (B : List Stm → Prop) : Sp := fun vs H Q _ => ∃ (v : V) (b : List Stm), vs = [v] ∧ Dd K H v (.list (lsDs b)) ∧ B b ∧ stNs b ≤ 60 ∧ NewL (stWs b) H Q
/-- few lines, none of them long -/
def Few (ls : List Str) : Prop := ls.length ≤ 3000 ∧ ∀ z ∈ ls, z.length ≤ 3000
theorem wd_few {k : Nat} {ls : List Str} (h : 1 ≤ k) (w : Wd k ls ≤ 2700) : Few ls := by
  obtain ⟨a, b⟩ := wd_len h ls
  have h1 : 1 * ls.length ≤ k * ls.length := Nat.mul_le_mul_right _ h
  generalize k * ls.length = x at a h1
  exact ⟨by omega, fun z m => by have := b z m; omega⟩
theorem inn_app (a b : List Str) : inn (a ++ b) = inn a ++ inn b := by
  unfold inn
  rw [List.map_append]
theorem inn_len (a : List Str) : (inn a).length = a.length := by
  unfold inn
  rw [List.length_map]
theorem stL_sub {b : List Stm} {s : Stm} (h : s ∈ b) : ∀ z ∈ stL s, z ∈ stLs b := by
  induction b with
  | nil => exact nomatch h
  | cons x b ih =>
    intro z m
    rw [stLs]
    rcases List.mem_cons.mp h with rfl | h
    · exact List.mem_append_left _ m
    · exact List.mem_append_right _ (ih h z m)
theorem stW_le : (∀ s : Stm, (stW s).length ≤ stN s) ∧ ∀ b : List Stm, (stWs b).length ≤ stNs b := by
  have h1 : ∀ n : Nat, (∀ s : Stm, sizeOf s ≤ n → (stW s).length ≤ stN s) ∧ (∀ b : List Stm, sizeOf b ≤ n → (stWs b).length ≤ stNs b) := by
    intro n
    induction n with
    | zero =>
      refine ⟨fun e h => ?_, fun es h => ?_⟩
      · cases e <;> simp at h
      · cases es <;> simp at h
    | succ n ih =>
      refine ⟨fun s h => ?_, fun b h => ?_⟩
      · cases s with
        | set s e =>
          have := exW_le e
          rw [stW, stN]
          omega
        | tell e =>
          have := exW_le e
          rw [stW, stN]
          omega
        | do_ e =>
          have := exW_le e
          rw [stW, stN]
          omega
        | while_ e b =>
          have := exW_le e
          have := ih.2 b (by simp at h; omega)
          rw [stW, stN, List.length_append]
          omega
        | for_ s e b =>
          have := exW_le e
          have := ih.2 b (by simp at h; omega)
          rw [stW, stN, List.length_append]
          omega
        | if_ e b c =>
          have := exW_le e
          have := ih.2 b (by simp at h; omega)
          have := ih.2 c (by simp at h; omega)
          rw [stW, stN, List.length_append, List.length_append]
          omega
        | try_ b c =>
          have := ih.2 b (by simp at h; omega)
          have := ih.2 c (by simp at h; omega)
          rw [stW, stN, List.length_append]
          omega
      · cases b with
        | nil => rw [stWs]; exact Nat.zero_le _
        | cons s b =>
          have := ih.1 s (by simp at h; omega)
          have := ih.2 b (by simp at h; omega)
          rw [stWs, stNs, List.length_append]
          omega
  exact ⟨fun s => (h1 _).1 s (Nat.le_refl _), fun b => (h1 _).2 b (Nat.le_refl _)⟩
theorem edl_ed {K : PySem.W.Frag} {te : TE} {σ : L2.St} {H : Hp} {ds : List PyData} (h : EvDL K te σ H ds) : EvD K te σ H (.list ds) := fun H1 e Q q => h H1 e _ fun p xs H2 _ e2 hp g => q (.ref p) H2 e2 (.lst (sq_of hp) g)
section
variable {P : Program} {w : World} {K : PySem.W.Frag} {mg : Str → Option Value} {base : Heap} {f : Addr} {fd : FuncData}
def NIs : List Str := ["_law_block_here", "_law_rows_here", "_law_statement_here", "_law_row"]
theorem scIs2 : FnScope NIs ["_law_block_here"] (defScope sIs) := ⟨rfl, rfl, rfl, by decide +kernel, rfl, by decide +kernel, by decide +kernel⟩
theorem ok_is2 {k : Nat} {S : Stm → Prop} {B : List Stm → Prop} (hB : ∀ {b : List Stm}, B b → ∀ s ∈ b, S s) (hF : ∀ {b : List Stm}, B b → stNs b ≤ 60 → Few (stLs b)) (F : Fun K "_law_inside" "_law_inside" sIs f fd) (RS : Df P w K mg base "_law_rows" ["_law_statement_here"] k (spRs K S)) : FnOk P w K mg base CX0 (k + 1) f fd ["_law_block_here"] (spIs2 K B) := by
  refine F.ok scIs2 (fun vs H Q E h => ?_) (fun cdv A outer s H vs Q E hr h => ?_)
  · obtain ⟨v, b, rfl, _⟩ := h
    rfl
  · obtain ⟨v, b, rfl, g, bb, n60, kQ⟩ := h
    have hrk : Room k _ := hr
    have few := hF bb n60
    refine ⟨_, pss_cons (ps_set (i := 1) scIs2.nd rfl (Or.inl rfl) (pe_lst pa_nil))
      (pss_cons (ps_for PassesOwn.never rfl (pi_list (pv 0)) (pg_name (i := 2) scIs2.nd rfl (Or.inl rfl))
        (pss_one (ps_for PassesOwn.never rfl (pi_list (pe_df RS hrk rfl (pa_cons (pv 2) pa_nil))) (pg_name (i := 3) scIs2.nd rfl (Or.inl rfl))
          (pss_one (ps_expr (pe_bm PySem.F.plainAttrs_list PySem.F.slot_list_append PySem.F.type_list_append mt_append (pv 1) (pa_cons (pe_op op_add_str pe_str (pv 3)) pa_nil)))))))
      (pss_one (ps_ret (pv 1)))), ?_⟩
    refine ⟨Nat.zero_le _, fun L nL => ?_⟩
    have eL : Ex H (upd H L (.lst [])) := Ex.new nL
    have hL1 : (upd H L (.lst [])) L = some (.lst []) := upd_same
    cases g with
    | lst sa da =>
    rename_i a xs
    have e2' : ("  " : Str).length = 2 := by decide +kernel
    have xl := da.len
    rw [lsDs_len] at xl
    -- what is not L stands
    have but : ∀ {G G' : Hp} {o : HO}, Ex H G → Ex G G' → Ex H (upd G' L o) := fun e1 e2 b o hb => by
      rw [upd_ne (ne_of_none hb nL)]
      exact e2 _ _ (e1 _ _ hb)
    refine q_forLn (ev_var rfl) (ex_l eL sa) (fun i σ' H' => ∃ (acc : List Str) (o2 o3 : Option V), σ' = [some (.ref a), some (.ref L), o2, o3] ∧ Ex H H' ∧ H' L = some (.lst (acc.map V.str)) ∧ acc ++ inn (stLs (b.drop i)) = inn (stLs b)) ?_ ?_ ?_ ?_
    · intro H1 e1
      exact ⟨[], _, _, rfl, eL.trans e1, e1 _ _ hL1, by rw [List.drop_zero]; rfl⟩
    · rintro i σ' H' hi ⟨acc, o2, o3, rfl, e1, _⟩
      exact ex_l e1 sa
    · rintro i x σ' H' hx ⟨acc, o2, o3, rfl, e1, hL, hc⟩
      obtain ⟨dx, hdx, gx⟩ := da.get hx
      obtain ⟨st, hst, rfl⟩ := lsDs_get hdx
      have ms := List.mem_of_getElem? hst
      have := stNs_mem ms
      rw [drop_at hst, stLs, inn_app, ← List.append_assoc] at hc
      have src : EvL (tCall (spRs K S) [] E0 (tCons (tVar 2) tNil)) ([some (.ref a), some (.ref L), some x, o3] : L2.St) H' ((stL st).map V.str) := fun H2 e2 Q q => ⟨_, rfl, x, st, rfl, Dd.ext (e1.trans e2) _ _ gx, hB bb st ms, by omega, fun p H3 np e3 hp => q p H3 np e3 hp⟩
      refine s_forNL src (fun p j σ2 H2 => ∃ (o3 : Option V), σ2 = [some (.ref a), some (.ref L), some x, o3] ∧ Ex H H2 ∧ H2 p = some (.lst ((stL st).map V.str)) ∧ p ≠ L ∧ H2 L = some (.lst ((acc ++ inn ((stL st).take j)).map V.str))) ?_ ?_ ?_ ?_
      · intro p H2 np e2 hp
        refine ⟨_, rfl, e1.trans e2, hp, fun z => ?_, by rw [List.take_zero]; show H2 L = some (.lst ((acc ++ []).map V.str)); rw [List.append_nil]; exact e2 _ _ hL⟩
        rw [z, hL] at np
        cases np
      · rintro p j σ2 H2 hj ⟨o3, rfl, e2, hp, _⟩
        exact sq_of hp
      · rintro p j y σ2 H2 hy ⟨o3, rfl, e2, hp, nP, hL2⟩
        rw [List.getElem?_map] at hy
        obtain ⟨z, hz, rfl⟩ : ∃ z, (stL st)[j]? = some z ∧ V.str z = y := by
          cases hh : (stL st)[j]? with
          | none =>
            rw [hh] at hy
            cases hy
          | some s =>
            rw [hh] at hy
            exact ⟨s, rfl, Option.some.inj hy⟩
        have zl := few.2 z (stL_sub ms z (List.mem_of_getElem? hz))
        have al := congrArg List.length hc
        rw [List.length_append, List.length_append, inn_len, inn_len, inn_len] at al
        have fl := few.1
        refine ⟨_, rfl, .inl ⟨rfl, _, SqL.of hL2⟩, (ev_cat ev_c (ev_var rfl) (by omega)) H2 (Ex.refl _) _ fun H3 e3 => ⟨L, _, .str ("  " ++ z), rfl, rfl, e3 _ _ hL2, sz_lt (by
          rw [List.length_map, List.length_append, inn_len, List.length_take]
          omega), _, rfl, but e2 e3, ?_, nP, ?_⟩⟩
        · rw [upd_ne nP]
          exact e3 _ _ hp
        · rw [upd_same, List.take_add_one, hz, inn_app]
          simp [inn]
      · rintro p σ2 H2 ⟨o3, rfl, e2, hp, nP, hL2⟩
        rw [List.length_map, List.take_length] at hL2
        exact ⟨acc ++ inn (stL st), _, _, rfl, e2, hL2, hc⟩
    · rintro σ' H' ⟨acc, o2, o3, rfl, e1, hL, hc⟩
      rw [xl, List.drop_length, stLs] at hc
      have ha : acc = inn (stLs b) := by rw [← hc]; show acc = acc ++ []; rw [List.append_nil]
      subst ha
      exact ⟨_, rfl, kQ L H' nL e1 hL⟩
def NRs : List Str := ["_law_statement_here", "_law_kind", "_law_head", "_law_rows_here"]
theorem scRs : FnScope NRs ["_law_statement_here"] (defScope sRs) := ⟨rfl, rfl, rfl, by decide +kernel, rfl, by decide +kernel, by decide +kernel⟩
theorem lsD_at : ∀ s : Stm, ∃ d r, lsD s = .tuple (.str (kwS.getD (kdS s) "") :: d :: r)
  | .set _ _ => ⟨_, _, by rw [lsD]; rfl⟩
  | .tell _ => ⟨_, _, by rw [lsD]; rfl⟩
  | .do_ _ => ⟨_, _, by rw [lsD]; rfl⟩
  | .while_ _ _ => ⟨_, _, by rw [lsD]; rfl⟩
  | .for_ _ _ _ => ⟨_, _, by rw [lsD]; rfl⟩
  | .if_ _ _ _ => ⟨_, _, by rw [lsD]; rfl⟩
  | .try_ _ _ => ⟨_, _, by rw [lsD]; rfl⟩
theorem eqv_nilL {c : List Stm} : PyData.eqv (.list (lsDs c)) (.list []) = c.isEmpty := by
  cases c with
  | nil => rw [lsDs]; rfl
  | cons s b => rw [lsDs]; rfl
theorem ok_rs {k kL kI : Nat} {B : List Stm → Prop} (lL : kL ≤ k) (lI : kI ≤ k) (k1 : 1 ≤ k) (hF : ∀ {b : List Stm}, B b → stNs b ≤ 60 → Few (stLs b)) (hS : ∀ {b : List Stm}, B b → SeqAt.shaped (.list (lsDs b)) = true) (F : Fun K "_law_rows" "_law_rows" sRs f fd) (LN : Df P w K mg base "_law_line" ["_law_part", "_law_rank"] kL (spLn K (Dn 2))) (IS : Df P w K mg base "_law_inside" ["_law_block_here"] kI (spIs2 K B)) : FnOk P w K mg base CX0 (k + 1) f fd ["_law_statement_here"] (spRs K (DsS (Dn 2) B)) := by
  refine F.ok scRs (fun vs H Q E h => ?_) (fun cdv A outer s H vs Q E hr h => ?_)
  · obtain ⟨v, s, rfl, _⟩ := h
    rfl
  · obtain ⟨v, s, rfl, g, d, n60, kQ⟩ := h
    have hrk : Room k _ := hr
    have hrL : Room kL _ := hrk.mono lL
    have hrI : Room kI _ := hrk.mono lI
    have hr1 : Room 1 _ := hrk.mono k1
    refine ⟨_, pss_cons (ps_set (i := 1) scRs.nd rfl (Or.inl rfl) (pe_ix ix_tup (pv 0) pe_int (fun _ _ => rfl)))
      (pss_cons (ps_if (pt_cmpR op_eq (pv 1) pe_str (nomark _)) (pss_one (ps_ret (pe_lst (pa_cons (pe_op op_add_str (pe_op op_add_str (pe_op op_add_str (pe_ix ix_tup (pv 0) pe_int (fun _ _ => rfl)) pe_str) (pe_df LN hrL rfl (pa_cons (pe_ix ix_tup (pv 0) pe_int (fun _ _ => rfl)) (pa_cons pe_int pa_nil)))) pe_str) pa_nil)))) pss_nil)
      (pss_cons (ps_if (pt_cmpR op_eq (pv 1) pe_str (nomark _)) (pss_one (ps_ret (pe_lst (pa_cons (pe_op op_add_str (pe_op op_add_str pe_str (pe_df LN hrL rfl (pa_cons (pe_ix ix_tup (pv 0) pe_int (fun _ _ => rfl)) (pa_cons pe_int pa_nil)))) pe_str) pa_nil)))) pss_nil)
      (pss_cons (ps_if (pt_cmpR op_eq (pv 1) pe_str (nomark _)) (pss_one (ps_ret (pe_lst (pa_cons (pe_op op_add_str (pe_df LN hrL rfl (pa_cons (pe_ix ix_tup (pv 0) pe_int (fun _ _ => rfl)) (pa_cons pe_int pa_nil))) pe_str) pa_nil)))) pss_nil)
      (pss_cons (ps_if (pt_cmpR op_eq (pv 1) pe_str (nomark _)) (pss_one (ps_ret (pe_op op_cat (pe_op op_cat (pe_lst (pa_cons (pe_op op_add_str (pe_op op_add_str pe_str (pe_df LN hrL rfl (pa_cons (pe_ix ix_tup (pv 0) pe_int (fun _ _ => rfl)) (pa_cons pe_int pa_nil)))) pe_str) pa_nil)) (pe_df IS hrI rfl (pa_cons (pe_ix ix_tup (pv 0) pe_int (fun _ _ => rfl)) pa_nil))) (pe_lst (pa_cons pe_str pa_nil))))) pss_nil)
      (pss_cons (ps_if (pt_cmpR op_eq (pv 1) pe_str (nomark _))
        (pss_cons (ps_set (i := 2) scRs.nd rfl (Or.inl rfl) (pe_op op_add_str (pe_op op_add_str (pe_op op_add_str (pe_op op_add_str pe_str (pe_ix ix_tup (pv 0) pe_int (fun _ _ => rfl))) pe_str) (pe_df LN hrL rfl (pa_cons (pe_ix ix_tup (pv 0) pe_int (fun _ _ => rfl)) (pa_cons pe_int pa_nil)))) pe_str))
        (pss_one (ps_ret (pe_op op_cat (pe_op op_cat (pe_lst (pa_cons (pv 2) pa_nil)) (pe_df IS hrI rfl (pa_cons (pe_ix ix_tup (pv 0) pe_int (fun _ _ => rfl)) pa_nil))) (pe_lst (pa_cons pe_str pa_nil)))))) pss_nil)
      (pss_cons (ps_set (i := 2) scRs.nd rfl (Or.inl rfl) (pe_ifExp (pt_cmpR op_eq (pv 1) pe_str (nomark _)) pe_str (pe_op op_add_str (pe_op op_add_str pe_str (pe_df LN hrL rfl (pa_cons (pe_ix ix_tup (pv 0) pe_int (fun _ _ => rfl)) (pa_cons pe_int pa_nil)))) pe_str)))
      (pss_cons (ps_set (i := 3) scRs.nd rfl (Or.inl rfl) (pe_op op_cat (pe_lst (pa_cons (pv 2) pa_nil)) (pe_df IS hrI rfl (pa_cons (pe_ix ix_tup (pv 0) pe_int (fun _ _ => rfl)) pa_nil))))
      (pss_cut (ps_if (pt_cmpR (op_neD hr1.units) (pe_ix ix_tup (pv 0) pe_int (fun _ _ => rfl)) (pe_lst pa_nil) (nomark _)) (pss_one (ps_set (i := 3) scRs.nd rfl (Or.inl rfl) (pe_op op_cat (pe_op op_cat (pv 3) (pe_lst (pa_cons pe_str pa_nil))) (pe_df IS hrI rfl (pa_cons (pe_ix ix_tup (pv 0) pe_int (fun _ _ => rfl)) pa_nil))))) pss_nil)
      (pss_one (ps_ret (pe_op op_cat (pv 3) (pe_lst (pa_cons pe_str pa_nil))))))))))))), ?_⟩
    have e1 : (";" : Str).length = 1 := by decide +kernel
    have e2 : (" = " : Str).length = 3 := by decide +kernel
    have e3 : ("tell " : Str).length = 5 := by decide +kernel
    have e4 : ("while " : Str).length = 6 := by decide +kernel
    have e5 : (" {" : Str).length = 2 := by decide +kernel
    have e7 : ("for " : Str).length = 4 := by decide +kernel
    have e8 : (" in " : Str).length = 4 := by decide +kernel
    have e9 : ("if " : Str).length = 3 := by decide +kernel
    obtain ⟨d1, dr, eD⟩ := lsD_at s
    have g0 := g
    rw [eD] at g0
    refine q_asg (EvD.str' (ed_ix (j := 0) (σ := ([some v, none, none, none] : L2.St)) rfl g0 rfl)) fun H1 ex1 => ?_
    have g1 := Dd.ext ex1 _ _ g
    have tst : ∀ {z : Str} {G : Hp} {o2 o3 : Option V}, EvT (tTest (tOp rEq (tVar 1) (tC (.str z)))) ([some v, some (.str (kwS.getD (kdS s) "")), o2, o3] : L2.St) G (decide (kwS.getD (kdS s) "" = z)) := fun {z G o2 o3} => et_is (et_test (ev_op (ev_var rfl) ev_c (rv_eq rfl))) dec_str
    -- the line of an expression
    have ln : ∀ {σ : L2.St} {G : Hp} {ds : List PyData} {j : Nat} {e : Exp}, σ[0]? = some (some v) → Dd K G v (.tuple ds) → ds[j]? = some (lwD e) → Dn 2 e → exN e ≤ 60 → Ev (tCall (spLn K (Dn 2)) [] E0 (tCons (tOp (rIxT K) (tVar 0) (tC (.int (j : Int)))) (tCons (tC (.int 0)) tNil))) σ G (.str (exT e)) := fun {σ G ds j e} h0 gg hd de n => fun G1 x1 Q q => (ed_ix (K := K) h0 gg hd) G1 x1 _ fun u G2 x2 gu => ⟨u, e, 0, rfl, gu, de, n, fun G3 x3 => by
      rw [exR_zero]
      exact q G3 (x2.trans x3)⟩
    have isn : ∀ {σ : L2.St} {G : Hp} {ds : List PyData} {j : Nat} {b : List Stm}, σ[0]? = some (some v) → Dd K G v (.tuple ds) → ds[j]? = some (.list (lsDs b)) → B b → stNs b ≤ 60 → EvL (tCall (spIs2 K B) [] E0 (tCons (tOp (rIxT K) (tVar 0) (tC (.int (j : Int)))) tNil)) σ G ((inn (stLs b)).map V.str) := fun {σ G ds j b} h0 gg hd bb n => fun G1 x1 Q q => (ed_ix (K := K) h0 gg hd) G1 x1 _ fun u G2 x2 gu => ⟨u, b, rfl, gu, bb, n, fun p G3 np x3 hp => q p G3 (fresh_back x2 np) (x2.trans x3) hp⟩
    have one : ∀ {σ : L2.St} {G : Hp} {te : TE} {z : Str}, Ev te σ G (.str z) → EvL (tLst (tCons te tNil)) σ G (([z] : List Str).map V.str) := fun h => el_lst (ea_cons h ea_nil) (show 1 ≤ 100000 by decide)
    have kw : ∀ {i : Nat} {z : Str}, kdS s = i → kwS.getD i "" = z → decide (kwS.getD (kdS s) "" = z) = true := fun {i z} h h2 => by rw [h, h2]; exact decide_eq_true rfl
    have kn : ∀ {i : Nat} {z : Str}, kdS s = i → kwS.getD i "" ≠ z → decide (kwS.getD (kdS s) "" = z) = false := fun {i z} h h2 => by rw [h]; exact decide_eq_false h2
    have fin1 : ∀ {te : TE} {z : Str} {o2 o3 : Option V} {G : Hp}, Ex H G → Ev te ([some v, some (.str (kwS.getD (kdS s) "")), o2, o3] : L2.St) G (.str z) → stL s = [z] → tRet (tLst (tCons te tNil)) { nx := fun _ H' => Q .non H', rt := Q } ([some v, some (.str (kwS.getD (kdS s) "")), o2, o3] : L2.St) G := fun {te z o2 o3 G} x h e => s_retL (one h) fun p G2 np x2 hp => kQ p G2 (fresh_back x np) (x.trans x2) (by rw [e]; exact hp)
    cases d with
    | @set nm e hn hl he =>
      have ge := he.len
      rw [stN] at n60
      rw [lsD] at g1
      refine q_when (b := true) (et_is tst (kw (i := 0) rfl rfl)) (fun _ H2 ex2 => ?_) fun z => by cases z
      have g2 := Dd.ext ex2 _ _ g1
      have a1 := app_len nm " = "
      have a2 := app_len (nm ++ " = ") (exT e)
      exact fin1 (ex1.trans ex2) (ev_cat (ev_cat (ev_cat (EvD.str' (ed_ix (j := 1) rfl g2 rfl)) ev_c (by omega)) (ln (j := 2) rfl g2 rfl he (by omega)) (by omega)) ev_c (by omega)) (by rw [stL])
    | @tell e he =>
      have ge := he.len
      rw [stN] at n60
      rw [lsD] at g1
      refine q_when (b := false) (et_is tst (kn (i := 1) rfl (by decide +kernel))) (fun z => by cases z) fun _ H2 ex2 => ?_
      refine q_when (b := true) (et_is tst (kw (i := 1) rfl rfl)) (fun _ H3 ex3 => ?_) fun z => by cases z
      have g3 := Dd.ext (ex2.trans ex3) _ _ g1
      have a1 := app_len "tell " (exT e)
      exact fin1 (ex1.trans (ex2.trans ex3)) (ev_cat (ev_cat ev_c (ln (j := 1) rfl g3 rfl he (by omega)) (by omega)) ev_c (by omega)) (by rw [stL])
    | @do_ e he =>
      have ge := he.len
      rw [stN] at n60
      rw [lsD] at g1
      refine q_when (b := false) (et_is tst (kn (i := 2) rfl (by decide +kernel))) (fun z => by cases z) fun _ H2 ex2 => ?_
      refine q_when (b := false) (et_is tst (kn (i := 2) rfl (by decide +kernel))) (fun z => by cases z) fun _ H3 ex3 => ?_
      refine q_when (b := true) (et_is tst (kw (i := 2) rfl rfl)) (fun _ H4 ex4 => ?_) fun z => by cases z
      have x4 := (ex2.trans ex3).trans ex4
      have g4 := Dd.ext x4 _ _ g1
      exact fin1 (ex1.trans x4) (ev_cat (ln (j := 1) rfl g4 rfl he (by omega)) ev_c (by omega)) (by rw [stL])
    | @while_ e b he hb =>
      have ge := he.len
      rw [stN] at n60
      rw [lsD] at g1
      have few := hF hb (by omega)
      refine q_when (b := false) (et_is tst (kn (i := 3) rfl (by decide +kernel))) (fun z => by cases z) fun _ H2 ex2 => ?_
      refine q_when (b := false) (et_is tst (kn (i := 3) rfl (by decide +kernel))) (fun z => by cases z) fun _ H3 ex3 => ?_
      refine q_when (b := false) (et_is tst (kn (i := 3) rfl (by decide +kernel))) (fun z => by cases z) fun _ H4 ex4 => ?_
      refine q_when (b := true) (et_is tst (kw (i := 3) rfl rfl)) (fun _ H5 ex5 => ?_) fun z => by cases z
      have x5 := ((ex2.trans ex3).trans ex4).trans ex5
      have g5 := Dd.ext x5 _ _ g1
      have a1 := app_len "while " (exT e)
      have fl := few.1
      refine s_retL (el_catL (el_catL (one (ev_cat (ev_cat ev_c (ln (j := 1) rfl g5 rfl he (by omega)) (by omega)) ev_c (by omega))) (isn (j := 2) rfl g5 rfl hb (by omega)) (by rw [List.length_map, List.length_map, inn_len]; show 1 + _ ≤ _; omega)) (one ev_c) (by rw [List.length_append, List.length_map, List.length_map, List.length_map, inn_len]; show 1 + _ + 1 ≤ _; omega)) fun p G2 np x2 hp => kQ p G2 (fresh_back (ex1.trans x5) np) ((ex1.trans x5).trans x2) ?_
      rw [hp, ← List.map_append, ← List.map_append, stL]
      rfl
    | @for_ nm e b hn hl he hb =>
      have ge := he.len
      rw [stN] at n60
      rw [lsD] at g1
      have few := hF hb (by omega)
      refine q_when (b := false) (et_is tst (kn (i := 4) rfl (by decide +kernel))) (fun z => by cases z) fun _ H2 ex2 => ?_
      refine q_when (b := false) (et_is tst (kn (i := 4) rfl (by decide +kernel))) (fun z => by cases z) fun _ H3 ex3 => ?_
      refine q_when (b := false) (et_is tst (kn (i := 4) rfl (by decide +kernel))) (fun z => by cases z) fun _ H4 ex4 => ?_
      refine q_when (b := false) (et_is tst (kn (i := 4) rfl (by decide +kernel))) (fun z => by cases z) fun _ H5 ex5 => ?_
      refine q_when (b := true) (et_is tst (kw (i := 4) rfl rfl)) (fun _ H6 ex6 => ?_) fun z => by cases z
      have x6 := (((ex2.trans ex3).trans ex4).trans ex5).trans ex6
      have g6 := Dd.ext x6 _ _ g1
      have a1 := app_len "for " nm
      have a2 := app_len ("for " ++ nm) " in "
      have a3 := app_len (("for " ++ nm) ++ " in ") (exT e)
      have fl := few.1
      refine q_asg (ev_cat (ev_cat (ev_cat (ev_cat ev_c (EvD.str' (ed_ix (j := 1) rfl g6 rfl)) (by omega)) ev_c (by omega)) (ln (j := 2) rfl g6 rfl he (by omega)) (by omega)) ev_c (by omega)) fun H7 ex7 => ?_
      have g7 := Dd.ext ex7 _ _ g6
      refine s_retL (el_catL (el_catL (one (ev_var rfl)) (isn (j := 3) rfl g7 rfl hb (by omega)) (by rw [List.length_map, List.length_map, inn_len]; show 1 + _ ≤ _; omega)) (one ev_c) (by rw [List.length_append, List.length_map, List.length_map, List.length_map, inn_len]; show 1 + _ + 1 ≤ _; omega)) fun p G2 np x2 hp => kQ p G2 (fresh_back ((ex1.trans x6).trans ex7) np) (((ex1.trans x6).trans ex7).trans x2) ?_
      rw [hp, ← List.map_append, ← List.map_append, stL]
      rfl
    | @if_ e b c he hb hc =>
      have ge := he.len
      rw [stN] at n60
      rw [lsD] at g1
      have few := hF hb (by omega)
      have few2 := hF hc (by omega)
      refine q_when (b := false) (et_is tst (kn (i := 5) rfl (by decide +kernel))) (fun z => by cases z) fun _ H2 ex2 => ?_
      refine q_when (b := false) (et_is tst (kn (i := 5) rfl (by decide +kernel))) (fun z => by cases z) fun _ H3 ex3 => ?_
      refine q_when (b := false) (et_is tst (kn (i := 5) rfl (by decide +kernel))) (fun z => by cases z) fun _ H4 ex4 => ?_
      refine q_when (b := false) (et_is tst (kn (i := 5) rfl (by decide +kernel))) (fun z => by cases z) fun _ H5 ex5 => ?_
      refine q_when (b := false) (et_is tst (kn (i := 5) rfl (by decide +kernel))) (fun z => by cases z) fun _ H6 ex6 => ?_
      have x6 := (((ex2.trans ex3).trans ex4).trans ex5).trans ex6
      have g6 := Dd.ext x6 _ _ g1
      have a1 := app_len "if " (exT e)
      have fl := few.1
      have fl2 := few2.1
      have head : Ev (tIf (tTest (tOp rEq (tVar 1) (tC (.str "try")))) (tC (.str "try {")) (tOp (fun x y H Q => ∃ i j, x = .str i ∧ y = .str j ∧ i.length + j.length ≤ sizeLine ∧ Q (.str (i ++ j)) H) (tOp (fun x y H Q => ∃ i j, x = .str i ∧ y = .str j ∧ i.length + j.length ≤ sizeLine ∧ Q (.str (i ++ j)) H) (tC (.str "if ")) (tCall (spLn K (Dn 2)) [] E0 (tCons (tOp (rIxT K) (tVar 0) (tC (.int 1))) (tCons (tC (.int 0)) tNil)))) (tC (.str " {")))) ([some v, some (.str (kwS.getD (kdS (.if_ e b c)) "")), none, none] : L2.St) H6 (.str (("if " ++ exT e) ++ " {")) := fun G y Q q => (et_is tst (kn (i := 5) rfl (by decide +kernel))) G (Ex.refl _) _ fun G2 y2 => by
        rw [if_neg (by decide)]
        exact (ev_cat (ev_cat ev_c (ln (j := 1) rfl g6 rfl he (by omega)) (by omega)) ev_c (by omega)) G2 (y.trans y2) _ fun G3 y3 => q G3 (y2.trans y3)
      refine q_asg head fun H7 ex7 => ?_
      have g7 := Dd.ext ex7 _ _ g6
      refine q_asgL (el_catL (one (ev_var rfl)) (isn (j := 2) rfl g7 rfl hb (by omega)) (by rw [List.length_map, List.length_map, inn_len]; show 1 + _ ≤ _; omega)) fun r H8 nr ex8 hr8 => ?_
      rw [← List.map_append] at hr8
      have g8 := Dd.ext ex8 _ _ g7
      have x8 := ((ex1.trans x6).trans ex7).trans ex8
      refine q_cut (M := fun σ' H' => ∃ p, σ' = [some v, some (.str (kwS.getD (kdS (.if_ e b c)) "")), some (.str (("if " ++ exT e) ++ " {")), some (.ref p)] ∧ Ex H8 H' ∧ H' p = some (.lst ((((("if " ++ exT e) ++ " {") :: inn (stLs b)) ++ othL c (stLs c)).map V.str))) ?_ ?_
      · have ne : EvT (tTest (tOp (rNeD K) (tOp (rIxT K) (tVar 0) (tC (.int 3))) (tLst tNil))) ([some v, some (.str (kwS.getD (kdS (.if_ e b c)) "")), some (.str (("if " ++ exT e) ++ " {")), some (.ref r)] : L2.St) H8 (!c.isEmpty) := et_is (et_test (ed_neDS (ed_ix (j := 3) rfl g8 rfl) (edl_ed (edl_lst eds_nil (Nat.zero_le _))) (ndw_sts c) rfl (hS hc) (by decide +kernel))) (by rw [eqv_nilL])
        refine s_when ne (fun hne H9 ex9 => ?_) (fun hne H9 ex9 => ?_)
        · refine s_asgL (el_catL (el_catV (ev_var rfl) (ex9 _ _ hr8) (one ev_c) (by rw [List.length_map, List.length_map, List.length_append, inn_len]; show 1 + _ + 1 ≤ _; omega)) (isn (j := 3) rfl (Dd.ext ex9 _ _ g8) rfl hc (by omega)) (by rw [List.length_append, List.length_map, List.length_map, List.length_map, List.length_append, inn_len, inn_len]; show 1 + _ + 1 + _ ≤ _; omega)) fun p H10 np ex10 hp => ⟨p, rfl, ex9.trans ex10, ?_⟩
          rw [hp, ← List.map_append, ← List.map_append]
          cases c with
          | nil => cases hne
          | cons s0 c0 =>
            show some (HO.lst (List.map V.str _)) = some (.lst (List.map V.str (((("if " ++ exT e) ++ " {") :: inn (stLs b)) ++ (("} else {" : Str) :: inn (stLs (s0 :: c0))))))
            congr 3
            simp
        · refine ⟨r, rfl, ex9, ?_⟩
          rw [ex9 _ _ hr8]
          cases c with
          | nil =>
            show some (HO.lst (List.map V.str _)) = some (.lst (List.map V.str (((("if " ++ exT e) ++ " {") :: inn (stLs b)) ++ [])))
            rw [List.append_nil]
            rfl
          | cons s0 c0 => cases hne
      · rintro σ' H9 ⟨p, rfl, ex9, hp⟩
        have ol : (othL c (stLs c)).length ≤ 3001 := by
          cases c with
          | nil => exact Nat.zero_le _
          | cons s0 c0 =>
            show (inn _).length + 1 ≤ _
            rw [inn_len]
            omega
        refine s_retL (el_catV (ev_var rfl) hp (one ev_c) (by rw [List.length_map, List.length_map, List.length_append, List.length_cons, inn_len]; show _ + 1 + _ + 1 ≤ _; omega)) fun q G2 nq x2 hq => kQ q G2 (fresh_back (x8.trans ex9) nq) ((x8.trans ex9).trans x2) ?_
        rw [hq, ← List.map_append, stL]
    | @try_ b c hb hc =>
      rw [stN] at n60
      rw [lsD] at g1
      have few := hF hb (by omega)
      have few2 := hF hc (by omega)
      refine q_when (b := false) (et_is tst (kn (i := 6) rfl (by decide +kernel))) (fun z => by cases z) fun _ H2 ex2 => ?_
      refine q_when (b := false) (et_is tst (kn (i := 6) rfl (by decide +kernel))) (fun z => by cases z) fun _ H3 ex3 => ?_
      refine q_when (b := false) (et_is tst (kn (i := 6) rfl (by decide +kernel))) (fun z => by cases z) fun _ H4 ex4 => ?_
      refine q_when (b := false) (et_is tst (kn (i := 6) rfl (by decide +kernel))) (fun z => by cases z) fun _ H5 ex5 => ?_
      refine q_when (b := false) (et_is tst (kn (i := 6) rfl (by decide +kernel))) (fun z => by cases z) fun _ H6 ex6 => ?_
      have x6 := (((ex2.trans ex3).trans ex4).trans ex5).trans ex6
      have g6 := Dd.ext x6 _ _ g1
      have fl := few.1
      have fl2 := few2.1
      have head : Ev (tIf (tTest (tOp rEq (tVar 1) (tC (.str "try")))) (tC (.str "try {")) (tOp (fun x y H Q => ∃ i j, x = .str i ∧ y = .str j ∧ i.length + j.length ≤ sizeLine ∧ Q (.str (i ++ j)) H) (tOp (fun x y H Q => ∃ i j, x = .str i ∧ y = .str j ∧ i.length + j.length ≤ sizeLine ∧ Q (.str (i ++ j)) H) (tC (.str "if ")) (tCall (spLn K (Dn 2)) [] E0 (tCons (tOp (rIxT K) (tVar 0) (tC (.int 1))) (tCons (tC (.int 0)) tNil)))) (tC (.str " {")))) ([some v, some (.str (kwS.getD (kdS (.try_ b c)) "")), none, none] : L2.St) H6 (.str "try {") := fun G y Q q => (et_is tst (kw (i := 6) rfl rfl)) G (Ex.refl _) _ fun G2 y2 => by
        rw [if_pos rfl]
        exact q G2 y2
      refine q_asg head fun H7 ex7 => ?_
      have g7 := Dd.ext ex7 _ _ g6
      refine q_asgL (el_catL (one (ev_var rfl)) (isn (j := 2) rfl g7 rfl hb (by omega)) (by rw [List.length_map, List.length_map, inn_len]; show 1 + _ ≤ _; omega)) fun r H8 nr ex8 hr8 => ?_
      rw [← List.map_append] at hr8
      have g8 := Dd.ext ex8 _ _ g7
      have x8 := ((ex1.trans x6).trans ex7).trans ex8
      refine q_cut (M := fun σ' H' => ∃ p, σ' = [some v, some (.str (kwS.getD (kdS (.try_ b c)) "")), some (.str "try {"), some (.ref p)] ∧ Ex H8 H' ∧ H' p = some (.lst (((("try {" : Str) :: inn (stLs b)) ++ othL c (stLs c)).map V.str))) ?_ ?_
      · have ne : EvT (tTest (tOp (rNeD K) (tOp (rIxT K) (tVar 0) (tC (.int 3))) (tLst tNil))) ([some v, some (.str (kwS.getD (kdS (.try_ b c)) "")), some (.str "try {"), some (.ref r)] : L2.St) H8 (!c.isEmpty) := et_is (et_test (ed_neDS (ed_ix (j := 3) rfl g8 rfl) (edl_ed (edl_lst eds_nil (Nat.zero_le _))) (ndw_sts c) rfl (hS hc) (by decide +kernel))) (by rw [eqv_nilL])
        refine s_when ne (fun hne H9 ex9 => ?_) (fun hne H9 ex9 => ?_)
        · refine s_asgL (el_catL (el_catV (ev_var rfl) (ex9 _ _ hr8) (one ev_c) (by rw [List.length_map, List.length_map, List.length_append, inn_len]; show 1 + _ + 1 ≤ _; omega)) (isn (j := 3) rfl (Dd.ext ex9 _ _ g8) rfl hc (by omega)) (by rw [List.length_append, List.length_map, List.length_map, List.length_map, List.length_append, inn_len, inn_len]; show 1 + _ + 1 + _ ≤ _; omega)) fun p H10 np ex10 hp => ⟨p, rfl, ex9.trans ex10, ?_⟩
          rw [hp, ← List.map_append, ← List.map_append]
          cases c with
          | nil => cases hne
          | cons s0 c0 =>
            show some (HO.lst (List.map V.str _)) = some (.lst (List.map V.str ((("try {" : Str) :: inn (stLs b)) ++ (("} else {" : Str) :: inn (stLs (s0 :: c0))))))
            congr 3
            simp
        · refine ⟨r, rfl, ex9, ?_⟩
          rw [ex9 _ _ hr8]
          cases c with
          | nil =>
            show some (HO.lst (List.map V.str _)) = some (.lst (List.map V.str ((("try {" : Str) :: inn (stLs b)) ++ [])))
            rw [List.append_nil]
            rfl
          | cons s0 c0 => cases hne
      · rintro σ' H9 ⟨p, rfl, ex9, hp⟩
        have ol : (othL c (stLs c)).length ≤ 3001 := by
          cases c with
          | nil => exact Nat.zero_le _
          | cons s0 c0 =>
            show (inn _).length + 1 ≤ _
            rw [inn_len]
            omega
        refine s_retL (el_catV (ev_var rfl) hp (one ev_c) (by rw [List.length_map, List.length_map, List.length_append, List.length_cons, inn_len]; show _ + 1 + _ + 1 ≤ _; omega)) fun q G2 nq x2 hq => kQ q G2 (fresh_back (x8.trans ex9) nq) ((x8.trans ex9).trans x2) ?_
        rw [hq, ← List.map_append, stL]
end
end K72
set_option maxHeartbeats 8000000
namespace K72
open PySem PySem.Spec PyProof.Rows L2 Evl My LamX
/-! the words of all calls in a block, by the law -/
/-- a part of a statement's tuple, and the words in it -/
inductive Pt (B : List Stm → Prop) (n : Nat) : PyData → List Str → Prop
  | str {s : Str} : Pt B n (.str s) []
  | non : Pt B n .none []
  | exp {e : Exp} : Dn 2 e → exN e ≤ n → Pt B n (lwD e) (exW e)
  | blk {b : List Stm} : B b → stNs b ≤ n → Pt B n (.list (lsDs b)) (stWs b)
inductive Pts (B : List Stm → Prop) (n : Nat) : List PyData → List Str → Prop
  | nil : Pts B n [] []
  | cons {d : PyData} {ds : List PyData} {ws us : List Str} : Pt B n d ws → Pts B n ds us → Pts B n (d :: ds) (ws ++ us)
theorem pts_st {B : List Stm → Prop} {s : Stm} (d : DsS (Dn 2) B s) : ∃ t ds, lsD s = .tuple (t :: ds) ∧ Pts B (stN s) ds (stW s) := by
  have one : ∀ {n : Nat} {d : PyData} {ws : List Str}, Pt B n d ws → Pts B n [d] ws := fun {n d ws} h => by
    have z := Pts.cons h (.nil (B := B) (n := n))
    rw [List.append_nil] at z
    exact z
  cases d with
  | set hn l he =>
    refine ⟨_, _, by rw [lsD], ?_⟩
    rw [stW]
    exact .cons (ws := []) .str (one (.exp he (by rw [stN]; omega)))
  | tell he =>
    refine ⟨_, _, by rw [lsD], ?_⟩
    rw [stW]
    exact one (.exp he (by rw [stN]; omega))
  | do_ he =>
    refine ⟨_, _, by rw [lsD], ?_⟩
    rw [stW]
    exact one (.exp he (by rw [stN]; omega))
  | while_ he hb =>
    refine ⟨_, _, by rw [lsD], ?_⟩
    rw [stW]
    exact .cons (.exp he (by rw [stN]; omega)) (one (.blk hb (by rw [stN]; omega)))
  | for_ hn l he hb =>
    refine ⟨_, _, by rw [lsD], ?_⟩
    rw [stW]
    exact .cons (ws := []) .str (.cons (.exp he (by rw [stN]; omega)) (one (.blk hb (by rw [stN]; omega))))
  | if_ he hb hc =>
    refine ⟨_, _, by rw [lsD], ?_⟩
    rw [stW]
    exact .cons (.exp he (by rw [stN]; omega)) (.cons (.blk hb (by rw [stN]; omega)) (one (.blk hc (by rw [stN]; omega))))
  | try_ hb hc =>
    refine ⟨_, _, by rw [lsD], ?_⟩
    rw [stW]
    exact .cons (ws := []) .non (.cons (.blk hb (by rw [stN]; omega)) (one (.blk hc (by rw [stN]; omega))))
theorem ty_lw (e : Exp) : tyD (lwD e) = "tuple" := by
  cases e with
  | num _ => rw [lwD]; rfl
  | txt _ => rw [lwD]; rfl
  | var _ => rw [lwD]; rfl
  | call _ _ => rw [lwD]; rfl
  | row _ _ _ _ => rw [lwD]; rfl
theorem stWs_app : ∀ a b : List Stm, stWs (a ++ b) = stWs a ++ stWs b
  | [], b => by
    rw [stWs]
    rfl
  | e :: a, b => by
    show stWs (e :: (a ++ b)) = _
    rw [stWs, stWs, stWs_app a b, List.append_assoc]
section
variable {P : Program} {w : World} {K : PySem.W.Frag} {mg : Str → Option Value} {base : Heap} {f : Addr} {fd : FuncData}
def NAw : List Str := ["_law_block_here", "_law_found", "_law_statement_here", "_law_part"]
theorem scAw : FnScope NAw ["_law_block_here"] (defScope sAw) := ⟨rfl, rfl, rfl, by decide +kernel, rfl, by decide +kernel, by decide +kernel⟩
theorem ok_aw {k kW kA : Nat} {B : List Stm → Prop} (lW : kW ≤ k) (lA : kA ≤ k) (F : Fun K "_law_all_words" "_law_all_words" sAw f fd) (gi : mg "isinstance" = none) (gt : mg "tuple" = none) (gl : mg "list" = none) (WS : Df P w K mg base "_law_words" ["_law_part"] kW (spWs K (Dn 2))) (AW : Df P w K mg base "_law_all_words" ["_law_block_here"] kA (spAw K B)) : FnOk P w K mg base CX0 (k + 1) f fd ["_law_block_here"] (spAw K fun b => ∀ s ∈ b, DsS (Dn 2) B s) := by
  refine F.ok scAw (fun vs H Q E h => ?_) (fun cdv A outer s H vs Q E hr h => ?_)
  · obtain ⟨v, b, rfl, _⟩ := h
    rfl
  · obtain ⟨v, b, rfl, g, bb, n60, kQ⟩ := h
    have hrk : Room k _ := hr
    have hrW : Room kW _ := hrk.mono lW
    have hrA : Room kA _ := hrk.mono lA
    refine ⟨_, pss_cons (ps_set (i := 1) scAw.nd rfl (Or.inl rfl) (pe_lst pa_nil))
      (pss_cons (ps_for PassesOwn.never rfl (pi_list (pv 0)) (pg_name (i := 2) scAw.nd rfl (Or.inl rfl))
        (pss_one (ps_for PassesOwn.never rfl (pi_tup (pe_slice sl_tup (pv 2) (po_some pe_int) po_none)) (pg_name (i := 3) scAw.nd rfl (Or.inl rfl))
          (pss_cut (ps_if (pt_val (pe_callB call_isi (by rfl) gi (by decide +kernel) (pa_cons (pv 3) (pa_cons (pe_bltn (v := .ty "tuple") (by rfl) gt (by decide +kernel) rfl) pa_nil)))) (pss_one (ps_set (i := 1) scAw.nd rfl (Or.inl rfl) (pe_op op_cat (pv 1) (pe_df WS hrW rfl (pa_cons (pv 3) pa_nil))))) pss_nil)
          (pss_one (ps_if (pt_val (pe_callB call_isi (by rfl) gi (by decide +kernel) (pa_cons (pv 3) (pa_cons (pe_bltn (v := .ty "list") (by rfl) gl (by decide +kernel) rfl) pa_nil)))) (pss_one (ps_set (i := 1) scAw.nd rfl (Or.inl rfl) (pe_op op_cat (pv 1) (pe_df AW hrA rfl (pa_cons (pv 3) pa_nil))))) pss_nil))))))
      (pss_one (ps_ret (pv 1)))), ?_⟩
    have wl := stW_le.2 b
    refine ⟨Nat.zero_le _, fun L nL => ?_⟩
    have eL : Ex H (upd H L (.lst [])) := Ex.new nL
    have hL1 : (upd H L (.lst [])) L = some (.lst []) := upd_same
    cases g with
    | lst sa da =>
    rename_i a xs
    have xl := da.len
    rw [lsDs_len] at xl
    refine q_forLn (ev_var rfl) (ex_l eL sa) (fun i σ' H' => ∃ (acc : List Str) (p : Addr) (o2 o3 : Option V), σ' = [some (.ref a), some (.ref p), o2, o3] ∧ Ex H H' ∧ H p = none ∧ H' p = some (.lst (acc.map V.str)) ∧ acc ++ stWs (b.drop i) = stWs b) ?_ ?_ ?_ ?_
    · intro H1 e1
      exact ⟨[], L, _, _, rfl, eL.trans e1, nL, e1 _ _ hL1, by rw [List.drop_zero]; rfl⟩
    · rintro i σ' H' hi ⟨acc, p, o2, o3, rfl, e1, _⟩
      exact ex_l e1 sa
    · rintro i x σ' H' hx ⟨acc, p, o2, o3, rfl, e1, np, hp, hc⟩
      obtain ⟨dx, hdx, gx⟩ := da.get hx
      obtain ⟨st, hst, rfl⟩ := lsDs_get hdx
      have ms := List.mem_of_getElem? hst
      have n1 := stNs_mem ms
      rw [drop_at hst, stWs, ← List.append_assoc] at hc
      have cl := congrArg List.length hc
      rw [List.length_append, List.length_append] at cl
      obtain ⟨t, ds, eD, pts⟩ := pts_st (bb st ms)
      have gx1 := Dd.ext e1 _ _ gx
      rw [eD] at gx1
      cases gx1 with
      | tup hs hds =>
      rename_i a2 zs
      cases hds with
      | cons h1 hds =>
      rename_i v0 vs0
      refine ⟨_, rfl, 1, rfl, a2, _, rfl, hs, cut1n, fun q nq => ⟨q, rfl, ⟨_, SqT.of upd_same⟩, ?_⟩⟩
      have eq1 : Ex H' (upd H' q (.tup (cutV (v0 :: vs0) (some 1) none))) := Ex.new nq
      have hq1 : (upd H' q (.tup (cutV (v0 :: vs0) (some 1) none))) q = some (.tup vs0) := by rw [upd_same, cut1]
      have hds1 := Dds.ext eq1 _ _ hds
      have hp1 := eq1 _ _ hp
      have e2 := e1.trans eq1
      generalize upd H' q (.tup (cutV (v0 :: vs0) (some 1) none)) = H1 at eq1 hq1 hds1 hp1 e2 ⊢
      refine for_tup (K := K) (xs := vs0) (fun j σ2 H2 => ∃ (acc2 us : List Str) (p2 : Addr) (o3 : Option V), σ2 = [some (.ref a), some (.ref p2), some (.ref a2), o3] ∧ Ex H1 H2 ∧ H p2 = none ∧ H2 p2 = some (.lst (acc2.map V.str)) ∧ Pts B (stN st) (ds.drop j) us ∧ acc2 ++ us = acc ++ stW st) ?_ ?_ ?_ ?_
      · exact ⟨acc, stW st, p, _, rfl, Ex.refl _, np, hp1, by rw [List.drop_zero]; exact pts, rfl⟩
      · rintro j σ2 H2 hj ⟨acc2, us, p2, o3, rfl, e3, _⟩
        exact SqT.of (e3 _ _ hq1)
      · rintro j y σ2 H2 hy ⟨acc2, us, p2, o3, rfl, e3, np2, hp2, pt2, hc2⟩
        obtain ⟨dy, hdy, gy⟩ := hds1.get hy
        rw [drop_at hdy] at pt2
        cases pt2 with
        | cons pt pts2 =>
        rename_i ws us2
        have gy2 := Dd.ext e3 _ _ gy
        have cl2 := congrArg List.length hc2
        rw [List.length_append, List.length_append, List.length_append] at cl2
        have isT : ∀ {G : Hp} {p3 : Addr} {n : String} {bl : Bool}, Ex H2 G → kitB (tyD dy) n = some bl → EvT (tB (tCB (rIsi K) (tCons (tVar 3) (tCons (tC (.ty n)) tNil)))) ([some (.ref a), some (.ref p3), some (.ref a2), some y] : L2.St) G bl := fun {G p3 n bl} e h => et_B (ed_isi (ed_var rfl (Dd.ext e _ _ gy2)) h)
        have done : ∀ {G : Hp} {p3 : Addr} {acc3 : List Str}, Ex H2 G → H p3 = none → G p3 = some (.lst (acc3.map V.str)) → acc3 = acc2 ++ ws → ∃ (acc2 us : List Str) (p2 : Addr) (o3 : Option V), ([some (.ref a), some (.ref p3), some (.ref a2), some y] : L2.St) = [some (.ref a), some (.ref p2), some (.ref a2), o3] ∧ Ex H1 G ∧ H p2 = none ∧ G p2 = some (.lst (acc2.map V.str)) ∧ Pts B (stN st) (ds.drop (j + 1)) us ∧ acc2 ++ us = acc ++ stW st := fun {G p3 acc3} e n h h2 => ⟨acc3, us2, p3, _, rfl, e3.trans e, n, h, pts2, by rw [h2, List.append_assoc]; exact hc2⟩
        refine q_cut (M := fun σ' H' => ∃ (p3 : Addr) (acc3 : List Str), σ' = [some (.ref a), some (.ref p3), some (.ref a2), some y] ∧ Ex H2 H' ∧ H p3 = none ∧ H' p3 = some (.lst (acc3.map V.str)) ∧ ((tyD dy = "list" ∧ acc3 = acc2) ∨ (tyD dy ≠ "list" ∧ acc3 = acc2 ++ ws))) ?_ ?_
        · cases pt with
          | str => exact s_when (b := false) (isT (Ex.refl _) rfl) (fun z => by cases z) fun _ H3 e4 => ⟨p2, acc2, rfl, e4, np2, e4 _ _ hp2, .inr ⟨(show ("str" : String) ≠ "list" by decide), by rw [List.append_nil]⟩⟩
          | non => exact s_when (b := false) (isT (Ex.refl _) rfl) (fun z => by cases z) fun _ H3 e4 => ⟨p2, acc2, rfl, e4, np2, e4 _ _ hp2, .inr ⟨by decide, by rw [List.append_nil]⟩⟩
          | blk bb2 n2 => exact s_when (b := false) (isT (Ex.refl _) rfl) (fun z => by cases z) fun _ H3 e4 => ⟨p2, acc2, rfl, e4, np2, e4 _ _ hp2, .inl ⟨rfl, rfl⟩⟩
          | @exp e de n2 =>
            refine s_when (b := true) (isT (Ex.refl _) (by rw [ty_lw]; rfl)) (fun _ H3 e4 => ?_) fun z => by cases z
            have lv : EvL (tCall (spWs K (Dn 2)) [] E0 (tCons (tVar 3) tNil)) ([some (.ref a), some (.ref p2), some (.ref a2), some y] : L2.St) H3 ((exW e).map V.str) := fun G x Q q => ⟨_, rfl, y, e, rfl, Dd.ext (e4.trans x) _ _ gy2, de, by omega, fun p5 G2 n5 x2 h5 => q p5 G2 n5 x2 h5⟩
            refine s_asgL (el_catV (ev_var rfl) (e4 _ _ hp2) lv (by rw [List.length_map, List.length_map]; omega)) fun p3 H4 n3 e5 h3 => ?_
            exact ⟨p3, acc2 ++ exW e, rfl, e4.trans e5, fresh_back ((e2.trans e3).trans e4) n3, by rw [h3, List.map_append], .inr ⟨by rw [ty_lw]; decide, rfl⟩⟩
        · rintro σ3 H3 ⟨p3, acc3, rfl, e4, np3, hp3, hk⟩
          cases pt with
          | str => exact s_when (b := false) (isT e4 rfl) (fun z => by cases z) fun _ H4 e5 => done (e4.trans e5) np3 (e5 _ _ hp3) (hk.elim (fun z => absurd z.1 (show ¬ ("str" : String) = "list" by decide)) fun z => z.2)
          | non => exact s_when (b := false) (isT e4 rfl) (fun z => by cases z) fun _ H4 e5 => done (e4.trans e5) np3 (e5 _ _ hp3) (hk.elim (fun z => absurd z.1 (by decide)) fun z => z.2)
          | @exp e de n2 => exact s_when (b := false) (isT e4 (by rw [ty_lw]; rfl)) (fun z => by cases z) fun _ H4 e5 => done (e4.trans e5) np3 (e5 _ _ hp3) (hk.elim (fun z => absurd z.1 (by rw [ty_lw]; decide)) fun z => z.2)
          | @blk b2 bb2 n2 =>
            have ha3 : acc3 = acc2 := hk.elim (fun z => z.2) fun z => absurd rfl z.1
            subst ha3
            refine s_when (b := true) (isT e4 rfl) (fun _ H4 e5 => ?_) fun z => by cases z
            have lv : EvL (tCall (spAw K B) [] E0 (tCons (tVar 3) tNil)) ([some (.ref a), some (.ref p3), some (.ref a2), some y] : L2.St) H4 ((stWs b2).map V.str) := fun G x Q q => ⟨_, rfl, y, b2, rfl, Dd.ext ((e4.trans e5).trans x) _ _ gy2, bb2, by omega, fun p5 G2 n5 x2 h5 => q p5 G2 n5 x2 h5⟩
            refine s_asgL (el_catV (ev_var rfl) (e5 _ _ hp3) lv (by rw [List.length_map, List.length_map]; omega)) fun p6 H5 n6 e6 h6 => ?_
            exact done ((e4.trans e5).trans e6) (fresh_back (((e2.trans e3).trans e4).trans e5) n6) (by rw [h6, List.map_append]) rfl
      · rintro σ2 H2 ⟨acc2, us, p2, o3, rfl, e3, np2, hp2, pt2, hc2⟩
        have dl := hds1.len
        rw [dl, List.drop_length] at pt2
        cases pt2
        rw [List.append_nil] at hc2
        exact ⟨acc2, p2, _, _, rfl, e2.trans e3, np2, hp2, by rw [hc2]; exact hc⟩
    · rintro σ' H' ⟨acc, p, o2, o3, rfl, e1, np, hp, hc⟩
      rw [xl, List.drop_length, stWs, List.append_nil] at hc
      subst hc
      exact ⟨_, rfl, kQ p H' np e1 hp⟩
end
end K72
set_option maxHeartbeats 8000000
namespace K72
open PySem PySem.Spec PyProof.Rows L2 Evl My LamX
/-! the tokens that the law draws for a script -/
abbrev sTk : Stmt := top 52
abbrev sBr : Stmt := top 53
abbrev sPc : Stmt := top 54
def wt (w : Wo) : Str := mkS w.cs
def wtl (ws : List Wo) : List V := ws.map fun w => V.str (wt w)
def wsz (ws : List Wo) : Nat := (ws.map fun w => w.cs.length + 2).sum
theorem wsz_app (a b : List Wo) : wsz (a ++ b) = wsz a + wsz b := by
  unfold wsz
  rw [List.map_append, List.sum_append]
theorem wsz_cons (w : Wo) (b : List Wo) : wsz (w :: b) = w.cs.length + 2 + wsz b := by
  unfold wsz
  rw [List.map_cons, List.sum_cons]
theorem wsz_nil : wsz [] = 0 := rfl
theorem wtl_app (a b : List Wo) : wtl (a ++ b) = wtl a ++ wtl b := by
  unfold wtl
  rw [List.map_append]
theorem wtl_len (a : List Wo) : (wtl a).length = a.length := by
  unfold wtl
  rw [List.length_map]
theorem len_wsz (a : List Wo) : 2 * a.length ≤ wsz a := by
  induction a with
  | nil => exact Nat.le_refl _
  | cons w a ih =>
    rw [wsz_cons, List.length_cons]
    omega
theorem wt_sg (s : Str) : wt (.sg s) = s := rfl
theorem wt_wrd (s : Str) : wt (.wrd s) = s := rfl
theorem cs_len (s : Str) : (Wo.sg s).cs.length = s.length := Array.length_toList
theorem cs_lenw (s : Str) : (Wo.wrd s).cs.length = s.length := Array.length_toList
def TKQ (h0 n0 r : Nat) (e : Exp) (ws : List Wo) : Prop := ∀ h n, h0 ≤ h → n0 ≤ n → TKE h n r e ws
theorem TKQ.up {h0 n0 h1 n1 r : Nat} {e : Exp} {ws : List Wo} (t : TKQ h0 n0 r e ws) (a : h0 ≤ h1) (b : n0 ≤ n1) : TKQ h1 n1 r e ws := fun h n x y => t h n (Nat.le_trans a x) (Nat.le_trans b y)
theorem TKQ.par {h0 n0 r' : Nat} {e : Exp} {ws : List Wo} (t : TKQ h0 n0 0 e ws) : TKQ (h0 + 1) (n0 + 1) r' e (.sg "(" :: (ws ++ [.sg ")"])) := fun h n x y => by
  obtain ⟨h, rfl⟩ : ∃ j, h = j + 1 := ⟨h - 1, by omega⟩
  obtain ⟨n, rfl⟩ : ∃ j, n = j + 1 := ⟨n - 1, by omega⟩
  exact TkE.par (t h n (by omega) (by omega))
/-- the word of a leaf -/
theorem leaf_wo {D : Exp → Prop} {e : Exp} (l : leafB e = true) (d : DnS D e) : ∃ w : Wo, wt w = exT e ∧ (∀ r, TKQ 1 0 r e [w]) ∧ wsz [w] ≤ 11 := by
  have up : ∀ {h : Nat}, 1 ≤ h → ∃ j, h = j + 1 := fun {h} x => ⟨h - 1, by omega⟩
  cases d with
  | @num m hm =>
    refine ⟨.num m, str_ext ?_, fun r h n x y => ?_, ?_⟩
    · rw [sgs_num]
      rfl
    · obtain ⟨h, rfl⟩ := up x
      exact TkE.num (Nat.lt_trans hm (by decide))
    · have := num9 hm
      rw [wsz_cons, wsz_nil]
      show (TL.numL m).length + 2 + 0 ≤ 11
      omega
  | @txt xs hx hl =>
    refine ⟨.txt xs, str_ext ?_, fun r h n x y => ?_, ?_⟩
    · rw [sgs_txt]
      rfl
    · obtain ⟨h, rfl⟩ := up x
      exact TkE.txt hx
    · rw [wsz_cons, wsz_nil]
      show (34 :: (xs ++ [34])).length + 2 + 0 ≤ 11
      simp
      omega
  | @var s hn hl =>
    refine ⟨.wrd s, by rw [exT]; rfl, fun r h n x y => ?_, ?_⟩
    · obtain ⟨h, rfl⟩ := up x
      exact TkE.var hn
    · rw [wsz_cons, wsz_nil, cs_lenw]
      omega
  | call _ _ _ => cases l
  | row _ _ _ _ _ _ _ _ => cases l
/-- arguments, one behind the other -/
inductive TkZ (Q : Exp → List Wo → Prop) : List Exp → List Wo → Prop
  | nil : TkZ Q [] []
  | one {e : Exp} {w : List Wo} : Q e w → TkZ Q [e] w
  | snoc {es : List Exp} {as : List Wo} {e : Exp} {w : List Wo} : TkZ Q es as → es ≠ [] → Q e w → TkZ Q (es ++ [e]) (as ++ (.sg "," :: w))
theorem TkZ.no {Q : Exp → List Wo → Prop} {es : List Exp} {as : List Wo} (t : TkZ Q es as) (h : es = []) : as = [] := by
  cases t with
  | nil => rfl
  | one _ => cases h
  | snoc _ _ _ => simp at h
theorem TkA.snoc {Q : Exp → List Wo → Prop} {es : List Exp} {ws : List Wo} (t : TkA Q es ws) {e : Exp} {w : List Wo} (q : Q e w) : TkA Q (es ++ [e]) (ws ++ (.sg "," :: w)) := by
  induction t with
  | nil =>
    have z := TkA.cons q (.nil (E := Q))
    rw [List.append_nil] at z
    exact z
  | @cons e1 es1 w1 ws1 h _ ih =>
    have z := TkA.cons h ih
    have l : Wo.sg "," :: (w1 ++ (ws1 ++ (Wo.sg "," :: w))) = (Wo.sg "," :: (w1 ++ ws1)) ++ (Wo.sg "," :: w) := by simp
    rw [l] at z
    exact z
theorem TkZ.spl {Q : Exp → List Wo → Prop} {es : List Exp} {as : List Wo} (t : TkZ Q es as) : ∀ {e0 : Exp} {er : List Exp}, es = e0 :: er → ∃ w0 ws, as = w0 ++ ws ∧ Q e0 w0 ∧ TkA Q er ws := by
  induction t with
  | nil => exact fun z => nomatch z
  | one q =>
    intro e0 er z
    cases z
    exact ⟨_, [], by rw [List.append_nil], q, .nil⟩
  | @snoc es as e w _ ne q ih =>
    intro e0 er z
    cases es with
    | nil => exact absurd rfl ne
    | cons x xs =>
      obtain ⟨w0, ws, ea, q0, ta⟩ := ih rfl
      have z2 : x :: (xs ++ [e]) = e0 :: er := z
      obtain ⟨z3, z4⟩ := List.cons.inj z2
      subst z3 z4
      exact ⟨w0, ws ++ (.sg "," :: w), by rw [ea, List.append_assoc], q0, ta.snoc q⟩
theorem TkA.mono {Q Q' : Exp → List Wo → Prop} (h : ∀ e w, Q e w → Q' e w) {es : List Exp} {ws : List Wo} (t : TkA Q es ws) : TkA Q' es ws := by
  induction t with
  | nil => exact .nil
  | cons a _ ih => exact .cons (h _ _ a) ih
theorem TkW.mono {Q Q' : Exp → List Wo → Prop} {g : Nat} (h : ∀ e w, Q e w → Q' e w) {ss : List Str} {es : List Exp} {ws : List Wo} (t : TkW Q g ss es ws) : TkW Q' g ss es ws := by
  induction t with
  | nil => exact .nil
  | cons m a _ ih => exact .cons m (h _ _ a) ih
theorem TkW.snoc {Q : Exp → List Wo → Prop} {g : Nat} {ss : List Str} {es : List Exp} {ws : List Wo} (t : TkW Q g ss es ws) {s : Str} {e : Exp} {w : List Wo} (m : s ∈ GRS.getD g []) (q : Q e w) : TkW Q g (ss ++ [s]) (es ++ [e]) (ws ++ (.sg s :: w)) := by
  induction t with
  | nil =>
    have z := TkW.cons m q (.nil (E := Q))
    rw [List.append_nil] at z
    exact z
  | @cons s1 ss1 e1 es1 w1 ws1 m1 h _ ih =>
    have z := TkW.cons m1 h ih
    have l : Wo.sg s1 :: (w1 ++ (ws1 ++ (Wo.sg s :: w))) = (Wo.sg s1 :: (w1 ++ ws1)) ++ (Wo.sg s :: w) := by simp
    rw [l] at z
    exact z
theorem take_at {α : Type} {l : List α} {i : Nat} {x : α} (h : l[i]? = some x) : l.take (i + 1) = l.take i ++ [x] := by
  rw [List.take_add_one, h]
  rfl
/-! what stands while tokens are drawn -/
structure Cur (B : Addr → Prop) (S : Addr) (cs : Cel) (H H' : Hp) : Prop where
  b : But S H H'
  s : StA H' S cs
  a : Apt B H H'
section
variable {K : PySem.W.Frag} {B : Addr → Prop} {S p : Addr} {cs : Cel} {H H' H2 : Hp} {u : HO} {xs ys : List V} {σ : L2.St} {ta tb : TE}
theorem Cur.refl (s : StA H S cs) : Cur B S cs H H := ⟨.refl _ _, s, .ex (Ex.refl _)⟩
theorem Cur.ex (c : Cur B S cs H H') (e : Ex H' H2) : Cur B S cs H H2 := ⟨c.b.ex e, c.s.ex e, c.a.trans (.ex e)⟩
theorem Cur.dr (c : Cur B S cs H H') (nB : ¬ B S) (b : But S H' H2) (s : StA H2 S cs) : Cur B S cs H H2 := ⟨c.b.trans b, s, c.a.trans (apt_but c.s b nB)⟩
theorem StA.fre2 (s : StA H S cs) (n : H p = none) : p ≠ S ∧ p ≠ cs.1 := by
  obtain ⟨i, r, k, n2, e, x1, x2, x3, x4, x5⟩ := s
  exact ⟨(fun z => by rw [z, x5] at n; cases n), (fun z => by rw [z, x2] at n; cases n)⟩
theorem Cur.updN (c : Cur B S cs H H') (s0 : StA H S cs) (n : H p = none) : Cur B S cs H (upd H' p u) := by
  obtain ⟨n1, n2⟩ := s0.fre2 n
  refine ⟨fun b o nb h => ?_, c.s.upd n1 n2, ⟨fun a xs hb h => ?_, fun b o no h => ?_⟩⟩
  · rw [upd_ne (ne_of_none h n)]
    exact c.b b o nb h
  · rw [upd_ne (ne_of_none h n)]
    exact c.a.l a xs hb h
  · rw [upd_ne (ne_of_none h n)]
    exact c.a.o b o no h
theorem Cur.fresh (c : Cur B S cs H H') (n : H' p = none) : H p = none := gro_but c.b c.s p n
theorem el_catR (ha : EvL ta σ H xs) (hb : Ev tb σ H (.ref p)) (hp : H p = some (.lst ys)) (l : xs.length + ys.length ≤ 100000) : EvL (tOp rCat ta tb) σ H (xs ++ ys) := fun H1 e1 Q q =>
  ha H1 e1 _ fun p1 H2 np e2 hp1 => hb H2 (e1.trans e2) _ fun H3 e3 => ⟨p1, p, xs, ys, rfl, rfl, e3 _ _ hp1, ((e1.trans e2).trans e3) _ _ hp, sz_of l, fun r nr => q r _ (fresh_back (e2.trans e3) nr) ((e2.trans e3).trans (Ex.new nr)) upd_same⟩
/-- d[j] of a tuple -/
theorem dt_ix {v : V} {ds : List PyData} {d : PyData} {j : Nat} (g : DT K H B v (.tuple ds)) (hd : ds[j]? = some d) : ∃ x, DT K H B x d ∧ ∀ {σ : L2.St} {i : Nat} {H' : Hp}, Apt B H H' → σ[i]? = some (some v) → Ev (tOp (rIxT K) (tVar i) (tC (.int (j : Int)))) σ H' x := by
  cases g with
  | tup hs ha =>
    obtain ⟨x, hx, gx⟩ := ha.at hd
    exact ⟨x, gx, fun a h => ev_op (ev_var h) ev_c (rv_ixT (i := (j : Int)) (sqt_keep a.o _ _ hs) (atI_nat hx))⟩
theorem DT.sv {v : V} {s : Str} (g : DT K H B v (.str s)) : v = .str s := by
  cases g
  rfl
theorem DT.iv {v : V} {i : Int} (g : DT K H B v (.int i)) : v = .int i := by
  cases g
  rfl
end
def spTk (K : PySem.W.Frag) (D : Exp → Prop) (h0 n0 : Nat) : Sp := fun vs H Q _ => ∃ (S : Addr) (cs : Cel) (B : Addr → Prop) (v : V) (e : Exp) (r : Nat), vs = [.ref S, v, .int (r : Int)] ∧ StA H S cs ∧ ¬ B S ∧ DT K H B v (lwD e) ∧ D e ∧ exN e ≤ 60 ∧ ∀ p ws H', H p = none → But S H H' → StA H' S cs → H' p = some (.lst (wtl ws)) → TKQ h0 n0 r e ws → wsz ws ≤ 17 + 81 * exN e → Q (.ref p) H'
section
variable {P : Program} {w : World} {K : PySem.W.Frag} {mg : Str → Option Value} {base : Heap} {f : Addr} {fd : FuncData}
def NTk : List Str := ["_law_state_here", "_law_part", "_law_rank", "_law_found", "_law_k", "_law_sign", "_law_one"]
theorem scTk : FnScope NTk ["_law_state_here", "_law_part", "_law_rank"] (defScope sTk) := ⟨rfl, rfl, rfl, by decide +kernel, rfl, by decide +kernel, by decide +kernel⟩
theorem ok_tk {k h0 n0 : Nat} {D : Exp → Prop} (k2 : 2 ≤ k) (F : Fun K "_law_tokens" "_law_tokens" sTk f fd) (gr : mg "range" = none) (gl : mg "len" = none) (gm : mg "min" = none) (DR : Df P w K mg base "_law_draw" ["_law_state_here", "_law_many"] 2 spDrw) (TK : Df P w K mg base "_law_tokens" ["_law_state_here", "_law_part", "_law_rank"] k (spTk K D h0 n0)) : FnOk P w K mg base CX0 (k + 1) f fd ["_law_state_here", "_law_part", "_law_rank"] (spTk K (DnS D) (h0 + 2) (n0 + 2)) := by
  refine F.ok scTk (fun vs H Q E h => ?_) (fun cdv A outer s H vs Q E hr h => ?_)
  · obtain ⟨S, cs, B, v, e, r, rfl, _⟩ := h
    rfl
  · obtain ⟨S, cs, B, v, e, r, rfl, st, nB, g, d, n60, kQ⟩ := h
    have hrk : Room k _ := hr
    have hr2 : Room 2 _ := hrk.mono k2
    refine ⟨_, pss_cut (ps_if (pt_cmpR op_eq (pe_ix ix_tup (pv 1) pe_int (fun _ _ => rfl)) pe_str (nomark _)) (pss_one (ps_set (i := 3) scTk.nd rfl (Or.inl rfl) (pe_lst (pa_cons (pe_ix ix_tup (pv 1) pe_int (fun _ _ => rfl)) pa_nil))))
        (pss_one (ps_if (pt_cmpR op_eq (pe_ix ix_tup (pv 1) pe_int (fun _ _ => rfl)) pe_str (nomark _))
          (pss_cons (ps_set (i := 3) scTk.nd rfl (Or.inl rfl) (pe_lst (pa_cons (pe_ix ix_tup (pv 1) pe_int (fun _ _ => rfl)) (pa_cons pe_str pa_nil))))
          (pss_cons (ps_for PassesOwn.never rfl (pi_range1 rfl gr (pa_cons (pe_callB call_len_seq (by rfl) gl PySem.boot_len (pa_cons (pe_ix ix_tup (pv 1) pe_int (fun _ _ => rfl)) pa_nil)) pa_nil)) (pg_name (i := 4) scTk.nd rfl (Or.inl rfl))
            (pss_one (ps_set (i := 3) scTk.nd rfl (Or.inl rfl) (pe_op op_cat (pe_op op_cat (pv 3) (pe_op op_rep (pe_lst (pa_cons pe_str pa_nil)) (pe_callB (call_min2 rfl) (by rfl) gm (by decide +kernel) (pa_cons (pv 4) (pa_cons pe_int pa_nil))))) (pe_df TK hrk rfl (pa_cons (pv 0) (pa_cons (pe_ix ix_list (pe_ix ix_tup (pv 1) pe_int (fun _ _ => rfl)) (pv 4) (fun _ _ => rfl)) (pa_cons pe_int pa_nil))))))))
          (pss_one (ps_expr (pe_bm PySem.F.plainAttrs_list PySem.F.slot_list_append PySem.F.type_list_append mt_append (pv 3) (pa_cons pe_str pa_nil))))))
          (pss_cons (ps_set (i := 3) scTk.nd rfl (Or.inl rfl) (pe_df TK hrk rfl (pa_cons (pv 0) (pa_cons (pe_ix ix_tup (pv 1) pe_int (fun _ _ => rfl)) (pa_cons (pe_op op_add (pe_ix ix_tup (pv 1) pe_int (fun _ _ => rfl)) pe_int) pa_nil)))))
          (pss_cons (ps_for PassesOwn.never rfl (pi_list (pe_ix ix_tup (pv 1) pe_int (fun _ _ => rfl))) (pg_tup rfl (pgs_cons (pg_name (i := 5) scTk.nd rfl (Or.inl rfl)) (pgs_cons (pg_name (i := 6) scTk.nd rfl (Or.inl rfl)) pgs_nil)))
            (pss_one (ps_set (i := 3) scTk.nd rfl (Or.inl rfl) (pe_op op_cat (pe_op op_cat (pv 3) (pe_lst (pa_cons (pv 5) pa_nil))) (pe_df TK hrk rfl (pa_cons (pv 0) (pa_cons (pv 6) (pa_cons (pe_op op_add (pe_ix ix_tup (pv 1) pe_int (fun _ _ => rfl)) pe_int) pa_nil))))))))
          (pss_one (ps_if (pt_cmpR op_lt (pe_ix ix_tup (pv 1) pe_int (fun _ _ => rfl)) (pv 2) (nomark _)) (pss_one (ps_ret (pe_op op_cat (pe_op op_cat (pe_lst (pa_cons pe_str pa_nil)) (pv 3)) (pe_lst (pa_cons pe_str pa_nil))))) pss_nil)))))))
      (pss_one (ps_ret (pe_ifExp (pt_cmpR op_eq (pe_df DR hr2 rfl (pa_cons (pv 0) (pa_cons pe_int pa_nil))) pe_int (nomark _)) (pe_op op_cat (pe_op op_cat (pe_lst (pa_cons pe_str pa_nil)) (pv 3)) (pe_lst (pa_cons pe_str pa_nil))) (pv 3)))), ?_⟩
    have gd := DT.dd _ _ g
    have cur0 : Cur B S cs H H := Cur.refl st
    have pS : ∀ {p : Addr}, H p = none → p ≠ S := fun n => (st.fre2 n).1
    have one : ∀ {σ : L2.St} {G : Hp} {te : TE} {z : Str}, Ev te σ G (.str z) → EvL (tLst (tCons te tNil)) σ G [V.str z] := fun h => el_lst (ea_cons h ea_nil) (show 1 ≤ 100000 by decide)
    -- parentheses around what was found
    have wrapE : ∀ {σ : L2.St} {G : Hp} {p : Addr} {ws : List Wo}, σ[3]? = some (some (.ref p)) → G p = some (.lst (wtl ws)) → ws.length ≤ 9000 → EvL (tOp rCat (tOp rCat (tLst (tCons (tC (.str "(")) tNil)) (tVar 3)) (tLst (tCons (tC (.str ")")) tNil))) σ G (wtl (.sg "(" :: (ws ++ [.sg ")"]))) := fun {σ G p ws} h3 hp l => by
      have z := el_catL (el_catR (one (σ := σ) (G := G) (te := tC (.str "(")) ev_c) (ev_var h3) hp (by rw [wtl_len]; show 1 + _ ≤ _; omega)) (one (te := tC (.str ")")) ev_c) (by rw [List.length_append, wtl_len]; show 1 + _ + 1 ≤ _; omega)
      have q : wtl (.sg "(" :: (ws ++ [.sg ")"])) = [V.str "("] ++ wtl ws ++ [V.str ")"] := by
        unfold wtl
        simp [wt_sg]
      rw [q]
      exact z
    have szP : ∀ ws : List Wo, wsz (.sg "(" :: (ws ++ [.sg ")"])) = wsz ws + 6 := fun ws => by
      rw [wsz_cons, wsz_app, wsz_cons, wsz_nil, cs_len, cs_len]
      have e1 : ("(" : Str).length = 1 := by decide +kernel
      have e2 : (")" : Str).length = 1 := by decide +kernel
      omega
    refine q_cut (M := fun σ' H' => ∃ (p : Addr) (ws : List Wo) (o4 o5 o6 : Option V), σ' = [some (.ref S), some v, some (.int (r : Int)), some (.ref p), o4, o5, o6] ∧ Cur B S cs H H' ∧ H p = none ∧ H' p = some (.lst (wtl ws)) ∧ (∀ r', (r' = r ∨ r' = 0) → TKQ (h0 + 1) (n0 + 1) r' e ws) ∧ wsz ws ≤ 11 + 81 * exN e) ?_ ?_
    · by_cases lf : leafB e = true
      · refine s_ife (b := true) (et_is (ev_kl rfl gd) (decide_eq_true (kdl_leaf.mpr lf))) (fun _ H1 e1 => ?_) fun z => by cases z
        obtain ⟨w, ew, tw, sw⟩ := leaf_wo lf d
        rw [lw_leaf lf] at gd
        refine s_asgL (one (EvD.str' (ed_ix (j := 1) rfl (Dd.ext e1 _ _ gd) rfl))) fun p H2 np e2 hp => ?_
        refine ⟨p, [w], _, _, _, rfl, (cur0.ex e1).ex e2, fresh_back e1 np, ?_, fun r' _ => (tw r').up (by omega) (by omega), by omega⟩
        rw [hp]
        show some (HO.lst [V.str (exT e)]) = some (.lst [V.str (wt w)])
        rw [ew]
      · have nl : kdL e ≠ "leaf" := fun z => lf (kdl_leaf.mp z)
        refine s_ife (b := false) (et_is (ev_kl rfl gd) (decide_eq_false nl)) (fun z => by cases z) fun _ H1 e1 => ?_
        have gd1 := Dd.ext e1 _ _ gd
        cases d with
        | num _ => exact absurd rfl lf
        | txt _ _ => exact absurd rfl lf
        | var _ _ => exact absurd rfl lf
        | @call s e0 es hs hd hds =>
          refine s_ife (b := true) (et_is (ev_kl rfl gd1) (decide_eq_true rfl)) (fun _ H2 e2 => ?_) fun z => by cases z
          have q4 : s.length ≤ 7 ∧ es.length + 1 ≤ 4 := argn_b _ hs
          have q5 := argn_nm _ hs
          have all : ∀ x ∈ e0 :: es, D x := fun x m => (List.mem_cons.mp m).elim (fun z => z ▸ hd) (hds x)
          rw [lwD] at g
          rw [exN] at n60
          obtain ⟨x1, gx1, ix1⟩ := dt_ix (j := 1) g rfl
          have hx1 := gx1.sv
          subst hx1
          obtain ⟨x2, gx2, ix2⟩ := dt_ix (j := 2) g rfl
          cases gx2 with
          | lst ha hB hsA =>
          rename_i a xs
          have xl := hsA.len
          rw [lwDs_len] at xl
          have cur2 := (cur0.ex e1).ex e2
          refine q_asgL (el_lst (ea_cons (ix1 (σ := ([some (.ref S), some v, some (.int (r : Int)), none, none, none, none] : L2.St)) (i := 1) cur2.a rfl) (ea_cons ev_c ea_nil)) (show 2 ≤ 100000 by decide)) fun p0 H3 np0 e3 hp0 => ?_
          have cur3 := cur2.ex e3
          have n0p : H p0 = none := fresh_back (e1.trans e2) np0
          have lenE : Ev (tCB (rLenS K) (tCons (tOp (rIxT K) (tVar 1) (tC (.int 2))) tNil)) ([some (.ref S), some v, some (.int (r : Int)), some (.ref p0), none, none, none] : L2.St) H3 (.int (xs.length : Int)) := fun G y Q q => ix2 cur3.a (i := 1) rfl G y _ fun G2 y2 => ⟨a, xs, rfl, .inl (SqL.of ((cur3.ex (y.trans y2)).a.l a xs hB ha)), q G2 y2⟩
          refine q_forR1 (ea_cons lenE ea_nil) ⟨by omega, by rw [xl, List.length_cons]; omega⟩ (fun i σ' H' => ∃ (p : Addr) (as : List Wo) (o4 : Option V), σ' = [some (.ref S), some v, some (.int (r : Int)), some (.ref p), o4, none, none] ∧ Cur B S cs H H' ∧ H p = none ∧ H' p = some (.lst (wtl (.wrd s :: .sg "(" :: as))) ∧ TkZ (TKQ h0 n0 0) ((e0 :: es).take i) as ∧ wsz as ≤ 20 * i - 3 + 81 * exNs ((e0 :: es).take i)) ?_ ?_ ?_
          · intro H4 e4
            have cur4 := cur3.ex e4
            refine ⟨p0, [], _, rfl, cur4, n0p, ?_, .nil, ?_⟩
            · rw [e4 _ _ hp0]
              rfl
            · rw [wsz_nil]
              exact Nat.zero_le _
          · rintro i σ' H5 hi ⟨p, as, o4, rfl, cur5, np, hp, tz, sz⟩
            have hl0 : (e0 :: es).length = es.length + 1 := rfl
            have hi2 : i < (e0 :: es).length := by omega
            obtain ⟨ei, hei⟩ : ∃ ei, (e0 :: es)[i]? = some ei := ⟨_, List.getElem?_eq_getElem hi2⟩
            have mi := List.mem_of_getElem? hei
            have nmi := exNs_mem mi
            obtain ⟨vi, hvi, gvi⟩ := hsA.at (i := i) (d := lwD ei) (by rw [lwDs_map, List.getElem?_map, hei]; rfl)
            have commas : EvL (tOp rRep (tLst (tCons (tC (.str ",")) tNil)) (tCB (fun xs H Q => ∃ i j : Int, xs = [.int i, .int j] ∧ Q (.int (if j < i then j else i)) H) (tCons (tVar 4) (tCons (tC (.int 1)) tNil)))) ([some (.ref S), some v, some (.int (r : Int)), some (.ref p), some (.int ((i : Int))), none, none] : L2.St) H5 (List.replicate (if (1 : Int) < (i : Int) then (1 : Int) else (i : Int)).toNat [V.str ","]).flatten := el_rep (one ev_c) (fun G y => ev_min2 (ev_var rfl) ev_c) (by split <;> omega) (by split <;> (show 1 * _ ≤ 100000; omega))
            have lw5 := len_wsz as
            have ln5 : (exNs ((e0 :: es).take i)) ≤ 60 := by
              have : exNs ((e0 :: es).take i) + exNs ((e0 :: es).drop i) = exNs (e0 :: es) := by rw [← exNs_app, List.take_append_drop]
              omega
            have cl : (List.replicate (if (1 : Int) < (i : Int) then (1 : Int) else (i : Int)).toNat [V.str ","]).flatten = wtl (if i = 0 then [] else [.sg ","]) := by
              by_cases i0 : i = 0
              · rw [if_pos i0, if_neg (by omega)]
                rw [i0]
                rfl
              · rw [if_neg i0]
                by_cases i1 : (1 : Int) < (i : Int)
                · rw [if_pos i1]
                  rfl
                · rw [if_neg i1]
                  have : i = 1 := by omega
                  rw [this]
                  rfl
            rw [cl] at commas
            have cm : (if i = 0 then ([] : List Wo) else [.sg ","]).length ≤ 1 := by
              split
              · exact Nat.zero_le _
              · exact Nat.le_refl _
            refine (el_catV (ev_var rfl) hp commas (by rw [wtl_len, wtl_len]; simp only [List.length_cons]; omega)) H5 (Ex.refl _) _ fun p1 H6 np1 e6 hp1 => ?_
            have cur6 := cur5.ex e6
            refine ⟨_, rfl, ?_⟩
            have ixv : Ev (tOp (rIxL K) (tOp (rIxT K) (tVar 1) (tC (.int 2))) (tVar 4)) ([some (.ref S), some v, some (.int (r : Int)), some (.ref p), some (.int ((i : Int))), none, none] : L2.St) H6 vi := ev_op (ix2 cur6.a (i := 1) rfl) (ev_var rfl) (rv_ixL (SqL.of (cur6.a.l a xs hB ha)) (atI_nat hvi))
            refine ixv H6 (Ex.refl _) _ fun H7 e7 => ?_
            have cur7 := cur6.ex e7
            refine ⟨S, cs, B, vi, ei, 0, rfl, cur7.s, nB, gvi.apt cur7.a, all ei mi, by omega, fun p2 ws2 H8 np2 b8 st8 hp2 tq2 sz2 => ?_⟩
            have cur8 := cur7.dr nB b8 st8
            have np1H : H p1 = none := cur5.fresh np1
            have hp1' := b8 p1 _ (pS np1H) (e7 _ _ hp1)
            have lw2 := len_wsz ws2
            refine ⟨p1, p2, _, _, rfl, rfl, hp1', hp2, sz_of (by rw [List.length_append, wtl_len, wtl_len, wtl_len]; simp only [List.length_cons]; omega), fun p3 np3 => ?_⟩
            have e9 : Ex H8 (upd H8 p3 (.lst (wtl (.wrd s :: .sg "(" :: as) ++ wtl (if i = 0 then [] else [.sg ","]) ++ wtl ws2))) := Ex.new np3
            refine ⟨p3, as ++ ((if i = 0 then [] else [.sg ","]) ++ ws2), _, rfl, cur8.ex e9, cur8.fresh np3, ?_, ?_, ?_⟩
            · rw [upd_same, ← wtl_app, ← wtl_app]
              simp
            · rw [take_at hei]
              by_cases i0 : i = 0
              · subst i0
                have za := tz.no rfl
                subst za
                exact .one tq2
              · rw [if_neg i0]
                refine .snoc tz (fun z => ?_) tq2
                have z2 := congrArg List.length z
                rw [List.length_take] at z2
                simp only [List.length_cons, List.length_nil] at z2 hi2
                omega
            · rw [take_at hei, exNs_app, exNs_one, wsz_app, wsz_app]
              have ec : ("," : Str).length = 1 := by decide +kernel
              by_cases i0 : i = 0
              · subst i0
                have za := tz.no rfl
                subst za
                rw [if_pos rfl, wsz_nil]
                omega
              · rw [if_neg i0, wsz_cons, wsz_nil, cs_len]
                omega
          · rintro σ' H5 ⟨p, as, o4, rfl, cur5, np, hp, tz, sz⟩
            have nl2 : ((xs.length : Int)).toNat = (e0 :: es).length := by rw [← xl]; omega
            rw [nl2, List.take_length] at tz sz
            obtain ⟨w0, wr, rfl, q0, ta⟩ := tz.spl rfl
            have lw5 := len_wsz (w0 ++ wr)
            refine ⟨_, rfl, .inl ⟨rfl, _, SqL.of hp⟩, ⟨p, _, .str ")", rfl, rfl, hp, sz_lt (by rw [wtl_len]; simp only [List.length_cons]; simp only [List.length_cons] at sz; omega), ?_⟩⟩
            refine ⟨p, .wrd s :: .sg "(" :: (w0 ++ (wr ++ [.sg ")"])), _, _, _, rfl, cur5.updN st np, np, ?_, fun r' _ h n x y => ?_, ?_⟩
            · rw [upd_same]
              congr 2
              unfold wtl
              simp [wt_sg]
            · obtain ⟨h, rfl⟩ : ∃ j, h = j + 1 := ⟨h - 1, by omega⟩
              obtain ⟨n, rfl⟩ : ∃ j, n = j + 1 := ⟨n - 1, by omega⟩
              exact TkE.call hs (q0 h n (by omega) (by omega)) (ta.mono fun e w t => t h n (by omega) (by omega))
            · have ea : ("(" : Str).length = 1 := by decide +kernel
              have eb : (")" : Str).length = 1 := by decide +kernel
              rw [wsz_app] at sz
              rw [wsz_cons, wsz_cons, wsz_app, wsz_app, wsz_cons, wsz_nil, cs_len, cs_len, cs_lenw, exN]
              simp only [List.length_cons] at sz
              omega
        | @row gg ss o es g5 hs ln h2 l1 l3 hd hds =>
          refine s_ife (b := false) (et_is (ev_kl rfl gd1) (show decide (("row" : Str) = "call") = false by decide +kernel)) (fun z => by cases z) fun _ H2 e2 => ?_
          rw [lwD] at g
          rw [exN] at n60
          obtain ⟨x1, gx1, ix1⟩ := dt_ix (j := 1) g rfl
          have hx1 := gx1.iv
          subst hx1
          obtain ⟨x2, gx2, ix2⟩ := dt_ix (j := 2) g rfl
          obtain ⟨x3, gx3, ix3⟩ := dt_ix (j := 3) g rfl
          cases gx3 with
          | lst ha hB hsA =>
          rename_i a xs
          have xl := hsA.len
          rw [lwR_len ln] at xl
          have cur2 := (cur0.ex e1).ex e2
          have g1E : ∀ {σ : L2.St} {G : Hp}, Cur B S cs H G → σ[1]? = some (some v) → Ev (tOp (rI0 fun i j => .int (i + j)) (tOp (rIxT K) (tVar 1) (tC (.int 1))) (tC (.int 1))) σ G (.int ((gg + 1 : Nat) : Int)) := fun c h => ev_is (evAdd (ix1 c.a h) ev_c) (by congr 1)
          refine ⟨_, rfl, ix2 (σ := ([some (.ref S), some v, some (.int (r : Int)), none, none, none, none] : L2.St)) (i := 1) cur2.a rfl H2 (Ex.refl _) _ fun H3 e3 => ?_⟩
          have cur3 := cur2.ex e3
          refine g1E (σ := ([some (.ref S), some v, some (.int (r : Int)), none, none, none, none] : L2.St)) cur3 rfl H3 (Ex.refl _) _ fun H4 e4 => ?_
          have cur4 := cur3.ex e4
          refine ⟨S, cs, B, x2, o, gg + 1, rfl, cur4.s, nB, gx2.apt cur4.a, hd, by omega, fun p0 w0 H5 np0 b5 st5 hp0 tq0 sz0 => ?_⟩
          have cur5 := cur4.dr nB b5 st5
          have n0p : H p0 = none := cur4.fresh np0
          refine q_forL (ix3 (σ := ([some (.ref S), some v, some (.int (r : Int)), some (.ref p0), none, none, none] : L2.St)) (i := 1) cur5.a rfl) (SqL.of (cur5.a.l a xs hB ha)) (fun i σ' H' => ∃ (p : Addr) (us : List Wo) (o5 o6 : Option V), σ' = [some (.ref S), some v, some (.int (r : Int)), some (.ref p), none, o5, o6] ∧ Cur B S cs H H' ∧ H p = none ∧ H' p = some (.lst (wtl (w0 ++ us))) ∧ TkW (TKQ h0 n0 (gg + 1)) gg (ss.take i) (es.take i) us ∧ wsz us ≤ 22 * i + 81 * exNs (es.take i)) ?_ ?_ ?_ ?_
          · intro H6 e6
            exact ⟨p0, [], _, _, rfl, cur5.ex e6, n0p, by rw [List.append_nil]; exact e6 _ _ hp0, .nil, by rw [wsz_nil]; exact Nat.zero_le _⟩
          · rintro i σ' H' hi ⟨p, us, o5, o6, rfl, cur6, _⟩
            exact SqL.of (cur6.a.l a xs hB ha)
          · rintro i x σ' H6 hx ⟨p, us, o5, o6, rfl, cur6, np, hp, tw, sz⟩
            have lx := (List.getElem?_eq_some_iff.mp hx).1
            obtain ⟨si, hsi⟩ : ∃ si, ss[i]? = some si := ⟨_, List.getElem?_eq_getElem (by omega)⟩
            obtain ⟨ei, hei⟩ : ∃ ei, es[i]? = some ei := ⟨_, List.getElem?_eq_getElem (by omega)⟩
            have mi := List.mem_of_getElem? hei
            have nmi := exNs_mem mi
            have ms := hs si (List.mem_of_getElem? hsi)
            have lR : (lwR ss es)[i]? = some (.tuple [.str si, lwD ei]) := by
              have li : i < (lwR ss es).length := by rw [lwR_len ln]; omega
              obtain ⟨dd, hdd⟩ : ∃ dd, (lwR ss es)[i]? = some dd := ⟨_, List.getElem?_eq_getElem li⟩
              obtain ⟨s', e', a1, a2, a3⟩ := lwR_get hdd
              rw [hsi] at a1
              rw [hei] at a2
              cases a1
              cases a2
              rw [hdd, a3]
            obtain ⟨vx, hvx, gvx⟩ := hsA.at lR
            rw [hx] at hvx
            cases hvx
            cases gvx with
            | tup hq hds2 =>
            rename_i a2 zs
            cases hds2 with
            | cons h1 hds2 =>
            cases hds2 with
            | cons h2' hds2 =>
            cases hds2
            have hv1 := h1.sv
            subst hv1
            rename_i ve
            refine ⟨a2, _, rfl, sqt_keep cur6.a.o _ _ hq, rfl, _, _, rfl, _, _, rfl, rfl, ?_⟩
            have lwu := len_wsz us
            have lw0 := len_wsz w0
            have ln6 : exNs (es.take i) ≤ 60 := by
              have : exNs (es.take i) + exNs (es.drop i) = exNs es := by rw [← exNs_app, List.take_append_drop]
              omega
            refine (el_catV (ev_var rfl) hp (one (te := tVar 5) (ev_var rfl)) (by rw [wtl_len, List.length_append]; show _ + 1 ≤ _; omega)) H6 (Ex.refl _) _ fun p1 H7 np1 e7 hp1 => ?_
            have cur7 := cur6.ex e7
            refine ⟨_, rfl, _, rfl, g1E cur7 rfl H7 (Ex.refl _) _ fun H8 e8 => ?_⟩
            have cur8 := cur7.ex e8
            refine ⟨S, cs, B, ve, ei, gg + 1, rfl, cur8.s, nB, h2'.apt cur8.a, hds ei mi, by omega, fun p2 ws2 H9 np2 b9 st9 hp2 tq2 sz2 => ?_⟩
            have cur9 := cur8.dr nB b9 st9
            have np1H : H p1 = none := cur6.fresh np1
            have hp1' := b9 p1 _ (pS np1H) (e8 _ _ hp1)
            have lw2 := len_wsz ws2
            refine ⟨p1, p2, _, _, rfl, rfl, hp1', hp2, sz_of (by rw [List.length_append, wtl_len, wtl_len, List.length_append]; show _ + 1 + _ ≤ _; omega), fun p3 np3 => ?_⟩
            have e10 : Ex H9 (upd H9 p3 (.lst (wtl (w0 ++ us) ++ [V.str si] ++ wtl ws2))) := Ex.new np3
            have sl3 := (gr_sig gg g5 si ms).2.2.2
            refine ⟨p3, us ++ (.sg si :: ws2), _, _, rfl, cur9.ex e10, cur9.fresh np3, ?_, ?_, ?_⟩
            · rw [upd_same]
              congr 2
              unfold wtl
              simp [wt_sg]
            · rw [take_at hsi, take_at hei]
              exact tw.snoc ms tq2
            · rw [take_at hei, exNs_app, exNs_one, wsz_app, wsz_cons, cs_len]
              omega
          · rintro σ' H6 ⟨p, us, o5, o6, rfl, cur6, np, hp, tw, sz⟩
            have tk1 : ss.take xs.length = ss := by rw [xl, List.take_length]
            have tk2 : es.take xs.length = es := by rw [xl, ln, List.take_length]
            rw [tk1, tk2] at tw
            rw [tk2] at sz
            have bare : ∀ r', r' ≤ gg → TKQ (h0 + 1) n0 r' (.row gg ss o es) (w0 ++ us) := fun r' rg h n x y => by
              obtain ⟨h, rfl⟩ : ∃ j, h = j + 1 := ⟨h - 1, by omega⟩
              exact TkE.row rg g5 (tq0 h n (by omega) (by omega)) (tw.mono fun e w t => t h n (by omega) (by omega)) h2 (by omega) fun z => by
                rw [z] at l1
                exact absurd l1 (by decide)
            have szb : wsz (w0 ++ us) ≤ 11 + 81 * exN (.row gg ss o es) := by
              rw [wsz_app, exN]
              omega
            have lwb := len_wsz (w0 ++ us)
            have lt : EvT (tTest (tOp (rI0 fun i j => .bl (decide (i < j))) (tOp (rIxT K) (tVar 1) (tC (.int 1))) (tVar 2))) ([some (.ref S), some v, some (.int (r : Int)), some (.ref p), none, o5, o6] : L2.St) H6 (decide ((gg : Int) < (r : Int))) := etLt (ix1 cur6.a rfl) (ev_var rfl)
            have n60' : exN (.row gg ss o es) ≤ 60 := by
              rw [exN]
              exact n60
            refine s_when lt (fun hb H7 e7 => ?_) (fun hb H7 e7 => ?_)
            · refine s_retL (wrapE rfl (e7 _ _ hp) (by omega)) fun p2 H8 np2 e8 hp2 => ?_
              have cur8 := (cur6.ex e7).ex e8
              exact kQ p2 _ H8 ((cur6.ex e7).fresh np2) cur8.b cur8.s hp2 (((bare 0 (Nat.zero_le _)).par).up (by omega) (by omega)) (by rw [szP]; omega)
            · have rg : r ≤ gg := by
                have := of_decide_eq_false hb
                omega
              refine ⟨p, w0 ++ us, _, _, _, rfl, cur6.ex e7, np, e7 _ _ hp, fun r' hr' => ?_, szb⟩
              refine (bare r' ?_).up (by omega) (by omega)
              rcases hr' with z | z <;> omega
    · rintro σ' H1 ⟨p, ws, o4, o5, o6, rfl, cur1, np, hp, tq, sz⟩
      have lw := len_wsz ws
      refine ⟨_, rfl, S, 5, cs, rfl, by decide, by decide, cur1.s, fun x H2 b2 st2 x0 x1 => ?_⟩
      have cur2 := cur1.dr nB b2 st2
      have hp2 := b2 p _ (pS np) hp
      refine ⟨rfl, ?_⟩
      by_cases hx : x = 0
      · refine ⟨_, rfl, ?_⟩
        show (if decide (V.int x = V.int 0) = true then _ else _)
        rw [if_pos (decide_eq_true (by rw [hx]))]
        refine (wrapE (σ := ([some (.ref S), some v, some (.int (r : Int)), some (.ref p), o4, o5, o6] : L2.St)) rfl hp2 (by omega)) H2 (Ex.refl _) _ fun p3 H3 np3 e3 hp3 => ?_
        have cur3 := cur2.ex e3
        exact kQ p3 _ H3 (cur2.fresh np3) cur3.b cur3.s hp3 (((tq 0 (.inr rfl)).par).up (by omega) (by omega)) (by rw [szP]; omega)
      · refine ⟨_, rfl, ?_⟩
        show (if decide (V.int x = V.int 0) = true then _ else _)
        rw [if_neg (fun z => hx (V.int.inj (of_decide_eq_true z)))]
        exact ⟨_, rfl, kQ p ws H2 np cur2.b cur2.s hp2 ((tq r (.inl rfl)).up (by omega) (by omega)) (by omega)⟩
end
end K72
set_option maxHeartbeats 8000000
namespace K72
open PySem PySem.Spec PyProof.Rows L2 Evl My LamX
/-! the tokens of statements -/
section
variable {B : Addr → Prop} {S p : Addr} {cs : Cel} {H H' H2 : Hp}
theorem Cur.trans (x : Cur B S cs H H') (y : Cur B S cs H' H2) : Cur B S cs H H2 := ⟨x.b.trans y.b, y.s, x.a.trans y.a⟩
theorem Cur.keep (c : Cur B S cs H H') (n : p ≠ S) {o : HO} (h : H p = some o) : H' p = some o := c.b p o n h
end
/-- a new list of words, drawn -/
def EvC (B : Addr → Prop) (S : Addr) (cs : Cel) (te : TE) (σ : L2.St) (H : Hp) (R : List Wo → Prop) : Prop := ∀ Hc, Cur B S cs H Hc → ∀ Q : VK, (∀ p ws H', Hc p = none → Cur B S cs Hc H' → H' p = some (.lst (wtl ws)) → R ws → ws.length ≤ 40000 → Q (.ref p) H') → te σ Hc Q
/-- a list of words that is none of the law's state -/
def EvV (B : Addr → Prop) (S : Addr) (cs : Cel) (te : TE) (σ : L2.St) (H : Hp) (R : List Wo → Prop) : Prop := ∀ Hc, Cur B S cs H Hc → ∀ Q : VK, (∀ p ws H', p ≠ S → Cur B S cs Hc H' → H' p = some (.lst (wtl ws)) → R ws → ws.length ≤ 40000 → Q (.ref p) H') → te σ Hc Q
section
variable {K : PySem.W.Frag} {B : Addr → Prop} {S p : Addr} {cs : Cel} {H H' : Hp} {σ : L2.St} {ta tb : TE} {Ra Rb : List Wo → Prop} {args : TA} {ws : List Wo} {i : Nat}
theorem EvC.v (h : EvC B S cs ta σ H Ra) : EvV B S cs ta σ H Ra := fun Hc c Q q => h Hc c Q fun p ws H' np c' hp r l => q p ws H' (c.s.fre2 np).1 c' hp r l
theorem ec_lst (h : ∀ Hc, Cur B S cs H Hc → EvA args σ Hc (wtl ws)) (l : ws.length ≤ 40000) : EvC B S cs (tLst args) σ H (fun us => us = ws) := fun Hc c Q q =>
  (el_lst (h Hc c) (by rw [wtl_len]; omega)) Hc (Ex.refl _) _ fun p H2 np e hp => q p ws H2 np ((Cur.refl c.s).ex e) hp rfl l
theorem ev_lv (h : σ[i]? = some (some (.ref p))) (n : p ≠ S) (hp : H p = some (.lst (wtl ws))) (l : ws.length ≤ 40000) : EvV B S cs (tVar i) σ H (fun us => us = ws) := fun Hc c Q q => ⟨_, h, q p ws Hc n (Cur.refl c.s) (c.keep n hp) rfl l⟩
theorem ec_cat (ha : EvV B S cs ta σ H Ra) (hb : EvV B S cs tb σ H Rb) (l : ∀ a b, Ra a → Rb b → (a ++ b).length ≤ 40000) : EvC B S cs (tOp rCat ta tb) σ H (fun us => ∃ a b, us = a ++ b ∧ Ra a ∧ Rb b) := fun Hc c Q q =>
  ha Hc c _ fun p1 a H1 n1 c1 h1 ra la => hb H1 (c.trans c1) _ fun p2 b H2 n2 c2 h2 rb lb => ⟨p1, p2, _, _, rfl, rfl, c2.keep n1 h1, h2, sz_of (by rw [wtl_len, wtl_len]; omega), fun r nr => by
    rw [← wtl_app]
    exact q r (a ++ b) _ ((c1.trans c2).fresh nr) ((c1.trans c2).ex (Ex.new nr)) upd_same ⟨a, b, rfl, ra, rb⟩ (l a b ra rb)⟩
theorem EvC.mono (h : EvC B S cs ta σ H Ra) (m : ∀ ws, Ra ws → Rb ws) : EvC B S cs ta σ H Rb := fun Hc c Q q => h Hc c Q fun p ws H' a b d r l => q p ws H' a b d (m ws r) l
end
def spBr (K : PySem.W.Frag) (Bp : List Stm → Prop) (T : List Stm → List Wo → Prop) : Sp := fun vs H Q _ => ∃ (S : Addr) (cs : Cel) (B : Addr → Prop) (v : V) (b : List Stm), vs = [.ref S, v] ∧ StA H S cs ∧ ¬ B S ∧ DT K H B v (.list (lsDs b)) ∧ Bp b ∧ stNs b ≤ 60 ∧ ∀ p ws H', H p = none → Cur B S cs H H' → H' p = some (.lst (wtl ws)) → T b ws → wsz ws ≤ 6 + 81 * stNs b → Q (.ref p) H'
def spPc (K : PySem.W.Frag) (Ds_ : Stm → Prop) (T : Stm → List Wo → Prop) : Sp := fun vs H Q _ => ∃ (S : Addr) (cs : Cel) (B : Addr → Prop) (v : V) (s : Stm), vs = [.ref S, v] ∧ StA H S cs ∧ ¬ B S ∧ DT K H B v (lsD s) ∧ Ds_ s ∧ stN s ≤ 60 ∧ ∀ p ws H', H p = none → Cur B S cs H H' → H' p = some (.lst (wtl ws)) → T s ws → wsz ws ≤ 81 * stN s → Q (.ref p) H'
section
variable {K : PySem.W.Frag} {B : Addr → Prop} {S : Addr} {cs : Cel} {H : Hp} {σ : L2.St} {args : TA}
theorem len_of {a n : Nat} {ws : List Wo} (h : wsz ws ≤ a + 81 * n) (x : a ≤ 100) (y : n ≤ 60) : ws.length ≤ 5000 := by
  have := len_wsz ws
  omega
/-- the tokens of an expression -/
theorem ec_tk {x : V} {e : Exp} {r : Nat} (nB : ¬ B S) (g : DT K H B x (lwD e)) (d : Dn 2 e) (n : exN e ≤ 60) (ha : ∀ Hc, Cur B S cs H Hc → EvA args σ Hc [.ref S, x, .int (r : Int)]) : EvC B S cs (tCall (spTk K (Dn 2) 6 6) [] E0 args) σ H (fun ws => TKQ 6 6 r e ws ∧ wsz ws ≤ 17 + 81 * exN e) := fun Hc c Q q =>
  ha Hc c Hc (Ex.refl _) _ fun H1 e1 => ⟨S, cs, B, x, e, r, rfl, c.s.ex e1, nB, (g.apt c.a).ext e1, d, n, fun p ws H' np b s hp t z => q p ws H' (fresh_back e1 np) (((Cur.refl c.s).ex e1).dr nB b s) hp ⟨t, z⟩ (by have := len_of z (by omega) n; omega)⟩
theorem ec_br {Bp : List Stm → Prop} {T : List Stm → List Wo → Prop} {x : V} {b : List Stm} (nB : ¬ B S) (g : DT K H B x (.list (lsDs b))) (d : Bp b) (n : stNs b ≤ 60) (ha : ∀ Hc, Cur B S cs H Hc → EvA args σ Hc [.ref S, x]) : EvC B S cs (tCall (spBr K Bp T) [] E0 args) σ H (fun ws => T b ws ∧ wsz ws ≤ 6 + 81 * stNs b) := fun Hc c Q q =>
  ha Hc c Hc (Ex.refl _) _ fun H1 e1 => ⟨S, cs, B, x, b, rfl, c.s.ex e1, nB, (g.apt c.a).ext e1, d, n, fun p ws H' np c' hp t z => q p ws H' (fresh_back e1 np) (((Cur.refl c.s).ex e1).trans c') hp ⟨t, z⟩ (by have := len_of z (by omega) n; omega)⟩
end
section
variable {P : Program} {w : World} {K : PySem.W.Frag} {mg : Str → Option Value} {base : Heap} {f : Addr} {fd : FuncData}
def NBr : List Str := ["_law_state_here", "_law_block_here", "_law_found", "_law_statement_here"]
theorem scBr : FnScope NBr ["_law_state_here", "_law_block_here"] (defScope sBr) := ⟨rfl, rfl, rfl, by decide +kernel, rfl, by decide +kernel, by decide +kernel⟩
theorem TkM.snoc {S : Stm → List Wo → Prop} {b : List Stm} {ws : List Wo} (t : TkM S b ws) {s : Stm} {w : List Wo} (q : S s w) : TkM S (b ++ [s]) (ws ++ w) := by
  induction t with
  | nil =>
    have z := TkM.cons q (.nil (S := S))
    rw [List.append_nil] at z
    exact z
  | @cons s1 b1 w1 ws1 h _ ih =>
    have z := TkM.cons h ih
    rw [← List.append_assoc] at z
    exact z
theorem ok_br {k : Nat} {Ds_ : Stm → Prop} {T : Stm → List Wo → Prop} (F : Fun K "_law_braces" "_law_braces" sBr f fd) (PC : Df P w K mg base "_law_pieces" ["_law_state_here", "_law_statement_here"] k (spPc K Ds_ T)) : FnOk P w K mg base CX0 (k + 1) f fd ["_law_state_here", "_law_block_here"] (spBr K (DsB Ds_) (TkB T)) := by
  refine F.ok scBr (fun vs H Q E h => ?_) (fun cdv A outer s H vs Q E hr h => ?_)
  · obtain ⟨S, cs, B, v, b, rfl, _⟩ := h
    rfl
  · obtain ⟨S, cs, B, v, b, rfl, st, nB, g, bb, n60, kQ⟩ := h
    have hrk : Room k _ := hr
    refine ⟨_, pss_cons (ps_set (i := 2) scBr.nd rfl (Or.inl rfl) (pe_lst (pa_cons pe_str pa_nil)))
      (pss_cons (ps_for PassesOwn.never rfl (pi_list (pv 1)) (pg_name (i := 3) scBr.nd rfl (Or.inl rfl)) (pss_one (ps_set (i := 2) scBr.nd rfl (Or.inl rfl) (pe_op op_cat (pv 2) (pe_df PC hrk rfl (pa_cons (pv 0) (pa_cons (pv 3) pa_nil)))))))
      (pss_one (ps_ret (pe_op op_cat (pv 2) (pe_lst (pa_cons pe_str pa_nil)))))), ?_⟩
    have ea : ("{" : Str).length = 1 := by decide +kernel
    have eb : ("}" : Str).length = 1 := by decide +kernel
    cases g with
    | lst ha hB hs =>
    rename_i a xs
    have xl := hs.len
    rw [lsDs_len] at xl
    refine q_asgL (el_lst (ea_cons ev_c ea_nil) (show 1 ≤ 100000 by decide)) fun p0 H1 np0 e1 hp0 => ?_
    have cur1 : Cur B S cs H H1 := (Cur.refl st).ex e1
    refine q_forLn (ev_var rfl) (SqL.of (cur1.a.l a xs hB ha)) (fun i σ' H' => ∃ (p : Addr) (us : List Wo) (o3 : Option V), σ' = [some (.ref S), some (.ref a), some (.ref p), o3] ∧ Cur B S cs H H' ∧ H p = none ∧ H' p = some (.lst (wtl (.sg "{" :: us))) ∧ TkM T (b.take i) us ∧ wsz us ≤ 81 * stNs (b.take i)) ?_ ?_ ?_ ?_
    · intro H2 e2
      exact ⟨p0, [], _, rfl, cur1.ex e2, np0, e2 _ _ hp0, .nil, by rw [wsz_nil]; exact Nat.zero_le _⟩
    · rintro i σ' H' hi ⟨p, us, o3, rfl, c, _⟩
      exact SqL.of (c.a.l a xs hB ha)
    · rintro i x σ' H2 hx ⟨p, us, o3, rfl, cur2, np, hp, tm, sz⟩
      have lx := (List.getElem?_eq_some_iff.mp hx).1
      obtain ⟨si, hsi⟩ : ∃ si, b[i]? = some si := ⟨_, List.getElem?_eq_getElem (by omega)⟩
      have mi := List.mem_of_getElem? hsi
      have nmi := stNs_mem mi
      obtain ⟨vi, hvi, gvi⟩ := hs.at (i := i) (d := lsD si) (by rw [lsDs_map, List.getElem?_map, hsi]; rfl)
      rw [hx] at hvi
      cases hvi
      have ln2 : stNs (b.take i) ≤ 60 := by
        have : stNs (b.take i) + stNs (b.drop i) = stNs b := by rw [← stNs_app, List.take_append_drop]
        omega
      have lu := len_wsz us
      refine ⟨_, rfl, _, rfl, _, rfl, S, cs, B, x, si, rfl, cur2.s, nB, gvi.apt cur2.a, bb.2 si mi, by omega, fun p2 ws2 H3 np2 c3 hp2 t2 sz2 => ?_⟩
      have cur3 := cur2.trans c3
      have lw2 := len_wsz ws2
      refine ⟨p, p2, _, _, rfl, rfl, c3.keep (st.fre2 np).1 hp, hp2, sz_of (by rw [wtl_len, wtl_len, List.length_cons]; omega), fun p3 np3 => ?_⟩
      have e4 : Ex H3 (upd H3 p3 (.lst (wtl (.sg "{" :: us) ++ wtl ws2))) := Ex.new np3
      refine ⟨p3, us ++ ws2, _, rfl, cur3.ex e4, cur3.fresh np3, ?_, ?_, ?_⟩
      · rw [upd_same, ← wtl_app]
        rfl
      · rw [take_at hsi]
        exact tm.snoc t2
      · rw [take_at hsi, stNs_app, stNs_one, wsz_app]
        omega
    · rintro σ' H2 ⟨p, us, o3, rfl, cur2, np, hp, tm, sz⟩
      rw [xl, List.take_length] at tm sz
      have lu := len_wsz us
      refine s_retL (el_catV (ev_var rfl) hp (el_lst (ea_cons ev_c ea_nil) (show 1 ≤ 100000 by decide)) (by rw [wtl_len, List.length_cons]; show _ + 1 + 1 ≤ _; omega)) fun p2 H3 np2 e3 hp2 => ?_
      have cur3 := cur2.ex e3
      refine kQ p2 (.sg "{" :: (us ++ [.sg "}"])) H3 (cur2.fresh np2) cur3 ?_ ⟨us, tm, by have := bb.1; omega, rfl⟩ ?_
      · rw [hp2]
        congr 2
        unfold wtl
        simp [wt_sg]
      · rw [wsz_cons, wsz_app, wsz_cons, wsz_nil, cs_len, cs_len]
        omega
def NPc : List Str := ["_law_state_here", "_law_statement_here", "_law_kind", "_law_head"]
theorem scPc : FnScope NPc ["_law_state_here", "_law_statement_here"] (defScope sPc) := ⟨rfl, rfl, rfl, by decide +kernel, rfl, by decide +kernel, by decide +kernel⟩
theorem ok_pc {k kT kB : Nat} {Bp : List Stm → Prop} {T : List Stm → List Wo → Prop} (lT : kT ≤ k) (lB : kB ≤ k) (k2 : 2 ≤ k) (hS : ∀ {b : List Stm}, Bp b → SeqAt.shaped (.list (lsDs b)) = true) (F : Fun K "_law_pieces" "_law_pieces" sPc f fd) (DR : Df P w K mg base "_law_draw" ["_law_state_here", "_law_many"] 2 spDrw) (TK : Df P w K mg base "_law_tokens" ["_law_state_here", "_law_part", "_law_rank"] kT (spTk K (Dn 2) 6 6)) (BR : Df P w K mg base "_law_braces" ["_law_state_here", "_law_block_here"] kB (spBr K Bp T)) : FnOk P w K mg base CX0 (k + 1) f fd ["_law_state_here", "_law_statement_here"] (spPc K (DsS (Dn 2) Bp) (TkS Tk2 T)) := by
  refine F.ok scPc (fun vs H Q E h => ?_) (fun cdv A outer s H vs Q E hr h => ?_)
  · obtain ⟨S, cs, B, v, b, rfl, _⟩ := h
    rfl
  · obtain ⟨S, cs, B, v, s, rfl, st, nB, g, d, n60, kQ⟩ := h
    have hrk : Room k _ := hr
    have hrT : Room kT _ := hrk.mono lT
    have hrB : Room kB _ := hrk.mono lB
    have hr2 : Room 2 _ := hrk.mono k2
    have hr1 : Room 1 _ := hr2.mono (by decide)
    refine ⟨_, pss_cons (ps_set (i := 2) scPc.nd rfl (Or.inl rfl) (pe_ix ix_tup (pv 1) pe_int (fun _ _ => rfl)))
      (pss_cons (ps_if (pt_cmpR op_eq (pv 2) pe_str (nomark _)) (pss_one (ps_ret (pe_op op_cat (pe_op op_cat (pe_lst (pa_cons (pe_ix ix_tup (pv 1) pe_int (fun _ _ => rfl)) (pa_cons pe_str pa_nil))) (pe_df TK hrT rfl (pa_cons (pv 0) (pa_cons (pe_ix ix_tup (pv 1) pe_int (fun _ _ => rfl)) (pa_cons pe_int pa_nil))))) (pe_lst (pa_cons pe_str pa_nil))))) pss_nil)
      (pss_cons (ps_if (pt_cmpR op_eq (pv 2) pe_str (nomark _)) (pss_one (ps_ret (pe_op op_cat (pe_op op_cat (pe_lst (pa_cons pe_str pa_nil)) (pe_df TK hrT rfl (pa_cons (pv 0) (pa_cons (pe_ix ix_tup (pv 1) pe_int (fun _ _ => rfl)) (pa_cons pe_int pa_nil))))) (pe_lst (pa_cons pe_str pa_nil))))) pss_nil)
      (pss_cons (ps_if (pt_cmpR op_eq (pv 2) pe_str (nomark _)) (pss_one (ps_ret (pe_op op_cat (pe_df TK hrT rfl (pa_cons (pv 0) (pa_cons (pe_ix ix_tup (pv 1) pe_int (fun _ _ => rfl)) (pa_cons pe_int pa_nil)))) (pe_lst (pa_cons pe_str pa_nil))))) pss_nil)
      (pss_cons (ps_if (pt_cmpR op_eq (pv 2) pe_str (nomark _)) (pss_one (ps_ret (pe_op op_cat (pe_op op_cat (pe_lst (pa_cons pe_str pa_nil)) (pe_df TK hrT rfl (pa_cons (pv 0) (pa_cons (pe_ix ix_tup (pv 1) pe_int (fun _ _ => rfl)) (pa_cons pe_int pa_nil))))) (pe_df BR hrB rfl (pa_cons (pv 0) (pa_cons (pe_ix ix_tup (pv 1) pe_int (fun _ _ => rfl)) pa_nil)))))) pss_nil)
      (pss_cons (ps_if (pt_cmpR op_eq (pv 2) pe_str (nomark _))
        (pss_cons (ps_set (i := 3) scPc.nd rfl (Or.inl rfl) (pe_op op_cat (pe_lst (pa_cons pe_str (pa_cons (pe_ix ix_tup (pv 1) pe_int (fun _ _ => rfl)) (pa_cons pe_str pa_nil)))) (pe_df TK hrT rfl (pa_cons (pv 0) (pa_cons (pe_ix ix_tup (pv 1) pe_int (fun _ _ => rfl)) (pa_cons pe_int pa_nil))))))
        (pss_one (ps_ret (pe_op op_cat (pv 3) (pe_df BR hrB rfl (pa_cons (pv 0) (pa_cons (pe_ix ix_tup (pv 1) pe_int (fun _ _ => rfl)) pa_nil))))))) pss_nil)
      (pss_cut (ps_set (i := 3) scPc.nd rfl (Or.inl rfl) (pe_ifExp (pt_cmpR op_eq (pv 2) pe_str (nomark _)) (pe_lst (pa_cons pe_str pa_nil)) (pe_op op_cat (pe_lst (pa_cons pe_str pa_nil)) (pe_df TK hrT rfl (pa_cons (pv 0) (pa_cons (pe_ix ix_tup (pv 1) pe_int (fun _ _ => rfl)) (pa_cons pe_int pa_nil)))))))
      (pss_cons (ps_set (i := 3) scPc.nd rfl (Or.inl rfl) (pe_op op_cat (pv 3) (pe_df BR hrB rfl (pa_cons (pv 0) (pa_cons (pe_ix ix_tup (pv 1) pe_int (fun _ _ => rfl)) pa_nil)))))
      (pss_cut (ps_if (PW.pt (pw_or (pt_cmpR (op_neD hr1.units) (pe_ix ix_tup (pv 1) pe_int (fun _ _ => rfl)) (pe_lst pa_nil) (nomark _)) (pw_or1 (pt_cmpR op_eq (pe_df DR hr2 rfl (pa_cons (pv 0) (pa_cons pe_int pa_nil))) pe_int (nomark _))))) (pss_one (ps_set (i := 3) scPc.nd rfl (Or.inl rfl) (pe_op op_cat (pe_op op_cat (pv 3) (pe_lst (pa_cons pe_str pa_nil))) (pe_df BR hrB rfl (pa_cons (pv 0) (pa_cons (pe_ix ix_tup (pv 1) pe_int (fun _ _ => rfl)) pa_nil)))))) pss_nil)
      (pss_one (ps_ret (pv 3))))))))))), ?_⟩
    have gd := DT.dd _ _ g
    obtain ⟨d1, dr, eD⟩ := lsD_at s
    have g0 := gd
    rw [eD] at g0
    refine q_asg (EvD.str' (ed_ix (j := 0) (σ := ([some (.ref S), some v, none, none] : L2.St)) (i := 1) rfl g0 rfl)) fun H1 ex1 => ?_
    have c1 : Cur B S cs H H1 := (Cur.refl st).ex ex1
    have tst : ∀ {z : Str} {G : Hp} {o3 : Option V}, EvT (tTest (tOp rEq (tVar 2) (tC (.str z)))) ([some (.ref S), some v, some (.str (kwS.getD (kdS s) "")), o3] : L2.St) G (decide (kwS.getD (kdS s) "" = z)) := fun {z G o3} => et_is (et_test (ev_op (ev_var rfl) ev_c (rv_eq rfl))) dec_str
    have kw : ∀ {i : Nat} {z : Str}, kdS s = i → kwS.getD i "" = z → decide (kwS.getD (kdS s) "" = z) = true := fun {i z} h h2 => by rw [h, h2]; exact decide_eq_true rfl
    have kn : ∀ {i : Nat} {z : Str}, kdS s = i → kwS.getD i "" ≠ z → decide (kwS.getD (kdS s) "" = z) = false := fun {i z} h h2 => by rw [h]; exact decide_eq_false h2
    have one : ∀ {σ : L2.St} {G : Hp} {te : TE} {w : Wo}, (∀ Hc, Cur B S cs G Hc → Ev te σ Hc (.str (wt w))) → EvC B S cs (tLst (tCons te tNil)) σ G (fun us => us = [w]) := fun h => ec_lst (fun Hc c => ea_cons (h Hc c) ea_nil) (show 1 ≤ 40000 by decide)
    -- the end
    have fin : ∀ {te : TE} {o3 : Option V} {G : Hp} {R : List Wo → Prop}, Cur B S cs H G → EvC B S cs te ([some (.ref S), some v, some (.str (kwS.getD (kdS s) "")), o3] : L2.St) G R → (∀ ws, R ws → TkS Tk2 T s ws ∧ wsz ws ≤ 81 * stN s) → tRet te { nx := fun _ H' => Q .non H', rt := Q } ([some (.ref S), some v, some (.str (kwS.getD (kdS s) "")), o3] : L2.St) G := fun {te o3 G R} c h m => h G (Cur.refl c.s) _ fun p ws H' np c' hp r l => kQ p ws H' (c.fresh np) (c.trans c') hp (m ws r).1 (m ws r).2
    have tk2 : ∀ {e : Exp} {ws : List Wo}, TKQ 6 6 0 e ws → Tk2 e ws := fun t => t 6 6 (Nat.le_refl _) (Nat.le_refl _)
    have l1 : ∀ s ∈ (["=", ";", "{", "}"] : List Str), s.length = 1 := by decide +kernel
    have e1 : (";" : Str).length = 1 := by decide +kernel
    have e2 : ("=" : Str).length = 1 := by decide +kernel
    have e3 : ("tell" : Str).length = 4 := by decide +kernel
    have e4 : ("while" : Str).length = 5 := by decide +kernel
    have e5 : ("for" : Str).length = 3 := by decide +kernel
    have e6 : ("in" : Str).length = 2 := by decide +kernel
    have e7 : ("if" : Str).length = 2 := by decide +kernel
    have e8 : ("try" : Str).length = 3 := by decide +kernel
    have e9 : ("else" : Str).length = 4 := by decide +kernel
    cases d with
    | @set nm e hn hl he =>
      rw [stN] at n60
      rw [lsD] at g
      obtain ⟨x1, gx1, ix1⟩ := dt_ix (j := 1) g rfl
      have hx1 := gx1.sv
      subst hx1
      obtain ⟨x2, gx2, ix2⟩ := dt_ix (j := 2) g rfl
      refine q_when (b := true) (et_is tst (kw (i := 0) rfl rfl)) (fun _ H2 ex2 => ?_) fun z => by cases z
      have c2 := c1.ex ex2
      refine fin c2 (ec_cat (ec_cat (ec_lst (ws := [.wrd nm, .sg "="]) (fun Hc c => ea_cons (ix1 (c2.trans c).a rfl) (ea_cons ev_c ea_nil)) (show 2 ≤ 40000 by decide)).v (ec_tk (r := 0) nB (gx2.apt c2.a) he (by omega) (fun Hc c => ea_cons (ev_var rfl) (ea_cons (ix2 (c2.trans c).a rfl) (ea_cons ev_c ea_nil)))).v ?_).v (one (w := .sg ";") fun Hc c => ev_c).v ?_) ?_
      · rintro a b rfl ⟨_, z⟩
        have := len_of z (by omega) (by omega)
        simp only [List.length_append, List.length_cons, List.length_nil]
        omega
      · rintro a b ⟨a1, a2, rfl, rfl, ⟨_, z⟩⟩ rfl
        have := len_of z (by omega) (by omega)
        simp only [List.length_append, List.length_cons, List.length_nil]
        omega
      · rintro ws ⟨a, b, rfl, ⟨a1, a2, rfl, rfl, t, z⟩, rfl⟩
        refine ⟨TkS.set hn (tk2 t), ?_⟩
        rw [wsz_app, wsz_app, wsz_cons, wsz_cons, wsz_cons, wsz_nil, cs_len, cs_len, cs_lenw, stN]
        omega
    | @tell e he =>
      rw [stN] at n60
      rw [lsD] at g
      obtain ⟨x1, gx1, ix1⟩ := dt_ix (j := 1) g rfl
      refine q_when (b := false) (et_is tst (kn (i := 1) rfl (by decide +kernel))) (fun z => by cases z) fun _ H2 ex2 => ?_
      refine q_when (b := true) (et_is tst (kw (i := 1) rfl rfl)) (fun _ H3 ex3 => ?_) fun z => by cases z
      have c3 := (c1.ex ex2).ex ex3
      refine fin c3 (ec_cat (ec_cat (one (w := .sg "tell") fun Hc c => ev_c).v (ec_tk (r := 0) nB (gx1.apt c3.a) he (by omega) (fun Hc c => ea_cons (ev_var rfl) (ea_cons (ix1 (c3.trans c).a rfl) (ea_cons ev_c ea_nil)))).v ?_).v (one (w := .sg ";") fun Hc c => ev_c).v ?_) ?_
      · rintro a b rfl ⟨_, z⟩
        have := len_of z (by omega) (by omega)
        simp only [List.length_append, List.length_cons, List.length_nil]
        omega
      · rintro a b ⟨a1, a2, rfl, rfl, ⟨_, z⟩⟩ rfl
        have := len_of z (by omega) (by omega)
        simp only [List.length_append, List.length_cons, List.length_nil]
        omega
      · rintro ws ⟨a, b, rfl, ⟨a1, a2, rfl, rfl, t, z⟩, rfl⟩
        refine ⟨TkS.tell (tk2 t), ?_⟩
        rw [wsz_app, wsz_app, wsz_cons, wsz_cons, wsz_nil, cs_len, cs_len, stN]
        omega
    | @do_ e he =>
      rw [stN] at n60
      rw [lsD] at g
      obtain ⟨x1, gx1, ix1⟩ := dt_ix (j := 1) g rfl
      refine q_when (b := false) (et_is tst (kn (i := 2) rfl (by decide +kernel))) (fun z => by cases z) fun _ H2 ex2 => ?_
      refine q_when (b := false) (et_is tst (kn (i := 2) rfl (by decide +kernel))) (fun z => by cases z) fun _ H3 ex3 => ?_
      refine q_when (b := true) (et_is tst (kw (i := 2) rfl rfl)) (fun _ H4 ex4 => ?_) fun z => by cases z
      have c4 := ((c1.ex ex2).ex ex3).ex ex4
      refine fin c4 (ec_cat (ec_tk (r := 0) nB (gx1.apt c4.a) he (by omega) (fun Hc c => ea_cons (ev_var rfl) (ea_cons (ix1 (c4.trans c).a rfl) (ea_cons ev_c ea_nil)))).v (one (w := .sg ";") fun Hc c => ev_c).v ?_) ?_
      · rintro a b ⟨_, z⟩ rfl
        have := len_of z (by omega) (by omega)
        simp only [List.length_append, List.length_cons, List.length_nil]
        omega
      · rintro ws ⟨a, b, rfl, ⟨t, z⟩, rfl⟩
        refine ⟨TkS.do_ (tk2 t), ?_⟩
        rw [wsz_app, wsz_cons, wsz_nil, cs_len, stN]
        omega
    | @while_ e b he hb =>
      rw [stN] at n60
      rw [lsD] at g
      obtain ⟨x1, gx1, ix1⟩ := dt_ix (j := 1) g rfl
      obtain ⟨x2, gx2, ix2⟩ := dt_ix (j := 2) g rfl
      refine q_when (b := false) (et_is tst (kn (i := 3) rfl (by decide +kernel))) (fun z => by cases z) fun _ H2 ex2 => ?_
      refine q_when (b := false) (et_is tst (kn (i := 3) rfl (by decide +kernel))) (fun z => by cases z) fun _ H3 ex3 => ?_
      refine q_when (b := false) (et_is tst (kn (i := 3) rfl (by decide +kernel))) (fun z => by cases z) fun _ H4 ex4 => ?_
      refine q_when (b := true) (et_is tst (kw (i := 3) rfl rfl)) (fun _ H5 ex5 => ?_) fun z => by cases z
      have c5 := (((c1.ex ex2).ex ex3).ex ex4).ex ex5
      refine fin c5 (ec_cat (ec_cat (one (w := .sg "while") fun Hc c => ev_c).v (ec_tk (r := 0) nB (gx1.apt c5.a) he (by omega) (fun Hc c => ea_cons (ev_var rfl) (ea_cons (ix1 (c5.trans c).a rfl) (ea_cons ev_c ea_nil)))).v ?_).v (ec_br nB (gx2.apt c5.a) hb (by omega) (fun Hc c => ea_cons (ev_var rfl) (ea_cons (ix2 (c5.trans c).a rfl) ea_nil))).v ?_) ?_
      · rintro a b rfl ⟨_, z⟩
        have := len_of z (by omega) (by omega)
        simp only [List.length_append, List.length_cons, List.length_nil]
        omega
      · rintro a b ⟨a1, a2, rfl, rfl, ⟨_, z⟩⟩ ⟨_, z2⟩
        have := len_of z (by omega) (by omega)
        have := len_of z2 (by omega) (by omega)
        simp only [List.length_append, List.length_cons, List.length_nil]
        omega
      · rintro ws ⟨a, b, rfl, ⟨a1, a2, rfl, rfl, t, z⟩, t2, z2⟩
        refine ⟨TkS.while_ (tk2 t) t2, ?_⟩
        rw [wsz_app, wsz_app, wsz_cons, wsz_nil, cs_len, stN]
        omega
    | @for_ nm e b hn hl he hb =>
      rw [stN] at n60
      rw [lsD] at g
      obtain ⟨x1, gx1, ix1⟩ := dt_ix (j := 1) g rfl
      have hx1 := gx1.sv
      subst hx1
      obtain ⟨x2, gx2, ix2⟩ := dt_ix (j := 2) g rfl
      obtain ⟨x3, gx3, ix3⟩ := dt_ix (j := 3) g rfl
      refine q_when (b := false) (et_is tst (kn (i := 4) rfl (by decide +kernel))) (fun z => by cases z) fun _ H2 ex2 => ?_
      refine q_when (b := false) (et_is tst (kn (i := 4) rfl (by decide +kernel))) (fun z => by cases z) fun _ H3 ex3 => ?_
      refine q_when (b := false) (et_is tst (kn (i := 4) rfl (by decide +kernel))) (fun z => by cases z) fun _ H4 ex4 => ?_
      refine q_when (b := false) (et_is tst (kn (i := 4) rfl (by decide +kernel))) (fun z => by cases z) fun _ H5 ex5 => ?_
      refine q_when (b := true) (et_is tst (kw (i := 4) rfl rfl)) (fun _ H6 ex6 => ?_) fun z => by cases z
      have c6 := ((((c1.ex ex2).ex ex3).ex ex4).ex ex5).ex ex6
      refine (ec_cat (ec_lst (σ := ([some (.ref S), some v, some (.str (kwS.getD (kdS (.for_ nm e b)) "")), none] : L2.St)) (ws := [.sg "for", .wrd nm, .sg "in"]) (fun Hc c => ea_cons ev_c (ea_cons (ix1 (c6.trans c).a rfl) (ea_cons ev_c ea_nil))) (show 3 ≤ 40000 by decide)).v (ec_tk (r := 0) nB (gx2.apt c6.a) he (by omega) (fun Hc c => ea_cons (ev_var rfl) (ea_cons (ix2 (c6.trans c).a rfl) (ea_cons ev_c ea_nil)))).v (by
        rintro a b rfl ⟨_, z⟩
        have := len_of z (by omega) (by omega)
        simp only [List.length_append, List.length_cons, List.length_nil]
        omega)) H6 (Cur.refl c6.s) _ fun p ws H7 np c7 hp r lw => ?_
      have c67 := c6.trans c7
      have npH := c6.fresh np
      refine fin c67 (ec_cat (ev_lv rfl (st.fre2 npH).1 hp lw) (ec_br nB (gx3.apt c67.a) hb (by omega) (fun Hc c => ea_cons (ev_var rfl) (ea_cons (ix3 (c67.trans c).a rfl) ea_nil))).v ?_) ?_
      · rintro a b rfl ⟨_, z2⟩
        obtain ⟨a1, a2, rfl, rfl, t, z⟩ := r
        have := len_of z (by omega) (by omega)
        have := len_of z2 (by omega) (by omega)
        simp only [List.length_append, List.length_cons, List.length_nil]
        omega
      · rintro us ⟨a, b, rfl, rfl, t2, z2⟩
        obtain ⟨a1, a2, rfl, rfl, t, z⟩ := r
        refine ⟨TkS.for_ hn (tk2 t) t2, ?_⟩
        rw [wsz_app, wsz_app, wsz_cons, wsz_cons, wsz_cons, wsz_nil, cs_len, cs_len, cs_lenw, stN]
        omega
    | @if_ e b c he hb hc =>
      rw [stN] at n60
      rw [lsD] at g
      obtain ⟨x1, gx1, ix1⟩ := dt_ix (j := 1) g rfl
      obtain ⟨x2, gx2, ix2⟩ := dt_ix (j := 2) g rfl
      obtain ⟨x3, gx3, ix3⟩ := dt_ix (j := 3) g rfl
      refine q_when (b := false) (et_is tst (kn (i := 5) rfl (by decide +kernel))) (fun z => by cases z) fun _ H2 ex2 => ?_
      refine q_when (b := false) (et_is tst (kn (i := 5) rfl (by decide +kernel))) (fun z => by cases z) fun _ H3 ex3 => ?_
      refine q_when (b := false) (et_is tst (kn (i := 5) rfl (by decide +kernel))) (fun z => by cases z) fun _ H4 ex4 => ?_
      refine q_when (b := false) (et_is tst (kn (i := 5) rfl (by decide +kernel))) (fun z => by cases z) fun _ H5 ex5 => ?_
      refine q_when (b := false) (et_is tst (kn (i := 5) rfl (by decide +kernel))) (fun z => by cases z) fun _ H6 ex6 => ?_
      have c6 := ((((c1.ex ex2).ex ex3).ex ex4).ex ex5).ex ex6
      refine q_cut (M := fun σ' H' => ∃ p ws, σ' = [some (.ref S), some v, some (.str (kwS.getD (kdS (.if_ e b c)) "")), some (.ref p)] ∧ Cur B S cs H H' ∧ H p = none ∧ H' p = some (.lst (wtl (.sg "if" :: ws))) ∧ TKQ 6 6 0 e ws ∧ wsz ws ≤ 17 + 81 * exN e) ?_ ?_
      · refine (et_is tst (kn (i := 5) rfl (by decide +kernel)) : EvT (tTest (tOp rEq (tVar 2) (tC (.str "try")))) ([some (.ref S), some v, some (.str (kwS.getD (kdS (.if_ e b c)) "")), none] : L2.St) H6 false) H6 (Ex.refl _) _ fun H7 ex7 => ?_
        show (if false = true then _ else _)
        rw [if_neg (by decide)]
        have c7 := c6.ex ex7
        refine (ec_cat (one (σ := ([some (.ref S), some v, some (.str (kwS.getD (kdS (.if_ e b c)) "")), none] : L2.St)) (w := .sg "if") fun Hc c => ev_c).v (ec_tk (r := 0) nB (gx1.apt c7.a) he (by omega) (fun Hc c => ea_cons (ev_var rfl) (ea_cons (ix1 (c7.trans c).a rfl) (ea_cons ev_c ea_nil)))).v (by
          rintro a b rfl ⟨_, z⟩
          have := len_of z (by omega) (by omega)
          simp only [List.length_append, List.length_cons, List.length_nil]
          omega)) H7 (Cur.refl c7.s) _ fun p us H8 np c8 hp r lw => ?_
        obtain ⟨a1, a2, rfl, rfl, t, z⟩ := r
        exact ⟨p, a2, rfl, c7.trans c8, c7.fresh np, hp, t, z⟩
      · rintro σ' H7 ⟨p, ws, rfl, c7, np, hp, t, z⟩
        have lws := len_of z (by omega) (by omega)
        refine (ec_cat (ev_lv (σ := ([some (.ref S), some v, some (.str (kwS.getD (kdS (.if_ e b c)) "")), some (.ref p)] : L2.St)) rfl (st.fre2 np).1 hp (by rw [List.length_cons]; omega)) (ec_br nB (gx2.apt c7.a) hb (by omega) (fun Hc c => ea_cons (ev_var rfl) (ea_cons (ix2 (c7.trans c).a rfl) ea_nil))).v (by
          rintro a b rfl ⟨_, z2⟩
          have := len_of z2 (by omega) (by omega)
          simp only [List.length_append, List.length_cons, List.length_nil]
          omega)) H7 (Cur.refl c7.s) _ fun p8 us H8 np8 c8 hp8 r8 lw8 => ?_
        obtain ⟨a1, a2, rfl, rfl, t2, z2⟩ := r8
        have lw2 := len_of z2 (by omega) (by omega)
        have c78 := c7.trans c8
        have n8 := c7.fresh np8
        have p8S := (st.fre2 n8).1
        refine q_cut (M := fun σ' H' => ∃ p us os, σ' = [some (.ref S), some v, some (.str (kwS.getD (kdS (.if_ e b c)) "")), some (.ref p)] ∧ Cur B S cs H H' ∧ H p = none ∧ H' p = some (.lst (wtl us)) ∧ us = .sg "if" :: (ws ++ (a2 ++ os)) ∧ TkO T c os ∧ wsz os ≤ 12 + 81 * stNs c) ?_ ?_
        · have ne : EvT (tTest (tOp (rNeD K) (tOp (rIxT K) (tVar 1) (tC (.int 3))) (tLst tNil))) ([some (.ref S), some v, some (.str (kwS.getD (kdS (.if_ e b c)) "")), some (.ref p8)] : L2.St) H8 (!c.isEmpty) := et_is (et_test (ed_neDS (ed_of (ix3 c78.a rfl) (DT.dd _ _ (gx3.apt c78.a))) (edl_ed (edl_lst eds_nil (Nat.zero_le _))) (ndw_sts c) rfl (hS hc) (by decide +kernel))) (by rw [eqv_nilL])
          -- with else
          have els : ∀ {G : Hp}, Cur B S cs H8 G → tAsg (tOp rCat (tOp rCat (tVar 3) (tLst (tCons (tC (.str "else")) tNil))) (tCall (spBr K Bp T) [] E0 (tCons (tVar 0) (tCons (tOp (rIxT K) (tVar 1) (tC (.int 3))) tNil)))) (gName 3) { nx := fun σ' H' => ∃ p us os, σ' = [some (.ref S), some v, some (.str (kwS.getD (kdS (.if_ e b c)) "")), some (.ref p)] ∧ Cur B S cs H H' ∧ H p = none ∧ H' p = some (.lst (wtl us)) ∧ us = .sg "if" :: (ws ++ (a2 ++ os)) ∧ TkO T c os ∧ wsz os ≤ 12 + 81 * stNs c, rt := Q } ([some (.ref S), some v, some (.str (kwS.getD (kdS (.if_ e b c)) "")), some (.ref p8)] : L2.St) G := fun {G} cG => by
            have cH := c78.trans cG
            refine (ec_cat (ec_cat (ev_lv (σ := ([some (.ref S), some v, some (.str (kwS.getD (kdS (.if_ e b c)) "")), some (.ref p8)] : L2.St)) rfl p8S (cG.keep p8S hp8) lw8) (one (w := .sg "else") fun Hc c => ev_c).v (by
              rintro a b rfl rfl
              simp only [List.length_append, List.length_cons, List.length_nil] at *
              omega)).v (ec_br nB (gx3.apt cH.a) hc (by omega) (fun Hc c => ea_cons (ev_var rfl) (ea_cons (ix3 (cH.trans c).a rfl) ea_nil))).v (by
              rintro a b ⟨b1, b2, rfl, rfl, rfl⟩ ⟨_, z3⟩
              have := len_of z3 (by omega) (by omega)
              simp only [List.length_append, List.length_cons, List.length_nil] at *
              omega)) G (Cur.refl cG.s) _ fun p9 us9 H9 np9 c9 hp9 r9 lw9 => ?_
            obtain ⟨b1, b2, rfl, ⟨b3, b4, rfl, rfl, rfl⟩, t3, z3⟩ := r9
            refine ⟨p9, _, .sg "else" :: b2, rfl, cH.trans c9, cH.fresh np9, hp9, ?_, .yes t3, ?_⟩
            · simp
            · rw [wsz_cons, cs_len]
              omega
          refine ne H8 (Ex.refl _) _ fun H9 ex9 => ?_
          have c9 : Cur B S cs H8 H9 := (Cur.refl c8.s).ex ex9
          cases hcE : c.isEmpty with
          | false => exact els c9
          | true =>
            refine ⟨_, rfl, S, 4, cs, rfl, by decide, by decide, c9.s, fun x H10 b10 s10 x0 x1 => ⟨rfl, _, rfl, ?_⟩⟩
            have c10 := c9.dr nB b10 s10
            by_cases hx : x = 0
            · show (if decide (V.int x = V.int 0) = true then _ else _)
              rw [if_pos (decide_eq_true (by rw [hx]))]
              exact els c10
            · show (if decide (V.int x = V.int 0) = true then _ else _)
              rw [if_neg (fun z => hx (V.int.inj (of_decide_eq_true z)))]
              have c0 : c = [] := by
                cases c with
                | nil => rfl
                | cons _ _ => cases hcE
              exact ⟨p8, _, [], rfl, c78.trans c10, n8, c10.keep p8S hp8, by simp, by rw [c0]; exact .no, by rw [wsz_nil]; exact Nat.zero_le _⟩
        · rintro σ2 H9 ⟨p9, us, os, rfl, c9, np9, hp9, rfl, t3, z3⟩
          refine ⟨_, rfl, kQ p9 _ H9 np9 c9 hp9 (TkS.if_ (tk2 t) t2 t3) ?_⟩
          rw [wsz_cons, wsz_app, wsz_app, cs_len, stN]
          omega
    | @try_ b c hb hc =>
      rw [stN] at n60
      rw [lsD] at g
      obtain ⟨x2, gx2, ix2⟩ := dt_ix (j := 2) g rfl
      obtain ⟨x3, gx3, ix3⟩ := dt_ix (j := 3) g rfl
      refine q_when (b := false) (et_is tst (kn (i := 6) rfl (by decide +kernel))) (fun z => by cases z) fun _ H2 ex2 => ?_
      refine q_when (b := false) (et_is tst (kn (i := 6) rfl (by decide +kernel))) (fun z => by cases z) fun _ H3 ex3 => ?_
      refine q_when (b := false) (et_is tst (kn (i := 6) rfl (by decide +kernel))) (fun z => by cases z) fun _ H4 ex4 => ?_
      refine q_when (b := false) (et_is tst (kn (i := 6) rfl (by decide +kernel))) (fun z => by cases z) fun _ H5 ex5 => ?_
      refine q_when (b := false) (et_is tst (kn (i := 6) rfl (by decide +kernel))) (fun z => by cases z) fun _ H6 ex6 => ?_
      have c6 := ((((c1.ex ex2).ex ex3).ex ex4).ex ex5).ex ex6
      refine q_cut (M := fun σ' H' => ∃ p, σ' = [some (.ref S), some v, some (.str (kwS.getD (kdS (.try_ b c)) "")), some (.ref p)] ∧ Cur B S cs H H' ∧ H p = none ∧ H' p = some (.lst (wtl [.sg "try"]))) ?_ ?_
      · refine (et_is tst (kw (i := 6) rfl rfl) : EvT (tTest (tOp rEq (tVar 2) (tC (.str "try")))) ([some (.ref S), some v, some (.str (kwS.getD (kdS (.try_ b c)) "")), none] : L2.St) H6 true) H6 (Ex.refl _) _ fun H7 ex7 => ?_
        show (if true = true then _ else _)
        rw [if_pos rfl]
        have c7 := c6.ex ex7
        refine (one (σ := ([some (.ref S), some v, some (.str (kwS.getD (kdS (.try_ b c)) "")), none] : L2.St)) (w := .sg "try") fun Hc c => ev_c) H7 (Cur.refl c7.s) _ fun p us H8 np c8 hp r lw => ?_
        subst r
        exact ⟨p, rfl, c7.trans c8, c7.fresh np, hp⟩
      · rintro σ' H7 ⟨p, rfl, c7, np, hp⟩
        refine (ec_cat (ev_lv (σ := ([some (.ref S), some v, some (.str (kwS.getD (kdS (.try_ b c)) "")), some (.ref p)] : L2.St)) rfl (st.fre2 np).1 hp (show 1 ≤ 40000 by decide)) (ec_br nB (gx2.apt c7.a) hb (by omega) (fun Hc c => ea_cons (ev_var rfl) (ea_cons (ix2 (c7.trans c).a rfl) ea_nil))).v (by
          rintro a b rfl ⟨_, z2⟩
          have := len_of z2 (by omega) (by omega)
          simp only [List.length_append, List.length_cons, List.length_nil]
          omega)) H7 (Cur.refl c7.s) _ fun p8 us H8 np8 c8 hp8 r8 lw8 => ?_
        obtain ⟨a1, a2, rfl, rfl, t2, z2⟩ := r8
        have lw2 := len_of z2 (by omega) (by omega)
        have c78 := c7.trans c8
        have n8 := c7.fresh np8
        have p8S := (st.fre2 n8).1
        refine q_cut (M := fun σ' H' => ∃ p us os, σ' = [some (.ref S), some v, some (.str (kwS.getD (kdS (.try_ b c)) "")), some (.ref p)] ∧ Cur B S cs H H' ∧ H p = none ∧ H' p = some (.lst (wtl us)) ∧ us = .sg "try" :: (a2 ++ os) ∧ TkO T c os ∧ wsz os ≤ 12 + 81 * stNs c) ?_ ?_
        · have ne : EvT (tTest (tOp (rNeD K) (tOp (rIxT K) (tVar 1) (tC (.int 3))) (tLst tNil))) ([some (.ref S), some v, some (.str (kwS.getD (kdS (.try_ b c)) "")), some (.ref p8)] : L2.St) H8 (!c.isEmpty) := et_is (et_test (ed_neDS (ed_of (ix3 c78.a rfl) (DT.dd _ _ (gx3.apt c78.a))) (edl_ed (edl_lst eds_nil (Nat.zero_le _))) (ndw_sts c) rfl (hS hc) (by decide +kernel))) (by rw [eqv_nilL])
          have els : ∀ {G : Hp}, Cur B S cs H8 G → tAsg (tOp rCat (tOp rCat (tVar 3) (tLst (tCons (tC (.str "else")) tNil))) (tCall (spBr K Bp T) [] E0 (tCons (tVar 0) (tCons (tOp (rIxT K) (tVar 1) (tC (.int 3))) tNil)))) (gName 3) { nx := fun σ' H' => ∃ p us os, σ' = [some (.ref S), some v, some (.str (kwS.getD (kdS (.try_ b c)) "")), some (.ref p)] ∧ Cur B S cs H H' ∧ H p = none ∧ H' p = some (.lst (wtl us)) ∧ us = .sg "try" :: (a2 ++ os) ∧ TkO T c os ∧ wsz os ≤ 12 + 81 * stNs c, rt := Q } ([some (.ref S), some v, some (.str (kwS.getD (kdS (.try_ b c)) "")), some (.ref p8)] : L2.St) G := fun {G} cG => by
            have cH := c78.trans cG
            refine (ec_cat (ec_cat (ev_lv (σ := ([some (.ref S), some v, some (.str (kwS.getD (kdS (.try_ b c)) "")), some (.ref p8)] : L2.St)) rfl p8S (cG.keep p8S hp8) lw8) (one (w := .sg "else") fun Hc c => ev_c).v (by
              rintro a b rfl rfl
              simp only [List.length_append, List.length_cons, List.length_nil] at *
              omega)).v (ec_br nB (gx3.apt cH.a) hc (by omega) (fun Hc c => ea_cons (ev_var rfl) (ea_cons (ix3 (cH.trans c).a rfl) ea_nil))).v (by
              rintro a b ⟨b1, b2, rfl, rfl, rfl⟩ ⟨_, z3⟩
              have := len_of z3 (by omega) (by omega)
              simp only [List.length_append, List.length_cons, List.length_nil] at *
              omega)) G (Cur.refl cG.s) _ fun p9 us9 H9 np9 c9 hp9 r9 lw9 => ?_
            obtain ⟨b1, b2, rfl, ⟨b3, b4, rfl, rfl, rfl⟩, t3, z3⟩ := r9
            refine ⟨p9, _, .sg "else" :: b2, rfl, cH.trans c9, cH.fresh np9, hp9, ?_, .yes t3, ?_⟩
            · simp
            · rw [wsz_cons, cs_len]
              omega
          refine ne H8 (Ex.refl _) _ fun H9 ex9 => ?_
          have c9 : Cur B S cs H8 H9 := (Cur.refl c8.s).ex ex9
          cases hcE : c.isEmpty with
          | false => exact els c9
          | true =>
            refine ⟨_, rfl, S, 4, cs, rfl, by decide, by decide, c9.s, fun x H10 b10 s10 x0 x1 => ⟨rfl, _, rfl, ?_⟩⟩
            have c10 := c9.dr nB b10 s10
            by_cases hx : x = 0
            · show (if decide (V.int x = V.int 0) = true then _ else _)
              rw [if_pos (decide_eq_true (by rw [hx]))]
              exact els c10
            · show (if decide (V.int x = V.int 0) = true then _ else _)
              rw [if_neg (fun z => hx (V.int.inj (of_decide_eq_true z)))]
              have c0 : c = [] := by
                cases c with
                | nil => rfl
                | cons _ _ => cases hcE
              exact ⟨p8, _, [], rfl, c78.trans c10, n8, c10.keep p8S hp8, by simp, by rw [c0]; exact .no, by rw [wsz_nil]; exact Nat.zero_le _⟩
        · rintro σ2 H9 ⟨p9, us, os, rfl, c9, np9, hp9, rfl, t3, z3⟩
          refine ⟨_, rfl, kQ p9 _ H9 np9 c9 hp9 (TkS.try_ t2 t3) ?_⟩
          rw [wsz_cons, wsz_app, cs_len, stN]
          omega
end
end K72
set_option maxHeartbeats 8000000
namespace K72
open PySem PySem.Spec PyProof.Rows L2 Evl My LamX
/-! tokens put together with blanks -/
abbrev sLo : Stmt := top 55
theorem gap_snoc {q : Pc} (hb : Bk q.1) (ok : q.2.Ok) : ∀ {ps : List Pc}, Gap ps → (∀ p, ps.getLast? = some p → Apart p q) → Gap (ps ++ [q])
  | [], _, _ => ⟨hb, ok, (fun x z => nomatch z), trivial⟩
  | [p], g, a => ⟨g.1, g.2.1, (fun x z => by cases z; exact a p rfl), hb, ok, (fun x z => nomatch z), trivial⟩
  | p :: p2 :: ps, g, a => ⟨g.1, g.2.1, g.2.2.1, gap_snoc hb ok g.2.2.2 (fun x z => a x (by rw [List.getLast?_cons_cons]; exact z))⟩
def SolS : Str := "(){},;"
/-- a word whose last sign is one of those that stand alone -/
theorem solo_last {w : Wo} (ok : w.Ok) {c : Nat} (h : w.cs.getLast? = some c) (m : c ∈ SolS.cps.toList) : Solo w := by
  have ds : ∀ c ∈ SolS.cps.toList, c ∉ WSG.cps.toList ∧ c ≠ 34 := by decide +kernel
  cases ok with
  | @num m hm =>
    have hd : NumText.AllDigits (TL.numL m) := TL.numL_digits m
    exact absurd (dig_w (digs_of (hd c (List.mem_of_getLast? h)))) (ds c (by assumption)).1
  | @txt xs hx =>
    have z : (34 :: (xs ++ [34])).getLast? = some 34 := by
      show ((34 :: xs) ++ [34]).getLast? = some 34
      exact List.getLast?_concat
    have h2 : (34 :: (xs ++ [34])).getLast? = some c := h
    rw [z] at h2
    exact absurd (Option.some.inj h2).symm (ds c m).2
  | wrd hn =>
    obtain ⟨⟨c0, xs, e, _, hw⟩, _⟩ := hn
    have h2 := List.mem_of_getLast? h
    exact absurd (hw c (by rw [← e]; exact h2)) (ds c m).1
  | @sg s hs =>
    have q : ∀ s ∈ sigW, (match s.cps.toList.getLast? with | some c => !(decide (c ∈ SolS.cps.toList)) || decide (s ∈ soloW) | none => true) = true := by decide +kernel
    have f := q s hs
    have h2 : s.cps.toList.getLast? = some c := h
    rw [h2] at f
    have f2 : (!(decide (c ∈ SolS.cps.toList)) || decide (s ∈ soloW)) = true := f
    rw [decide_eq_true m] at f2
    exact ⟨s, of_decide_eq_true (by simpa using f2), rfl⟩
theorem solo_wt {w : Wo} (ok : w.Ok) (h : wt w ∈ soloW) : Solo w := by
  obtain ⟨c, hc, _⟩ := solo_hd h
  have hc2 : w.cs = [c] := hc
  refine solo_last ok (c := c) (by rw [hc2]; rfl) ?_
  have q : ∀ s ∈ soloW, ∀ c ∈ s.cps.toList, c ∈ SolS.cps.toList := by decide +kernel
  exact q _ h c (by rw [hc]; exact List.mem_cons_self)
theorem atI_last {α : Type} {xs : List α} {x : α} (h : xs.getLast? = some x) : atI xs (-1) = some x := by
  cases xs with
  | nil => cases h
  | cons y ys =>
    unfold atI ixN
    rw [if_neg (by decide), if_pos (by rw [List.length_cons]; omega)]
    rw [List.getLast?_eq_getElem?] at h
    show (y :: ys)[(-1 + ((y :: ys).length : Int)).toNat]? = some x
    rw [← h]
    congr 1
    rw [List.length_cons]
    omega
theorem lay_len {ps : List Pc} (g : Gap ps) (h : lay ps = []) : ps = [] := by
  cases ps with
  | nil => rfl
  | cons p r =>
    obtain ⟨c, x, e, _⟩ := Wo.hd g.2.1
    have z : p.1 ++ (p.2.cs ++ lay r) = [] := h
    rw [e] at z
    simp at z
theorem lay_last {ps : List Pc} {q : Pc} (ok : q.2.Ok) : (lay (ps ++ [q])).getLast? = q.2.cs.getLast? := by
  rw [lay_app, lay_one]
  obtain ⟨c, x, e, _⟩ := Wo.hd ok
  rw [← List.append_assoc]
  have ne : q.2.cs ≠ [] := by rw [e]; exact fun z => nomatch z
  rw [List.getLast?_append]
  cases h : q.2.cs.getLast? with
  | none => exact absurd (List.getLast?_eq_none_iff.mp h) ne
  | some y => rfl
theorem gap_ok : ∀ {ps : List Pc}, Gap ps → ∀ p ∈ ps, p.2.Ok
  | p :: r, g, q, m => by
    rcases List.mem_cons.mp m with rfl | m
    · exact g.2.1
    · exact gap_ok g.2.2.2 q m
def spLo : Sp := fun vs H Q _ => ∃ (S p : Addr) (cs : Cel) (ws : List Wo), vs = [.ref S, .ref p] ∧ StA H S cs ∧ p ≠ S ∧ H p = some (.lst (wtl ws)) ∧ (∀ w ∈ ws, w.Ok) ∧ wsz ws ≤ 2000 ∧ ∀ (t : Str) (ps : List Pc) (H' : Hp), But S H H' → StA H' S cs → t.cps.toList = lay ps → Gap ps → ps.map Prod.snd = ws → t.length ≤ wsz ws → Q (.str t) H'
section
variable {P : Program} {w : World} {K : PySem.W.Frag} {mg : Str → Option Value} {base : Heap} {f : Addr} {fd : FuncData}
def NLo : List Str := ["_law_state_here", "_law_tokens_here", "_law_text_here", "_law_token", "_law_least", "_law_k"]
theorem scLo : FnScope NLo ["_law_state_here", "_law_tokens_here"] (defScope sLo) := ⟨rfl, rfl, rfl, by decide +kernel, rfl, by decide +kernel, by decide +kernel⟩
theorem ok_lo (F : Fun K "_law_loose" "_law_loose" sLo f fd) (gr : mg "range" = none) (DR : Df P w K mg base "_law_draw" ["_law_state_here", "_law_many"] 2 spDrw) : FnOk P w K mg base CX0 3 f fd ["_law_state_here", "_law_tokens_here"] spLo := by
  refine F.ok scLo (fun vs H Q E h => ?_) (fun cdv A outer s H vs Q E hr h => ?_)
  · obtain ⟨S, p, cs, ws, rfl, _⟩ := h
    rfl
  · obtain ⟨S, p, cs, ws, rfl, st, pS, hp, ok, sz, kQ⟩ := h
    have hr2 : Room 2 _ := hr
    refine ⟨_, pss_cons (ps_set (i := 2) scLo.nd rfl (Or.inl rfl) pe_str)
      (pss_cons (ps_for PassesOwn.never rfl (pi_list (pv 1)) (pg_name (i := 3) scLo.nd rfl (Or.inl rfl))
        (pss_cut (ps_set (i := 4) scLo.nd rfl (Or.inl rfl) (pe_ifExp (PW.pt (pw_or (pt_cmpR op_in_seq (pv 3) (pe_tup (pa_cons pe_str (pa_cons pe_str (pa_cons pe_str (pa_cons pe_str (pa_cons pe_str (pa_cons pe_str pa_nil))))))) rfl) (pw_or (pt_cmpR op_eq (pv 2) pe_str (nomark _)) (pw_or1 (pt_cmpR op_in_sign (pe_ix ix_str (pv 2) (pe_un un_neg pe_int) (fun _ _ => rfl)) pe_str rfl))))) pe_int pe_int))
        (pss_cons (ps_for PassesOwn.never rfl (pi_range1 rfl gr (pa_cons (pe_op op_add (pv 4) (pe_df DR hr2 rfl (pa_cons (pv 0) (pa_cons pe_int pa_nil)))) pa_nil)) (pg_name (i := 5) scLo.nd rfl (Or.inl rfl))
          (pss_one (ps_set (i := 2) scLo.nd rfl (Or.inl rfl) (pe_op op_add_str (pv 2) (pe_ix ix_str pe_str (pe_df DR hr2 rfl (pa_cons (pv 0) (pa_cons pe_int pa_nil))) (fun _ _ => rfl))))))
        (pss_one (ps_set (i := 2) scLo.nd rfl (Or.inl rfl) (pe_op op_add_str (pv 2) (pv 3)))))))
      (pss_one (ps_ret (pv 2)))), ?_⟩
    have blkE : BLK.cps.toList.length = 3 := by decide +kernel
    refine q_asg ev_c fun H1 e1 => ?_
    refine q_forLn (ev_var rfl) (SqL.of (e1 _ _ hp)) (fun i σ' H' => ∃ (t : Str) (ps : List Pc) (o3 o4 o5 : Option V), σ' = [some (.ref S), some (.ref p), some (.str t), o3, o4, o5] ∧ But S H H' ∧ StA H' S cs ∧ sgs t = lay ps ∧ Gap ps ∧ ps.map Prod.snd = ws.take i ∧ t.length ≤ wsz (ws.take i)) ?_ ?_ ?_ ?_
    · intro H2 e2
      exact ⟨"", [], _, _, _, rfl, But.ofEx (e1.trans e2), st.ex (e1.trans e2), rfl, trivial, rfl, Nat.zero_le _⟩
    · rintro i σ' H' hi ⟨t, ps, o3, o4, o5, rfl, b, _⟩
      exact SqL.of (b p _ pS hp)
    · rintro i x σ' H2 hx ⟨t, ps, o3, o4, o5, rfl, b2, st2, ht, gp, hm, hl⟩
      obtain ⟨wd, hwd⟩ : ∃ wd, ws[i]? = some wd := by
        have lx := (List.getElem?_eq_some_iff.mp hx).1
        rw [wtl_len] at lx
        exact ⟨_, List.getElem?_eq_getElem lx⟩
      have hx2 : x = .str (wt wd) := by
        unfold wtl at hx
        rw [List.getElem?_map, hwd] at hx
        exact (Option.some.inj hx).symm
      subst hx2
      have okw := ok wd (List.mem_of_getElem? hwd)
      have szt : wsz (ws.take i) + (wd.cs.length + 2) ≤ 2000 := by
        have z : wsz ws = wsz (ws.take i) + wsz (ws.drop i) := by rw [← wsz_app, List.take_append_drop]
        rw [drop_at hwd, wsz_cons] at z
        omega
      have wl : (wt wd).length = wd.cs.length := mkS_len
      -- whether a blank is due
      have cond : ∃ c : Bool, EvT (tOr (tTest (tOp (rIn K false) (tVar 3) (tTup (tCons (tC (.str "(")) (tCons (tC (.str ")")) (tCons (tC (.str "{")) (tCons (tC (.str "}")) (tCons (tC (.str ",")) (tCons (tC (.str ";")) tNil))))))))) (tOr (tTest (tOp rEq (tVar 2) (tC (.str "")))) (tTest (tOp (fun x y H Q => ∃ (c : Nat) (z : Str), x = .str ⟨#[c]⟩ ∧ y = .str z ∧ Q (.bl (decide (c ∈ z.cps.toList))) H) (tOp rIxS (tVar 2) (tUn (fun x H Q => ∃ i : Int, x = .int i ∧ Q (.int (-i)) H) (tC (.int 1)))) (tC (.str "(){},;")))))) ([some (.ref S), some (.ref p), some (.str t), some (.str (wt wd)), o4, o5] : L2.St) H2 c ∧ (c = true → ∀ q, ps.getLast? = some q → Solo q.2 ∨ Solo wd) := by
        have tA : EvT (tTest (tOp (rIn K false) (tVar 3) (tTup (tCons (tC (.str "(")) (tCons (tC (.str ")")) (tCons (tC (.str "{")) (tCons (tC (.str "}")) (tCons (tC (.str ",")) (tCons (tC (.str ";")) tNil))))))))) ([some (.ref S), some (.ref p), some (.str t), some (.str (wt wd)), o4, o5] : L2.St) H2 (decide (wt wd ∈ soloW)) := et_is (et_test (ev_inW (ws := soloW) rfl sc_s (ea_cons ev_c (ea_cons ev_c (ea_cons ev_c (ea_cons ev_c (ea_cons ev_c (ea_cons ev_c ea_nil)))))) (by decide))) (inV_strs _ _)
        have tB : ∀ {G : Hp}, EvT (tTest (tOp rEq (tVar 2) (tC (.str "")))) ([some (.ref S), some (.ref p), some (.str t), some (.str (wt wd)), o4, o5] : L2.St) G (decide (t = "")) := et_is (et_test (ev_op (ev_var rfl) ev_c (rv_eq rfl))) dec_str
        by_cases hA : wt wd ∈ soloW
        · refine ⟨true, et_is (et_or (b := true) tA fun z => ?_) (by rw [decide_eq_true hA]; rfl), fun _ q _ => .inr (solo_wt okw hA)⟩
          rw [decide_eq_true hA] at z
          cases z
        · by_cases hB : t = ""
          · refine ⟨true, et_is (et_or (b := true) tA fun _ => fun G y Q q => et_or (H := G) (b := true) tB (fun z => by rw [decide_eq_true hB] at z; cases z) G (Ex.refl _) Q (by rw [decide_eq_true hB]; exact q)) (by rw [Bool.or_true]), fun _ q hq => ?_⟩
            have p0 : ps = [] := lay_len gp (by rw [← ht, hB]; rfl)
            rw [p0] at hq
            cases hq
          · obtain ⟨c, hc⟩ : ∃ c, (sgs t).getLast? = some c := by
              cases h : (sgs t).getLast? with
              | some c => exact ⟨c, rfl⟩
              | none =>
                have z := List.getLast?_eq_none_iff.mp h
                exact absurd (str_ext (b := "") z) hB
            have tC : ∀ {G : Hp}, EvT (tTest (tOp (fun x y H Q => ∃ (c : Nat) (z : Str), x = .str ⟨#[c]⟩ ∧ y = .str z ∧ Q (.bl (decide (c ∈ z.cps.toList))) H) (tOp rIxS (tVar 2) (tUn (fun x H Q => ∃ i : Int, x = .int i ∧ Q (.int (-i)) H) (tC (.int 1)))) (tC (.str "(){},;")))) ([some (.ref S), some (.ref p), some (.str t), some (.str (wt wd)), o4, o5] : L2.St) G (decide (c ∈ SolS.cps.toList)) := fun {G} => et_test fun G1 y Q q => ⟨_, rfl, 1, rfl, t, -1, c, rfl, rfl, sz_of (by omega), atI_last hc, c, "(){},;", rfl, rfl, q G1 (Ex.refl _)⟩
            refine ⟨decide (c ∈ SolS.cps.toList), et_is (et_or (a := false) (b := decide (c ∈ SolS.cps.toList)) (et_is tA (decide_eq_false hA)) fun _ => fun G y Q q => et_or (H := G) (a := false) (b := decide (c ∈ SolS.cps.toList)) (et_is tB (decide_eq_false hB)) (fun _ => tC) G (Ex.refl _) Q (by rw [Bool.false_or]; exact q)) (by rw [Bool.false_or]), fun hcT q hq => .inl ?_⟩
            obtain ⟨ps0, e⟩ := List.getLast?_eq_some_iff.mp hq
            have okq := gap_ok gp q (List.mem_of_getLast? hq)
            rw [ht, e, lay_last okq] at hc
            exact solo_last okq hc (of_decide_eq_true hcT)
      obtain ⟨c, evc, hcS⟩ := cond
      refine q_cut (M := fun σ' H' => ∃ l : Int, σ' = [some (.ref S), some (.ref p), some (.str t), some (.str (wt wd)), some (.int l), o5] ∧ But S H H' ∧ StA H' S cs ∧ (l = 1 ∨ (l = 0 ∧ ∀ q, ps.getLast? = some q → Solo q.2 ∨ Solo wd))) ?_ ?_
      · refine evc H2 (Ex.refl _) _ fun H3 e3 => ?_
        cases c with
        | true => exact ⟨0, rfl, b2.ex e3, st2.ex e3, .inr ⟨rfl, hcS rfl⟩⟩
        | false => exact ⟨1, rfl, b2.ex e3, st2.ex e3, .inl rfl⟩
      · rintro σ3 H3 ⟨l, rfl, b3, st3, hl3⟩
        have l01 : 0 ≤ l ∧ l ≤ 1 := by rcases hl3 with z | ⟨z, _⟩ <;> omega
        refine ⟨_, rfl, _, rfl, S, 2, cs, rfl, by decide, by decide, st3, fun u H4 b4 st4 u0 u1 => ⟨l, u, rfl, rfl, l + u, rfl, by omega, by omega, ?_⟩⟩
        refine for_range (lo := 0) (n := (l + u).toNat) (fun j σ' H' => ∃ (b : List Nat) (o5 : Option V), σ' = [some (.ref S), some (.ref p), some (.str (t ++ mkS b)), some (.str (wt wd)), some (.int l), o5] ∧ But S H H' ∧ StA H' S cs ∧ Bk b ∧ b.length = j) ?_ ?_ ?_
        · refine ⟨[], o5, ?_, b3.trans b4, st4, bk_nil, rfl⟩
          have z : t ++ mkS [] = t := str_ext (by rw [sgs_app]; show sgs t ++ [] = _; rw [List.append_nil])
          rw [z]
        · rintro j σ' H5 hj ⟨b, o5, rfl, b5, st5, kb, bl⟩
          refine ⟨_, rfl, _, rfl, S, 3, cs, rfl, by decide, by decide, st5, fun y H6 b6 st6 y0 y1 => ?_⟩
          obtain ⟨y, rfl⟩ := Int.eq_ofNat_of_zero_le y0
          have yl : y < BLK.cps.toList.length := by omega
          have hc : BLK.cps.toList[y]? = some BLK.cps.toList[y] := List.getElem?_eq_getElem yl
          generalize BLK.cps.toList[y] = cc at hc
          have ml : (mkS b).length = b.length := mkS_len
          have tl : (t ++ mkS b).length = t.length + b.length := by rw [app_len, ml]
          refine ⟨BLK, (y : Int), cc, rfl, rfl, by decide +kernel, atI_nat hc, t ++ mkS b, ⟨#[cc]⟩, rfl, rfl, ?_, ?_⟩
          · rw [tl]
            show t.length + b.length + 1 ≤ 16777216
            omega
          · refine ⟨b ++ [cc], some (.int (0 + (j : Int))), ?_, b5.trans b6, st6, bk_app kb (fun d hd => ?_), by rw [List.length_append, bl]; rfl⟩
            · have z : (t ++ mkS b) ++ (⟨#[cc]⟩ : Str) = t ++ mkS (b ++ [cc]) := str_ext (by
                rw [sgs_app, sgs_app, sgs_app]
                show (sgs t ++ b) ++ [cc] = sgs t ++ (b ++ [cc])
                rw [List.append_assoc])
              rw [← z]
              rfl
            · cases List.mem_singleton.mp hd
              exact List.mem_of_getElem? hc
        · rintro σ' H5 ⟨b, o5, rfl, b5, st5, kb, bl⟩
          have ml : (mkS b).length = b.length := mkS_len
          have tl : (t ++ mkS b).length = t.length + b.length := by rw [app_len, ml]
          have b2' : b.length ≤ 2 := by omega
          refine s_asg (ev_cat (ev_var rfl) (ev_var rfl) (by omega)) fun H6 e6 => ?_
          refine ⟨(t ++ mkS b) ++ wt wd, ps ++ [(b, wd)], _, _, _, rfl, b5.ex e6, st5.ex e6, ?_, ?_, ?_, ?_⟩
          · rw [sgs_app, sgs_app, ht, lay_app, lay_one, List.append_assoc]
            rfl
          · refine gap_snoc kb okw gp fun q hq => ?_
            rcases hl3 with z | ⟨z, hz⟩
            · refine .inl fun zb => ?_
              have zb2 : b.length = 0 := by
                show b.length = 0
                have : b = [] := zb
                rw [this]
                rfl
              omega
            · exact .inr (hz q hq)
          · rw [List.map_append, hm, take_at hwd]
            rfl
          · rw [take_at hwd, wsz_app, wsz_cons, wsz_nil, app_len, tl]
            omega
    · rintro σ' H2 ⟨t, ps, o3, o4, o5, rfl, b2, st2, ht, gp, hm, hl⟩
      rw [wtl_len, List.take_length] at hm hl
      exact ⟨_, rfl, kQ t ps H2 b2 st2 ht gp hm hl⟩
end
end K72
set_option maxHeartbeats 8000000
namespace K72
open PySem PySem.Spec PyProof.Rows L2 Evl My LamX
/-! The class Script, as the law asks it -/
abbrev sRd : Stmt := top 59
abbrev sIr : Stmt := top 60
structure ScM (P : Program) (w : World) (K : PySem.W.Frag) (mg : Str → Option Value) (base : Heap) (C : Addr) : Prop where
  c : ScC K C
  i : LvI K C
  nC : PySem.W.notFirst K C (.ref C) = true
  sf : PySem.W.selfFirst K C = true
  g : mg "Script" = some (.ref C)
  eq : ∃ (f : Addr) (fd : FuncData), PySem.W.findIn K (.ref C) "__eq__" = some (some (.ref f)) ∧ PySem.W.isFn K (.ref f) = true ∧ FnOk P w K mg base CX0 1 f fd ["self", "other"] (spEq K C) ∧ Binds K fd ["self", "other"] []
  add : ∃ (f : Addr) (fd : FuncData), PySem.W.findIn K (.ref C) "__add__" = some (some (.ref f)) ∧ PySem.W.isFn K (.ref f) = true ∧ FnOk P w K mg base CX0 3 f fd ["self", "other"] (spAdd K C) ∧ Binds K fd ["self", "other"] []
  len : ∃ (f : Addr) (fd : FuncData), PySem.W.findIn K (.ref C) "__len__" = some (some (.ref f)) ∧ PySem.W.typeIn K (.ref f) = some (.type "function") ∧ FnOk P w K mg base CX0 1 f fd ["self"] (spLen K C) ∧ Binds K fd ["self"] []
  str : ∃ (f : Addr) (fd : FuncData), PySem.W.findIn K (.ref C) "__str__" = some (some (.ref f)) ∧ PySem.W.isFn K (.ref f) = true ∧ FnOk P w K mg base CX0 24 f fd ["self"] (spStr K C 4 3) ∧ Binds K fd ["self"] []
  in_ : ∃ (f : Addr) (fd : FuncData), PySem.W.findIn K (.ref C) "__contains__" = some (some (.ref f)) ∧ PySem.W.typeIn K (.ref f) = some (.type "function") ∧ FnOk P w K mg base CX0 9 f fd ["self", "word"] (spIn K C 4 3) ∧ Binds K fd ["self", "word"] []
  rd : ∃ (mc : Value) (p f : Addr) (fd : FuncData), ClX.CRead K C mc ∧ SMet K C mc "read" p f ∧ FnOk P w K mg base CX0 81 f fd ["text"] (spRead K C 7 2) ∧ Binds K fd ["text"] []
section
variable {X : Cx} {C : Addr}
theorem op_eqS (M : ScM X.prog X.w X.K X.mg X.base C) (hr : Room 1 X.A) : OpR X (compareOp .Eq) (rOwnI X.K C (spEq X.K C) E0) := by
  obtain ⟨f, fd, h1, h2, F, b⟩ := M.eq
  exact op_ownI (fun _ _ => rfl) h1 h2 F b hr passN
theorem op_addS (M : ScM X.prog X.w X.K X.mg X.base C) (hr : Room 3 X.A) : OpR X (binaryOp .Add) (rBinI C (spAdd X.K C) E0) := by
  obtain ⟨f, fd, h1, h2, F, b⟩ := M.add
  exact op_binI M.sf h1 h2 F b hr passN
theorem call_lenS (M : ScM X.prog X.w X.K X.mg X.base C) (hr : Room 2 X.A) : L2.CallR X (.builtin "len") (rLenI C (spLen X.K C) E0) := by
  obtain ⟨f, fd, h1, h2, F, b⟩ := M.len
  exact call_lenI h1 h2 F b hr (fun _ _ _ _ _ _ _ h => h.elim)
theorem call_strS (M : ScM X.prog X.w X.K X.mg X.base C) (hr : Room 26 X.A) : L2.CallR X (.type "str") (rStrI C (spStr X.K C 4 3) E0) := by
  obtain ⟨f, fd, h1, h2, F, b⟩ := M.str
  exact call_strI h1 h2 F b hr passN
theorem op_inS (M : ScM X.prog X.w X.K X.mg X.base C) (hr : Room 9 X.A) : OpR X (compareOp .In) (rInI C (spIn X.K C 4 3) E0 false) := by
  obtain ⟨f, fd, h1, h2, F, b⟩ := M.in_
  exact op_inI h1 h2 F b hr passN
theorem pe_readS {e : Expr} {t : TA} {p apos pos : Pos} {pl : Sem Bool} (M : ScM X.prog X.w X.K X.mg X.base C) (hr : Room 81 X.A) (hg : Gl X "Script") (ha : L2.PA X [e] t)
    (hst : starEach [e] X.env = (false, eval e X.env) :: starEach [] X.env := by rfl) (hpl : (backTo pos (starEach [] X.env)).any (·.1) = false := by rfl)
    (ht : eval (.Call (.Attribute (.Name "Script" p) "read" apos) [e] [] pos) X.env = (do
      let ov ← eval (.Name "Script" p) X.env
      standAt apos.atName
      let (f, first) ← holding [ov] (getMethod ov "read" pl)
      callWith pos f first (backTo pos (starEach [e] X.env)) (backToKw pos (keywordEach [] X.env))) := by rfl) :
    PE X (.Call (.Attribute (.Name "Script" p) "read" apos) [e] [] pos) (tSMeth C (spRead X.K C 7 2) E0 (tC (.ref C)) t) := by
  obtain ⟨mc, q, f, fd, r, c, F, b⟩ := M.rd
  exact pe_smeth (pe_glob (v := .ref C) hg M.g rfl) r c F b hr passN ha hst hpl ht
end
section
variable {P : Program} {w : World} {mg : Str → Option Value} {base : Heap} {K : PySem.W.Frag} {C S S1 S2 : Addr} {σ : L2.St} {H : Hp} {b b2 : List Stm} {ta tb : TE} {s : Str}
theorem sh_nil : SeqAt.shaped (.tuple (stDs [])) = true := by
  rw [stDs]
  decide +kernel
theorem ev_eqSS (M : ScM P w K mg base C) (ha : Ev ta σ H (.ref S1)) (hb : Ev tb σ H (.ref S2)) (s1 : ScAt K C H S1 (stDs b)) (s2 : ScAt K C H S2 (stDs b2)) (g1 : SeqAt.shaped (.tuple (stDs b)) = true) (g2 : SeqAt.shaped (.tuple (stDs b2)) = true) : Ev (tOp (rOwnI K C (spEq K C) E0) ta tb) σ H (.bl (PyData.eqv (.tuple (stDs b)) (.tuple (stDs b2)))) := fun H1 e Q q =>
  ha H1 e _ fun H2 e2 => hb H2 (e.trans e2) _ fun H3 e3 => by
    have a1 := s1.ext ((e.trans e2).trans e3)
    have a2 := s2.ext ((e.trans e2).trans e3)
    obtain ⟨dx, v, h1, h2⟩ := id a1
    obtain ⟨dx2, v2, k1, k2⟩ := id a2
    exact ⟨S1, dx, _, .ref C, rfl, h1, .base (.ins k1 M.c.cl M.i.ha M.i.hn M.i.htk M.i.hm), M.nC, S1, .ref S2, _, rfl, a1, nd_sts b, g1, .inl ⟨S2, _, rfl, a2, nd_sts b2, g2, fun H4 e4 => q H4 ((e2.trans e3).trans e4)⟩⟩
theorem mk_S {Q : VK} (q : ∀ S H2, H S = none → Ex H H2 → ScAt K C H2 S (stDs []) → Q (.ref S) H2) : tMkD K C (spSI K C) σ H Q := fun d hd S dS nS ndS dd =>
  ⟨S, dS, .ref d, [], rfl, upd_same, .tup (hd _) .nil, fun H3 b3 sc => ⟨rfl, q S H3 nS (ex_made (Ex.refl _) nS ndS b3) (by rw [stDs]; exact sc)⟩⟩
theorem ev_eqSM (M : ScM P w K mg base C) (ha : Ev ta σ H (.ref S1)) (s1 : ScAt K C H S1 (stDs b)) (g1 : SeqAt.shaped (.tuple (stDs b)) = true) : Ev (tOp (rOwnI K C (spEq K C) E0) ta (tMkD K C (spSI K C))) σ H (.bl (PyData.eqv (.tuple (stDs b)) (.tuple (stDs [])))) := fun H1 e Q q =>
  ha H1 e _ fun H2 e2 => mk_S fun S2 H3 n3 e3 a2 => by
    have a1 := s1.ext ((e.trans e2).trans e3)
    obtain ⟨dx, v, h1, h2⟩ := id a1
    obtain ⟨dx2, v2, k1, k2⟩ := id a2
    exact ⟨S1, dx, _, .ref C, rfl, h1, .base (.ins k1 M.c.cl M.i.ha M.i.hn M.i.htk M.i.hm), M.nC, S1, .ref S2, _, rfl, a1, nd_sts b, g1, .inl ⟨S2, _, rfl, a2, nd_sts [], sh_nil, fun H4 e4 => q H4 ((e2.trans e3).trans e4)⟩⟩
theorem ev_lenS (ha : Ev ta σ H (.ref S)) (s : ScAt K C H S (stDs b)) (ln : b.length ≤ 900) : Ev (tCB (rLenI C (spLen K C) E0) (tCons ta tNil)) σ H (.int (b.length : Int)) := fun H1 e Q q =>
  ha H1 e _ fun H2 e2 => by
    have a1 := s.ext (e.trans e2)
    obtain ⟨dx, v, h1, h2⟩ := id a1
    exact ⟨S, dx, _, rfl, h1, S, _, rfl, a1, fun H3 e3 => ⟨b.length, by rw [stDs_len], by omega, q H3 (e2.trans e3)⟩⟩
theorem ev_strS (ha : Ev ta σ H (.ref S)) (s : ScAt K C H S (stDs b)) (B : Blk2 b) : Ev (tCB (rStrI C (spStr K C 4 3) E0) (tCons ta tNil)) σ H (.str (Txt.join "\n" (stLs b))) := fun H1 e Q q =>
  ha H1 e _ fun H2 e2 => by
    have a1 := s.ext (e.trans e2)
    obtain ⟨dx, v, h1, h2⟩ := id a1
    exact ⟨S, dx, _, rfl, h1, S, b, rfl, a1, B.fs, B.fl, by have := B.l; omega, fun H3 e3 => ⟨_, rfl, q H3 (e2.trans e3)⟩⟩
theorem Blk2.wl {b : List Stm} (B : Blk2 b) : (stWs b).length ≤ 900 := by
  have := stW_le.2 b
  have := B.n
  omega
theorem ev_inSc {x : Str} (ha : Ev ta σ H (.str x)) (hb : Ev tb σ H (.ref S)) (s : ScAt K C H S (stDs b)) (B : Blk2 b) : Ev (tOp (rInI C (spIn K C 4 3) E0 false) ta tb) σ H (.bl (decide (x ∈ stWs b))) := fun H1 e Q q =>
  ha H1 e _ fun H2 e2 => hb H2 (e.trans e2) _ fun H3 e3 => by
    have a1 := s.ext ((e.trans e2).trans e3)
    obtain ⟨dx, v, h1, h2⟩ := id a1
    exact ⟨S, dx, _, rfl, h1, S, b, x, rfl, a1, B.fs, by have := B.l; omega, B.wl, fun H4 e4 => ⟨_, rfl, q H4 ((e2.trans e3).trans e4)⟩⟩
theorem ed_wordsS (ha : Ev ta σ H (.ref S)) (s : ScAt K C H S (stDs b)) (B : Blk2 b) : EvD K (tListG (tMethG C "call_words" (spGW K C 4 3) [] E0 ta tNil)) σ H (.list ((stWs b).map PyData.str)) := fun H1 e Q q =>
  ha H1 e _ fun H2 e2 => by
    have a1 := s.ext (e.trans e2)
    obtain ⟨dx, v, h1, h2⟩ := id a1
    exact ⟨S, dx, _, rfl, h1, rfl, S, b, rfl, a1, B.fs, by have := B.l; omega, B.wl, fun H3 e3 p np => q _ _ ((e2.trans e3).trans (Ex.new np)) (.lst (SqL.of upd_same) (Dds.strs _))⟩
/-- Script.read of the written form -/
theorem rd_wr {Q : VK} {t : TA} (ht : EvA t σ H [.str (Txt.join "\n" (stLs b))]) (B : Blk2 b) (k : ∀ S H', H S = none → Ex H H' → ScAt K C H' S (stDs b) → Q (.ref S) H') : tSMeth C (spRead K C 7 2) E0 (tC (.ref C)) t σ H Q := by
  obtain ⟨kk, items, run, ly, ps⟩ := read_wr B.d
  exact ⟨rfl, ht H (Ex.refl _) _ fun H1 e1 => ⟨_, kk, items, _, rfl, B.tl, run, ly, ps, by rw [stDs_len]; have := B.l; omega, fun S H2 nS e2 sc => k S H2 (fresh_back e1 nS) (e1.trans e2) sc⟩⟩
end
/-! the words are words that can be called -/
def argW : List Str := ARGN.map Prod.fst
theorem exW_arg : ∀ k {e : Exp}, Dn k e → ∀ x ∈ exW e, x ∈ argW := by
  have st : ∀ {D : Exp → Prop}, (∀ {e : Exp}, D e → ∀ x ∈ exW e, x ∈ argW) → ∀ {e : Exp}, DnS D e → ∀ x ∈ exW e, x ∈ argW := fun {D} ih {e} d x m => by
    have all : ∀ {es : List Exp}, (∀ y ∈ es, D y) → x ∈ exWs es → x ∈ argW := fun {es} h m => by
      rw [exWs_flat] at m
      obtain ⟨l, ml, mx⟩ := List.mem_flatten.mp m
      obtain ⟨y, my, rfl⟩ := List.mem_map.mp ml
      exact ih (h y my) x mx
    cases d with
    | num _ =>
      rw [exW] at m
      cases m
    | txt _ _ =>
      rw [exW] at m
      cases m
    | var _ _ =>
      rw [exW] at m
      cases m
    | @call s e0 es hs hd hds =>
      rw [exW] at m
      rcases List.mem_append.mp m with m | m
      · exact all (fun y my => (List.mem_cons.mp my).elim (fun z => z ▸ hd) (hds y)) m
      · cases List.mem_singleton.mp m
        exact List.mem_map.mpr ⟨_, hs, rfl⟩
    | @row g ss o es g5 hs ln h2 l1 l3 hd hds =>
      rw [exW] at m
      rcases List.mem_append.mp m with m | m
      · exact ih hd x m
      · exact all hds m
  intro k
  induction k with
  | zero => exact fun d => st (D := fun _ => False) (fun z => False.elim z) d
  | succ k ih => exact fun d => st (fun z => ih z) d
theorem stW_arg : ∀ m {s : Stm}, Ds m s → ∀ x ∈ stW s, x ∈ argW := by
  have st : ∀ {B : List Stm → Prop}, (∀ {b : List Stm}, B b → ∀ x ∈ stWs b, x ∈ argW) → ∀ {s : Stm}, DsS (Dn 2) B s → ∀ x ∈ stW s, x ∈ argW := fun {B} ih {s} d x m => by
    cases d with
    | set _ _ he =>
      rw [stW] at m
      exact exW_arg 2 he x m
    | tell he =>
      rw [stW] at m
      exact exW_arg 2 he x m
    | do_ he =>
      rw [stW] at m
      exact exW_arg 2 he x m
    | while_ he hb =>
      rw [stW] at m
      exact (List.mem_append.mp m).elim (exW_arg 2 he x) (ih hb x)
    | for_ _ _ he hb =>
      rw [stW] at m
      exact (List.mem_append.mp m).elim (exW_arg 2 he x) (ih hb x)
    | if_ he hb hc =>
      rw [stW] at m
      exact (List.mem_append.mp m).elim (exW_arg 2 he x) fun m => (List.mem_append.mp m).elim (ih hb x) (ih hc x)
    | try_ hb hc =>
      rw [stW] at m
      exact (List.mem_append.mp m).elim (ih hb x) (ih hc x)
  intro m
  induction m with
  | zero => exact fun d => st (B := fun _ => False) (fun z => False.elim z) d
  | succ m ih => exact fun d => st (B := DsB (Ds m)) (fun {b} z x mx => by
      rw [stWs_flat] at mx
      obtain ⟨l, ml, mx⟩ := List.mem_flatten.mp mx
      obtain ⟨y, my, rfl⟩ := List.mem_map.mp ml
      exact ih (z.2 y my) x mx) d
theorem argW_sok : ∀ x ∈ argW, PyData.strOk x = true := by decide +kernel
theorem Blk2.wsh {b : List Stm} (B : Blk2 b) : SeqAt.shaped (.list ((stWs b).map PyData.str)) = true := by
  refine (sh_lst (n := 0) (.of fun d m => ?_)).shaped (by decide)
  obtain ⟨x, mx, rfl⟩ := List.mem_map.mp m
  rw [stWs_flat] at mx
  obtain ⟨l, ml, mx⟩ := List.mem_flatten.mp mx
  obtain ⟨y, my, rfl⟩ := List.mem_map.mp ml
  exact sh_str (argW_sok x (stW_arg 2 (B.d y my) x mx))
theorem nd_strL (ws : List Str) : noDict (.list (ws.map PyData.str)) = true := by
  show noDicts (ws.map PyData.str) = true
  exact nd_strs ws
/-! a drawn script is read -/
def spRd (K : PySem.W.Frag) (C : Addr) : Sp := fun vs H Q _ => ∃ (S : Addr) (cs : Cel) (B : Addr → Prop) (v : V) (b : List Stm), vs = [.ref S, v] ∧ StA H S cs ∧ ¬ B S ∧ DT K H B v (.list (lsDs b)) ∧ (∀ s ∈ b, Ds 2 s) ∧ b.length ≤ 8 ∧ stNs b ≤ 20 ∧ ∀ Sc H', H Sc = none → Cur B S cs H H' → ScAt K C H' Sc (stDs b) → Q (.ref Sc) H'
section
variable {P : Program} {w : World} {K : PySem.W.Frag} {mg : Str → Option Value} {base : Heap} {f C : Addr} {fd : FuncData}
def NRd : List Str := ["_law_state_here", "_law_block_here", "_law_tokens_here", "_law_statement_here"]
theorem scRd : FnScope NRd ["_law_state_here", "_law_block_here"] (defScope sRd) := ⟨rfl, rfl, rfl, by decide +kernel, rfl, by decide +kernel, by decide +kernel⟩
theorem ok_rd {k : Nat} (k81 : 81 ≤ k) (M : ScM P w K mg base C) (F : Fun K "_law_read" "_law_read" sRd f fd) (PC : Df P w K mg base "_law_pieces" ["_law_state_here", "_law_statement_here"] k (spPc K (Ds 2) (TKS Tk2 2))) (LO : Df P w K mg base "_law_loose" ["_law_state_here", "_law_tokens_here"] 3 spLo) : FnOk P w K mg base CX0 (k + 1) f fd ["_law_state_here", "_law_block_here"] (spRd K C) := by
  refine F.ok scRd (fun vs H Q E h => ?_) (fun cdv A outer s H vs Q E hr h => ?_)
  · obtain ⟨S, cs, B, v, b, rfl, _⟩ := h
    rfl
  · obtain ⟨S, cs, B, v, b, rfl, st, nB, g, dd, l8, n20, kQ⟩ := h
    have hrk : Room k _ := hr
    have hr81 : Room 81 _ := hrk.mono k81
    have hr3 : Room 3 _ := hrk.mono (by omega)
    refine ⟨_, pss_cons (ps_set (i := 2) scRd.nd rfl (Or.inl rfl) (pe_lst pa_nil))
      (pss_cons (ps_for PassesOwn.never rfl (pi_list (pv 1)) (pg_name (i := 3) scRd.nd rfl (Or.inl rfl)) (pss_one (ps_set (i := 2) scRd.nd rfl (Or.inl rfl) (pe_op op_cat (pv 2) (pe_df PC hrk rfl (pa_cons (pv 0) (pa_cons (pv 3) pa_nil)))))))
      (pss_one (ps_ret (pe_readS M hr81 rfl (pa_cons (pe_df LO hr3 rfl (pa_cons (pv 0) (pa_cons (pv 2) pa_nil))) pa_nil))))), ?_⟩
    cases g with
    | lst ha hB hs =>
    rename_i a xs
    have xl := hs.len
    rw [lsDs_len] at xl
    refine ⟨Nat.zero_le _, fun p0 np0 => ?_⟩
    have e1 : Ex H (upd H p0 (.lst [])) := Ex.new np0
    have hp0 : (upd H p0 (.lst [])) p0 = some (.lst (wtl [])) := upd_same
    have cur1 : Cur B S cs H (upd H p0 (.lst [])) := (Cur.refl st).ex e1
    show tSeq _ _ _ _ (upd H p0 (.lst []))
    generalize upd H p0 (.lst []) = H1 at e1 hp0 cur1 ⊢
    refine q_forLn (ev_var rfl) (SqL.of (cur1.a.l a xs hB ha)) (fun i σ' H' => ∃ (p : Addr) (us : List Wo) (o3 : Option V), σ' = [some (.ref S), some (.ref a), some (.ref p), o3] ∧ Cur B S cs H H' ∧ H p = none ∧ H' p = some (.lst (wtl us)) ∧ TkM (TKS Tk2 2) (b.take i) us ∧ wsz us ≤ 81 * stNs (b.take i)) ?_ ?_ ?_ ?_
    · intro H2 e2
      exact ⟨p0, [], _, rfl, cur1.ex e2, np0, e2 _ _ hp0, .nil, by rw [wsz_nil]; exact Nat.zero_le _⟩
    · rintro i σ' H' hi ⟨p, us, o3, rfl, c, _⟩
      exact SqL.of (c.a.l a xs hB ha)
    · rintro i x σ' H2 hx ⟨p, us, o3, rfl, cur2, np, hp, tm, sz⟩
      have lx := (List.getElem?_eq_some_iff.mp hx).1
      obtain ⟨si, hsi⟩ : ∃ si, b[i]? = some si := ⟨_, List.getElem?_eq_getElem (by omega)⟩
      have mi := List.mem_of_getElem? hsi
      have nmi := stNs_mem mi
      obtain ⟨vi, hvi, gvi⟩ := hs.at (i := i) (d := lsD si) (by rw [lsDs_map, List.getElem?_map, hsi]; rfl)
      rw [hx] at hvi
      cases hvi
      have ln2 : stNs (b.take i) ≤ 20 := by
        have : stNs (b.take i) + stNs (b.drop i) = stNs b := by rw [← stNs_app, List.take_append_drop]
        omega
      have lu := len_wsz us
      refine ⟨_, rfl, _, rfl, _, rfl, S, cs, B, x, si, rfl, cur2.s, nB, gvi.apt cur2.a, dd si mi, by omega, fun p2 ws2 H3 np2 c3 hp2 t2 sz2 => ?_⟩
      have cur3 := cur2.trans c3
      have lw2 := len_wsz ws2
      refine ⟨p, p2, _, _, rfl, rfl, c3.keep (st.fre2 np).1 hp, hp2, sz_of (by rw [wtl_len, wtl_len]; omega), fun p3 np3 => ?_⟩
      have e4 : Ex H3 (upd H3 p3 (.lst (wtl us ++ wtl ws2))) := Ex.new np3
      refine ⟨p3, us ++ ws2, _, rfl, cur3.ex e4, cur3.fresh np3, ?_, ?_, ?_⟩
      · rw [upd_same, ← wtl_app]
      · rw [take_at hsi]
        exact tm.snoc t2
      · rw [take_at hsi, stNs_app, stNs_one, wsz_app]
        omega
    · rintro σ' H2 ⟨p, us, o3, rfl, cur2, np, hp, tm, sz⟩
      rw [xl, List.take_length] at tm sz
      refine ⟨rfl, _, rfl, _, rfl, S, p, cs, us, rfl, cur2.s, (st.fre2 np).1, hp, ?_, by omega, fun t ps H3 b3 st3 ht gp hm hl => ?_⟩
      · exact tm.ok fun s ws h => TKS.ok (fun e ws t => TKE.ok t) h
      · have cur3 := cur2.dr nB b3 st3
        obtain ⟨kk, items, run, ly, psd⟩ := read_ok (t := t) (h := 6) (n := 6) (m := 2) gp ht (by rw [hm]; exact tm)
        exact ⟨t, kk, items, _, rfl, by omega, run, ly, psd, by rw [stDs_len]; omega, fun Sc H4 nS e4 sc => kQ Sc H4 (cur3.fresh nS) (cur3.ex e4) sc⟩
/-! what is right -/
def spIr (K : PySem.W.Frag) (C : Addr) : Sp := fun vs H Q _ => ∃ (Sc wl : Addr) (v : V) (b : List Stm), vs = [.ref Sc, v, .ref wl] ∧ ScAt K C H Sc (stDs b) ∧ Dd K H v (.list (lsDs b)) ∧ Blk2 b ∧ H wl = some (.lst ((stWs b).map V.str)) ∧ ∀ H', Ex H H' → Q (.bl true) H'
def NIr : List Str := ["_law_found", "_law_block_here", "_law_words_here", "_law_rows_here", "_law_statement_here", "_law_line_here", "_law_again", "_law_word_here", "_law_many"]
theorem scIr : FnScope NIr ["_law_found", "_law_block_here", "_law_words_here"] (defScope sIr) := ⟨rfl, rfl, rfl, by decide +kernel, rfl, by decide +kernel, by decide +kernel⟩
theorem ok_ir {k : Nat} (k81 : 81 ≤ k) (M : ScM P w K mg base C) (F : Fun K "_law_is_right" "_law_is_right" sIr f fd) (gs : mg "str" = none) (gl : mg "len" = none) (gL : mg "list" = none) (MS : Mk1D P w K mg base C "Script" ["self", "statements"] 1 (spSI K C)) (GW : MG P w K mg base C "call_words" ["self"] 9 (spGW K C 4 3))
    (RS : Df P w K mg base "_law_rows" ["_law_statement_here"] k (spRs K (Ds 2))) (CL : Df P w K mg base "_law_calls" [] 1 (spCon K (.list (ARGN.map argD)))) : FnOk P w K mg base CX0 (k + 1) f fd ["_law_found", "_law_block_here", "_law_words_here"] (spIr K C) := by
  refine F.ok scIr (fun vs H Q E h => ?_) (fun cdv A outer s0 H vs Q E hr h => ?_)
  · obtain ⟨Sc, wl, v, b, rfl, _⟩ := h
    rfl
  · obtain ⟨Sc, wl, v, b, rfl, sc, g, B, hw, kQ⟩ := h
    have hrk : Room k _ := hr
    have hr81 : Room 81 _ := hrk.mono k81
    have hr26 : Room 26 _ := hr81.mono (by decide)
    have hr12 : Room 12 _ := hr81.mono (by decide)
    have hr9 : Room 9 _ := hr81.mono (by decide)
    have hr2 : Room 2 _ := hr81.mono (by decide)
    have hr1 : Room 1 _ := hr81.mono (by decide)
    refine ⟨_, pss_cons (ps_set (i := 3) scIr.nd rfl (Or.inl rfl) (pe_lst pa_nil))
      (pss_cons (ps_for PassesOwn.never rfl (pi_list (pv 1)) (pg_name (i := 4) scIr.nd rfl (Or.inl rfl)) (pss_one (ps_set (i := 3) scIr.nd rfl (Or.inl rfl) (pe_op op_cat (pv 3) (pe_df RS hrk rfl (pa_cons (pv 4) pa_nil))))))
      (pss_cons (ps_set (i := 5) scIr.nd rfl (Or.inl rfl) (pe_bm PySem.F.plainAttrs_str PySem.F.slot_str_join PySem.F.type_str_join mt_join pe_str (pa_cons (pv 3) pa_nil)))
      (pss_cons (ps_if (PW.pt (pw_or (pt_cmpR op_ne (pe_callTy (call_strS M hr26) (by rfl) gs (by decide +kernel) (pa_cons (pv 0) pa_nil)) (pv 5) (nomark _))
          (pw_or (pt_cmpR op_ne (pe_callB (call_lenS M hr2) (by rfl) gl (by decide +kernel) (pa_cons (pv 0) pa_nil)) (pe_callB call_len_seq (by rfl) gl PySem.boot_len (pa_cons (pv 1) pa_nil)) (nomark _))
          (pw_or1 (pt_cmpR (op_neD hr1.units) (pe_words GW M.c.cl hr12 (pv 0) (by rfl) gL) (pv 2) (nomark _)))))) (pss_one (ps_ret pe_bl)) pss_nil)
      (pss_cons (ps_set (i := 6) scIr.nd rfl (Or.inl rfl) (pe_readS M hr81 rfl (pa_cons (pv 5) pa_nil)))
      (pss_cons (ps_if (PW.pt (pw_or (pt_not (pt_cmpR (op_eqS M hr1) (pv 6) (pv 0) (nomark _)))
          (pw_or (pt_cmpR op_ne (pe_callTy (call_strS M hr26) (by rfl) gs (by decide +kernel) (pa_cons (pv 6) pa_nil)) (pv 5) (nomark _))
          (pw_or1 (pt_cmpR (op_neD hr1.units) (pe_words GW M.c.cl hr12 (pv 6) (by rfl) gL) (pv 2) (nomark _)))))) (pss_one (ps_ret pe_bl)) pss_nil)
      (pss_cons (ps_for PassesOwn.never rfl (pi_list (pe_df0 CL hr1 rfl)) (pg_tup rfl (pgs_cons (pg_name (i := 7) scIr.nd rfl (Or.inl rfl)) (pgs_cons (pg_name (i := 8) scIr.nd rfl (Or.inl rfl)) pgs_nil)))
        (pss_one (ps_if (pt_cmpR op_ne (pe_cmpR (op_inS M hr9) (pv 7) (pv 0) rfl) (pe_cmpR op_in_seq (pv 7) (pv 2) rfl) (nomark _)) (pss_one (ps_ret pe_bl)) pss_nil)))
      (pss_one (ps_ret (pe_cmpR op_eq (pe_cmpR (op_eqS M hr1) (pv 0) (pe_mkD MS hr2 rfl) (nomark _)) (pe_cmpR (op_eqD hr1.units) (pv 1) (pe_lst pa_nil) (nomark _)) (nomark _)))))))))), ?_⟩
    have B8 := B.l
    have B40 := B.n
    have wlen := B.wl
    cases g with
    | lst sa da =>
    rename_i a xs
    have xl := da.len
    rw [lsDs_len] at xl
    have gv : Dd K H (.ref a) (.list (lsDs b)) := .lst sa da
    have fl := B.fl
    have wd := B.wd
    refine ⟨Nat.zero_le _, fun L nL => ?_⟩
    have eL : Ex H (upd H L (.lst [])) := Ex.new nL
    have hL : (upd H L (.lst [])) L = some (.lst []) := upd_same
    refine q_forLn (ev_var rfl) (ex_l eL sa) (fun i σ' H' => ∃ (acc : List Str) (p : Addr) (o4 : Option V), σ' = [some (.ref Sc), some (.ref a), some (.ref wl), some (.ref p), o4, none, none, none, none] ∧ Ex H H' ∧ H' p = some (.lst (acc.map V.str)) ∧ acc ++ stLs (b.drop i) = stLs b) ?_ ?_ ?_ ?_
    · intro H1 e1
      exact ⟨[], L, _, rfl, eL.trans e1, e1 _ _ hL, by rw [List.drop_zero]; rfl⟩
    · rintro i σ' H' hi ⟨acc, p, o4, rfl, e1, _⟩
      exact ex_l e1 sa
    · rintro i x σ' H' hx ⟨acc, p, o4, rfl, e1, hp, hc⟩
      obtain ⟨dx, hdx, gx⟩ := da.get hx
      obtain ⟨st, hst, rfl⟩ := lsDs_get hdx
      have ms := List.mem_of_getElem? hst
      have n1 := stNs_mem ms
      rw [drop_at hst, stLs, ← List.append_assoc] at hc
      have cl := congrArg List.length hc
      rw [List.length_append, List.length_append] at cl
      have fl1 := fl.1
      have lv : EvL (tCall (spRs K (Ds 2)) [] E0 (tCons (tVar 4) tNil)) ([some (.ref Sc), some (.ref a), some (.ref wl), some (.ref p), some x, none, none, none, none] : L2.St) H' ((stL st).map V.str) := fun G y Q q => ⟨_, rfl, x, st, rfl, Dd.ext (e1.trans y) _ _ gx, B.d st ms, by omega, fun p2 G2 n2 y2 h2 => q p2 G2 n2 y2 h2⟩
      refine s_asgL (el_catV (ev_var rfl) hp lv (by rw [List.length_map, List.length_map]; omega)) fun p2 H2 np2 e2 hp2 => ?_
      exact ⟨acc ++ stL st, p2, _, rfl, e1.trans e2, by rw [hp2, List.map_append], hc⟩
    · rintro σ' H1 ⟨acc, p, o4, rfl, e1, hp, hc⟩
      rw [xl, List.drop_length, stLs, List.append_nil] at hc
      subst hc
      have tl := B.tl
      have js : Ev (tBM K "str" (fun x xs H Q => ∃ a p, ∃ ys : List Str, x = .str a ∧ xs = [.ref p] ∧ (SqL K H p (ys.map V.str) ∨ SqT K H p (ys.map V.str)) ∧ (ys.map (·.length)).sum + ys.length * a.length ≤ 16777216 ∧ Q (.str (Txt.join a ys)) H) (tC (.str "\n")) (tCons (tVar 3) tNil)) ([some (.ref Sc), some (.ref a), some (.ref wl), some (.ref p), o4, none, none, none, none] : L2.St) H1 (.str (Txt.join "\n" (stLs b))) := fun G y Q q =>
        ⟨rfl, _, rfl, "\n", p, stLs b, rfl, rfl, .inl (sq_of (y _ _ hp)), by
          have eN : ("\n" : Str).length = 1 := by decide +kernel
          have z : ((stLs b).map (·.length)).sum + (stLs b).length ≤ Wd 3 (stLs b) := by
            generalize stLs b = ls
            induction ls with
            | nil => exact Nat.zero_le _
            | cons z ls ih =>
              rw [wd_cons, List.map_cons, List.sum_cons, List.length_cons]
              omega
          rw [eN, Nat.mul_one]
          omega, q G (Ex.refl _)⟩
      refine q_asg js fun H2 e2 => ?_
      have e02 := e1.trans e2
      have sc2 := sc.ext e02
      have wE : ∀ {σ : L2.St} {G : Hp}, σ[2]? = some (some (.ref wl)) → Ex H G → EvD K (tVar 2) σ G (.list ((stWs b).map PyData.str)) := fun h e => ed_var h (.lst (sq_of (e _ _ hw)) (Dds.strs _))
      have lenB : ∀ {G : Hp}, Ex H2 G → Ev (tCB (rLenS K) (tCons (tVar 1) tNil)) ([some (.ref Sc), some (.ref a), some (.ref wl), some (.ref p), o4, some (.str (Txt.join "\n" (stLs b))), none, none, none] : L2.St) G (.int (b.length : Int)) := fun {G} y => fun G2 y2 Q2 q2 => ⟨_, rfl, a, xs, rfl, .inl (ex_l ((e02.trans y).trans y2) sa), by rw [xl]; exact q2 G2 (Ex.refl _)⟩
      have refW : PyData.eqv (.list ((stWs b).map PyData.str)) (.list ((stWs b).map PyData.str)) = true := SeqAt.eqv_refl _ (SeqAt.canLay_of_shaped B.wsh)
      have refT : PyData.eqv (.tuple (stDs b)) (.tuple (stDs b)) = true := SeqAt.eqv_refl _ (SeqAt.canLay_of_shaped B.sh)
      refine q_when (b := false) (et_is (et_or (a := false) (b := false) (et_is (et_test (ev_op (ev_strS (ev_var rfl) sc2 B) (ev_var rfl) (rv_ne rfl))) (by rw [decide_eq_true rfl]; rfl)) fun _ => fun G y Q q => et_or (H := G) (a := false) (b := false) (et_is (et_test (ev_op (ev_lenS (ev_var rfl) (sc2.ext y) (by omega)) (lenB y) (rv_ne rfl))) (by rw [decide_eq_true rfl]; rfl)) (fun _ => et_is (et_test (ed_neDS (ed_wordsS (ev_var rfl) (sc2.ext y) B) (wE rfl (e02.trans y)) (nd_strL _) (nd_strL _) B.wsh B.wsh)) (by rw [refW]; rfl)) G (Ex.refl _) Q q) rfl) (fun z => by cases z) fun _ H3 e3 => ?_
      have e03 := e02.trans e3
      refine rd_wr (ea_cons (ev_var rfl) ea_nil) B fun Sa H4 nSa e4 sca => ?_
      have e04 := e03.trans e4
      have sc4 := sc.ext e04
      refine q_when (b := false) (et_is (et_or (a := false) (b := false) (et_is (et_not (et_test (ev_eqSS M (ev_var rfl) (ev_var rfl) sca sc4 B.sh B.sh))) (by rw [refT]; rfl)) fun _ => fun G y Q q => et_or (H := G) (a := false) (b := false) (et_is (et_test (ev_op (ev_strS (ev_var rfl) (sca.ext y) B) (ev_var rfl) (rv_ne rfl))) (by rw [decide_eq_true rfl]; rfl)) (fun _ => et_is (et_test (ed_neDS (ed_wordsS (ev_var rfl) (sca.ext y) B) (wE rfl (e04.trans y)) (nd_strL _) (nd_strL _) B.wsh B.wsh)) (by rw [refW]; rfl)) G (Ex.refl _) Q q) rfl) (fun z => by cases z) fun _ H5 e5 => ?_
      have e05 := e04.trans e5
      refine ⟨rfl, fun v6 H6 e6 g6 => ?_⟩
      have e06 := e05.trans e6
      cases g6 with
      | lst ha6 hB6 hs6 =>
      rename_i a6 xs6
      refine ⟨a6, rfl, ⟨_, SqL.of ha6⟩, for_list (K := K) (xs := xs6) (fun i σ' H' => ∃ (o7 o8 : Option V), σ' = [some (.ref Sc), some (.ref a), some (.ref wl), some (.ref p), o4, some (.str (Txt.join "\n" (stLs b))), some (.ref Sa), o7, o8] ∧ Ex H6 H') ?_ ?_ ?_ ?_⟩
      · exact ⟨_, _, rfl, Ex.refl _⟩
      · rintro i σ' H' hi ⟨o7, o8, rfl, e7⟩
        exact SqL.of (e7 _ _ ha6)
      · rintro i x σ' H7 hx ⟨o7, o8, rfl, e7⟩
        have lx := (List.getElem?_eq_some_iff.mp hx).1
        have l18 := hs6.len
        rw [List.length_map] at l18
        obtain ⟨y, hy⟩ : ∃ y, ARGN[i]? = some y := ⟨_, List.getElem?_eq_getElem (by omega)⟩
        obtain ⟨vy, hvy, gy⟩ := hs6.at (i := i) (d := argD y) (by rw [List.getElem?_map, hy]; rfl)
        rw [hx] at hvy
        cases hvy
        have gy' : DT K H6 (New H5) x (.tuple [.str y.1, .int (y.2 : Int)]) := gy
        cases gy' with
        | tup hq hds2 =>
        rename_i a7 zs
        cases hds2 with
        | cons h1 hds2 =>
        cases hds2 with
        | cons h2 hds2 =>
        cases hds2
        cases h1
        cases h2
        refine ⟨a7, _, rfl, ex_t e7 hq, rfl, _, _, rfl, _, _, rfl, rfl, ?_⟩
        have inW : ∀ {o8 : Option V}, Ev (tOp (rIn K false) (tVar 7) (tVar 2)) ([some (.ref Sc), some (.ref a), some (.ref wl), some (.ref p), o4, some (.str (Txt.join "\n" (stLs b))), some (.ref Sa), some (.str y.1), o8] : L2.St) H7 (.bl (decide (y.1 ∈ stWs b))) := fun {o8} => fun G y2 Q q => ⟨_, rfl, _, rfl, wl, _, rfl, .inl (sq_of (((e06.trans e7).trans y2) _ _ hw)), rfl, flat_strs _, by
          show Q (.bl (inV (.str y.1) ((stWs b).map V.str))) G
          rw [inV_strs]
          exact q G (Ex.refl _)⟩
        refine s_when (b := false) (et_is (et_test (ev_op (ev_inSc (ev_var rfl) (ev_var rfl) (sc.ext (e06.trans e7)) B) inW (rv_ne rfl))) (by rw [decide_eq_true rfl]; rfl)) (fun z => by cases z) fun _ H8 e8 => ⟨_, _, rfl, e7.trans e8⟩
      · rintro σ' H7 ⟨o7, o8, rfl, e7⟩
        have e07 := e06.trans e7
        have gv7 := Dd.ext e07 _ _ gv
        refine s_ret (v := .bl true) (ev_is (ev_op (ev_eqSM M (ev_var rfl) (sc.ext e07) B.sh) (ed_eqD (ed_var rfl gv7) (edl_ed (edl_lst eds_nil (Nat.zero_le _))) (ndw_sts b) rfl ((sh_lss B.d).shaped (by decide)) (by decide +kernel)) (rv_eq rfl)) ?_) fun H8 e8 => kQ H8 (e07.trans e8)
        rw [eqv_nilL, show (PyData.tuple (stDs [])) = .tuple [] by rw [stDs], eqv_nil, decide_eq_true rfl]
end
end K72
set_option maxHeartbeats 16000000
namespace K72
open PySem PySem.Spec PyProof.Rows L2 Evl My LamX
/-! The law -/
abbrev sLaw : Stmt := top 61
theorem stDs_app : ∀ a b : List Stm, stDs (a ++ b) = stDs a ++ stDs b
  | [], b => by
    rw [stDs]
    rfl
  | e :: a, b => by
    show stDs (e :: (a ++ b)) = _
    rw [stDs, stDs, stDs_app a b]
    rfl
/-- what is told stands when the state of the draws is changed -/
theorem dds_but {K : PySem.W.Frag} {H H' : Hp} {S : Addr} {xs ys : List V} (h1 : H S = some (.lst xs)) (h2 : H' S = some (.lst ys)) (b : But S H H') {v : V} {d : PyData} (nl : noList d = true) (g : Dd K H v d) : Dd K H' v d := by
  have e : Ex (upd H S (.lst ys)) H' := fun a o h => by
    by_cases z : a = S
    · subst z
      rw [upd_same] at h
      cases h
      exact h2
    · rw [upd_ne z] at h
      exact b a o z h
  exact Dd.ext e _ _ (Dd.upd h1 d v nl g)
theorem ScAt.but {K : PySem.W.Frag} {C A S : Addr} {H H' : Hp} {ds : List PyData} {cs : Cel} (h : ScAt K C H A ds) (nl : noLists ds = true) (s1 : StA H S cs) (s2 : StA H' S cs) (b : But S H H') : ScAt K C H' A ds := by
  obtain ⟨dx, v, h1, h2⟩ := h
  obtain ⟨xs, x1⟩ := s1.lst
  obtain ⟨ys, x2⟩ := s2.lst
  have n : A ≠ S := fun z => by
    rw [z, x1] at h1
    cases h1
  exact ⟨dx, v, b A _ n h1, dds_but x1 x2 b nl h2⟩
theorem DT.here {K : PySem.W.Frag} {H : Hp} {B : Addr → Prop} {v : V} {d : PyData} (h : DT K H B v d) : DT K H (fun a => B a ∧ H a ≠ none) v d := DT.pres (fun a xs b hx => ⟨hx, b, by rw [hx]; exact fun z => nomatch z⟩) (fun _ _ z => z) d v h
def NLw : List Str := ["_law_script_here", "_law_state_here", "_law_first", "_law_second", "_law_one", "_law_other", "_law_words_here", "_law_joined"]
def spLaw (K : PySem.W.Frag) : Sp := fun vs H Q _ => ∃ (a : Addr) (cs : List Int), vs = [.ref a] ∧ SqL K H a (cs.map V.int) ∧ cs.length ≤ 63 ∧ ∀ H', Q (.bl true) H'
theorem scLaw : FnScope NLw ["_law_script_here"] (defScope sLaw) := ⟨rfl, rfl, rfl, by decide +kernel, rfl, by decide +kernel, by decide +kernel⟩
section
variable {P : Program} {w : World} {K : PySem.W.Frag} {mg : Str → Option Value} {base : Heap} {f C : Addr} {fd : FuncData}
theorem ok_law {k : Nat} (k81 : 81 ≤ k) (F : Fun K "law" "law" sLaw f fd) (gs : mg "str" = none) (M : ScM P w K mg base C) (MS : Mk1D P w K mg base C "Script" ["self", "statements"] 1 (spSI K C))
    (STA : Df P w K mg base "_law_state" ["_law_script_here"] 1 (spSta K)) (SCR : Df P w K mg base "_law_script" ["_law_state_here", "_law_room"] k (spScr K)) (RD : Df P w K mg base "_law_read" ["_law_state_here", "_law_block_here"] k (spRd K C)) (AW : Df P w K mg base "_law_all_words" ["_law_block_here"] k (spAw K fun b => ∀ s ∈ b, Ds 2 s)) (IR : Df P w K mg base "_law_is_right" ["_law_found", "_law_block_here", "_law_words_here"] k (spIr K C)) :
    FnOk P w K mg base CX0 (k + 1) f fd ["_law_script_here"] (spLaw K) := by
  refine F.ok scLaw (fun vs H Q E h => ?_) (fun cdv A outer s0 H vs Q E hr h => ?_)
  · obtain ⟨a, cs, rfl, _⟩ := h
    rfl
  · obtain ⟨a, cs, rfl, hS, cl, kQ⟩ := h
    have hrk : Room k _ := hr
    have hr81 : Room 81 _ := hrk.mono k81
    have hr26 : Room 26 _ := hr81.mono (by decide)
    have hr3 : Room 3 _ := hr81.mono (by decide)
    have hr2 : Room 2 _ := hr81.mono (by decide)
    have hr1 : Room 1 _ := hr81.mono (by decide)
    refine ⟨_, pss_cons (ps_set (i := 1) scLaw.nd rfl (Or.inl rfl) (pe_df STA hr1 rfl (pa_cons (pv 0) pa_nil)))
      (pss_cons (ps_set (i := 2) scLaw.nd rfl (Or.inl rfl) (pe_df SCR hrk rfl (pa_cons (pv 1) (pa_cons (pe_lst (pa_cons pe_int pa_nil)) pa_nil))))
      (pss_cons (ps_set (i := 3) scLaw.nd rfl (Or.inl rfl) (pe_df SCR hrk rfl (pa_cons (pv 1) (pa_cons (pe_lst (pa_cons pe_int pa_nil)) pa_nil))))
      (pss_cons (ps_set (i := 4) scLaw.nd rfl (Or.inl rfl) (pe_df RD hrk rfl (pa_cons (pv 1) (pa_cons (pv 2) pa_nil))))
      (pss_cons (ps_set (i := 5) scLaw.nd rfl (Or.inl rfl) (pe_df RD hrk rfl (pa_cons (pv 1) (pa_cons (pv 3) pa_nil))))
      (pss_cons (ps_set (i := 6) scLaw.nd rfl (Or.inl rfl) (pe_df AW hrk rfl (pa_cons (pv 2) pa_nil)))
      (pss_cons (ps_if (PW.pt (pw_or (pt_not (pt_val (pe_df IR hrk rfl (pa_cons (pv 4) (pa_cons (pv 2) (pa_cons (pv 6) pa_nil)))))) (pw_or1 (pt_not (pt_val (pe_df IR hrk rfl (pa_cons (pv 5) (pa_cons (pv 3) (pa_cons (pe_df AW hrk rfl (pa_cons (pv 3) pa_nil)) pa_nil))))))))) (pss_one (ps_ret pe_bl)) pss_nil)
      (pss_cons (ps_if (pt_cmpR op_ne (pe_cmpR (op_eqS M hr1) (pv 4) (pv 5) (nomark _)) (pe_cmpR (op_eqD hr1.units) (pv 2) (pv 3) (nomark _)) (nomark _)) (pss_one (ps_ret pe_bl)) pss_nil)
      (pss_cons (ps_set (i := 7) scLaw.nd rfl (Or.inl rfl) (pe_op (op_addS M hr3) (pv 4) (pv 5)))
      (pss_cons (ps_if (pt_not (pt_val (pe_df IR hrk rfl (pa_cons (pv 7) (pa_cons (pe_op op_cat (pv 2) (pv 3)) (pa_cons (pe_op op_cat (pv 6) (pe_df AW hrk rfl (pa_cons (pv 3) pa_nil))) pa_nil)))))) (pss_one (ps_ret pe_bl)) pss_nil)
      (pss_one (ps_ret (pe_and (pe_df IR hrk rfl (pa_cons (pv 4) (pa_cons (pv 2) (pa_cons (pv 6) pa_nil)))) (pe_one (pe_cmpR op_eq (pe_callTy (call_strS M hr26) (by rfl) gs (by decide +kernel) (pa_cons (pe_op (op_addS M hr3) (pv 4) (pe_mkD MS hr2 rfl)) pa_nil)) (pe_callTy (call_strS M hr26) (by rfl) gs (by decide +kernel) (pa_cons (pv 4) pa_nil)) (nomark _))))))))))))))), ?_⟩
    -- the state, the first script, the second script
    refine ⟨_, rfl, a, cs, rfl, hS, by omega, fun S H1 Lc nS ex1 st1 => ?_⟩
    refine ⟨_, rfl, (show 1 ≤ sizeLine by decide), fun R nR => ?_⟩
    have eR : Ex H1 (upd H1 R (.lst [.int 14])) := Ex.new nR
    have nRf := st1.fre2 nR
    have srA : StR (upd H1 R (.lst [.int 14])) S R (Lc, cs) 14 := ⟨st1.ex eR, nRf.1, nRf.2, upd_same⟩
    generalize upd H1 R (.lst [.int 14]) = G1 at srA ⊢
    refine ⟨S, R, (Lc, cs), 14, rfl, srA, by decide, fun v1 b1 H2 bt2 st2 gro2 g1 d1 l1 n1 => ?_⟩
    have g1' := g1.here
    refine ⟨_, rfl, (show 1 ≤ sizeLine by decide), fun R2 nR2 => ?_⟩
    have eR2 : Ex H2 (upd H2 R2 (.lst [.int 4])) := Ex.new nR2
    have nR2f := st2.fre2 nR2
    have srB : StR (upd H2 R2 (.lst [.int 4])) S R2 (Lc, cs) 4 := ⟨st2.ex eR2, nR2f.1, nR2f.2, upd_same⟩
    have g1a := g1'.ext eR2
    generalize upd H2 R2 (.lst [.int 4]) = G2 at srB g1a ⊢
    have nB1S : ¬ (New G1 S ∧ H2 S ≠ none) := fun z => new_S srA.s z.1
    refine ⟨S, R2, (Lc, cs), 4, rfl, srB, by decide, fun v2 b2 H3 bt3 st3 gro3 g2 d2 l2 n2 => ?_⟩
    have g13 := g1a.apt (apt_bt srB bt3 nB1S fun z => z.2 nR2)
    -- both are read
    refine ⟨_, rfl, _, rfl, S, (Lc, cs), _, v1, b1, rfl, st3, nB1S, g13, d1, by omega, by omega, fun Sc1 H4 nSc1 c4 sc1 => ?_⟩
    have nB2S : ¬ New G2 S := new_S srB.s
    have g24 := g2.apt (apt_but st3 c4.b nB2S)
    refine ⟨_, rfl, _, rfl, S, (Lc, cs), _, v2, b2, rfl, c4.s, nB2S, g24, d2, by omega, by omega, fun Sc2 H5 nSc2 c5 sc2 => ?_⟩
    have sc15 := sc1.but (nm_sts b1) c4.s c5.s c5.b
    have g15 := (g13.apt c4.a).apt (apt_but c4.s c5.b nB1S)
    have g25 := g24.apt c5.a
    have B1 : Blk2 b1 := ⟨d1, by omega, by omega⟩
    have B2 : Blk2 b2 := ⟨d2, by omega, by omega⟩
    have B12 : Blk2 (b1 ++ b2) := ⟨fun s m => (List.mem_append.mp m).elim (d1 s) (d2 s), by rw [stNs_app]; omega, by rw [List.length_append]; omega⟩
    have gd1 := DT.dd _ _ g15
    have gd2 := DT.dd _ _ g25
    obtain ⟨a1, xs1, rfl, ha1, dl1⟩ : ∃ a1 xs1, v1 = .ref a1 ∧ H5 a1 = some (.lst xs1) ∧ Dds K H5 xs1 (lsDs b1) := by
      cases g15 with
      | lst h _ d => exact ⟨_, _, rfl, h, DTs.dd _ _ d⟩
    obtain ⟨a2, xs2, rfl, ha2, dl2⟩ : ∃ a2 xs2, v2 = .ref a2 ∧ H5 a2 = some (.lst xs2) ∧ Dds K H5 xs2 (lsDs b2) := by
      cases g25 with
      | lst h _ d => exact ⟨_, _, rfl, h, DTs.dd _ _ d⟩
    have xl1 := dl1.len
    have xl2 := dl2.len
    rw [lsDs_len] at xl1 xl2
    have wl1 := B1.wl
    have wl2 := B2.wl
    clear g15 g25 g24 g13 g1a g1' g1 g2
    refine ⟨_, rfl, .ref a1, b1, rfl, gd1, d1, by omega, fun p H6 np e6 hp => ?_⟩
    have irE : ∀ {σ : L2.St} {G : Hp}, Ex H6 G → σ[4]? = some (some (.ref Sc1)) → σ[2]? = some (some (.ref a1)) → σ[6]? = some (some (.ref p)) → Ev (tCall (spIr K C) [] E0 (tCons (tVar 4) (tCons (tVar 2) (tCons (tVar 6) tNil)))) σ G (.bl true) := fun {σ G} e h4 h2 h6 G1 y Q q => ⟨_, h4, _, h2, _, h6, Sc1, p, .ref a1, b1, rfl, sc15.ext ((e6.trans e).trans y), Dd.ext ((e6.trans e).trans y) _ _ gd1, B1, (e.trans y) _ _ hp, fun G2 y2 => q G2 y2⟩
    have irO : ∀ {σ : L2.St} {G : Hp}, Ex H6 G → σ[5]? = some (some (.ref Sc2)) → σ[3]? = some (some (.ref a2)) → Ev (tCall (spIr K C) [] E0 (tCons (tVar 5) (tCons (tVar 3) (tCons (tCall (spAw K fun b => ∀ s ∈ b, Ds 2 s) [] E0 (tCons (tVar 3) tNil)) tNil)))) σ G (.bl true) := fun {σ G} e h5 h3 G1 y Q q => ⟨_, h5, _, h3, _, h3, .ref a2, b2, rfl, Dd.ext ((e6.trans e).trans y) _ _ gd2, d2, by omega, fun p2 G2 np2 y2 hp2 => ⟨Sc2, p2, .ref a2, b2, rfl, sc2.ext (((e6.trans e).trans y).trans y2), Dd.ext (((e6.trans e).trans y).trans y2) _ _ gd2, B2, hp2, fun G3 y3 => q G3 (y2.trans y3)⟩⟩
    refine q_when (b := false) (et_is (et_or (a := !true) (b := !true) (et_not (et_B (irE (Ex.refl _) rfl rfl rfl))) fun _ => et_not (et_B (irO (Ex.refl _) rfl rfl))) rfl) (fun z => by cases z) fun _ H7 e7 => ?_
    have e57 := e6.trans e7
    have sc17 := sc15.ext e57
    have sc27 := sc2.ext e57
    have gd17 := Dd.ext e57 _ _ gd1
    have gd27 := Dd.ext e57 _ _ gd2
    refine q_when (b := false) (et_is (et_test (ev_op (ev_eqSS M (ev_var rfl) (ev_var rfl) sc17 sc27 B1.sh B2.sh) (ed_eqD (ed_var rfl gd17) (ed_var rfl gd27) (ndw_sts b1) (ndw_sts b2) ((sh_lss B1.d).shaped (by decide)) ((sh_lss B2.d).shaped (by decide))) (rv_ne rfl))) (by rw [eq_both B1.d B2.d, decide_eq_true rfl]; rfl)) (fun z => by cases z) fun _ H8 e8 => ?_
    have e58 := e57.trans e8
    have sc18 := sc17.ext e8
    have sc28 := sc27.ext e8
    obtain ⟨dx1, w1, h1, _⟩ := id sc18
    obtain ⟨dx2, w2, h2, _⟩ := id sc28
    refine ⟨_, rfl, _, rfl, Sc1, dx1, _, Sc2, dx2, _, rfl, h1, rfl, h2, Sc1, Sc2, _, _, rfl, sc18, sc28, by rw [stDs_len]; omega, by rw [stDs_len]; omega, fun Sj H9 nSj e9 scj => ?_⟩
    have e59 := e58.trans e9
    have e69 := (e7.trans e8).trans e9
    rw [← stDs_app] at scj
    have irJ : Ev (tCall (spIr K C) [] E0 (tCons (tVar 7) (tCons (tOp rCat (tVar 2) (tVar 3)) (tCons (tOp rCat (tVar 6) (tCall (spAw K fun b => ∀ s ∈ b, Ds 2 s) [] E0 (tCons (tVar 3) tNil))) tNil)))) ([some (.ref a), some (.ref S), some (.ref a1), some (.ref a2), some (.ref Sc1), some (.ref Sc2), some (.ref p), some (.ref Sj)] : L2.St) H9 (.bl true) := fun G1 y Q q => by
      have ea := e59.trans y
      refine ⟨_, rfl, _, rfl, _, rfl, a1, a2, xs1, xs2, rfl, rfl, ea _ _ ha1, ea _ _ ha2, sz_of (by omega), fun r nr => ?_⟩
      have er : Ex G1 (upd G1 r (.lst (xs1 ++ xs2))) := Ex.new nr
      have hr0 : (upd G1 r (.lst (xs1 ++ xs2))) r = some (.lst (xs1 ++ xs2)) := upd_same
      generalize upd G1 r (.lst (xs1 ++ xs2)) = G3 at er hr0 ⊢
      have ea3 := ea.trans er
      refine ⟨_, rfl, _, rfl, .ref a2, b2, rfl, Dd.ext ea3 _ _ gd2, d2, by omega, fun p2 G4 np2 y2 hp2 => ?_⟩
      refine ⟨p, p2, _, _, rfl, rfl, (((e69.trans y).trans er).trans y2) _ _ hp, hp2, sz_of (by rw [List.length_map, List.length_map]; omega), fun p3 np3 => ?_⟩
      have e3 : Ex G4 (upd G4 p3 (.lst ((stWs b1).map V.str ++ (stWs b2).map V.str))) := Ex.new np3
      have e95 := ((y.trans er).trans y2).trans e3
      refine ⟨Sj, p3, .ref r, b1 ++ b2, rfl, scj.ext e95, ?_, B12, ?_, fun G5 y5 => q G5 (((er.trans y2).trans e3).trans y5)⟩
      · rw [lsDs_app]
        exact .lst (sq_of ((y2.trans e3) _ _ hr0)) (Dds.app (Dds.ext ((ea3.trans y2).trans e3) _ _ dl1) (Dds.ext ((ea3.trans y2).trans e3) _ _ dl2))
      · rw [upd_same, stWs_app, List.map_append]
    refine q_when (b := false) (et_is (et_not (et_B irJ)) rfl) (fun z => by cases z) fun _ H10 e10 => ?_
    have e6A := e69.trans e10
    have e5A := e59.trans e10
    have sc1A := sc15.ext e5A
    -- joined with an empty one
    have strA : Ev (tCB (rStrI C (spStr K C 4 3) E0) (tCons (tOp (rBinI C (spAdd K C) E0) (tVar 4) (tMkD K C (spSI K C))) tNil)) ([some (.ref a), some (.ref S), some (.ref a1), some (.ref a2), some (.ref Sc1), some (.ref Sc2), some (.ref p), some (.ref Sj)] : L2.St) H10 (.str (Txt.join "\n" (stLs b1))) := fun G1 y Q q => by
      refine ⟨_, rfl, mk_S fun S2 G2 n2 e2 s2 => ?_⟩
      have s1 := sc1A.ext (y.trans e2)
      obtain ⟨dxa, wa, ka, _⟩ := id s1
      obtain ⟨dxb, wb, kb, _⟩ := id s2
      refine ⟨Sc1, dxa, _, S2, dxb, _, rfl, ka, rfl, kb, Sc1, S2, _, _, rfl, s1, s2, by rw [stDs_len]; omega, by rw [stDs_len]; exact Nat.zero_le _, fun Sk G3 nk e3 sk => ?_⟩
      rw [← stDs_app, List.append_nil] at sk
      obtain ⟨dxc, wc, kc, _⟩ := id sk
      exact ⟨Sk, dxc, _, rfl, kc, Sk, b1, rfl, sk, B1.fs, B1.fl, by omega, fun G4 e4 => ⟨_, rfl, q G4 ((e2.trans e3).trans e4)⟩⟩
    refine s_ret (v := .bl (true && true)) (ev_andV (irE e6A rfl rfl rfl) fun _ => ev_is (ev_op strA (ev_strS (ev_var rfl) sc1A B1) (rv_eq rfl)) (by rw [decide_eq_true rfl])) fun H11 e11 => kQ H11
end
end K72
set_option maxHeartbeats 8000000
namespace K72
open PySem PySem.Spec PyProof.Rows L2 Evl My LamX
/-! The law's defs, one upon the other -/
structure DfF (K : PySem.W.Frag) (mg : Str → Option Value) (x : Str) (st : Stmt) (ps : List Str) : Prop where
  ex : ∃ (f : Addr) (fd : FuncData), mg x = some (.ref f) ∧ PySem.W.keepIn K (.ref f) = true ∧ Fun K x x st f fd ∧ Binds K fd ps []
section
variable {P : Program} {w : World} {K : PySem.W.Frag} {mg : Str → Option Value} {base : Heap} {x : Str} {st : Stmt} {ps : List Str} {k k' : Nat} {sp sp' : Sp}
theorem DfF.df (D : DfF K mg x st ps) (h : ∀ f fd, Fun K x x st f fd → FnOk P w K mg base CX0 k f fd ps sp) : Df P w K mg base x ps k sp := by
  obtain ⟨f, fd, m, kp, F, b⟩ := D.ex
  exact ⟨f, fd, m, kp, h f fd F, b⟩
theorem _root_.My.Df.up (D : Df P w K mg base x ps k sp) (h : k ≤ k') : Df P w K mg base x ps k' sp := by
  obtain ⟨f, fd, m, kp, F, b⟩ := D.ex
  exact ⟨f, fd, m, kp, ⟨F.len, fun A outer sh H args us vs Q E hr => F.run A outer sh H args us vs Q E (hr.mono h)⟩, b⟩
theorem _root_.My.Df.imp (D : Df P w K mg base x ps k sp) (h : ∀ vs H Q E, sp' vs H Q E → sp vs H Q E) : Df P w K mg base x ps k sp' := by
  obtain ⟨f, fd, m, kp, F, b⟩ := D.ex
  exact ⟨f, fd, m, kp, ⟨fun vs H Q E z => F.len vs H Q E (h _ _ _ _ z), fun A outer sh H args us vs Q E hr e0 hb r z => F.run A outer sh H args us vs Q E hr e0 hb r (h _ _ _ _ z)⟩, b⟩
theorem DfF.no (D : DfF K mg x st ps) (h : ∀ vs H Q E, ¬ sp vs H Q E) : Df P w K mg base x ps k sp :=
  D.df fun f fd F => ⟨fun vs H Q E z => absurd z (h _ _ _ _), fun A outer sh H args us vs Q E hr e0 hb r z => absurd z (h _ _ _ _)⟩
end
structure LawD (K : PySem.W.Frag) (mg : Str → Option Value) : Prop where
  zLen : mg "len" = none
  zRng : mg "range" = none
  zIsi : mg "isinstance" = none
  zStr : mg "str" = none
  zLst : mg "list" = none
  zTup : mg "tuple" = none
  zMax : mg "max" = none
  zMin : mg "min" = none
  mix : DfF K mg "_law_mixed" sMix ["_law_number"]
  drw : DfF K mg "_law_draw" sDrw ["_law_state_here", "_law_many"]
  sta : DfF K mg "_law_state" sSta ["_law_script_here"]
  wrd : DfF K mg "_law_word" sWd ["_law_state_here"]
  tex : DfF K mg "_law_text" sTex ["_law_state_here"]
  cls : DfF K mg "_law_calls" sClls []
  sgn : DfF K mg "_law_signs" sSgns []
  lef : DfF K mg "_law_leaf" sLf ["_law_state_here"]
  exp : DfF K mg "_law_expression" sEx ["_law_state_here", "_law_deep", "_law_room"]
  blk : DfF K mg "_law_block" sBk ["_law_state_here", "_law_deep", "_law_room"]
  stm : DfF K mg "_law_statement" sSt ["_law_state_here", "_law_deep", "_law_room"]
  lin : DfF K mg "_law_line" sLn ["_law_part", "_law_rank"]
  ins : DfF K mg "_law_inside" sIs ["_law_block_here"]
  rws : DfF K mg "_law_rows" sRs ["_law_statement_here"]
  tok : DfF K mg "_law_tokens" sTk ["_law_state_here", "_law_part", "_law_rank"]
  brc : DfF K mg "_law_braces" sBr ["_law_state_here", "_law_block_here"]
  pcs : DfF K mg "_law_pieces" sPc ["_law_state_here", "_law_statement_here"]
  loo : DfF K mg "_law_loose" sLo ["_law_state_here", "_law_tokens_here"]
  wds : DfF K mg "_law_words" sWs ["_law_part"]
  alw : DfF K mg "_law_all_words" sAw ["_law_block_here"]
  scr : DfF K mg "_law_script" sSc ["_law_state_here", "_law_room"]
  red : DfF K mg "_law_read" sRd ["_law_state_here", "_law_block_here"]
  rgt : DfF K mg "_law_is_right" sIr ["_law_found", "_law_block_here", "_law_words_here"]
theorem few_ds {m : Nat} {b : List Stm} (m2 : m ≤ 2) (h : ∀ s ∈ b, Ds m s) (n : stNs b ≤ 60) : Few (stLs b) := by
  have w := wd_sts (m := m) (k := 1) (by omega) h
  exact wd_few (k := 1) (by decide) (by omega)
theorem ds_fit {m : Nat} {b : List Stm} (m2 : m ≤ 2) (h : ∀ s ∈ b, Ds m s) : SeqAt.shaped (.list (lsDs b)) = true := (sh_lss h).shaped (by omega)
section
variable {P : Program} {w : World} {K : PySem.W.Frag} {mg : Str → Option Value} {base : Heap} {C : Addr}
theorem LawD.draw (L : LawD K mg) : Df P w K mg base "_law_draw" ["_law_state_here", "_law_many"] 2 spDrw := L.drw.df fun f fd F => ok_drw F L.zLen (L.mix.df fun f fd F => ok_mix F)
theorem LawD.word (L : LawD K mg) : Df P w K mg base "_law_word" ["_law_state_here"] 3 spWd := L.wrd.df fun f fd F => ok_wd F L.zRng L.draw
theorem LawD.calls (L : LawD K mg) : Df P w K mg base "_law_calls" [] 1 (spCon K (.list (ARGN.map argD))) := L.cls.df fun f fd F => ok_clls F
theorem LawD.leaf (L : LawD K mg) : Df P w K mg base "_law_leaf" ["_law_state_here"] 4 (spLf K) := L.lef.df fun f fd F => ok_lf F L.zStr L.draw (L.tex.df fun f fd F => ok_tex F L.zRng L.zLen L.draw) L.word
theorem LawD.expr (L : LawD K mg) : ∀ n, Df P w K mg base "_law_expression" ["_law_state_here", "_law_deep", "_law_room"] (5 + n) (spEx K n)
  | 0 => L.exp.df fun f fd F => ok_ex0 F L.draw L.leaf
  | n + 1 => L.exp.df fun f fd F => ok_ex (k := 5 + n) (by omega) F L.zRng L.zLen L.draw L.leaf L.calls (L.sgn.df fun f fd F => ok_sgns F) (L.expr n)
def spNo : Sp := fun _ _ _ _ => False
theorem LawD.stmt (L : LawD K mg) : ∀ m, Df P w K mg base "_law_statement" ["_law_state_here", "_law_deep", "_law_room"] (8 + 2 * m) (spSt K m)
  | 0 => by
    have BK : Df P w K mg base "_law_block" ["_law_state_here", "_law_deep", "_law_room"] 7 spNo := L.blk.no fun _ _ _ _ z => z
    exact L.stm.df fun f fd F => ok_st (k := 7) (m := 0) (B := fun _ => False) (sB := spNo) (fun z => absurd z (by decide)) (by decide) (Nat.le_refl _) F L.zMax L.draw L.word (L.expr 2) BK fun d => DsS.mono (fun b z => absurd z.1 (by decide)) d
  | m + 1 => by
    have ih := L.stmt m
    have BK : Df P w K mg base "_law_block" ["_law_state_here", "_law_deep", "_law_room"] (9 + 2 * m) (spBk K (DsB (Ds m)) (((m + 1 : Nat) : Int) - 1)) := by
      have e : ((m + 1 : Nat) : Int) - 1 = (m : Int) := by omega
      rw [e]
      have z := L.blk.df fun f fd F => ok_bk (k := 8 + 2 * m) (by omega) F L.zRng L.draw ih
      have e2 : 8 + 2 * m + 1 = 9 + 2 * m := by omega
      rw [e2] at z
      exact z
    have z := L.stm.df fun f fd F => ok_st (k := 9 + 2 * m) (m := m + 1) (B := DsB (Ds m)) (fun _ => rfl) (by omega) (Nat.le_refl _) F L.zMax L.draw L.word ((L.expr 2).up (by omega)) BK fun d => DsS.mono (fun b z => z.2) d
    have e3 : 9 + 2 * m + 1 = 8 + 2 * (m + 1) := by omega
    rw [e3] at z
    exact z
theorem LawD.line (L : LawD K mg) : ∀ k, Df P w K mg base "_law_line" ["_law_part", "_law_rank"] (k + 1) (spLn K (Dn k))
  | 0 => L.lin.df fun f fd F => ok_ln (k := 0) (D := fun _ => False) (fun z => False.elim z) F (L.lin.no fun _ _ _ _ z => by
      obtain ⟨_, _, _, _, _, z, _⟩ := z
      exact z)
  | k + 1 => L.lin.df fun f fd F => ok_ln (k := k + 1) (ln_ex k) F (L.line k)
theorem LawD.words (L : LawD K mg) : ∀ k, Df P w K mg base "_law_words" ["_law_part"] (k + 1) (spWs K (Dn k))
  | 0 => L.wds.df fun f fd F => ok_ws (k := 0) (D := fun _ => False) F (L.wds.no fun _ _ _ _ z => by
      obtain ⟨_, _, _, _, z, _⟩ := z
      exact z)
  | k + 1 => L.wds.df fun f fd F => ok_ws (k := k + 1) F (L.words k)
theorem LawD.toks (L : LawD K mg) : ∀ k, Df P w K mg base "_law_tokens" ["_law_state_here", "_law_part", "_law_rank"] (k + 3) (spTk K (Dn k) (2 * k + 2) (2 * k + 2))
  | 0 => L.tok.df fun f fd F => ok_tk (k := 2) (h0 := 0) (n0 := 0) (D := fun _ => False) (by decide) F L.zRng L.zLen L.zMin L.draw (L.tok.no fun _ _ _ _ z => by
      obtain ⟨_, _, _, _, _, _, _, _, _, _, z, _⟩ := z
      exact z)
  | k + 1 => L.tok.df fun f fd F => ok_tk (k := k + 3) (h0 := 2 * k + 2) (n0 := 2 * k + 2) (by omega) F L.zRng L.zLen L.zMin L.draw (L.toks k)
theorem LawD.rows (L : LawD K mg) : ∀ m, m ≤ 2 → Df P w K mg base "_law_rows" ["_law_statement_here"] (4 + 2 * m) (spRs K (Ds m))
  | 0, _ => L.rws.df fun f fd F => ok_rs (k := 3) (kL := 3) (kI := 3) (B := fun _ => False) (Nat.le_refl _) (Nat.le_refl _) (by decide) (fun z => False.elim z) (fun z => False.elim z) F (L.line 2) (L.ins.no fun _ _ _ _ z => by
      obtain ⟨_, _, _, _, z, _⟩ := z
      exact z)
  | m + 1, h => by
    have ih := L.rows m (by omega)
    have IS : Df P w K mg base "_law_inside" ["_law_block_here"] (5 + 2 * m) (spIs2 K (DsB (Ds m))) := by
      have z := L.ins.df fun f fd F => ok_is2 (k := 4 + 2 * m) (S := Ds m) (B := DsB (Ds m)) (fun z => z.2) (fun z n => few_ds (by omega) z.2 n) F ih
      have e2 : 4 + 2 * m + 1 = 5 + 2 * m := by omega
      rw [e2] at z
      exact z
    have z := L.rws.df fun f fd F => ok_rs (k := 5 + 2 * m) (B := DsB (Ds m)) (by omega) (Nat.le_refl _) (by omega) (fun z n => few_ds (by omega) z.2 n) (fun z => ds_fit (by omega) z.2) F (L.line 2) IS
    have e3 : 5 + 2 * m + 1 = 4 + 2 * (m + 1) := by omega
    rw [e3] at z
    exact z
theorem LawD.allw (L : LawD K mg) : ∀ m, Df P w K mg base "_law_all_words" ["_law_block_here"] (4 + m) (spAw K fun b => ∀ s ∈ b, Ds m s)
  | 0 => L.alw.df fun f fd F => ok_aw (k := 3) (kW := 3) (kA := 3) (B := fun _ => False) (Nat.le_refl _) (Nat.le_refl _) F L.zIsi L.zTup L.zLst (L.words 2) (L.alw.no fun _ _ _ _ z => by
      obtain ⟨_, _, _, _, z, _⟩ := z
      exact z)
  | m + 1 => L.alw.df fun f fd F => ok_aw (k := 4 + m) (B := DsB (Ds m)) (by omega) (Nat.le_refl _) F L.zIsi L.zTup L.zLst (L.words 2) ((L.allw m).imp fun vs H Q E z => by
      obtain ⟨v, b, a1, a2, a3, a4, a5⟩ := z
      exact ⟨v, b, a1, a2, a3.2, a4, a5⟩)
theorem LawD.piec (L : LawD K mg) : ∀ m, m ≤ 2 → Df P w K mg base "_law_pieces" ["_law_state_here", "_law_statement_here"] (6 + 2 * m) (spPc K (Ds m) (TKS Tk2 m))
  | 0, _ => L.pcs.df fun f fd F => ok_pc (k := 5) (kT := 5) (kB := 5) (Bp := fun _ => False) (T := fun _ _ => False) (Nat.le_refl _) (Nat.le_refl _) (by decide) (fun z => False.elim z) F L.draw (L.toks 2) (L.brc.no fun _ _ _ _ z => by
      obtain ⟨_, _, _, _, _, _, _, _, _, z, _⟩ := z
      exact z)
  | m + 1, h => by
    have ih := L.piec m (by omega)
    have BR : Df P w K mg base "_law_braces" ["_law_state_here", "_law_block_here"] (7 + 2 * m) (spBr K (DsB (Ds m)) (TkB (TKS Tk2 m))) := by
      have z := L.brc.df fun f fd F => ok_br (k := 6 + 2 * m) F ih
      have e2 : 6 + 2 * m + 1 = 7 + 2 * m := by omega
      rw [e2] at z
      exact z
    have z := L.pcs.df fun f fd F => ok_pc (k := 7 + 2 * m) (by omega) (Nat.le_refl _) (by omega) (fun z => ds_fit (by omega) z.2) F L.draw (L.toks 2) BR
    have e3 : 7 + 2 * m + 1 = 6 + 2 * (m + 1) := by omega
    rw [e3] at z
    exact z
/-- all that the law's own def needs -/
theorem LawD.law (L : LawD K mg) (M : ScM P w K mg base C) (MS : Mk1D P w K mg base C "Script" ["self", "statements"] 1 (spSI K C)) (GW : MG P w K mg base C "call_words" ["self"] 9 (spGW K C 4 3)) {f : Addr} {fd : FuncData} (F : Fun K "law" "law" sLaw f fd) : FnOk P w K mg base CX0 83 f fd ["_law_script_here"] (spLaw K) := by
  have SCR : Df P w K mg base "_law_script" ["_law_state_here", "_law_room"] 82 (spScr K) := (L.scr.df fun f fd F => ok_scr (k := 12) (by decide) F L.zRng L.draw (L.stmt 2)).up (by decide)
  have LO : Df P w K mg base "_law_loose" ["_law_state_here", "_law_tokens_here"] 3 spLo := L.loo.df fun f fd F => ok_lo F L.zRng L.draw
  have RD : Df P w K mg base "_law_read" ["_law_state_here", "_law_block_here"] 82 (spRd K C) := L.red.df fun f fd F => ok_rd (k := 81) (Nat.le_refl _) M F ((L.piec 2 (Nat.le_refl _)).up (by decide)) LO
  have IR : Df P w K mg base "_law_is_right" ["_law_found", "_law_block_here", "_law_words_here"] 82 (spIr K C) := L.rgt.df fun f fd F => ok_ir (k := 81) (Nat.le_refl _) M F L.zStr L.zLen L.zLst MS GW ((L.rows 2 (Nat.le_refl _)).up (by decide)) L.calls
  have STA : Df P w K mg base "_law_state" ["_law_script_here"] 1 (spSta K) := L.sta.df fun f fd F => ok_sta F L.zLst
  exact ok_law (k := 82) (by decide) F L.zStr M MS STA SCR RD ((L.allw 2).up (by decide)) IR
end
end K72
set_option maxHeartbeats 8000000
/-! the head's facts, gathered -/
namespace K72
open PySem PySem.Spec PyProof.Rows L2 Evl My LamX
structure HasDef (K : PySem.W.Frag) (x : Str) (st : Stmt) (f : Addr) : Prop where
  g : PySem.W.nsIn K mainGlobals x = some (some (.ref f))
  k : PySem.W.keepIn K (.ref f) = true
  F : ∃ fd, Fun K x x st f fd
theorem hasDef {K : PySem.W.Frag} {x : Str} {st : Stmt} {f : Addr} {oc : Value} {od an : Option Addr} {osl : Array (Option Value)} {kV doc pm cdv ct : Value}
    (g : PySem.W.nsIn K mainGlobals x = some (some (.ref f)))
    (lf : K.lookup f = some ⟨oc, od, .func (PySem.W.fnOf x x (defArgs st) (defBody st) (defScope st) .none kV doc pm an cdv ct), osl⟩) (cf : PySem.W.codeIn K cdv x = true) (kf : PySem.W.keepIn K (.ref f) = true) : HasDef K x st f :=
  ⟨g, kf, _, fun_mk lf cf kf⟩
/-- a method of the class at C -/
structure HasMeth (K : PySem.W.Frag) (C : Addr) (x qual : Str) (st : Stmt) (f : Addr) : Prop where
  a : PySem.W.findIn K (.ref C) x = some (some (.ref f))
  t : PySem.W.typeIn K (.ref f) = some (.type "function")
  F : ∃ fd, Fun K x qual st f fd
theorem hasMeth {K : PySem.W.Frag} {C : Addr} {x qual : Str} {st : Stmt} {f : Addr} {oc : Value} {od an : Option Addr} {osl : Array (Option Value)} {kV doc pm cdv ct : Value}
    (a : PySem.W.findIn K (.ref C) x = some (some (.ref f))) (t : PySem.W.typeIn K (.ref f) = some (.type "function"))
    (lf : K.lookup f = some ⟨oc, od, .func (PySem.W.fnOf x qual (defArgs st) (defBody st) (defScope st) .none kV doc pm an cdv ct), osl⟩) (cf : PySem.W.codeIn K cdv qual = true) (kf : PySem.W.keepIn K (.ref f) = true) : HasMeth K C x qual st f :=
  ⟨a, t, _, fun_mk lf cf kf⟩
theorem HasMeth.m {K : PySem.W.Frag} {C : Addr} {x qual : Str} {st : Stmt} {f : Addr} (h : HasMeth K C x qual st f) : Meth K C x f := by
  obtain ⟨fd, F⟩ := h.F
  exact ⟨h.a, (by unfold PySem.W.isFn; rw [h.t]; rfl), F.kp⟩
/-- __init__, its default an empty tuple -/
structure HasInit (K : PySem.W.Frag) (C f t : Addr) : Prop where
  a : PySem.W.findIn K (.ref C) "__init__" = some (some (.ref f))
  ty : PySem.W.typeIn K (.ref f) = some (.type "function")
  F : ∃ fd, FunD K "__init__" "Script.__init__" (defArgs cInit) (defBody cInit) (defScope cInit) [.ref t] [] f fd
  e : ∀ H, SqT K H t []
theorem hasInit {K : PySem.W.Frag} {C f t D : Addr} {oc kc : Value} {od an kd td : Option Addr} {osl ksl tsl : Array (Option Value)} {kV doc pm cdv ct : Value} {n m : Nat}
    (a : PySem.W.findIn K (.ref C) "__init__" = some (some (.ref f))) (ty : PySem.W.typeIn K (.ref f) = some (.type "function"))
    (lf : K.lookup f = some ⟨oc, od, .func (PySem.W.fnOf "__init__" "Script.__init__" (defArgs cInit) (defBody cInit) (defScope cInit) (.ref D) kV doc pm an cdv ct), osl⟩) (cf : PySem.W.codeIn K cdv "Script.__init__" = true) (kf : PySem.W.keepIn K (.ref f) = true)
    (lD : K.lookup D = some ⟨kc, kd, .seq #[.ref t] n, ksl⟩) (lt : K.lookup t = some ⟨.type "tuple", td, .seq #[] m, tsl⟩) : HasInit K C f t :=
  ⟨a, ty, ⟨_, ⟨⟨oc, od, .ref D, kV, doc, pm, an, cdv, ct, osl, rfl, lf, cf, .inr ⟨by simp, D, _, [.ref t], n, rfl, lD, rfl, .cons rfl .nil⟩, .inl rfl⟩, kf⟩⟩, fun H => .inr ⟨_, #[], m, lt, rfl, rfl, Nat.zero_le _, .nil⟩⟩
section
variable {K : PySem.W.Frag} {f t : Addr} {fd : FuncData}
theorem init_b2 (F : FunD K "__init__" "Script.__init__" (defArgs cInit) (defBody cInit) (defScope cInit) [.ref t] [] f fd) : Binds K fd ["self", "statements"] [] := by
  obtain ⟨ds, h, b⟩ := F.binds1 (ps := ["self", "statements"]) 2 1 (by simp) rfl fun T kV doc pm an cdv ct us its h1 h2 => match us, h1, its, h2 with
    | [a, b], _, [x], _ => ⟨_, rfl, rfl⟩
  cases h
  exact b
theorem init_b1 (F : FunD K "__init__" "Script.__init__" (defArgs cInit) (defBody cInit) (defScope cInit) [.ref t] [] f fd) : Binds K fd ["self", "statements"] [.ref t] := by
  obtain ⟨ds, h, b⟩ := F.binds1 (ps := ["self", "statements"]) 1 0 (by simp) rfl fun T kV doc pm an cdv ct us its h1 h2 => match us, h1, its, h2 with
    | [a], _, [x], _ => ⟨_, rfl, rfl⟩
  cases h with
  | cons h1 h2 =>
    cases h2
    cases h1
    exact b
end
/-- types of data -/
def tyL : List String := ["NoneType", "bool", "int", "str", "list", "tuple", "dict"]
theorem tyD_in (d : PyData) : tyD d ∈ tyL := by
  cases d <;> simp [tyD, tyL]
/-- a tuple of the module -/
structure TupK (K : PySem.W.Frag) (a : Addr) (xs : List V) : Prop where
  e : ∃ (od : Option Addr) (its : Array Value) (n : Nat) (sl : Array (Option Value)), K.lookup a = some ⟨.type "tuple", od, .seq its n, sl⟩ ∧ its.size ≤ 100 ∧ Vals xs its.toList
theorem tupK {K : PySem.W.Frag} {a : Addr} {xs : List V} {od : Option Addr} {its : Array Value} {n : Nat} {sl : Array (Option Value)} (h : K.lookup a = some ⟨.type "tuple", od, .seq its n, sl⟩) (v : Vals xs its.toList) (s : its.size ≤ 100) : TupK K a xs := ⟨_, _, _, _, h, s, v⟩
theorem TupK.sq {K : PySem.W.Frag} {a : Addr} {xs : List V} (t : TupK K a xs) (H : Hp) : SqT K H a xs := by
  obtain ⟨od, its, n, sl, h, s, v⟩ := t.e
  exact .inr ⟨_, its, n, h, rfl, rfl, Nat.le_trans s (by decide), v⟩
def clsB (K : PySem.W.Frag) (C : Addr) : Bool :=
  PySem.W.plainGet K C Str.empty && PySem.W.hasDictIn K C && PySem.W.plainOver K C && (PySem.W.findIn K (.ref C) "__setattr__" == some (some (.builtin "object.__setattr__"))) && PySem.W.makesIn K C && PySem.W.keepIn K (.ref C)
structure ClsB (K : PySem.W.Frag) (C : Addr) : Prop where
  c : Cls K C
  m : PySem.W.makesIn K C = true
  k : PySem.W.keepIn K (.ref C) = true
theorem clsB_of {K : PySem.W.Frag} {C : Addr} (h : clsB K C = true) : ClsB K C := by
  unfold clsB at h
  simp only [Bool.and_eq_true, beq_iff_eq] at h
  obtain ⟨⟨⟨⟨⟨h1, h2⟩, h3⟩, h4⟩, h5⟩, h6⟩ := h
  exact ⟨⟨h1, h2, h3, h4⟩, h5, h6⟩
def rdB (K : PySem.W.Frag) (C : Addr) : Bool := (PySem.W.findIn K (.ref C) "tokens" == some none) && (PySem.W.findIn K (.ref C) "place" == some none)
theorem rdB_of {K : PySem.W.Frag} {C : Addr} (c : Cls K C) (h : rdB K C = true) : RdC K C := by
  unfold rdB at h
  simp only [Bool.and_eq_true, beq_iff_eq] at h
  exact ⟨c, h.1, h.2⟩
def scB (K : PySem.W.Frag) (C : Addr) : Bool := (PySem.W.findIn K (.ref C) "statements" == some none) && PySem.W.selfFirst K C &&
  (PySem.W.findIn K (.ref C) "__class__" == some (some (.builtin "object.__class__"))) && (PySem.W.specialIn K (.builtin "object.__class__") "__get__" == some (some (.builtin "getset_descriptor.__get__"))) && (PySem.W.takesIn K (.builtin "object.__class__") == some true) && (PySem.W.mroIn K C (.type "object") == some true) &&
  (PySem.W.kitOne K (.ref C) (.ref C) == some true) && (tyL.all fun t => PySem.W.kitOne K (.type t) (.ref C) == some false) && (tyL.all fun t => PySem.W.notFirst K C (.type t)) && PySem.W.notFirst K C (.ref C)
structure ScB (K : PySem.W.Frag) (C : Addr) : Prop where
  c : ScC K C
  i : LvI K C
  n : PySem.W.notFirst K C (.ref C) = true
  sf : PySem.W.selfFirst K C = true
theorem scB_of {K : PySem.W.Frag} {C : Addr} (c : Cls K C) (h : scB K C = true) : ScB K C := by
  unfold scB at h
  simp only [Bool.and_eq_true, beq_iff_eq, List.all_eq_true] at h
  obtain ⟨⟨⟨⟨⟨⟨⟨⟨⟨h5, hsf⟩, h10⟩, h11⟩, h12⟩, h13⟩, h14⟩, h15⟩, h16⟩, h17⟩ := h
  exact ⟨⟨c, h5⟩, ⟨h10, h11, h12, h13, h14, fun d => h15 _ (tyD_in d), fun d => h16 _ (tyD_in d)⟩, h17, hsf⟩
/-- a static method -/
structure HasStat (K : PySem.W.Frag) (C : Addr) (mc : Value) (p g : Addr) : Prop where
  r : ClX.CRead K C mc
  s : SMet K C mc "read" p g
  F : ∃ fd, Fun K "read" "Script.read" cRead g fd
theorem hasStat {K : PySem.W.Frag} {C p g : Addr} {mc oc : Value} {od an : Option Addr} {osl : Array (Option Value)} {kV doc pm cdv ct : Value} {rest : List Value}
    (rd : PySem.W.readsIn K C mc = true) (ga : PySem.W.specialIn K (.ref C) "__getattribute__" = some (some (.builtin "type.__getattribute__")))
    (at_ : PySem.W.findCls K (.ref C) mc "read" = some (.get (.builtin "staticmethod.__get__") (.ref p) .none (.ref C))) (rc : PySem.W.recIn K p "staticmethod" = some (.ref g :: rest))
    (lf : K.lookup g = some ⟨oc, od, .func (PySem.W.fnOf "read" "Script.read" (defArgs cRead) (defBody cRead) (defScope cRead) .none kV doc pm an cdv ct), osl⟩) (cf : PySem.W.codeIn K cdv "Script.read" = true) (kf : PySem.W.keepIn K (.ref g) = true) : HasStat K C mc p g :=
  ⟨⟨rd, ga⟩, ⟨at_, ⟨rest, rc⟩, kf⟩, _, fun_mk lf cf kf⟩
section
variable {l : PySem.W.OpenLaw} {w : World} {K : PySem.W.Frag} {mg : Str → Option Value} {h : Heap} {fa CR CS fI tI pR gR pG pA pK pS g0 g1 g2 g3 g4 a0 a1 a2 a3 a4 a5 a6 a7 a8 a9 a10 a11 a12 a13 a14 a15 a16 a17 d0 d1 d2 d3 d4 d5 d6 d7 d8 d9 d10 d11 d12 d13 d14 d15 d16 d17 d18 d19 d20 d21 d22 d23 d24 d25 d26 d27 d28 d29 d30 d31 d32 d33 d34 d35 d36 d37 d38 d39 q0 q1 q2 q3 q4 q5 q6 q7 q8 q9 q10 q11 q12 q13 q14 q15 p0 p1 p2 p3 p4 p5 : Addr} {uLe uDi uWs uBl uMd uLs uMn uCm : Value} {es : Array DictEntry} {nA nG : Nat} {odG : Option Addr} {slG : Array (Option Value)}
theorem all_mk (X : K.In h) (G : h.Ns mainGlobals mg) (hfa : mg "law" = some (.ref fa))
    (gC : PySem.W.nsIn K mainGlobals "Reader" = some (some (.ref CR))) (gD : PySem.W.nsIn K mainGlobals "Script" = some (some (.ref CS))) (cb1 : clsB K CR = true) (cb2 : clsB K CS = true) (rb : rdB K CR = true) (sb : scB K CS = true)
    (iI : HasInit K CS fI tI) (hS : HasStat K CS (.type "type") pR gR)
    (h0 : HasMeth K CR "__init__" "Reader.__init__" rInit q0)
    (h1 : HasMeth K CR "is_next" "Reader.is_next" rIs q1)
    (h2 : HasMeth K CR "take" "Reader.take" rTake q2)
    (h3 : HasMeth K CR "take_name" "Reader.take_name" rTkN q3)
    (h4 : HasMeth K CR "all_statements" "Reader.all_statements" rAll q4)
    (h5 : HasMeth K CR "block" "Reader.block" rBlk q5)
    (h6 : HasMeth K CR "other_block" "Reader.other_block" rOth q6)
    (h7 : HasMeth K CR "statement" "Reader.statement" rStm q7)
    (h8 : HasMeth K CR "ended" "Reader.ended" rEnd q8)
    (h9 : HasMeth K CR "block_statement" "Reader.block_statement" rBst q9)
    (h10 : HasMeth K CR "expression" "Reader.expression" rExp q10)
    (h11 : HasMeth K CR "row" "Reader.row" rRow q11)
    (h12 : HasMeth K CR "has_operator" "Reader.has_operator" rHas q12)
    (h13 : HasMeth K CR "operand" "Reader.operand" rOpd q13)
    (h14 : HasMeth K CR "step_in" "Reader.step_in" rStep q14)
    (h15 : HasMeth K CR "call" "Reader.call" rCall q15)
    (j0 : HasMeth K CS "__str__" "Script.__str__" cStr p0)
    (j1 : HasMeth K CS "__eq__" "Script.__eq__" cEq p1)
    (j2 : HasMeth K CS "__len__" "Script.__len__" cLen p2)
    (j3 : HasMeth K CS "__contains__" "Script.__contains__" cIn p3)
    (j4 : HasMeth K CS "call_words" "Script.call_words" cWords p4)
    (j5 : HasMeth K CS "__add__" "Script.__add__" cAdd p5)
    (e0 : HasDef K "end_of_row" sEor d0)
    (e1 : HasDef K "number_token" sNum d1)
    (e2 : HasDef K "word_token" sWrd d2)
    (e3 : HasDef K "text_token" sTxt d3)
    (e4 : HasDef K "sign_token" sSgn d4)
    (e5 : HasDef K "token_at" sTat d5)
    (e6 : HasDef K "tokens_of" sTok d6)
    (e7 : HasDef K "operand_text" sOpT d7)
    (e8 : HasDef K "row_text" sRwT d8)
    (e9 : HasDef K "expression_text" sExT d9)
    (e10 : HasDef K "head_text" sHdT d10)
    (e11 : HasDef K "statement_lines" sStL d11)
    (e12 : HasDef K "inner_lines" sInL d12)
    (e13 : HasDef K "block_lines" sBlL d13)
    (e14 : HasDef K "calls_in" sCi d14)
    (e15 : HasDef K "calls_in_block" sCb d15)
    (e16 : HasDef K "_law_mixed" sMix d16)
    (e17 : HasDef K "_law_draw" sDrw d17)
    (e18 : HasDef K "_law_state" sSta d18)
    (e19 : HasDef K "_law_word" sWd d19)
    (e20 : HasDef K "_law_text" sTex d20)
    (e21 : HasDef K "_law_calls" sClls d21)
    (e22 : HasDef K "_law_signs" sSgns d22)
    (e23 : HasDef K "_law_leaf" sLf d23)
    (e24 : HasDef K "_law_expression" sEx d24)
    (e25 : HasDef K "_law_block" sBk d25)
    (e26 : HasDef K "_law_statement" sSt d26)
    (e27 : HasDef K "_law_line" sLn d27)
    (e28 : HasDef K "_law_inside" sIs d28)
    (e29 : HasDef K "_law_rows" sRs d29)
    (e30 : HasDef K "_law_tokens" sTk d30)
    (e31 : HasDef K "_law_braces" sBr d31)
    (e32 : HasDef K "_law_pieces" sPc d32)
    (e33 : HasDef K "_law_loose" sLo d33)
    (e34 : HasDef K "_law_words" sWs d34)
    (e35 : HasDef K "_law_all_words" sAw d35)
    (e36 : HasDef K "_law_script" sSc d36)
    (e37 : HasDef K "_law_read" sRd d37)
    (e38 : HasDef K "_law_is_right" sIr d38)
    (e39 : HasDef K "law" sLaw d39)
    (z0 : PySem.W.nsIn K mainGlobals "len" = some none)
    (z1 : PySem.W.nsIn K mainGlobals "int" = some none)
    (z2 : PySem.W.nsIn K mainGlobals "range" = some none)
    (z3 : PySem.W.nsIn K mainGlobals "isinstance" = some none)
    (z4 : PySem.W.nsIn K mainGlobals "str" = some none)
    (z5 : PySem.W.nsIn K mainGlobals "list" = some none)
    (z6 : PySem.W.nsIn K mainGlobals "tuple" = some none)
    (z7 : PySem.W.nsIn K mainGlobals "zip" = some none)
    (z8 : PySem.W.nsIn K mainGlobals "max" = some none)
    (z9 : PySem.W.nsIn K mainGlobals "min" = some none)
    (gLe : PySem.W.nsIn K mainGlobals "LETTERS" = some (some uLe)) (rLe : RelV (.str LET) uLe)
    (gDi : PySem.W.nsIn K mainGlobals "DIGITS" = some (some uDi)) (rDi : RelV (.str DIG) uDi)
    (gWs : PySem.W.nsIn K mainGlobals "WORD_SIGNS" = some (some uWs)) (rWs : RelV (.str WSG) uWs)
    (gBl : PySem.W.nsIn K mainGlobals "BLANKS" = some (some uBl)) (rBl : RelV (.str BLK) uBl)
    (gMd : PySem.W.nsIn K mainGlobals "MOST_DIGITS" = some (some uMd)) (rMd : RelV (.int 18) uMd)
    (gLs : PySem.W.nsIn K mainGlobals "LONGEST_SCRIPT" = some (some uLs)) (rLs : RelV (.int 2000) uLs)
    (gMn : PySem.W.nsIn K mainGlobals "MOST_NESTED" = some (some uMn)) (rMn : RelV (.int 12) uMn)
    (gCm : PySem.W.nsIn K mainGlobals "COMPARING" = some (some uCm)) (rCm : RelV (.int 2) uCm)
    (gK : PySem.W.nsIn K mainGlobals "KEYWORDS" = some (some (.ref pK))) (gS : PySem.W.nsIn K mainGlobals "SIGNS" = some (some (.ref pS))) (gG : PySem.W.nsIn K mainGlobals "GROUPS" = some (some (.ref pG))) (gA : PySem.W.nsIn K mainGlobals "ARGUMENTS" = some (some (.ref pA)))
    (lG : K.lookup pG = some ⟨.type "tuple", odG, .seq #[.ref g0, .ref g1, .ref g2, .ref g3, .ref g4] nG, slG⟩) (lA : K.lookup pA = some ⟨.type "dict", none, .dict es nA, #[]⟩) (litA : PySem.W.KeysLit w.params es.toList) (lowA : (pA == sysModules) = false)
    (nA0 : PySem.W.nsIn K pA "node" = some (some (.ref a0)))
    (nA1 : PySem.W.nsIn K pA "kids" = some (some (.ref a1)))
    (nA2 : PySem.W.nsIn K pA "text" = some (some (.ref a2)))
    (nA3 : PySem.W.nsIn K pA "kind" = some (some (.ref a3)))
    (nA4 : PySem.W.nsIn K pA "level" = some (some (.ref a4)))
    (nA5 : PySem.W.nsIn K pA "inner" = some (some (.ref a5)))
    (nA6 : PySem.W.nsIn K pA "holder" = some (some (.ref a6)))
    (nA7 : PySem.W.nsIn K pA "find" = some (some (.ref a7)))
    (nA8 : PySem.W.nsIn K pA "size" = some (some (.ref a8)))
    (nA9 : PySem.W.nsIn K pA "item" = some (some (.ref a9)))
    (nA10 : PySem.W.nsIn K pA "written" = some (some (.ref a10)))
    (nA11 : PySem.W.nsIn K pA "not" = some (some (.ref a11)))
    (nA12 : PySem.W.nsIn K pA "insert" = some (some (.ref a12)))
    (nA13 : PySem.W.nsIn K pA "pocket" = some (some (.ref a13)))
    (nA14 : PySem.W.nsIn K pA "change" = some (some (.ref a14)))
    (nA15 : PySem.W.nsIn K pA "move" = some (some (.ref a15)))
    (nA16 : PySem.W.nsIn K pA "copy" = some (some (.ref a16)))
    (nA17 : PySem.W.nsIn K pA "delete" = some (some (.ref a17)))
    (tK : TupK K pK (KWS.map V.str))
    (tS : TupK K pS (SGS.map V.str))
    (tG0 : TupK K g0 ((GRS.getD 0 []).map V.str))
    (tG1 : TupK K g1 ((GRS.getD 1 []).map V.str))
    (tG2 : TupK K g2 ((GRS.getD 2 []).map V.str))
    (tG3 : TupK K g3 ((GRS.getD 3 []).map V.str))
    (tG4 : TupK K g4 ((GRS.getD 4 []).map V.str))
    (tA0 : TupK K a0 [.str "text"])
    (tA1 : TupK K a1 [.str "name"])
    (tA2 : TupK K a2 [.str "name"])
    (tA3 : TupK K a3 [.str "name"])
    (tA4 : TupK K a4 [.str "name"])
    (tA5 : TupK K a5 [.str "name"])
    (tA6 : TupK K a6 [.str "name"])
    (tA7 : TupK K a7 [.str "text"])
    (tA8 : TupK K a8 [.str "text or list"])
    (tA9 : TupK K a9 [.str "list", .str "number"])
    (tA10 : TupK K a10 [.str "number"])
    (tA11 : TupK K a11 [.str "any"])
    (tA12 : TupK K a12 [.str "name", .str "number", .str "text", .str "text"])
    (tA13 : TupK K a13 [.str "name", .str "number", .str "text", .str "text"])
    (tA14 : TupK K a14 [.str "name", .str "text"])
    (tA15 : TupK K a15 [.str "name", .str "name", .str "number"])
    (tA16 : TupK K a16 [.str "name", .str "name", .str "number"])
    (tA17 : TupK K a17 [.str "name"])
    : ∃ fd : FuncData, (∀ (s : Shared) (u : Value), BindsTo s fd ⟨[u], []⟩ [("_law_script_here", u)]) ∧ ∀ base : Heap, K.In base → base.Ns mainGlobals mg → FnOk l.prog w K mg base CX0 83 fa fd ["_law_script_here"] (spLaw K) := by
  have e := hfa.symm.trans (PySem.W.mg_of X G e39.g)
  cases e
  have zLen : mg "len" = none := PySem.W.mg_none_of X G z0
  have zInt : mg "int" = none := PySem.W.mg_none_of X G z1
  have zRng : mg "range" = none := PySem.W.mg_none_of X G z2
  have zIsi : mg "isinstance" = none := PySem.W.mg_none_of X G z3
  have zStr : mg "str" = none := PySem.W.mg_none_of X G z4
  have zLst : mg "list" = none := PySem.W.mg_none_of X G z5
  have zTup : mg "tuple" = none := PySem.W.mg_none_of X G z6
  have zZip : mg "zip" = none := PySem.W.mg_none_of X G z7
  have zMax : mg "max" = none := PySem.W.mg_none_of X G z8
  have zMin : mg "min" = none := PySem.W.mg_none_of X G z9
  obtain ⟨clR, mkR, kpR⟩ := clsB_of cb1
  obtain ⟨clS, mkS', kpS⟩ := clsB_of cb2
  have c := rdB_of clR rb
  obtain ⟨sC, lvi, nS, sfS⟩ := scB_of clS sb
  have mC : mg "Reader" = some (.ref CR) := PySem.W.mg_of X G gC
  have mS : mg "Script" = some (.ref CS) := PySem.W.mg_of X G gD
  have G1 : Gs mg := ⟨zLen, zInt, zRng, ⟨_, PySem.W.mg_of X G gLe, rLe⟩, ⟨_, PySem.W.mg_of X G gDi, rDi⟩, ⟨_, PySem.W.mg_of X G gWs, rWs⟩, ⟨_, PySem.W.mg_of X G gBl, rBl⟩, ⟨_, PySem.W.mg_of X G gMd, rMd⟩, ⟨_, PySem.W.mg_of X G gLs, rLs⟩⟩
  have G2 : Gt K mg pK pS := ⟨G1, PySem.W.mg_of X G gK, tK.sq, PySem.W.mg_of X G gS, tS.sq⟩
  have G3 : Gr K mg pG [g0, g1, g2, g3, g4] := ⟨PySem.W.mg_of X G gG, zLen, rfl, fun H => .inr ⟨_, #[.ref g0, .ref g1, .ref g2, .ref g3, .ref g4], nG, lG, rfl, rfl, (show 5 ≤ sizeLine by decide), .cons rfl (.cons rfl (.cons rfl (.cons rfl (.cons rfl .nil))))⟩, fun H i a hi => by
    match i, hi with
    | 0, hi => cases hi; exact ⟨_, rfl, tG0.sq H⟩
    | 1, hi => cases hi; exact ⟨_, rfl, tG1.sq H⟩
    | 2, hi => cases hi; exact ⟨_, rfl, tG2.sq H⟩
    | 3, hi => cases hi; exact ⟨_, rfl, tG3.sq H⟩
    | 4, hi => cases hi; exact ⟨_, rfl, tG4.sq H⟩
    | n + 5, hi => cases hi⟩
  have AR : Ar K w mg pA es nA := ⟨PySem.W.mg_of X G gA, ⟨lA, litA, lowA⟩, fun z m hz => by
    simp only [ARGN, List.mem_cons, List.not_mem_nil, or_false, Prod.mk.injEq] at hz
    rcases hz with ⟨rfl, rfl⟩ | ⟨rfl, rfl⟩ | ⟨rfl, rfl⟩ | ⟨rfl, rfl⟩ | ⟨rfl, rfl⟩ | ⟨rfl, rfl⟩ | ⟨rfl, rfl⟩ | ⟨rfl, rfl⟩ | ⟨rfl, rfl⟩ | ⟨rfl, rfl⟩ | ⟨rfl, rfl⟩ | ⟨rfl, rfl⟩ | ⟨rfl, rfl⟩ | ⟨rfl, rfl⟩ | ⟨rfl, rfl⟩ | ⟨rfl, rfl⟩ | ⟨rfl, rfl⟩ | ⟨rfl, rfl⟩
    · exact ⟨_, _, nA0, tA0.sq, rfl⟩
    · exact ⟨_, _, nA1, tA1.sq, rfl⟩
    · exact ⟨_, _, nA2, tA2.sq, rfl⟩
    · exact ⟨_, _, nA3, tA3.sq, rfl⟩
    · exact ⟨_, _, nA4, tA4.sq, rfl⟩
    · exact ⟨_, _, nA5, tA5.sq, rfl⟩
    · exact ⟨_, _, nA6, tA6.sq, rfl⟩
    · exact ⟨_, _, nA7, tA7.sq, rfl⟩
    · exact ⟨_, _, nA8, tA8.sq, rfl⟩
    · exact ⟨_, _, nA9, tA9.sq, rfl⟩
    · exact ⟨_, _, nA10, tA10.sq, rfl⟩
    · exact ⟨_, _, nA11, tA11.sq, rfl⟩
    · exact ⟨_, _, nA12, tA12.sq, rfl⟩
    · exact ⟨_, _, nA13, tA13.sq, rfl⟩
    · exact ⟨_, _, nA14, tA14.sq, rfl⟩
    · exact ⟨_, _, nA15, tA15.sq, rfl⟩
    · exact ⟨_, _, nA16, tA16.sq, rfl⟩
    · exact ⟨_, _, nA17, tA17.sq, rfl⟩⟩
  have gN : ∃ u, mg "MOST_NESTED" = some u ∧ RelV (.int 12) u := ⟨_, PySem.W.mg_of X G gMn, rMn⟩
  have gCm : ∃ u, mg "COMPARING" = some u ∧ RelV (.int 2) u := ⟨_, PySem.W.mg_of X G gCm, rCm⟩
  obtain ⟨g0', k0, fd0, F0⟩ := e0
  have b0 := F0.binds (ps := ["text", "at", "signs"]) fun _ _ _ _ _ _ us hl => match us, hl with | [_, _, _], _ => rfl
  have m0 := PySem.W.mg_of X G g0'
  obtain ⟨g1', k1, fd1, F1⟩ := e1
  have b1 := F1.binds (ps := ["text", "at"]) fun _ _ _ _ _ _ us hl => match us, hl with | [_, _], _ => rfl
  have m1 := PySem.W.mg_of X G g1'
  obtain ⟨g2', k2, fd2, F2⟩ := e2
  have b2 := F2.binds (ps := ["text", "at"]) fun _ _ _ _ _ _ us hl => match us, hl with | [_, _], _ => rfl
  have m2 := PySem.W.mg_of X G g2'
  obtain ⟨g3', k3, fd3, F3⟩ := e3
  have b3 := F3.binds (ps := ["text", "at"]) fun _ _ _ _ _ _ us hl => match us, hl with | [_, _], _ => rfl
  have m3 := PySem.W.mg_of X G g3'
  obtain ⟨g4', k4, fd4, F4⟩ := e4
  have b4 := F4.binds (ps := ["text", "at"]) fun _ _ _ _ _ _ us hl => match us, hl with | [_, _], _ => rfl
  have m4 := PySem.W.mg_of X G g4'
  obtain ⟨g5', k5, fd5, F5⟩ := e5
  have b5 := F5.binds (ps := ["text", "at"]) fun _ _ _ _ _ _ us hl => match us, hl with | [_, _], _ => rfl
  have m5 := PySem.W.mg_of X G g5'
  obtain ⟨g6', k6, fd6, F6⟩ := e6
  have b6 := F6.binds (ps := ["text"]) fun _ _ _ _ _ _ us hl => match us, hl with | [_], _ => rfl
  have m6 := PySem.W.mg_of X G g6'
  obtain ⟨g7', k7, fd7, F7⟩ := e7
  have b7 := F7.binds (ps := ["group", "operand"]) fun _ _ _ _ _ _ us hl => match us, hl with | [_, _], _ => rfl
  have m7 := PySem.W.mg_of X G g7'
  obtain ⟨g8', k8, fd8, F8⟩ := e8
  have b8 := F8.binds (ps := ["expression"]) fun _ _ _ _ _ _ us hl => match us, hl with | [_], _ => rfl
  have m8 := PySem.W.mg_of X G g8'
  obtain ⟨g9', k9, fd9, F9⟩ := e9
  have b9 := F9.binds (ps := ["expression"]) fun _ _ _ _ _ _ us hl => match us, hl with | [_], _ => rfl
  have m9 := PySem.W.mg_of X G g9'
  obtain ⟨g10', k10, fd10, F10⟩ := e10
  have b10 := F10.binds (ps := ["statement"]) fun _ _ _ _ _ _ us hl => match us, hl with | [_], _ => rfl
  have m10 := PySem.W.mg_of X G g10'
  obtain ⟨g11', k11, fd11, F11⟩ := e11
  have b11 := F11.binds (ps := ["statement"]) fun _ _ _ _ _ _ us hl => match us, hl with | [_], _ => rfl
  have m11 := PySem.W.mg_of X G g11'
  obtain ⟨g12', k12, fd12, F12⟩ := e12
  have b12 := F12.binds (ps := ["block"]) fun _ _ _ _ _ _ us hl => match us, hl with | [_], _ => rfl
  have m12 := PySem.W.mg_of X G g12'
  obtain ⟨g13', k13, fd13, F13⟩ := e13
  have b13 := F13.binds (ps := ["statements"]) fun _ _ _ _ _ _ us hl => match us, hl with | [_], _ => rfl
  have m13 := PySem.W.mg_of X G g13'
  obtain ⟨g14', k14, fd14, F14⟩ := e14
  have b14 := F14.binds (ps := ["expression"]) fun _ _ _ _ _ _ us hl => match us, hl with | [_], _ => rfl
  have m14 := PySem.W.mg_of X G g14'
  obtain ⟨g15', k15, fd15, F15⟩ := e15
  have b15 := F15.binds (ps := ["statements"]) fun _ _ _ _ _ _ us hl => match us, hl with | [_], _ => rfl
  have m15 := PySem.W.mg_of X G g15'
  obtain ⟨g16', k16, fd16, F16⟩ := e16
  have b16 := F16.binds (ps := ["_law_number"]) fun _ _ _ _ _ _ us hl => match us, hl with | [_], _ => rfl
  have m16 := PySem.W.mg_of X G g16'
  obtain ⟨g17', k17, fd17, F17⟩ := e17
  have b17 := F17.binds (ps := ["_law_state_here", "_law_many"]) fun _ _ _ _ _ _ us hl => match us, hl with | [_, _], _ => rfl
  have m17 := PySem.W.mg_of X G g17'
  obtain ⟨g18', k18, fd18, F18⟩ := e18
  have b18 := F18.binds (ps := ["_law_script_here"]) fun _ _ _ _ _ _ us hl => match us, hl with | [_], _ => rfl
  have m18 := PySem.W.mg_of X G g18'
  obtain ⟨g19', k19, fd19, F19⟩ := e19
  have b19 := F19.binds (ps := ["_law_state_here"]) fun _ _ _ _ _ _ us hl => match us, hl with | [_], _ => rfl
  have m19 := PySem.W.mg_of X G g19'
  obtain ⟨g20', k20, fd20, F20⟩ := e20
  have b20 := F20.binds (ps := ["_law_state_here"]) fun _ _ _ _ _ _ us hl => match us, hl with | [_], _ => rfl
  have m20 := PySem.W.mg_of X G g20'
  obtain ⟨g21', k21, fd21, F21⟩ := e21
  have b21 := F21.binds (ps := []) fun _ _ _ _ _ _ us hl => match us, hl with | [], _ => rfl
  have m21 := PySem.W.mg_of X G g21'
  obtain ⟨g22', k22, fd22, F22⟩ := e22
  have b22 := F22.binds (ps := []) fun _ _ _ _ _ _ us hl => match us, hl with | [], _ => rfl
  have m22 := PySem.W.mg_of X G g22'
  obtain ⟨g23', k23, fd23, F23⟩ := e23
  have b23 := F23.binds (ps := ["_law_state_here"]) fun _ _ _ _ _ _ us hl => match us, hl with | [_], _ => rfl
  have m23 := PySem.W.mg_of X G g23'
  obtain ⟨g24', k24, fd24, F24⟩ := e24
  have b24 := F24.binds (ps := ["_law_state_here", "_law_deep", "_law_room"]) fun _ _ _ _ _ _ us hl => match us, hl with | [_, _, _], _ => rfl
  have m24 := PySem.W.mg_of X G g24'
  obtain ⟨g25', k25, fd25, F25⟩ := e25
  have b25 := F25.binds (ps := ["_law_state_here", "_law_deep", "_law_room"]) fun _ _ _ _ _ _ us hl => match us, hl with | [_, _, _], _ => rfl
  have m25 := PySem.W.mg_of X G g25'
  obtain ⟨g26', k26, fd26, F26⟩ := e26
  have b26 := F26.binds (ps := ["_law_state_here", "_law_deep", "_law_room"]) fun _ _ _ _ _ _ us hl => match us, hl with | [_, _, _], _ => rfl
  have m26 := PySem.W.mg_of X G g26'
  obtain ⟨g27', k27, fd27, F27⟩ := e27
  have b27 := F27.binds (ps := ["_law_part", "_law_rank"]) fun _ _ _ _ _ _ us hl => match us, hl with | [_, _], _ => rfl
  have m27 := PySem.W.mg_of X G g27'
  obtain ⟨g28', k28, fd28, F28⟩ := e28
  have b28 := F28.binds (ps := ["_law_block_here"]) fun _ _ _ _ _ _ us hl => match us, hl with | [_], _ => rfl
  have m28 := PySem.W.mg_of X G g28'
  obtain ⟨g29', k29, fd29, F29⟩ := e29
  have b29 := F29.binds (ps := ["_law_statement_here"]) fun _ _ _ _ _ _ us hl => match us, hl with | [_], _ => rfl
  have m29 := PySem.W.mg_of X G g29'
  obtain ⟨g30', k30, fd30, F30⟩ := e30
  have b30 := F30.binds (ps := ["_law_state_here", "_law_part", "_law_rank"]) fun _ _ _ _ _ _ us hl => match us, hl with | [_, _, _], _ => rfl
  have m30 := PySem.W.mg_of X G g30'
  obtain ⟨g31', k31, fd31, F31⟩ := e31
  have b31 := F31.binds (ps := ["_law_state_here", "_law_block_here"]) fun _ _ _ _ _ _ us hl => match us, hl with | [_, _], _ => rfl
  have m31 := PySem.W.mg_of X G g31'
  obtain ⟨g32', k32, fd32, F32⟩ := e32
  have b32 := F32.binds (ps := ["_law_state_here", "_law_statement_here"]) fun _ _ _ _ _ _ us hl => match us, hl with | [_, _], _ => rfl
  have m32 := PySem.W.mg_of X G g32'
  obtain ⟨g33', k33, fd33, F33⟩ := e33
  have b33 := F33.binds (ps := ["_law_state_here", "_law_tokens_here"]) fun _ _ _ _ _ _ us hl => match us, hl with | [_, _], _ => rfl
  have m33 := PySem.W.mg_of X G g33'
  obtain ⟨g34', k34, fd34, F34⟩ := e34
  have b34 := F34.binds (ps := ["_law_part"]) fun _ _ _ _ _ _ us hl => match us, hl with | [_], _ => rfl
  have m34 := PySem.W.mg_of X G g34'
  obtain ⟨g35', k35, fd35, F35⟩ := e35
  have b35 := F35.binds (ps := ["_law_block_here"]) fun _ _ _ _ _ _ us hl => match us, hl with | [_], _ => rfl
  have m35 := PySem.W.mg_of X G g35'
  obtain ⟨g36', k36, fd36, F36⟩ := e36
  have b36 := F36.binds (ps := ["_law_state_here", "_law_room"]) fun _ _ _ _ _ _ us hl => match us, hl with | [_, _], _ => rfl
  have m36 := PySem.W.mg_of X G g36'
  obtain ⟨g37', k37, fd37, F37⟩ := e37
  have b37 := F37.binds (ps := ["_law_state_here", "_law_block_here"]) fun _ _ _ _ _ _ us hl => match us, hl with | [_, _], _ => rfl
  have m37 := PySem.W.mg_of X G g37'
  obtain ⟨g38', k38, fd38, F38⟩ := e38
  have b38 := F38.binds (ps := ["_law_found", "_law_block_here", "_law_words_here"]) fun _ _ _ _ _ _ us hl => match us, hl with | [_, _, _], _ => rfl
  have m38 := PySem.W.mg_of X G g38'
  obtain ⟨g39', k39, fd39, F39⟩ := e39
  have b39 := F39.binds (ps := ["_law_script_here"]) fun _ _ _ _ _ _ us hl => match us, hl with | [_], _ => rfl
  have m39 := PySem.W.mg_of X G g39'
  have R0 := h0.m
  obtain ⟨ar0, tr0, gr0, H0⟩ := h0
  have C0 := H0.binds (ps := ["self", "text"]) fun _ _ _ _ _ _ us hl => match us, hl with | [_, _], _ => rfl
  have R1 := h1.m
  obtain ⟨ar1, tr1, gr1, H1⟩ := h1
  have C1 := H1.binds (ps := ["self", "sign"]) fun _ _ _ _ _ _ us hl => match us, hl with | [_, _], _ => rfl
  have R2 := h2.m
  obtain ⟨ar2, tr2, gr2, H2⟩ := h2
  have C2 := H2.binds (ps := ["self", "sign"]) fun _ _ _ _ _ _ us hl => match us, hl with | [_, _], _ => rfl
  have R3 := h3.m
  obtain ⟨ar3, tr3, gr3, H3⟩ := h3
  have C3 := H3.binds (ps := ["self"]) fun _ _ _ _ _ _ us hl => match us, hl with | [_], _ => rfl
  have R4 := h4.m
  obtain ⟨ar4, tr4, gr4, H4⟩ := h4
  have C4 := H4.binds (ps := ["self"]) fun _ _ _ _ _ _ us hl => match us, hl with | [_], _ => rfl
  have R5 := h5.m
  obtain ⟨ar5, tr5, gr5, H5⟩ := h5
  have C5 := H5.binds (ps := ["self", "depth"]) fun _ _ _ _ _ _ us hl => match us, hl with | [_, _], _ => rfl
  have R6 := h6.m
  obtain ⟨ar6, tr6, gr6, H6⟩ := h6
  have C6 := H6.binds (ps := ["self", "depth"]) fun _ _ _ _ _ _ us hl => match us, hl with | [_, _], _ => rfl
  have R7 := h7.m
  obtain ⟨ar7, tr7, gr7, H7⟩ := h7
  have C7 := H7.binds (ps := ["self", "depth"]) fun _ _ _ _ _ _ us hl => match us, hl with | [_, _], _ => rfl
  have R8 := h8.m
  obtain ⟨ar8, tr8, gr8, H8⟩ := h8
  have C8 := H8.binds (ps := ["self", "statement"]) fun _ _ _ _ _ _ us hl => match us, hl with | [_, _], _ => rfl
  have R9 := h9.m
  obtain ⟨ar9, tr9, gr9, H9⟩ := h9
  have C9 := H9.binds (ps := ["self", "word", "depth"]) fun _ _ _ _ _ _ us hl => match us, hl with | [_, _, _], _ => rfl
  have R10 := h10.m
  obtain ⟨ar10, tr10, gr10, H10⟩ := h10
  have C10 := H10.binds (ps := ["self", "depth"]) fun _ _ _ _ _ _ us hl => match us, hl with | [_, _], _ => rfl
  have R11 := h11.m
  obtain ⟨ar11, tr11, gr11, H11⟩ := h11
  have C11 := H11.binds (ps := ["self", "group", "depth"]) fun _ _ _ _ _ _ us hl => match us, hl with | [_, _, _], _ => rfl
  have R12 := h12.m
  obtain ⟨ar12, tr12, gr12, H12⟩ := h12
  have C12 := H12.binds (ps := ["self", "group"]) fun _ _ _ _ _ _ us hl => match us, hl with | [_, _], _ => rfl
  have R13 := h13.m
  obtain ⟨ar13, tr13, gr13, H13⟩ := h13
  have C13 := H13.binds (ps := ["self", "depth"]) fun _ _ _ _ _ _ us hl => match us, hl with | [_, _], _ => rfl
  have R14 := h14.m
  obtain ⟨ar14, tr14, gr14, H14⟩ := h14
  have C14 := H14.binds (ps := ["self", "depth"]) fun _ _ _ _ _ _ us hl => match us, hl with | [_, _], _ => rfl
  have R15 := h15.m
  obtain ⟨ar15, tr15, gr15, H15⟩ := h15
  have C15 := H15.binds (ps := ["self", "word", "at", "depth"]) fun _ _ _ _ _ _ us hl => match us, hl with | [_, _, _, _], _ => rfl
  have S0 := j0.m
  obtain ⟨as0, ty0, gs0, J0⟩ := j0
  have D0 := J0.binds (ps := ["self"]) fun _ _ _ _ _ _ us hl => match us, hl with | [_], _ => rfl
  have S1 := j1.m
  obtain ⟨as1, ty1, gs1, J1⟩ := j1
  have D1 := J1.binds (ps := ["self", "other"]) fun _ _ _ _ _ _ us hl => match us, hl with | [_, _], _ => rfl
  have S2 := j2.m
  obtain ⟨as2, ty2, gs2, J2⟩ := j2
  have D2 := J2.binds (ps := ["self"]) fun _ _ _ _ _ _ us hl => match us, hl with | [_], _ => rfl
  have S3 := j3.m
  obtain ⟨as3, ty3, gs3, J3⟩ := j3
  have D3 := J3.binds (ps := ["self", "word"]) fun _ _ _ _ _ _ us hl => match us, hl with | [_, _], _ => rfl
  have S4 := j4.m
  obtain ⟨as4, ty4, gs4, J4⟩ := j4
  have D4 := J4.binds (ps := ["self"]) fun _ _ _ _ _ _ us hl => match us, hl with | [_], _ => rfl
  have S5 := j5.m
  obtain ⟨as5, ty5, gs5, J5⟩ := j5
  have D5 := J5.binds (ps := ["self", "other"]) fun _ _ _ _ _ _ us hl => match us, hl with | [_, _], _ => rfl
  obtain ⟨rRd, sRd, fdRd, FRd⟩ := hS
  have bRd := FRd.binds (ps := ["text"]) fun _ _ _ _ _ _ us hl => match us, hl with | [_], _ => rfl
  obtain ⟨aI, tyI, ⟨fdI, FI⟩, eI⟩ := iI
  have LW : LawD K mg := ⟨zLen, zRng, zIsi, zStr, zLst, zTup, zMax, zMin, ⟨⟨_, _, m16, k16, F16, b16⟩⟩, ⟨⟨_, _, m17, k17, F17, b17⟩⟩, ⟨⟨_, _, m18, k18, F18, b18⟩⟩, ⟨⟨_, _, m19, k19, F19, b19⟩⟩, ⟨⟨_, _, m20, k20, F20, b20⟩⟩, ⟨⟨_, _, m21, k21, F21, b21⟩⟩, ⟨⟨_, _, m22, k22, F22, b22⟩⟩, ⟨⟨_, _, m23, k23, F23, b23⟩⟩, ⟨⟨_, _, m24, k24, F24, b24⟩⟩, ⟨⟨_, _, m25, k25, F25, b25⟩⟩, ⟨⟨_, _, m26, k26, F26, b26⟩⟩, ⟨⟨_, _, m27, k27, F27, b27⟩⟩, ⟨⟨_, _, m28, k28, F28, b28⟩⟩, ⟨⟨_, _, m29, k29, F29, b29⟩⟩, ⟨⟨_, _, m30, k30, F30, b30⟩⟩, ⟨⟨_, _, m31, k31, F31, b31⟩⟩, ⟨⟨_, _, m32, k32, F32, b32⟩⟩, ⟨⟨_, _, m33, k33, F33, b33⟩⟩, ⟨⟨_, _, m34, k34, F34, b34⟩⟩, ⟨⟨_, _, m35, k35, F35, b35⟩⟩, ⟨⟨_, _, m36, k36, F36, b36⟩⟩, ⟨⟨_, _, m37, k37, F37, b37⟩⟩, ⟨⟨_, _, m38, k38, F38, b38⟩⟩⟩
  refine ⟨fd39, fun s v => ?_, fun base IB NB => ?_⟩
  · obtain ⟨⟨oc, od, kV, doc, pm, an, cdv, ct, osl, rfl, _⟩, _⟩ := F39
    exact .of_eq (fd := PySem.W.fnOf "law" "law" (defArgs sLaw) (defBody sLaw) (defScope sLaw) .none kV doc pm an cdv ct) rfl
  have EO : Df l.prog w K mg base "end_of_row" ["text", "at", "signs"] 1 spEor := ⟨_, _, m0, k0, ok_eor F0 zLen, b0⟩
  have NU : Df l.prog w K mg base "number_token" ["text", "at"] 2 spNum := ⟨_, _, m1, k1, ok_num F1 G1 EO, b1⟩
  have WR : Df l.prog w K mg base "word_token" ["text", "at"] 2 spWrd := ⟨_, _, m2, k2, ok_wrd F2 G2 EO, b2⟩
  have TX : Df l.prog w K mg base "text_token" ["text", "at"] 1 spTxt := ⟨_, _, m3, k3, ok_txt F3 G2, b3⟩
  have SG : Df l.prog w K mg base "sign_token" ["text", "at"] 1 spSgn := ⟨_, _, m4, k4, ok_sgn F4 G2, b4⟩
  have TA : Df l.prog w K mg base "token_at" ["text", "at"] 3 spTat := ⟨_, _, m5, k5, ok_tat F5 G2 NU WR TX SG, b5⟩
  have TO : Df l.prog w K mg base "tokens_of" ["text"] 4 spTok := ⟨_, _, m6, k6, ok_tok F6 G1 EO TA, b6⟩
  have WX : WrX l.prog w K mg base := ⟨zStr, zZip, ⟨_, _, m7, k7, F7, b7⟩, ⟨_, _, m8, k8, F8, b8⟩, ⟨_, _, m9, k9, F9, b9⟩⟩
  have WSt : WrS l.prog w K mg base := ⟨WX, ⟨_, _, m10, k10, F10, b10⟩, ⟨_, _, m11, k11, F11, b11⟩, ⟨_, _, m12, k12, F12, b12⟩, ⟨_, _, m13, k13, F13, b13⟩⟩
  have WCa : WrC l.prog w K mg base := ⟨⟨_, _, m14, k14, F14, b14⟩, ⟨_, _, m15, k15, F15, b15⟩⟩
  have BL := WSt.block 4 3
  have CB := WCa.block 4 3
  have IS : MD l.prog w K mg base CR "is_next" ["self", "sign"] 1 (spIs CR) := ⟨_, _, R1, ok_is H1 c, C1⟩
  have TK : MD l.prog w K mg base CR "take" ["self", "sign"] 2 (spTake CR) := ⟨_, _, R2, ok_take H2 c IS, C2⟩
  have TN : MD l.prog w K mg base CR "take_name" ["self"] 1 (spName CR) := ⟨_, _, R3, ok_tkn H3 c, C3⟩
  have HAS : MD l.prog w K mg base CR "has_operator" ["self", "group"] 1 (spHas CR) := ⟨_, _, R12, ok_has H12 c G3, C12⟩
  have END : MD l.prog w K mg base CR "ended" ["self", "statement"] 3 (spEnd CR) := ⟨_, _, R8, ok_end H8 c TK, C8⟩
  have RA : RdAll l.prog w K mg base CR pG pA [g0, g1, g2, g3, g4] es nA := ⟨c, G3, AR, zLen, zTup, gN, gCm, IS, TK, TN, END, HAS, ⟨_, _, R14, H14, C14⟩, ⟨_, _, R10, H10, C10⟩, ⟨_, _, R11, H11, C11⟩, ⟨_, _, R13, H13, C13⟩, ⟨_, _, R15, H15, C15⟩, ⟨_, _, R5, H5, C5⟩, ⟨_, _, R6, H6, C6⟩, ⟨_, _, R9, H9, C9⟩, ⟨_, _, R7, H7, C7⟩, ⟨_, _, R4, H4, C4⟩⟩
  have AL : MD l.prog w K mg base CR "all_statements" ["self"] 80 (spAll K CR (SP (XP 7) 2)) := RA.al 7 2 (by decide)
  have MR : Mk1 l.prog w K mg base CR "Reader" ["self", "text"] 5 (spRI CR) := ⟨⟨_, _, ⟨mkR, R0.at_, R0.fn, kpR⟩, ok_ri H0 c TO, C0⟩, mC⟩
  have fnI : PySem.W.isFn K (.ref fI) = true := by
    unfold PySem.W.isFn
    rw [tyI]
    rfl
  have MS : Mk1 l.prog w K mg base CS "Script" ["self", "statements"] 1 (spSI K CS) := ⟨⟨_, _, ⟨mkS', aI, fnI, kpS⟩, ok_si FI sC zTup, init_b2 FI⟩, mS⟩
  have MD' : Mk1D l.prog w K mg base CS "Script" ["self", "statements"] 1 (spSI K CS) := ⟨⟨_, _, _, ⟨mkS', aI, fnI, kpS⟩, ok_si FI sC zTup, init_b1 FI, eI⟩, mS⟩
  have GW : MG l.prog w K mg base CS "call_words" ["self"] 9 (spGW K CS 4 3) := ⟨_, _, S4, gw_ok (k := 8) J4 sC CB, D4⟩
  have M : ScM l.prog w K mg base CS := ⟨sC, lvi, nS, sfS, mS, ⟨_, _, S1.at_, S1.fn, ok_eq J1 sC lvi zIsi mS, D1⟩, ⟨_, _, S5.at_, S5.fn, ok_add J5 sC MS, D5⟩, ⟨_, _, S2.at_, ty2, ok_len J2 sC zLen, D2⟩, ⟨_, _, S0.at_, S0.fn, ok_str (k := 23) J0 sC BL, D0⟩, ⟨_, _, S3.at_, ty3, ok_in (k := 8) J3 sC zIsi zStr CB, D3⟩, ⟨_, _, _, _, rRd, sRd, ok_read (k := 80) (by decide) FRd c MR AL MS, bRd⟩⟩
  exact LW.law M MD' GW F39
end
theorem walk {l : PySem.W.OpenLaw} {q : Program} {loose : List Str} {XP : (Str → Option Value) → Heap → Prop} {YP : World → Heap → Prop} {d : DefRec} {K : Params → PySem.W.Frag} (hn : l.most = some 63) (hdf : d.params.defaults = [])
    (hY : ∀ (w : World) (h : Heap), YP w h → (K w.params).In h)
    (F : ∀ (w : World) (mg : Str → Option Value) (fa : Addr) (h : Heap), (K w.params).In h → h.Ns mainGlobals mg → mg d.name = some (.ref fa) →
      ∃ fd : FuncData, (∀ (s : Shared) (u : Value), BindsTo s fd ⟨[u], []⟩ [("_law_script_here", u)]) ∧ ∀ base : Heap, (K w.params).In base → base.Ns mainGlobals mg → FnOk l.prog w (K w.params) mg base CX0 83 fa fd ["_law_script_here"] (spLaw (K w.params))) :
    PySem.W.WalkO q loose XP YP l.row.toRowW d [] (fun f vs => PySem.call f vs) :=
  L2.walk_ofK (n := 63) (k := 83) (x := "_law_script_here") (CX := CX0) (sp := spLaw) hn (by decide) hdf ⟨rfl, by decide, by decide⟩ hY F (fun K H a ns hl _ hS => ⟨a, ns, rfl, hS, hl, fun _ => rfl⟩) fun _ _ _ _ z => z.elim
end K72
open PySem PySem.W PyProof.Rows in
set_option maxRecDepth 100000 in
set_option maxHeartbeats 0 in
theorem PySem.Challenge.cw_maskededits_k72_whole_written_scripts_re_holds : PySem.Challenge.rw_maskededits_k72_whole_written_scripts_re.Holds := by
  w_on; o_law; k_head; (case hw => w_witness2)
  k_fill
  refine K72.walk (l := PySem.Challenge.rw_maskededits_k72_whole_written_scripts_re) rfl rfl (fun w h Y => PySem.W.kIn_of Y) ?F
  case F =>
    intro w mg fa h KX G hmg
    refine' K72.all_mk KX G hmg ?gC ?gD ?cb1 ?cb2 ?rb ?sb ?iI ?hS ?h0 ?h1 ?h2 ?h3 ?h4 ?h5 ?h6 ?h7 ?h8 ?h9 ?h10 ?h11 ?h12 ?h13 ?h14 ?h15 ?j0 ?j1 ?j2 ?j3 ?j4 ?j5 ?e0 ?e1 ?e2 ?e3 ?e4 ?e5 ?e6 ?e7 ?e8 ?e9 ?e10 ?e11 ?e12 ?e13 ?e14 ?e15 ?e16 ?e17 ?e18 ?e19 ?e20 ?e21 ?e22 ?e23 ?e24 ?e25 ?e26 ?e27 ?e28 ?e29 ?e30 ?e31 ?e32 ?e33 ?e34 ?e35 ?e36 ?e37 ?e38 ?e39 ?z0 ?z1 ?z2 ?z3 ?z4 ?z5 ?z6 ?z7 ?z8 ?z9 ?gLe ?rLe ?gDi ?rDi ?gWs ?rWs ?gBl ?rBl ?gMd ?rMd ?gLs ?rLs ?gMn ?rMn ?gCm ?rCm ?gK ?gS ?gG ?gA ?lG ?lA ?litA ?lowA ?nA0 ?nA1 ?nA2 ?nA3 ?nA4 ?nA5 ?nA6 ?nA7 ?nA8 ?nA9 ?nA10 ?nA11 ?nA12 ?nA13 ?nA14 ?nA15 ?nA16 ?nA17 ?tK ?tS ?tG0 ?tG1 ?tG2 ?tG3 ?tG4 ?tA0 ?tA1 ?tA2 ?tA3 ?tA4 ?tA5 ?tA6 ?tA7 ?tA8 ?tA9 ?tA10 ?tA11 ?tA12 ?tA13 ?tA14 ?tA15 ?tA16 ?tA17
    (case gC => k_is)
    (case gD => k_is)
    (case cb1 => first | kernel_rfl | k_is)
    (case cb2 => first | kernel_rfl | k_is)
    (case rb => first | kernel_rfl | k_is)
    (case sb => first | kernel_rfl | k_is)
    (case iI => refine' K72.hasInit ?a ?ty ?lf ?cf ?kf ?lD ?lt; (case a => k_is); (case ty => k_is); (case lf => k_is); (case cf => k_is); (case kf => k_is); (case lD => k_is); (case lt => k_is))
    (case hS => refine' K72.hasStat ?rd ?ga ?fc ?rc ?lf ?cf ?kf; (case rd => k_is); (case ga => k_is); (case fc => k_is); (case rc => k_is); (case lf => k_is); (case cf => k_is); (case kf => k_is))
    (case h0 => refine' K72.hasMeth ?a ?t ?lf ?cf ?kf; (case a => k_is); (case t => k_is); (case lf => k_is); (case cf => k_is); (case kf => k_is))
    (case h1 => refine' K72.hasMeth ?a ?t ?lf ?cf ?kf; (case a => k_is); (case t => k_is); (case lf => k_is); (case cf => k_is); (case kf => k_is))
    (case h2 => refine' K72.hasMeth ?a ?t ?lf ?cf ?kf; (case a => k_is); (case t => k_is); (case lf => k_is); (case cf => k_is); (case kf => k_is))
    (case h3 => refine' K72.hasMeth ?a ?t ?lf ?cf ?kf; (case a => k_is); (case t => k_is); (case lf => k_is); (case cf => k_is); (case kf => k_is))
    (case h4 => refine' K72.hasMeth ?a ?t ?lf ?cf ?kf; (case a => k_is); (case t => k_is); (case lf => k_is); (case cf => k_is); (case kf => k_is))
    (case h5 => refine' K72.hasMeth ?a ?t ?lf ?cf ?kf; (case a => k_is); (case t => k_is); (case lf => k_is); (case cf => k_is); (case kf => k_is))
    (case h6 => refine' K72.hasMeth ?a ?t ?lf ?cf ?kf; (case a => k_is); (case t => k_is); (case lf => k_is); (case cf => k_is); (case kf => k_is))
    (case h7 => refine' K72.hasMeth ?a ?t ?lf ?cf ?kf; (case a => k_is); (case t => k_is); (case lf => k_is); (case cf => k_is); (case kf => k_is))
    (case h8 => refine' K72.hasMeth ?a ?t ?lf ?cf ?kf; (case a => k_is); (case t => k_is); (case lf => k_is); (case cf => k_is); (case kf => k_is))
    (case h9 => refine' K72.hasMeth ?a ?t ?lf ?cf ?kf; (case a => k_is); (case t => k_is); (case lf => k_is); (case cf => k_is); (case kf => k_is))
    (case h10 => refine' K72.hasMeth ?a ?t ?lf ?cf ?kf; (case a => k_is); (case t => k_is); (case lf => k_is); (case cf => k_is); (case kf => k_is))
    (case h11 => refine' K72.hasMeth ?a ?t ?lf ?cf ?kf; (case a => k_is); (case t => k_is); (case lf => k_is); (case cf => k_is); (case kf => k_is))
    (case h12 => refine' K72.hasMeth ?a ?t ?lf ?cf ?kf; (case a => k_is); (case t => k_is); (case lf => k_is); (case cf => k_is); (case kf => k_is))
    (case h13 => refine' K72.hasMeth ?a ?t ?lf ?cf ?kf; (case a => k_is); (case t => k_is); (case lf => k_is); (case cf => k_is); (case kf => k_is))
    (case h14 => refine' K72.hasMeth ?a ?t ?lf ?cf ?kf; (case a => k_is); (case t => k_is); (case lf => k_is); (case cf => k_is); (case kf => k_is))
    (case h15 => refine' K72.hasMeth ?a ?t ?lf ?cf ?kf; (case a => k_is); (case t => k_is); (case lf => k_is); (case cf => k_is); (case kf => k_is))
    (case j0 => refine' K72.hasMeth ?a ?t ?lf ?cf ?kf; (case a => k_is); (case t => k_is); (case lf => k_is); (case cf => k_is); (case kf => k_is))
    (case j1 => refine' K72.hasMeth ?a ?t ?lf ?cf ?kf; (case a => k_is); (case t => k_is); (case lf => k_is); (case cf => k_is); (case kf => k_is))
    (case j2 => refine' K72.hasMeth ?a ?t ?lf ?cf ?kf; (case a => k_is); (case t => k_is); (case lf => k_is); (case cf => k_is); (case kf => k_is))
    (case j3 => refine' K72.hasMeth ?a ?t ?lf ?cf ?kf; (case a => k_is); (case t => k_is); (case lf => k_is); (case cf => k_is); (case kf => k_is))
    (case j4 => refine' K72.hasMeth ?a ?t ?lf ?cf ?kf; (case a => k_is); (case t => k_is); (case lf => k_is); (case cf => k_is); (case kf => k_is))
    (case j5 => refine' K72.hasMeth ?a ?t ?lf ?cf ?kf; (case a => k_is); (case t => k_is); (case lf => k_is); (case cf => k_is); (case kf => k_is))
    (case e0 => refine' K72.hasDef ?g ?lf ?cf ?kf; (case g => k_is); (case lf => k_is); (case cf => k_is); (case kf => k_is))
    (case e1 => refine' K72.hasDef ?g ?lf ?cf ?kf; (case g => k_is); (case lf => k_is); (case cf => k_is); (case kf => k_is))
    (case e2 => refine' K72.hasDef ?g ?lf ?cf ?kf; (case g => k_is); (case lf => k_is); (case cf => k_is); (case kf => k_is))
    (case e3 => refine' K72.hasDef ?g ?lf ?cf ?kf; (case g => k_is); (case lf => k_is); (case cf => k_is); (case kf => k_is))
    (case e4 => refine' K72.hasDef ?g ?lf ?cf ?kf; (case g => k_is); (case lf => k_is); (case cf => k_is); (case kf => k_is))
    (case e5 => refine' K72.hasDef ?g ?lf ?cf ?kf; (case g => k_is); (case lf => k_is); (case cf => k_is); (case kf => k_is))
    (case e6 => refine' K72.hasDef ?g ?lf ?cf ?kf; (case g => k_is); (case lf => k_is); (case cf => k_is); (case kf => k_is))
    (case e7 => refine' K72.hasDef ?g ?lf ?cf ?kf; (case g => k_is); (case lf => k_is); (case cf => k_is); (case kf => k_is))
    (case e8 => refine' K72.hasDef ?g ?lf ?cf ?kf; (case g => k_is); (case lf => k_is); (case cf => k_is); (case kf => k_is))
    (case e9 => refine' K72.hasDef ?g ?lf ?cf ?kf; (case g => k_is); (case lf => k_is); (case cf => k_is); (case kf => k_is))
    (case e10 => refine' K72.hasDef ?g ?lf ?cf ?kf; (case g => k_is); (case lf => k_is); (case cf => k_is); (case kf => k_is))
    (case e11 => refine' K72.hasDef ?g ?lf ?cf ?kf; (case g => k_is); (case lf => k_is); (case cf => k_is); (case kf => k_is))
    (case e12 => refine' K72.hasDef ?g ?lf ?cf ?kf; (case g => k_is); (case lf => k_is); (case cf => k_is); (case kf => k_is))
    (case e13 => refine' K72.hasDef ?g ?lf ?cf ?kf; (case g => k_is); (case lf => k_is); (case cf => k_is); (case kf => k_is))
    (case e14 => refine' K72.hasDef ?g ?lf ?cf ?kf; (case g => k_is); (case lf => k_is); (case cf => k_is); (case kf => k_is))
    (case e15 => refine' K72.hasDef ?g ?lf ?cf ?kf; (case g => k_is); (case lf => k_is); (case cf => k_is); (case kf => k_is))
    (case e16 => refine' K72.hasDef ?g ?lf ?cf ?kf; (case g => k_is); (case lf => k_is); (case cf => k_is); (case kf => k_is))
    (case e17 => refine' K72.hasDef ?g ?lf ?cf ?kf; (case g => k_is); (case lf => k_is); (case cf => k_is); (case kf => k_is))
    (case e18 => refine' K72.hasDef ?g ?lf ?cf ?kf; (case g => k_is); (case lf => k_is); (case cf => k_is); (case kf => k_is))
    (case e19 => refine' K72.hasDef ?g ?lf ?cf ?kf; (case g => k_is); (case lf => k_is); (case cf => k_is); (case kf => k_is))
    (case e20 => refine' K72.hasDef ?g ?lf ?cf ?kf; (case g => k_is); (case lf => k_is); (case cf => k_is); (case kf => k_is))
    (case e21 => refine' K72.hasDef ?g ?lf ?cf ?kf; (case g => k_is); (case lf => k_is); (case cf => k_is); (case kf => k_is))
    (case e22 => refine' K72.hasDef ?g ?lf ?cf ?kf; (case g => k_is); (case lf => k_is); (case cf => k_is); (case kf => k_is))
    (case e23 => refine' K72.hasDef ?g ?lf ?cf ?kf; (case g => k_is); (case lf => k_is); (case cf => k_is); (case kf => k_is))
    (case e24 => refine' K72.hasDef ?g ?lf ?cf ?kf; (case g => k_is); (case lf => k_is); (case cf => k_is); (case kf => k_is))
    (case e25 => refine' K72.hasDef ?g ?lf ?cf ?kf; (case g => k_is); (case lf => k_is); (case cf => k_is); (case kf => k_is))
    (case e26 => refine' K72.hasDef ?g ?lf ?cf ?kf; (case g => k_is); (case lf => k_is); (case cf => k_is); (case kf => k_is))
    (case e27 => refine' K72.hasDef ?g ?lf ?cf ?kf; (case g => k_is); (case lf => k_is); (case cf => k_is); (case kf => k_is))
    (case e28 => refine' K72.hasDef ?g ?lf ?cf ?kf; (case g => k_is); (case lf => k_is); (case cf => k_is); (case kf => k_is))
    (case e29 => refine' K72.hasDef ?g ?lf ?cf ?kf; (case g => k_is); (case lf => k_is); (case cf => k_is); (case kf => k_is))
    (case e30 => refine' K72.hasDef ?g ?lf ?cf ?kf; (case g => k_is); (case lf => k_is); (case cf => k_is); (case kf => k_is))
    (case e31 => refine' K72.hasDef ?g ?lf ?cf ?kf; (case g => k_is); (case lf => k_is); (case cf => k_is); (case kf => k_is))
    (case e32 => refine' K72.hasDef ?g ?lf ?cf ?kf; (case g => k_is); (case lf => k_is); (case cf => k_is); (case kf => k_is))
    (case e33 => refine' K72.hasDef ?g ?lf ?cf ?kf; (case g => k_is); (case lf => k_is); (case cf => k_is); (case kf => k_is))
    (case e34 => refine' K72.hasDef ?g ?lf ?cf ?kf; (case g => k_is); (case lf => k_is); (case cf => k_is); (case kf => k_is))
    (case e35 => refine' K72.hasDef ?g ?lf ?cf ?kf; (case g => k_is); (case lf => k_is); (case cf => k_is); (case kf => k_is))
    (case e36 => refine' K72.hasDef ?g ?lf ?cf ?kf; (case g => k_is); (case lf => k_is); (case cf => k_is); (case kf => k_is))
    (case e37 => refine' K72.hasDef ?g ?lf ?cf ?kf; (case g => k_is); (case lf => k_is); (case cf => k_is); (case kf => k_is))
    (case e38 => refine' K72.hasDef ?g ?lf ?cf ?kf; (case g => k_is); (case lf => k_is); (case cf => k_is); (case kf => k_is))
    (case e39 => refine' K72.hasDef ?g ?lf ?cf ?kf; (case g => k_is); (case lf => k_is); (case cf => k_is); (case kf => k_is))
    (case z0 => k_is)
    (case z1 => k_is)
    (case z2 => k_is)
    (case z3 => k_is)
    (case z4 => k_is)
    (case z5 => k_is)
    (case z6 => k_is)
    (case z7 => k_is)
    (case z8 => k_is)
    (case z9 => k_is)
    (case gLe => k_is)
    (case gDi => k_is)
    (case gWs => k_is)
    (case gBl => k_is)
    (case gMd => k_is)
    (case gLs => k_is)
    (case gMn => k_is)
    (case gCm => k_is)
    (case rLe => exact ⟨_, rfl⟩)
    (case rDi => exact ⟨_, rfl⟩)
    (case rWs => exact ⟨_, rfl⟩)
    (case rBl => exact ⟨_, rfl⟩)
    (case rMd => exact ⟨_, rfl⟩)
    (case rLs => exact ⟨_, rfl⟩)
    (case rMn => exact ⟨_, rfl⟩)
    (case rCm => exact ⟨_, rfl⟩)
    (case gK => k_is)
    (case gS => k_is)
    (case gG => k_is)
    (case gA => k_is)
    (case lG => k_is)
    (case lA => k_is)
    (case litA => (repeat' (first | exact trivial | refine' ⟨⟨_, _, rfl, rfl⟩, ?_⟩)))
    (case lowA => first | rfl | decide | kernel_rfl)
    (case nA0 => k_is)
    (case nA1 => k_is)
    (case nA2 => k_is)
    (case nA3 => k_is)
    (case nA4 => k_is)
    (case nA5 => k_is)
    (case nA6 => k_is)
    (case nA7 => k_is)
    (case nA8 => k_is)
    (case nA9 => k_is)
    (case nA10 => k_is)
    (case nA11 => k_is)
    (case nA12 => k_is)
    (case nA13 => k_is)
    (case nA14 => k_is)
    (case nA15 => k_is)
    (case nA16 => k_is)
    (case nA17 => k_is)
    (case tK => refine' K72.tupK ?lt ?v ?s; (case lt => k_is); (case v => (repeat' (first | exact .nil | refine' .cons ⟨_, rfl⟩ ?_))); (case s => decide))
    (case tS => refine' K72.tupK ?lt ?v ?s; (case lt => k_is); (case v => (repeat' (first | exact .nil | refine' .cons ⟨_, rfl⟩ ?_))); (case s => decide))
    (case tG0 => refine' K72.tupK ?lt ?v ?s; (case lt => k_is); (case v => (repeat' (first | exact .nil | refine' .cons ⟨_, rfl⟩ ?_))); (case s => decide))
    (case tG1 => refine' K72.tupK ?lt ?v ?s; (case lt => k_is); (case v => (repeat' (first | exact .nil | refine' .cons ⟨_, rfl⟩ ?_))); (case s => decide))
    (case tG2 => refine' K72.tupK ?lt ?v ?s; (case lt => k_is); (case v => (repeat' (first | exact .nil | refine' .cons ⟨_, rfl⟩ ?_))); (case s => decide))
    (case tG3 => refine' K72.tupK ?lt ?v ?s; (case lt => k_is); (case v => (repeat' (first | exact .nil | refine' .cons ⟨_, rfl⟩ ?_))); (case s => decide))
    (case tG4 => refine' K72.tupK ?lt ?v ?s; (case lt => k_is); (case v => (repeat' (first | exact .nil | refine' .cons ⟨_, rfl⟩ ?_))); (case s => decide))
    (case tA0 => refine' K72.tupK ?lt ?v ?s; (case lt => k_is); (case v => (repeat' (first | exact .nil | refine' .cons ⟨_, rfl⟩ ?_))); (case s => decide))
    (case tA1 => refine' K72.tupK ?lt ?v ?s; (case lt => k_is); (case v => (repeat' (first | exact .nil | refine' .cons ⟨_, rfl⟩ ?_))); (case s => decide))
    (case tA2 => refine' K72.tupK ?lt ?v ?s; (case lt => k_is); (case v => (repeat' (first | exact .nil | refine' .cons ⟨_, rfl⟩ ?_))); (case s => decide))
    (case tA3 => refine' K72.tupK ?lt ?v ?s; (case lt => k_is); (case v => (repeat' (first | exact .nil | refine' .cons ⟨_, rfl⟩ ?_))); (case s => decide))
    (case tA4 => refine' K72.tupK ?lt ?v ?s; (case lt => k_is); (case v => (repeat' (first | exact .nil | refine' .cons ⟨_, rfl⟩ ?_))); (case s => decide))
    (case tA5 => refine' K72.tupK ?lt ?v ?s; (case lt => k_is); (case v => (repeat' (first | exact .nil | refine' .cons ⟨_, rfl⟩ ?_))); (case s => decide))
    (case tA6 => refine' K72.tupK ?lt ?v ?s; (case lt => k_is); (case v => (repeat' (first | exact .nil | refine' .cons ⟨_, rfl⟩ ?_))); (case s => decide))
    (case tA7 => refine' K72.tupK ?lt ?v ?s; (case lt => k_is); (case v => (repeat' (first | exact .nil | refine' .cons ⟨_, rfl⟩ ?_))); (case s => decide))
    (case tA8 => refine' K72.tupK ?lt ?v ?s; (case lt => k_is); (case v => (repeat' (first | exact .nil | refine' .cons ⟨_, rfl⟩ ?_))); (case s => decide))
    (case tA9 => refine' K72.tupK ?lt ?v ?s; (case lt => k_is); (case v => (repeat' (first | exact .nil | refine' .cons ⟨_, rfl⟩ ?_))); (case s => decide))
    (case tA10 => refine' K72.tupK ?lt ?v ?s; (case lt => k_is); (case v => (repeat' (first | exact .nil | refine' .cons ⟨_, rfl⟩ ?_))); (case s => decide))
    (case tA11 => refine' K72.tupK ?lt ?v ?s; (case lt => k_is); (case v => (repeat' (first | exact .nil | refine' .cons ⟨_, rfl⟩ ?_))); (case s => decide))
    (case tA12 => refine' K72.tupK ?lt ?v ?s; (case lt => k_is); (case v => (repeat' (first | exact .nil | refine' .cons ⟨_, rfl⟩ ?_))); (case s => decide))
    (case tA13 => refine' K72.tupK ?lt ?v ?s; (case lt => k_is); (case v => (repeat' (first | exact .nil | refine' .cons ⟨_, rfl⟩ ?_))); (case s => decide))
    (case tA14 => refine' K72.tupK ?lt ?v ?s; (case lt => k_is); (case v => (repeat' (first | exact .nil | refine' .cons ⟨_, rfl⟩ ?_))); (case s => decide))
    (case tA15 => refine' K72.tupK ?lt ?v ?s; (case lt => k_is); (case v => (repeat' (first | exact .nil | refine' .cons ⟨_, rfl⟩ ?_))); (case s => decide))
    (case tA16 => refine' K72.tupK ?lt ?v ?s; (case lt => k_is); (case v => (repeat' (first | exact .nil | refine' .cons ⟨_, rfl⟩ ?_))); (case s => decide))
    (case tA17 => refine' K72.tupK ?lt ?v ?s; (case lt => k_is); (case v => (repeat' (first | exact .nil | refine' .cons ⟨_, rfl⟩ ?_))); (case s => decide))
