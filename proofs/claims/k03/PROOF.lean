import PyProof.Rows.All
import Wide.All
import OpenK.AllK
import Wide.FinOn
import PyProof.EqAt
import PyProof.EqKinds
import PyProof.TupleCall
import HandS.Base
import HandS.Call
import HandS.List
import HandS.Comp
import HandS.Ends
import HandS.Words
import PyProof.ReprReads
import PyProof.ReprRoads
import HandS.Dict
import HandS.Exc
import HandS.ExcInit
import KE.KExcInit
import KE.KExcIs
import HandS.ExcValue
import HandS.MakeKwOnly
import HandS.IsInst
import HandS.ForMost
import HandS.Evl
import HandS.Iter
import HandS.Walk
import HandS.Text
import HandS.FStr
import HandS.Steps
import HandS.Codes
import HandS.EndTab
import PySem.Challenge.RW_maskededits_k03_marks_and_names
import HandS.ExcField
import HandS.Deep
import HandS.WordsExc
import HandS.Flow
import HandS.Lambda
import PyProof.StrBlock2
import HandS.Style
import PyProof.Rows.StrMul
import PyProof.StrLawsRepr
import KE.KNestM
import KE.KLam
set_option Elab.async false
set_option linter.all false
set_option maxRecDepth 100000
set_option maxHeartbeats 4000000
/-! a def's promise for calls under which no guarded builtin runs; repr of data -/
namespace My
open PySem PySem.Spec PyProof.Rows L2

/-- as FnOk, asked only where no guard runs below -/
structure FnG (P : Program) (w : World) (K : PySem.W.Frag) (mg : Str → Option Value) (base : Heap) (CX : CXT) (k : Nat) (f : Addr) (fd : FuncData)
    (ps : List Str) (sp : Sp) : Prop where
  len : ∀ vs H Q E, sp vs H Q E → vs.length = ps.length
  run : ∀ (A : Around) (outer : List Env) (s : Shared) (H : Hp) (args : Args) (us : List Value) (vs : List V) (Q : VK) (E : XK),
    A.guards = some [] → Room k A → Env0 P w K mg base A outer s H → BindsTo s fd args (ps.zip us) → Vals vs us → sp vs H Q E →
    codeAny (model P w) A (.call (.ref f) args) (CR CX outer P w H s Q E) s

section
variable {P : Program} {w : World} {K : PySem.W.Frag} {mg : Str → Option Value} {base : Heap} {CX : CXT} {k : Nat} {f : Addr} {fd : FuncData}
  {ps : List Str} {sp : Sp}
theorem FnG.of (F : FnOk P w K mg base CX k f fd ps sp) : FnG P w K mg base CX k f fd ps sp :=
  ⟨F.len, fun A outer s H args us vs Q E _ hr e0 hb r hs => F.run A outer s H args us vs Q E hr e0 hb r hs⟩

/-- by the body, its guards known -/
theorem FnG.byBody {x qual : Str} {st : Stmt} {N : List Str} (F : Fun K x qual st f fd) (S : FnScope N ps (defScope st))
    (len : ∀ vs H Q E, sp vs H Q E → vs.length = ps.length)
    (body : ∀ (cdv : Value) (A : Around) (outer : List Env) (s : Shared) (H : Hp) (vs : List V) (Q : VK) (E : XK),
      A.guards = some [] → Room k (A.deeper (envOfC qual (defScope st) s.heap.objs.size f cdv)) → sp vs H Q E →
      ∃ t, PSs (cxOf CX P w K mg base N qual (defScope st) f cdv A outer s H E) (defBody st) t ∧
        t { nx := fun _ H' => Q .non H', rt := Q } (start N vs) H) :
    FnG P w K mg base CX (k + 1) f fd ps sp := by
  obtain ⟨oc, od, kV, doc, pm, an, cdv, ct, osl, rfl, lk, code⟩ := F.ex
  refine ⟨len, fun A outer s H args us vs Q E hg hr e0 hb r hsp => ?_⟩
  have inK : K.In s.heap := e0.mod.kin.keeps fun b o e => (e0.bs b o e).1
  have free : s.heap.NoLimit := e0.mod.nolimit.keeps fun b o e => (e0.bs b o e).1
  refine codeAny_call_function hr.depth (inK _ _ lk) rfl S.co S.gen rfl
    (PySem.W.codeRec_of inK code) (hb _ _ _ _ ?_)
  have kinds : ∀ y ∈ ps.zip us, (defScope st).names.lookup y.1 = some .local ∨
      ((defScope st).names.lookup y.1 = some .cell ∧ ((cellsFrom (s.heap.objs.size + 1) (defScope st).names []).lookup y.1).isSome = true) := by
    rintro ⟨n, v⟩ hy
    cases S.par n (List.of_mem_zip hy).1 with
    | inl q => exact Or.inl q
    | inr q => exact Or.inr ⟨q, PySem.W.cellsFrom_some _ _ _ (Or.inl q)⟩
  refine wpAny_newFunctionEnv_cells S.kind kinds fun env he s1 x => ?_
  subst he
  refine ⟨free.keeps x.toInCall.keep, codeAny_func ?_⟩
  obtain ⟨t, ht, hq⟩ := body cdv A outer s H vs Q E hg (hr.deeper _) hsp
  have I0 : Inv (cxOf CX P w K mg base N qual (defScope st) f cdv A outer s H E) [] (start N vs) H s1 :=
    inv_start S hr.hd e0 (len _ _ _ _ hsp) r x
  refine wpAny_mono (ht.run [] s1 (start N vs) H _ I0 hq) (fun fl s' hs => ?_) fun e s' hs => hs
  match fl, hs with
  | .ret u, hs =>
    obtain ⟨v, σ', H', J, rv, q⟩ := hs
    exact ⟨v, H', J.os, J.bare, J.base, J.hok, rv, q⟩
  | .next, hs =>
    obtain ⟨σ', H', J, q⟩ := hs
    exact ⟨V.non, H', J.os, J.bare, J.base, J.hok, rfl, q⟩
  | .brk, hs =>
    obtain ⟨_, _, _, q⟩ := hs
    exact False.elim q
  | .cont, hs =>
    obtain ⟨_, _, _, q⟩ := hs
    exact False.elim q
end

/-! ### the law's own call, no guard below -/
/-- the script, if it is no object of the written part -/
def onlyScript (K : PySem.W.Frag) (a : Addr) (o : Obj) (xs : List V) : Hp := fun b =>
  if b = a ∧ (K.lookup a).isNone = true then some (.frz o (.lst xs)) else none
theorem onlyScript_at {K : PySem.W.Frag} {a b : Addr} {o : Obj} {xs : List V} {u : HO} (h : onlyScript K a o xs b = some u) :
    b = a ∧ K.lookup a = none ∧ u = .frz o (.lst xs) := by
  unfold onlyScript at h
  split at h
  · next q => exact ⟨q.1, Option.isNone_iff_eq_none.mp q.2, (Option.some.inj h).symm⟩
  · cases h
theorem onlyScript_only {K : PySem.W.Frag} {a : Addr} {o : Obj} {xs : List V} : Only (onlyScript K a o xs) := fun b => by
  cases e : onlyScript K a o xs b with
  | none => exact Or.inl rfl
  | some u =>
    obtain ⟨_, _, rfl⟩ := onlyScript_at e
    exact Or.inr ⟨_, _, rfl⟩

theorem lawCall {P : Program} {w : World} {K : PySem.W.Frag} {mg mb : Str → Option Value} {k : Nat} {fa a : Addr} {fd : FuncData} {x : Str} {sp : Sp}
    {s₁ : Shared} {vs : List Value} {ns : List Int}
    (inK : K.In s₁.heap) (glob : s₁.heap.Ns mainGlobals mg) (blt : s₁.heap.Ns builtinsNs mb) (bltIs : ∀ x : Str, x ≠ "__name__" → mb x = bootBuiltins x)
    (free : s₁.heap.NoLimit) (gens : s₁.gens = #[]) (ha : s₁.heap.get? a = some { cls := .type "list", data := .seq vs.toArray }) (areInts : IntsAre vs ns)
    (len : ns.length ≤ sizeLine) (room : Room k callerA)
    (F : ∀ base : Heap, K.In base → base.Ns mainGlobals mg → FnG P w K mg base CX0 k fa fd [x] sp)
    (binds : ∀ (s : Shared) (u : Value), BindsTo s fd ⟨[u], []⟩ [(x, u)])
    (promise : ∀ H : Hp, Only H → SqL K H a (ns.map V.int) → sp [.ref a] H (fun v _ => v = .bl true) fun _ _ _ => False) :
    codeAny (model P w) callerA (.call (.ref fa) ⟨[.ref a], []⟩)
      (fun r s' => r = .ok (.ret (.bool true)) ∧ OldK s₁.heap s'.heap ∧ s'.os = s₁.os ∧ AllBare s'.gens) s₁ := by
  have rv := vals_ints areInts
  have lenV := areInts.length
  let ob : Obj := { cls := .type "list", data := .seq vs.toArray }
  let H := onlyScript K a ob (ns.map V.int)
  have objOk : ObjOk P w H s₁.heap a (.frz ob (.lst (ns.map V.int))) :=
    ⟨ha, by rw [List.length_map]; exact len, vs, _, rv, ha⟩
  have hok : HOk P w H s₁.heap := fun b u e => by
    obtain ⟨rfl, _, rfl⟩ := onlyScript_at e
    exact objOk
  have hS : SqL K H a (ns.map V.int) := by
    cases e : K.lookup a with
    | none => exact Or.inl (Or.inr ⟨ob, if_pos ⟨rfl, by rw [e]; rfl⟩⟩)
    | some o =>
      have q := inK a o e
      rw [ha] at q
      cases q
      exact Or.inr ⟨_, vs.toArray, _, e, rfl, rfl, rfl, by rw [List.size_toArray, lenV]; exact len, by simpa using rv⟩
  have freeAt : ∀ {b : Addr} {o : Obj}, s₁.heap.get? b = some o → (b = a → False) → H b = none := fun {b o} _ n => by
    cases e : H b with
    | none => rfl
    | some u => exact (n (onlyScript_at e).1).elim
  have under : ∀ {b : Addr} {o : Obj}, s₁.heap.get? b = some o → H b = none → (hidT s₁.heap H).get? b = some o := fun e n => hidT_get e n
  have maps : ∀ {b : Addr} {m : Str → Option Value}, s₁.heap.Ns b m → (hidT s₁.heap H).Ns b m := by
    rintro b m ⟨o, es, ep, e, d, r⟩
    refine ⟨o, es, ep, under e (freeAt e ?_), d, r⟩
    rintro rfl
    rw [ha] at e
    cases e
    cases d
  have inBase : K.In (hidT s₁.heap H) := fun b o e => under (inK b o e) (by
    cases q : H b with
    | none => rfl
    | some u =>
      obtain ⟨rfl, z, _⟩ := onlyScript_at q
      rw [z] at e
      cases e)
  have md : Mod K mg (hidT s₁.heap H) := by
    obtain ⟨mc, q1, q2⟩ := free
    exact ⟨inBase, maps glob, ⟨mb, maps blt, bltIs⟩, ⟨mc, maps q1, q2⟩⟩
  have nil : ∀ b : Addr, b ∈ frs [] → False := fun b z => by
    have z' : b ∈ ([] : List Addr) := z
    cases z'
  have e0 : Env0 P w K mg (hidT s₁.heap H) callerA [] s₁ H :=
    ⟨rfl, md, fun b o e => of_hidT e, Nat.le_of_eq (hidT_size _ _), trivial, fun b hb => (nil b hb).elim, hok, .of_eq gens⟩
  have run := (F _ inBase (maps glob)).run callerA [] s₁ H ⟨[.ref a], []⟩ [.ref a] [.ref a] _ _ rfl room e0 (binds s₁ (.ref a)) (.cons rfl .nil)
    (promise H onlyScript_only hS)
  refine codeAny_mono run fun r s' h => ?_
  match r, h with
  | .error e, h => exact False.elim h
  | .ok (.ret u), h =>
    obtain ⟨v, H', os, bare, un, hok', r', q⟩ := h
    obtain rfl : v = .bl true := q
    obtain rfl : u = Value.bool true := r'
    refine ⟨rfl, OldK.of_keep fun b o e => ?_, os, bare⟩
    cases q : H b with
    | none => exact un.keep b o e q (fun z => nil b z) (by simp)
    | some u =>
      obtain ⟨rfl, _, rfl⟩ := onlyScript_at q
      have q2 := un.frzs _ _ _ q
      obtain ⟨e2, _⟩ := hok' _ _ q2
      rw [ha] at e
      cases e
      exact e2
  | .ok .next, h => exact False.elim h
  | .ok .brk, h => exact False.elim h
  | .ok .cont, h => exact False.elim h

/-- what the head leaves to the law's promise -/
theorem walkG {l : PySem.W.OpenLaw} {n k : Nat} {q : Program} {loose : List Str} {XP : (Str → Option Value) → Heap → Prop} {YP : World → Heap → Prop}
    {d : DefRec} {K : Params → PySem.W.Frag} {sp : World → Sp} {x : Str}
    (most : l.most = some n) (small : n ≤ sizeLine) (hdf : d.params.defaults = []) (room : Room k callerA)
    (hY : ∀ (w : World) (h : Heap), YP w h → (K w.params).In h)
    (F : ∀ (w : World) (mg : Str → Option Value) (fa : Addr) (h : Heap), (K w.params).In h → h.Ns mainGlobals mg → mg d.name = some (.ref fa) →
      ∃ fd : FuncData, (∀ (s : Shared) (u : Value), BindsTo s fd ⟨[u], []⟩ [(x, u)]) ∧
        ∀ base : Heap, (K w.params).In base → base.Ns mainGlobals mg → FnG l.prog w (K w.params) mg base CX0 k fa fd [x] (sp w))
    (promise : ∀ (w : World) (H : Hp) (a : Addr) (ns : List Int), ns.length ≤ n → Only H → SqL (K w.params) H a (ns.map V.int) →
      sp w [.ref a] H (fun v _ => v = .bl true) fun _ _ _ => False) :
    PySem.W.WalkO q loose XP YP l.row.toRowW d [] (fun f vs => PySem.call f vs) := by
  refine Att.attach_call most hdf fun w s₀ s₁ mg mb fa o pm cd doc a vs ns G Y ho hd hcd hmg hobj hints hlen hg => ?_
  have inK := hY w _ Y
  obtain ⟨fd, binds, hF⟩ := F w mg fa _ inK G.T.g hmg
  exact lawCall inK G.T.g G.T.b G.T.builtins G.T.nolimit hg hobj hints (Nat.le_trans hlen small) room hF binds
    fun H hO hS => promise w H a ns hlen hO hS
end My
set_option maxHeartbeats 4000000
/-! values that stand for data, and what repr makes of them -/
namespace My
open PySem PySem.Spec PyProof.Rows L2

mutual
/-- v stands for the datum d: an empty dict may be among it -/
inductive Dd (K : PySem.W.Frag) (H : Hp) : V → PyData → Prop
  | non : Dd K H .non .none
  | bl (b : Bool) : Dd K H (.bl b) (.bool b)
  | int (i : Int) : Dd K H (.int i) (.int i)
  | str (x : Str) : Dd K H (.str x) (.str x)
  | lst {a : Addr} {xs : List V} {ds : List PyData} : SqL K H a xs → a ≠ sysModules → Dds K H xs ds → Dd K H (.ref a) (.list ds)
  | tup {a : Addr} {xs : List V} {ds : List PyData} : SqT K H a xs → Dds K H xs ds → Dd K H (.ref a) (.tuple ds)
  | dct {a : Addr} : H a = some (.dK []) → Dd K H (.ref a) (.dict [])
inductive Dds (K : PySem.W.Frag) (H : Hp) : List V → List PyData → Prop
  | nil : Dds K H [] []
  | cons {v : V} {vs : List V} {d : PyData} {ds : List PyData} : Dd K H v d → Dds K H vs ds → Dds K H (v :: vs) (d :: ds)
end

/-! it stands as long as the tracked objects do -/
mutual
theorem Dd.ext {K : PySem.W.Frag} {H H' : Hp} (e : ∀ b o, H b = some o → H' b = some o) : ∀ (d : PyData) (v : V), Dd K H v d → Dd K H' v d
  | .none, _, h => by cases h; exact .non
  | .bool b, _, h => by cases h; exact .bl b
  | .int i, _, h => by cases h; exact .int i
  | .str x, _, h => by cases h; exact .str x
  | .list ds, _, h => by
    cases h with
    | lst hs n ha => exact .lst (Same.seq e hs) n (Dds.ext e ds _ ha)
  | .tuple ds, _, h => by
    cases h with
    | tup hs ha =>
      refine .tup ?_ (Dds.ext e ds _ ha)
      rcases hs with (h | ⟨o, h⟩) | h
      · exact .inl (.inl (e _ _ h))
      · exact .inl (.inr ⟨o, e _ _ h⟩)
      · exact .inr h
  | .dict kvs, _, h => by
    cases h with
    | dct h => exact .dct (e _ _ h)
theorem Dds.ext {K : PySem.W.Frag} {H H' : Hp} (e : ∀ b o, H b = some o → H' b = some o) : ∀ (ds : List PyData) (vs : List V), Dds K H vs ds → Dds K H' vs ds
  | [], _, h => by cases h; exact .nil
  | d :: ds, _, h => by
    cases h with
    | cons h1 h2 => exact .cons (Dd.ext e d _ h1) (Dds.ext e ds _ h2)
end

section
variable {X : Cx} {pins : List (Addr × Obj)} {σ : L2.St} {H : Hp} {s : Shared}
mutual
theorem Dd.reads (I : Inv X pins σ H s) : ∀ (d : PyData) (v : V) (u : Value), Dd X.K H v d → RelV v u →
    ∃ as, Reads s.heap u d as ∧ sysModules ∉ as
  | .none, _, _, h, r => by
    cases h
    cases r
    exact ⟨_, Reads.none, by simp⟩
  | .bool b, _, _, h, r => by
    cases h
    cases r
    exact ⟨_, Reads.bool b, by simp⟩
  | .int i, _, _, h, r => by
    cases h
    obtain ⟨t, rfl⟩ := r
    exact ⟨_, Reads.int i t, by simp⟩
  | .str x, _, _, h, r => by
    cases h
    obtain ⟨t, rfl⟩ := r
    exact ⟨_, Reads.str x t, by simp⟩
  | .list ds, _, _, h, r => by
    cases h with
    | lst hs n ha =>
      cases r
      obtain ⟨its, rv, ⟨o, m, ho, hc, _, hd⟩, _⟩ := I.list hs
      obtain ⟨as, hr, q⟩ := Dds.reads I ds _ its ha rv
      refine ⟨_, Reads.list ho hc hd hr, fun hm => ?_⟩
      rcases List.mem_cons.mp hm with e | hm
      · exact n e.symm
      · exact q hm
  | .tuple ds, _, _, h, r => by
    cases h with
    | tup hs ha =>
      cases r
      obtain ⟨its, rv, ⟨o, ho, hc, n, hd⟩, _⟩ := I.tuple hs
      obtain ⟨as, hr, q⟩ := Dds.reads I ds _ its ha rv
      exact ⟨_, Reads.tuple ho hc hd hr, q⟩
  | .dict kvs, _, _, h, r => by
    cases h with
    | @dct a h =>
      cases r
      obtain ⟨z, hne, vs, rel, dd⟩ := dk_of I.hok h
      cases rel
      obtain ⟨o, es, ep, ho, hx, hd, _, hes, _⟩ := dd
      have e0 : es.toList = [] := by
        cases q : es.toList with
        | nil => rfl
        | cons e r =>
          rw [q] at hes
          cases hes
      refine ⟨_, Reads.dict (kvs := []) ho hx.1 hd (by rw [e0]; exact .nil) (by rw [e0]; exact .nil), fun hm => ?_⟩
      have e1 : sysModules = a := by simpa using hm
      rw [e1] at hne
      simp at hne
theorem Dds.reads (I : Inv X pins σ H s) : ∀ (ds : List PyData) (vs : List V) (us : List Value), Dds X.K H vs ds → Vals vs us →
    ∃ as, ReadsAll s.heap us ds as ∧ sysModules ∉ as
  | [], _, _, h, r => by
    cases h
    cases r
    exact ⟨_, ReadsAll.nil, by simp⟩
  | d :: ds, _, _, h, r => by
    cases h with
    | cons h1 h2 =>
      cases r with
      | cons r1 r2 =>
        obtain ⟨as, q1, p1⟩ := Dd.reads I d _ _ h1 r1
        obtain ⟨bs, q2, p2⟩ := Dds.reads I ds _ _ h2 r2
        refine ⟨_, ReadsAll.cons q1 q2, fun hm => ?_⟩
        rcases List.mem_append.mp hm with m | m
        · exact p1 m
        · exact p2 m
end
mutual
theorem Dp.plain {K : PySem.W.Frag} {H : Hp} : ∀ (d : PyData) (v : V), Dp K H v d → d.hasDict = false
  | .none, _, _ => by simp only [PyData.hasDict]
  | .bool _, _, _ => by simp only [PyData.hasDict]
  | .int _, _, _ => by simp only [PyData.hasDict]
  | .str _, _, _ => by simp only [PyData.hasDict]
  | .list ds, _, h => by
    cases h with
    | lst hs ha =>
      simp only [PyData.hasDict]
      exact DpAll.plain ds _ ha
  | .tuple ds, _, h => by
    cases h with
    | tup hs ha =>
      simp only [PyData.hasDict]
      exact DpAll.plain ds _ ha
  | .dict _, _, h => by cases h
theorem DpAll.plain {K : PySem.W.Frag} {H : Hp} : ∀ (ds : List PyData) (vs : List V), DpAll K H vs ds → PyData.hasDictAll ds = false
  | [], _, _ => by simp only [PyData.hasDictAll]
  | d :: ds, _, h => by
    cases h with
    | cons h1 h2 => simp only [PyData.hasDictAll, Dp.plain d _ h1, DpAll.plain ds _ h2, Bool.or_self]
end
/-- what repr of a value asks: that it stands for a datum, without dicts or with -/
def rRepr (K : PySem.W.Frag) : List V → Hp → VK → Prop := fun xs H Q => ∃ v d, xs = [v] ∧ (Dp K H v d ∨ Dd K H v d) ∧
  d.showable = true ∧ d.shown.length ≤ sizeLine ∧ d.depth ≤ 64 ∧ Q (.str d.shown) H
theorem call_reprU (hg : X.A.guards = some []) (un : X.A.units + 200 < cLine) : CallR X (.builtin "repr") (rRepr X.K) := by
  intro pins s σ H xs us Q I r h
  obtain ⟨v, d, rfl, hd, sh, sz, dp, q⟩ := h
  obtain ⟨u, rfl, ru⟩ := vals1 r
  have rd : ∃ as, Reads s.heap u d as ∧ (d.hasDict = true → sysModules ∉ as) := by
    rcases hd with hd | hd
    · obtain ⟨as, q⟩ := Dp.reads I d v u hd ru
      exact ⟨as, q, fun z => by rw [Dp.plain d v hd] at z; cases z⟩
    · obtain ⟨as, q, n⟩ := Dd.reads I d v u hd ru
      exact ⟨as, q, fun _ => n⟩
  obtain ⟨as, rd, nd⟩ := rd
  have base : ∀ {x : Str} {t' : Nat} {tk : Tok}, x = d.shown → EP X pins σ Q (.str x tk) { s with toks := t' } := fun {x t' tk} e => by
    subst e
    exact ⟨.str _, H, I.tok _, ⟨tk, rfl⟩, q⟩
  cases rd with
  | none => exact PySem.P.repr_of_none (base (by simp only [PyData.shown]))
  | bool b => exact PySem.P.repr_of_bool (base (by simp only [PyData.shown]))
  | int i t => exact PySem.P.repr_of_int (by simpa [PyData.showable] using sh) (base (by simp only [PyData.shown]))
  | str x t => exact PySem.P.repr_of_str (base (by simp only [PyData.shown])) (by simpa only [PyData.shown] using sz)
  | list h1 h2 h3 h4 =>
    exact repr_of_reads' (.list h1 h2 h3 h4) sh nd hg (by omega) (fun _ _ z => z)
      (fun h' u tk hk => ⟨.str _, H, I.kept (t' := tk) hk, ⟨u, rfl⟩, q⟩) sz
  | tuple h1 h2 h3 h4 =>
    exact repr_of_reads' (.tuple h1 h2 h3 h4) sh nd hg (by omega) (fun _ _ z => z)
      (fun h' u tk hk => ⟨.str _, H, I.kept (t' := tk) hk, ⟨u, rfl⟩, q⟩) sz
  | dict h1 h2 h3 h4 h5 =>
    exact repr_of_reads' (.dict h1 h2 h3 h4 h5) sh nd hg (by omega) (fun _ _ z => z)
      (fun h' u tk hk => ⟨.str _, H, I.kept (t' := tk) hk, ⟨u, rfl⟩, q⟩) sz

theorem call_repr {k : Nat} (hg : X.A.guards = some []) (hr : Room k X.A) : CallR X (.builtin "repr") (rRepr X.K) := call_reprU hg (by have := hr.un; omega)

/-- a written list, its address not that of sys.modules -/
def tLstB (t : TA) : TE := fun σ H Q => t σ H fun xs H1 => xs.length ≤ sizeLine ∧ ∀ p, H1 p = none → p ≠ sysModules → Q (.ref p) (upd H1 p (.lst xs))
theorem pe_lstB {es : List Expr} {t : TA} {pos : Pos} (h : PA X es t) : PE X (.List es pos) (tLstB t) := by
  refine ⟨fun pins s σ H Q I hq => ?_⟩
  refine wpAny_List_spliced (thn (h.run pos pins s σ H _ I hq) ?_)
  rintro us s1 ⟨xs, H1, I1, r, z, q⟩
  have new : H1 s1.heap.objs.size = none := I1.hok.fresh (Nat.le_refl _)
  refine ⟨by rw [← r.length]; exact z, .ref s1.heap.objs.size, upd H1 s1.heap.objs.size (.lst xs), ?_, rfl, q _ new (Nat.ne_of_gt I1.big)⟩
  exact I1.laid (t' := s1.toks) (fun b u e => Heap.get?_push_of_some _ e) (Nat.le_refl _) ⟨z, us, 0, r, Heap.get?_push_size _ rfl⟩
end
end My
set_option maxHeartbeats 4000000
/-! own exceptions over any built-in base, made by place or by name, kept as values -/
namespace My
open PySem PySem.W PySem.Calls PyProof.Rows PySem.HandSPX

section
variable {M : Model} {A : Around} {E : Value → Shared → Prop} {h : Heap} {g : Array GenState} {d : Drawn} {t : Nat} {os : OsState}
variable {nm q : Str} {C N : Addr} {bs bm bmB : List Value} {hdct : Bool} {sn : List Str} {sub : List Value} {ab : Bool} {col : Option Bool} {dd : Option Addr}
  {k0 k1 k2 k3 k5 : Option Value} {B newId initId : String} {rest : List Value} {kw : List (Str × Value)}

/-- the mro behind the own class: it has the base that makes, and is no AttributeError, no NameError -/
structure Makes (bm : List Value) (B : String) : Prop where
  base : bm.contains (.type B) = true
  noAttr : bm.contains (.type "AttributeError") = false
  noName : bm.contains (.type "NameError") = false

theorem checkNew (F : ExcBaseFacts B newId initId bmB) (m : Makes bm B) {Q : Unit → Shared → Prop}
    (hC : h.get? C = some (excClassObj nm q C N bs bm hdct sn sub ab col dd k0 k1 k2 k3 k5 newId)) (hq : Q () ⟨h, g, d, t, os⟩) :
    wpAny M A (checkBuiltinCall newId ⟨.ref C :: rest, kw⟩) Q E ⟨h, g, d, t, os⟩ := by
  have has : (Value.ref C :: bm).contains (.type B) = true := by rw [List.contains_cons, m.base, Bool.or_true]
  have star := F.noStar
  simp only [checkBuiltinCall, F.newKind, F.newSplit, F.newRow]
  repeat (first
    | refine wpAny_loadPart_at hC ?_
    | (refine wpAny_isSubtype_exc hC ?_; rw [has])
    | refine wpAny_staticBase_exc hC ?_
    | refine wpAny_madeBy_exc hC ?_
    | simp only [bne_self_eq_false, Bool.false_eq_true, if_false]
    | wp_step)
  exact hq
end

section
variable {prog : Program} {w : World} {A : Around} {E : Value → Shared → Prop} {R : Result → Shared → Prop} {h : Heap} {g : Array GenState} {d : Drawn} {t : Nat} {os : OsState}
variable {nm q : Str} {C N fI : Addr} {bs bm bmB : List Value} {hdct : Bool} {sn : List Str} {sub : List Value} {ab : Bool} {col : Option Bool} {dd : Option Addr}
  {k0 k1 k2 k3 k5 : Option Value} {B newId initId : String} {rest : List Value} {kw : List (Str × Value)}

/-- the bare exception, its arguments laid before it -/
def bare2 (h : Heap) (C : Addr) (rest : List Value) : Heap := (h.push (kdv_tup rest)).push (excO C h.objs.size)
theorem bare2_keeps {b : Addr} {o : Obj} (e : h.get? b = some o) : (bare2 h C rest).get? b = some o :=
  Heap.get?_push_of_some _ (Heap.get?_push_of_some _ e)
theorem bare2_at : (bare2 h C rest).get? (h.objs.size + 1) = some (excO C h.objs.size) := by
  unfold bare2
  heap_get

theorem newOwn (F : ExcBaseFacts B newId initId bmB) (m : Makes bm B) (small : rest.length ≤ sizeLine)
    (hC : h.get? C = some (excClassObj nm q C N bs bm hdct sn sub ab col dd k0 k1 k2 k3 k5 newId))
    (hq : R (.ok (.ret (.ref (h.objs.size + 1)))) ⟨bare2 h C rest, g, d, t, os⟩) :
    codeAny (model prog w) A (.builtin newId ⟨.ref C :: rest, kw⟩) R ⟨h, g, d, t, os⟩ := by
  have ends := F.ends
  have has : ∀ {X : String} {b : Bool}, bm.contains (.type X) = b → (Value.ref C :: bm).contains (.type X) = b := fun {X b} e => by
    rw [List.contains_cons, e]
    rfl
  have isB := has m.base
  have noA := has m.noAttr
  have noN := has m.noName
  refine codeAny_builtinAt F.entry ?_
  unfold Builtin.«BaseException.__new__»
  refine PySem.wpAt_bind ?_
  show PySem.wpAt _ _ _ (stack >>= _) _ _ _
  refine PySem.wpAt_bind (PySem.wpAt_stack fun p below => PySem.wpAt_of_wpAny ?_)
  wp_walk
  refine PySem.wpAt_of_wpAny ?_
  rw [F.owner]
  repeat (first
    | with_reducible refine wpAny_madeHere_exc F.canon hC ?_
    | with_reducible refine wpAny_loadPart_at hC ?_
    | (with_reducible refine wpAny_isSubtype_exc hC ?_; first | rw [isB] | rw [noA] | rw [noN])
    | wp_step)
  show R _ _
  rw [Heap.size_push]
  exact hq

theorem typeCallOwn (F : ExcBaseFacts B newId initId bmB) (m : Makes bm B) (small : rest.length ≤ sizeLine) {Q : Fin → Shared → Prop}
    (hC : h.get? C = some (excClassObj nm q C N bs bm hdct sn sub ab col dd k0 k1 k2 k3 k5 newId))
    (hi : Looks (model prog w) h (typeLookup (.ref C) "__init__") (some (.ref fI)))
    (hb : ∀ self, Looks (model prog w) h (bindSpecial (.ref fI) self) (.ref fI, [self]))
    (hq : codeAny (model prog w) A (.call (.ref fI) ⟨.ref (h.objs.size + 1) :: rest, kw⟩)
      (fun r s' => match r with
        | .ok (.ret v) => v = .none ∧ Q (.done (.ret (.ref (h.objs.size + 1)))) s'
        | .ok _ => False
        | .error e => E e s') ⟨bare2 h C rest, g, d, t, os⟩) :
    wpAny (model prog w) A (Builtin.«type.__call__» ⟨.ref C :: rest, kw⟩) Q E ⟨h, g, d, t, os⟩ := by
  repeat (first
    | with_reducible refine wpAny_loadPart_at hC ?_
    | with_reducible refine wpAny_madeBy_exc hC ?_
    | wp_step)
  refine codeAny_call_builtin_code (Code.quiet_builtin _ F.quiet) (checkNew F m hC ?_)
  refine newOwn F m small hC ?_
  show wpAny _ _ _ _ _ _
  have hC1 : (bare2 h C rest).get? C = _ := bare2_keeps hC
  have at1 : (bare2 h C rest).get? (h.objs.size + 1) = some (excO C h.objs.size) := bare2_at
  have own : (Value.ref C :: bm).contains (.ref C) = true := by simp
  have i1 := hi.keeps (h' := bare2 h C rest) fun b o e => bare2_keeps e
  have b1 := (hb (.ref (h.objs.size + 1))).keeps (h' := bare2 h C rest) fun b o e => bare2_keeps e
  unfold isInstance
  repeat (first
    | with_reducible refine wpAny_loadPart_at at1 ?_
    | (with_reducible refine wpAny_isSubtype_exc hC1 ?_; rw [own])
    | wp_step)
  show wpAny _ _ (typeLookup (.ref C) _) _ _ _
  refine i1.at ?_
  refine wpAny_holding (wpAny_bind (b1.at ?_))
  refine wpAny_bind (wpAny_call (codeAny_mono hq fun r s' z => ?_))
  match r, z with
  | .error e, z => exact z
  | .ok (.ret v), z =>
    obtain ⟨rfl, z⟩ := z
    first
      | exact wpAny_pure (wpAny_pure z)
      | (wp_walk; exact z)
  | .ok .next, z => exact z.elim
  | .ok .brk, z => exact z.elim
  | .ok .cont, z => exact z.elim

theorem callOwn (F : ExcBaseFacts B newId initId bmB) (m : Makes bm B) (small : rest.length ≤ sizeLine)
    (hC : h.get? C = some (excClassObj nm q C N bs bm hdct sn sub ab col dd k0 k1 k2 k3 k5 newId))
    (hi : Looks (model prog w) h (typeLookup (.ref C) "__init__") (some (.ref fI)))
    (hb : ∀ self, Looks (model prog w) h (bindSpecial (.ref fI) self) (.ref fI, [self]))
    (hq : codeAny (model prog w) (A.under (.builtin "type.__call__" ⟨.ref C :: rest, kw⟩)) (.call (.ref fI) ⟨.ref (h.objs.size + 1) :: rest, kw⟩)
      (InitBack (h.objs.size + 1) R) ⟨bare2 h C rest, g, d, t, os⟩) :
    codeAny (model prog w) A (.call (.ref C) ⟨rest, kw⟩) R ⟨h, g, d, t, os⟩ := by
  have f1 := tc_lookup
  have f2 := tc_bind (.ref C)
  have isType : (⟨h, g, d, t, os⟩ : Shared).TypeIs (.ref C) "type" := ⟨_, hC, rfl⟩
  refine codeAny_of_tree ?_
  show wpAny _ _ (callAny (.ref C) _) _ _ _
  repeat (any_goals (first | assumption | with_reducible refine wpAny_loadPart_at hC ?_ | wp_step))
  refine ⟨rfl, ?_⟩
  refine codeAny_call_builtin_at (Code.quiet_builtin _ (by decide +kernel)) entry_typeCall
    (wpAny_check_type_call_sub hC (typeCallOwn F m small hC hi hb ?_))
  refine codeAny_mono hq fun r s' z => ?_
  match r, z with
  | .error e, z => exact z
  | .ok (.ret v), z => exact z
  | .ok .next, z => exact z
  | .ok .brk, z => exact z
  | .ok .cont, z => exact z
end
end My
set_option maxHeartbeats 4000000
/-! self.f = v on own exceptions over any built-in base -/
namespace My
open PySem PySem.W PySem.Calls PyProof.Rows PySem.HandSPX PySem.OEX

/-- what the store asks of the class's mro -/
structure MroOk (l : List Value) : Prop where
  ne : l.isEmpty = false
  obj : l.contains (.type "object") = true
  pass : ∀ self : Value, refuseLoop self "__setattr__" l = pure ()
theorem MroOk.cons {C : Addr} {l : List Value} (m : MroOk l) : MroOk (.ref C :: l) :=
  ⟨rfl, by rw [List.contains_cons, m.obj, Bool.or_true], fun self => by rw [refuseLoop_ref]; exact m.pass self⟩
theorem mroValue : MroOk [.type "ValueError", .type "Exception", .type "BaseException", .type "object"] :=
  ⟨rfl, by decide +kernel, fun self => by kernel_rfl⟩
theorem mroKey : MroOk [.type "KeyError", .type "LookupError", .type "Exception", .type "BaseException", .type "object"] :=
  ⟨rfl, by decide +kernel, fun self => by kernel_rfl⟩
theorem mroRuntime : MroOk [.type "RuntimeError", .type "Exception", .type "BaseException", .type "object"] :=
  ⟨rfl, by decide +kernel, fun self => by kernel_rfl⟩

section
open Builtin Builtin.ObjectAttr
variable {prog : Program} {w : World} {A : Around} {E : Value → Shared → Prop} {R : Result → Shared → Prop} {hp : Heap} {g : Array GenState} {d : Drawn} {t : Nat} {os : OsState}
variable {K : W.Frag} {name : Str} {tk : Tok} {v : Value} {x C dx : Addr} {fv : Array Value} {cd : ClassData}

/-- the first attribute: the exception gets its dict -/
theorem storeNew (inK : K.In hp) (hx : hp.get? x = some { cls := .ref C, data := .fields fv }) (hcd : W.clsIn K C = some cd) (m : MroOk cd.mro)
    (hh : cd.hasDict = true) (no : W.findIn K (.ref C) name = some none)
    (hq : ∀ h' tk' dx, (∀ b o, b ≠ x → hp.get? b = some o → h'.get? b = some o) → hp.objs.size ≤ dx → dx ≠ x →
      h'.get? x = some { cls := .ref C, dict := some dx, data := .fields fv } → h'.Ns1 dx (fun y => if y = name then some v else none) →
      R (.ok (.ret .none)) ⟨h', g, d, tk', os⟩) :
    codeAny (model prog w) A (.call (.builtin "object.__setattr__") ⟨[.ref x, .str name tk, v], []⟩) R ⟨hp, g, d, t, os⟩ := by
  have inst : W.InstAt hp x { cls := .ref C, data := .fields fv } C none := ⟨hx, rfl, rfl, trivial⟩
  have SF := F.store_object
  have apart : x ≠ hp.objs.size := Nat.ne_of_lt (Heap.lt_size hx)
  have sub : W.Looks (model prog w) hp (isInstance (.ref x) (.type "object")) true :=
    inst.type.andThen (W.looks_mroIn inK (by
      unfold W.mroIn
      rw [hcd, Option.bind_some, if_neg (by rw [m.ne]; decide), m.obj]))
  refine codeAny_call_builtin SF.slot.plain SF.entry (@W.check_slot (model prog w) _ _ ⟨hp, g, d, t, os⟩ "object.__setattr__" "object" "__setattr__"
    (.ref x) [.str name tk, v] [] _ SF.kind SF.split sub (SF.args (.ref x) (.str name tk) v) ?_)
  have mroL : W.Looks (model prog w) hp (mroOf (.ref C)) cd.mro := (W.looks_clsIn inK hcd).andThen .now
  have taker : W.Looks (model prog w) hp (storeTaker? none) none := .now
  have clsL : W.Looks (model prog w) hp (classData C) cd := W.looks_clsIn inK hcd
  rw [W.osa_eq, refuse_eq]
  refine wpAny_bind (wpAny_bind (inst.type.at (wpAny_bind (mroL.at ?_))))
  rw [m.pass]
  refine wpAny_pure (wpAny_bind (inst.type.at (wpAny_bind ((W.looks_findIn inK no).at (wpAny_bind (taker.at ?_))))))
  show wpAny _ _ (storeInOwnDict (.ref x) (.ref C) (.str name tk) name v false) _ _ _
  obtain ⟨nm, bs, mro, ns, qn, hd, sn, sb, ab, col, del⟩ := cd
  dsimp only at hh
  subst hh
  unfold storeInOwnDict ownDictForStores
  repeat (first
    | with_reducible refine store_in_new ?_ ?_
    | with_reducible refine wpAny_loadPart_at hx ?_
    | with_reducible refine clsL.at ?_
    | wp_step)
  · exact ⟨_, #[], _, (Heap.get?_update_ne _ _ _ _ apart.symm).trans (Heap.get?_push_at rfl rfl), rfl, fun e he => absurd he (by simp), fun _ => rfl⟩
  · intro h' tk' hn' hs
    have hx1 : (hp.push { cls := .type "dict", data := .dict #[] }).get? x = some { cls := .ref C, data := .fields fv } := Heap.get?_push_of_some _ hx
    refine hq h' tk' hp.objs.size (fun b o hb ho => ?_) (Nat.le_refl _) apart.symm ?_ hn'
    · exact (hs.2 b (Nat.ne_of_lt (Heap.lt_size ho))).trans ((Heap.get?_update_ne _ _ _ _ hb).trans (Heap.get?_push_of_some _ ho))
    · exact (hs.2 x apart).trans (Heap.get?_update_self _ hx1 rfl)

/-- a further attribute -/
theorem storeMore {m0 : Str → Option Value} {nl : List Str} (inK : K.In hp) (hx : hp.get? x = some { cls := .ref C, dict := some dx, data := .fields fv })
    (hns : hp.Ns1 dx m0) (hw : Within m0 nl) (few : nl.length ≤ 1000) (hcd : W.clsIn K C = some cd) (m : MroOk cd.mro) (hh : cd.hasDict = true)
    (no : W.findIn K (.ref C) name = some none)
    (hq : ∀ h' tk', (∀ b o, b ≠ dx → hp.get? b = some o → h'.get? b = some o) → h'.Ns1 dx (fun y => if y = name then some v else m0 y) →
      R (.ok (.ret .none)) ⟨h', g, d, tk', os⟩) :
    codeAny (model prog w) A (.call (.builtin "object.__setattr__") ⟨[.ref x, .str name tk, v], []⟩) R ⟨hp, g, d, t, os⟩ := by
  obtain ⟨oD, esD, epD, hoD, hdD, _⟩ := hns.count hw
  have inst : W.InstAt hp x { cls := .ref C, dict := some dx, data := .fields fv } C (some oD) := ⟨hx, rfl, rfl, hoD⟩
  have SF := F.store_object
  have sub : W.Looks (model prog w) hp (isInstance (.ref x) (.type "object")) true :=
    inst.type.andThen (W.looks_mroIn inK (by
      unfold W.mroIn
      rw [hcd, Option.bind_some, if_neg (by rw [m.ne]; decide), m.obj]))
  refine codeAny_call_builtin SF.slot.plain SF.entry (@W.check_slot (model prog w) _ _ ⟨hp, g, d, t, os⟩ "object.__setattr__" "object" "__setattr__"
    (.ref x) [.str name tk, v] [] _ SF.kind SF.split sub (SF.args (.ref x) (.str name tk) v) ?_)
  have mroL : W.Looks (model prog w) hp (mroOf (.ref C)) cd.mro := (W.looks_clsIn inK hcd).andThen .now
  have taker : W.Looks (model prog w) hp (storeTaker? none) none := .now
  have clsL : W.Looks (model prog w) hp (classData C) cd := W.looks_clsIn inK hcd
  rw [W.osa_eq, refuse_eq]
  refine wpAny_bind (wpAny_bind (inst.type.at (wpAny_bind (mroL.at ?_))))
  rw [m.pass]
  refine wpAny_pure (wpAny_bind (inst.type.at (wpAny_bind ((W.looks_findIn inK no).at (wpAny_bind (taker.at ?_))))))
  show wpAny _ _ (storeInOwnDict (.ref x) (.ref C) (.str name tk) name v false) _ _ _
  obtain ⟨nm, bs, mro, ns, qn, hd, sn, sb, ab, col, del⟩ := cd
  dsimp only at hh
  subst hh
  unfold storeInOwnDict ownDictForStores
  repeat (first
    | with_reducible refine store_in_old hns hw few ?_
    | with_reducible refine wpAny_loadPart_at hx ?_
    | with_reducible refine clsL.at ?_
    | wp_step)
  intro h' tk' hn' hs
  exact hq h' tk' (fun b o hb ho => (hs.2 b hb).trans ho) hn'
end
end My
set_option maxHeartbeats 4000000
/-! own exceptions made as values, by place or by name; their __init__ walked as a def -/
namespace My
open PySem PySem.Spec PyProof.Rows L2

/-- what the written part says of an own exception class, whatever built-in it stands on -/
structure ExG (K : PySem.W.Frag) (C : Addr) : Prop where
  cls : ∃ nm q N bs bm sn sub ab col dd k0 k1 k2 k3 k5 B newId initId bmB,
    K.lookup C = some (excClassObj nm q C N bs bm true sn sub ab col dd k0 k1 k2 k3 k5 newId) ∧ ExcBaseFacts B newId initId bmB ∧ Makes bm B ∧ MroOk bm
  sa : PySem.W.findIn K (.ref C) "__setattr__" = some (some (.builtin "object.__setattr__"))
  kC : PySem.W.keepIn K (.ref C) = true

section
variable {X : Cx} {pins : List (Addr × Obj)} {σ : L2.St} {H : Hp} {s : Shared} {a C dx : Addr} {f : Str} {y : V} {u : Value} {fs : List (Str × V)}
  {Q : Unit → Shared → Prop} {E : Value → Shared → Prop} {A : Around}
/-- a heap may be read without one object that is new -/
theorem Inv.grow {h' : Heap} {b : Addr} {o : HO} {t' : Nat} {G : Heap} (I : Inv X pins σ H { s with heap := G }) (k : ∀ c u, G.get? c = some u → h'.get? c = some u)
    (gone : G.get? b = none) (hn : H b = none) (new : ObjOk X.prog X.w (upd H b o) h' b o) : Inv X pins σ (upd H b o) { s with heap := h', toks := t' } :=
  L2.Inv.laidN (s := { s with heap := G }) I k gone hn new

theorem selfNew (T : ExG X.K C) (I : Inv X pins σ H s) (e : H a = some (exo a C none)) (no : PySem.W.findIn X.K (.ref C) f = some none) (ry : L2.RelV y u)
    (h : ∀ dx s', H dx = none → dx ≠ a → Inv X pins σ (upd (upd H a (exo a C (some dx))) dx (exd dx [(f, y)])) s' → Q () s') :
    wpAny (model X.prog X.w) A (setAttr (.ref a) f u) Q E s := by
  obtain ⟨nm, q, N, bs, bm, sn, sub, ab, col, dd, k0, k1, k2, k3, k5, B, newId, initId, bmB, hC, _, _, mro⟩ := T.cls
  have hcl : PySem.W.clsIn X.K C = some { name := nm, bases := bs, mro := .ref C :: bm, ns := N, qualname := q, hasDict := true, slotNames := sn, subclasses := sub, abstract := ab, collection := col, hasDel := false } := by
    unfold PySem.W.clsIn
    rw [hC]
    all_goals rfl
  obtain ⟨t1, ho⟩ := exo_at I.hok e
  have I0 := I
  obtain ⟨hp, g, d, t, os⟩ := s
  refine PySem.W.set_plain I.kIn (ox := { cls := .ref C, dict := none, data := .fields #[.ref t1, .none, .none, .none, .bool false, .none] }) (od := none) ⟨ho, rfl, rfl, trivial⟩ T.sa ?_
  refine storeNew I.kIn ho hcl mro.cons rfl no (fun h' tk' dx k dn dne hx hn => ?_)
  have hnd : H dx = none := I.hok.fresh dn
  obtain ⟨G, g1, g2⟩ := restrict h' fun b => decide (b ≠ dx)
  have same : ∀ b, b ≠ dx → G.get? b = h'.get? b := fun b hb => g1 b (decide_eq_true hb)
  have gone : G.get? dx = none := g2 dx (by simp)
  have sub' : ∀ c o, G.get? c = some o → h'.get? c = some o := fun c o z => by
    by_cases hc : c = dx
    · rw [hc, gone] at z
      cases z
    · rw [← same c hc]
      exact z
  have old : ∀ c o, hp.get? c = some o → c ≠ dx := fun c o z => Nat.ne_of_lt (Nat.lt_of_lt_of_le (Heap.lt_size z) dn)
  have hxG : G.get? a = some { cls := .ref C, dict := some dx, data := .fields #[.ref t1, .none, .none, .none, .bool false, .none] } := by
    rw [same a (Ne.symm dne)]
    exact hx
  have I1 : Inv X pins σ (upd H a (exo a C (some dx))) { (⟨hp, g, d, t, os⟩ : Shared) with heap := G, toks := tk' } :=
    I0.write (t' := tk') (x := a) (e := a) (o := exo a C (some dx)) (by rw [e]; exact True.intro) (.inl rfl)
      (fun b o hb z => by rw [same b (old b o z)]; exact k b o hb z) ⟨_, hxG⟩ (exo_ok hxG)
  have hn1 : upd H a (exo a C (some dx)) dx = none := by
    rw [upd_ne dne]
    exact hnd
  exact h dx _ hnd dne (L2.Inv.laidN (s := { (⟨hp, g, d, t, os⟩ : Shared) with heap := G, toks := tk' }) (t' := tk') I1 sub' gone hn1
    (exd_ok hn (relO_put (fs := []) ry fun g => True.intro)))

theorem selfMore (T : ExG X.K C) (I : Inv X pins σ H s) (e : H a = some (exo a C (some dx))) (ed : H dx = some (exd dx fs)) (few : fs.length ≤ 900)
    (no : PySem.W.findIn X.K (.ref C) f = some none) (ry : L2.RelV y u) (h : ∀ s', Inv X pins σ (upd H dx (exd dx ((f, y) :: fs))) s' → Q () s') :
    wpAny (model X.prog X.w) A (setAttr (.ref a) f u) Q E s := by
  obtain ⟨nm, q, N, bs, bm, sn, sub, ab, col, dd, k0, k1, k2, k3, k5, B, newId, initId, bmB, hC, _, _, mro⟩ := T.cls
  have hcl : PySem.W.clsIn X.K C = some { name := nm, bases := bs, mro := .ref C :: bm, ns := N, qualname := q, hasDict := true, slotNames := sn, subclasses := sub, abstract := ab, collection := col, hasDel := false } := by
    unfold PySem.W.clsIn
    rw [hC]
    all_goals rfl
  obtain ⟨t1, ho⟩ := exo_at I.hok e
  obtain ⟨mA, hns, rel⟩ := exd_at I.hok ed
  have hw := within_of rel
  have I0 := I
  obtain ⟨hp, g, d, t, os⟩ := s
  obtain ⟨oD, _, _, hoD, _, _⟩ := hns.count hw
  refine PySem.W.set_plain I.kIn (ox := { cls := .ref C, dict := some dx, data := .fields #[.ref t1, .none, .none, .none, .bool false, .none] }) (od := some oD) ⟨ho, rfl, rfl, hoD⟩ T.sa ?_
  refine storeMore I.kIn ho hns hw (by rw [List.length_map]; omega) hcl mro.cons rfl no (fun h' tk' k hn => ?_)
  have hd : ∃ o, h'.get? dx = some o := by
    obtain ⟨o, _, _, e', _⟩ := hn
    exact ⟨o, e'⟩
  exact h _ (I0.write (t' := tk') (x := dx) (e := dx) (o := exd dx ((f, y) :: fs)) (by rw [ed]; exact True.intro) (.inl rfl) k hd (exd_ok hn (relO_put ry rel)))
end

/-- self.f = e -/
def tSelf (K : PySem.W.Frag) (f : Str) (to te : TE) : TS := fun D σ H => te σ H fun y H1 => to σ H1 fun x H2 => ∃ a C : Addr, x = .ref a ∧ ExG K C ∧ PySem.W.findIn K (.ref C) f = some none ∧
  ((H2 a = some (exo a C none) ∧ ∀ dx, H2 dx = none → dx ≠ a → D.nx σ (upd (upd H2 a (exo a C (some dx))) dx (exd dx [(f, y)]))) ∨
    ∃ (dx : Addr) (fs : List (Str × V)), H2 a = some (exo a C (some dx)) ∧ H2 dx = some (exd dx fs) ∧ fs.length ≤ 900 ∧ D.nx σ (upd H2 dx (exd dx ((f, y) :: fs))))
section
variable {X : Cx} {o e : Expr} {to te : TE} {f : Str} {p' pos : Pos}
theorem ps_self (ho : PE X o to) (he : PE X e te) (hs : swapsWith e (some (.Attribute o f p')) pos.line X.env = pure false := by rfl) :
    PS X (.Assign [.Attribute o f p'] e pos) (tSelf X.K f to te) := by
  refine ⟨fun pins s σ H D I h => ?_⟩
  refine plainObj_wpAny_Assign_Attribute (thn (he.run pins s σ H _ I h) ?_) hs
  rintro v s1 ⟨y, H1, I1, r1, q1⟩
  refine thn (ho.run pins s1 σ H1 _ I1 q1) ?_
  rintro u s2 ⟨x, H2, I2, r2, a, C, ex, T, no, q⟩
  subst ex
  obtain rfl : u = Value.ref a := r2
  rcases q with ⟨ea, q⟩ | ⟨dx, fs, ea, ed, few, q⟩
  · exact selfNew T I2 ea no r1 fun dx s' n ne J => ⟨σ, _, J, q dx n ne⟩
  · exact selfMore T I2 ea ed few no r1 fun s' J => ⟨σ, _, J, q⟩
end

/-! ### C(e, ..), C(.., k = v) as a value -/
def tMadeK (C : Addr) (n m : Nat) (sp : Sp) (gV : List V → List V → List V) (t tk : TA) : TE := fun σ H Q => t σ H fun vs H1 => tk σ H1 fun zs H2 => vs.length = n ∧ zs.length = m ∧ n ≤ 1000 ∧
  ∀ a, H2 a = none → sp (gV (.ref a :: vs) zs) (upd H2 a (exo a C none)) (fun v H3 => v = .non ∧ Q (.ref a) H3) (fun _ _ _ => False)
section
variable {X : Cx} {CX : CXT} {k n : Nat} {fI C : Addr} {fd : FuncData} {ps ks : List Str} {sp : Sp} {x : Str} {p pos : Pos} {e : Expr} {es : List Expr} {kws : List Keyword}
  {t tk : TA} {g : List Value → List Value → List Value} {gV : List V → List V → List V}
theorem runMade {pins : List (Addr × Obj)} {σ : L2.St} {H : Hp} {s : Shared} {Q : VK} {us ws : List Value} {vs zs : List V} (T : ExG X.K C)
    (iC : PySem.W.findIn X.K (.ref C) "__init__" = some (some (.ref fI))) (tI : PySem.W.typeIn X.K (.ref fI) = some (.type "function"))
    (F : FnOk X.prog X.w X.K X.mg X.base CX k fI fd ps sp) (hr : Room (k + 1) X.A) (hb : KBn X.K fd ps (n + 1) ks g gV) (hx : Passes CX X (fun _ _ _ => False))
    (I : Inv X pins σ H s) (r : Vals vs us) (rz : Vals zs ws) (l1 : vs.length = n) (l2 : zs.length = ks.length) (few : n ≤ 1000)
    (h : ∀ a, H a = none → sp (gV (.ref a :: vs) zs) (upd H a (exo a C none)) (fun v H3 => v = .non ∧ Q (.ref a) H3) (fun _ _ _ => False)) :
    wpAny (model X.prog X.w) X.A (call (.ref C) us (ks.zip ws)) (EP X pins σ Q) X.xe s := by
  obtain ⟨nm, q, N, bs, bm, sn, sub, ab, col, dd, k0, k1, k2, k3, k5, B, newId, initId, bmB, hC, FB, mk, _⟩ := T.cls
  obtain ⟨hp, gg, dr, tok, os⟩ := s
  have sz : hp.objs.size ≤ hp.objs.size + 1 := Nat.le_succ _
  have hq := h (hp.objs.size + 1) (I.hok.fresh sz)
  have I2 : Inv X pins σ (upd H (hp.objs.size + 1) (exo (hp.objs.size + 1) C none)) ⟨bare2 hp C us, gg, dr, tok, os⟩ :=
    I.laid (t' := tok) (a := hp.objs.size + 1) (o := exo (hp.objs.size + 1) C none) (h' := bare2 hp C us) (fun b o z => bare2_keeps z) sz (exo_ok bare2_at)
  have r1 : Vals (V.ref (hp.objs.size + 1) :: vs) (Value.ref (hp.objs.size + 1) :: us) := .cons rfl r
  have r2 := hb.rel r1 rz
  have n1 : (Value.ref (hp.objs.size + 1) :: us).length = n + 1 := by
    rw [List.length_cons, ← r.length, l1]
  have small : us.length ≤ sizeLine := by
    rw [← Paired.length r, l1, sizeLine_eq]
    omega
  refine wpAny_call (callOwn FB mk small (I.kIn _ _ hC) (PySem.W.looks_findIn I.kIn iC) (fun self => PySem.W.bind_fn I.kIn self tI)
    (codeAny_mono (F.run _ X.stack _ _ ⟨Value.ref (hp.objs.size + 1) :: us, ks.zip ws⟩ (g (Value.ref (hp.objs.size + 1) :: us) ws) _ _ (fun _ _ _ => False)
      (hr.make C us (ks.zip ws)) (I2.env0.make C us (ks.zip ws)) (hb.to _ (Value.ref (hp.objs.size + 1) :: us) ws I2.kIn n1 (rz.length.symm.trans l2)) r2 hq) fun r s' hq' => ?_))
  match r, hq' with
  | .error e, hq' => exact hx pins σ _ _ e s' I2 hq'
  | .ok (.ret u), hq' =>
    obtain ⟨v, H', I3, rv, ev, q3⟩ := I2.after hq'
    subst ev
    exact ⟨rv, ⟨V.ref (hp.objs.size + 1), H', I3, rfl, q3⟩⟩
  | .ok .next, hq' => exact False.elim hq'
  | .ok .brk, hq' => exact False.elim hq'
  | .ok .cont, hq' => exact False.elim hq'

theorem pe_madeK0 (T : ExG X.K C) (iC : PySem.W.findIn X.K (.ref C) "__init__" = some (some (.ref fI))) (tI : PySem.W.typeIn X.K (.ref fI) = some (.type "function"))
    (F : FnOk X.prog X.w X.K X.mg X.base CX k fI fd ps sp) (hr : Room (k + 1) X.A) (hg : Gl X x) (hm : X.mg x = some (.ref C)) (hb : KBn X.K fd ps 1 ks g gV)
    (hx : Passes CX X (fun _ _ _ => False)) (hkw : PK X kws tk) (hall : (backToKw pos (keywordEach kws X.env)).all (·.1.isSome) = true := by rfl)
    (hks : (backToKw pos (keywordEach kws X.env)).filterMap (·.1) = ks := by rfl) (hdb : (x == ("__debug__" : Str)) = false := by decide)
    (hpl : ((backTo pos (starEach [] X.env)).any (·.1) || (backToKw pos (keywordEach kws X.env)).any (·.1.isNone)) = false := by rfl) :
    PE X (.Call (.Name x p) [] kws pos) (tMadeK C 0 ks.length sp gV tNil tk) := by
  refine ⟨fun pins s σ H Q I h => ?_⟩
  refine wpAny_Call_Name_kw (ld_glob I hg hm ?_ hdb)
  refine PySem.W.callWith_KW0 (h₀ := X.base) I.ok.mod.kin T.kC hall ?_ hpl
  refine thn (hkw.run pos pins s σ H _ I h) ?_
  rintro ws s2 ⟨zs, H2, I2, rz, l1, l2, l3, q2⟩
  refine ⟨I2.kIn, ?_⟩
  rw [hks]
  exact runMade (us := []) (vs := []) T iC tI F hr hb hx I2 .nil rz rfl l2 l3 q2

theorem pe_madeK (T : ExG X.K C) (iC : PySem.W.findIn X.K (.ref C) "__init__" = some (some (.ref fI))) (tI : PySem.W.typeIn X.K (.ref fI) = some (.type "function"))
    (F : FnOk X.prog X.w X.K X.mg X.base CX k fI fd ps sp) (hr : Room (k + 1) X.A) (hg : Gl X x) (hm : X.mg x = some (.ref C)) (hb : KBn X.K fd ps (n + 1) ks g gV)
    (hx : Passes CX X (fun _ _ _ => False)) (ha : PA X (e :: es) t) (hkw : PK X kws tk) (hall : (backToKw pos (keywordEach kws X.env)).all (·.1.isSome) = true := by rfl)
    (hks : (backToKw pos (keywordEach kws X.env)).filterMap (·.1) = ks := by rfl) (hdb : (x == ("__debug__" : Str)) = false := by decide)
    (he : starEach (e :: es) X.env = (false, eval e X.env) :: starEach es X.env := by rfl)
    (hpl : ((backTo pos (starEach (e :: es) X.env)).any (·.1) || (backToKw pos (keywordEach kws X.env)).any (·.1.isNone)) = false := by rfl) :
    PE X (.Call (.Name x p) (e :: es) kws pos) (tMadeK C n ks.length sp gV t tk) := by
  refine ⟨fun pins s σ H Q I h => ?_⟩
  refine wpAny_Call_Name_kw (ld_glob I hg hm ?_ hdb)
  refine PySem.W.callWith_KW (h₀ := X.base) I.ok.mod.kin T.kC hall (thn (ha.run pos pins s σ H _ I h) ?_) hpl he
  rintro us s1 ⟨vs, H1, I1, r, q⟩
  refine thn (hkw.run pos pins s1 σ H1 _ I1 q) ?_
  rintro ws s2 ⟨zs, H2, I2, rz, l1, l2, l3, q2⟩
  refine ⟨I2.kIn, ?_⟩
  rw [hks]
  exact runMade T iC tI F hr hb hx I2 r rz l1 l2 l3 q2
end
end My
set_option maxHeartbeats 4000000
/-! own exceptions as values: an attribute read, isinstance asked -/
namespace My
open PySem PySem.Spec PyProof.Rows L2

/-- what the class says of attributes read and of isinstance -/
structure ExR (K : PySem.W.Frag) (C : Addr) : Prop where
  ga : PySem.W.findIn K (.ref C) "__getattribute__" = some (some (.builtin "BaseException.__getattribute__"))
  gg : PySem.W.findIn K (.ref C) "__getattr__" = some none
  exC : PySem.W.subIn K (.ref C) (.type "BaseException") = some true
  hd : PySem.W.hasDictIn K C = true
  ha : PySem.W.findIn K (.ref C) "__class__" = some (some (.builtin "object.__class__"))
  hn : PySem.W.specialIn K (.builtin "object.__class__") "__get__" = some (some (.builtin "getset_descriptor.__get__"))
  ht : PySem.W.takesIn K (.builtin "object.__class__") = some true
  hm : PySem.W.mroIn K C (.type "object") = some true

/-- e.f, e an exception that has it -/
def tExAt (K : PySem.W.Frag) (f : Str) (te : TE) : TE := fun σ H Q => te σ H fun x H1 => ∃ (a C dx : Addr) (fs : List (Str × V)) (v : V), x = .ref a ∧ ExR K C ∧
  PySem.W.findIn K (.ref C) f = some none ∧ H1 a = some (exo a C (some dx)) ∧ H1 dx = some (exd dx fs) ∧ fs.lookup f = some v ∧ Q v H1
section
variable {X : Cx} {e : Expr} {te : TE} {f : Str} {pos : Pos}
theorem pe_exAt (he : PE X e te) (hb : attributeBase e f X.env (eval e X.env) = eval e X.env := by rfl) : PE X (.Attribute e f pos) (tExAt X.K f te) := by
  refine ⟨fun pins s σ H Q I h => ?_⟩
  refine attr_of hb (thn (he.run pins s σ H _ I h) ?_)
  rintro u s1 ⟨x, H1, I1, rx, a, C, dx, fs, v, ex, R, no, ea, ed, el, q⟩
  subst ex
  obtain rfl : u = Value.ref a := rx
  obtain ⟨t1, ho⟩ := exo_at I1.hok ea
  obtain ⟨mA, hns, rel⟩ := exd_at I1.hok ed
  obtain ⟨od, hod, hl⟩ := lookIn_ns hns
  obtain ⟨u', hu, ru⟩ := RelO.some_of (v := v) (o := mA f) (by rw [← el]; exact rel f)
  have J : PySem.W.InstAt s1.heap a { cls := .ref C, dict := some dx, data := .fields #[.ref t1, .none, .none, .none, .bool false, .none] } C (some od) := ⟨ho, rfl, rfl, hod⟩
  exact HandSPX.exc_get I1.kIn J R.ga R.gg R.exC (PySem.W.findObj_own R.hd no rfl (by rw [hl, hu])) (handed_of ru) ⟨v, H1, I1.tok _, ru, q⟩

/-- isinstance(e, c), e an exception kept as a value -/
def rIsX (K : PySem.W.Frag) : List V → Hp → VK → Prop := fun xs H Q => ∃ (a D : Addr) (d : Option Addr) (c : V) (cv : Value) (b : Bool), xs = [.ref a, c] ∧ ExR K D ∧
  H a = some (exo a D d) ∧ (∀ dx, d = some dx → ∃ fs, H dx = some (exd dx fs)) ∧ ClsV c cv ∧ PySem.W.kitOne K (.ref D) cv = some b ∧ Q (.bl b) H
theorem call_isX : CallR X (.builtin "isinstance") (rIsX X.K) := by
  intro pins s σ H xs us Q I r h
  obtain ⟨a, D, d, c, cv, b, rfl, R, ea, ed, hc, e, q⟩ := h
  obtain ⟨u1, u2, rfl, r1, r2⟩ := vals2 r
  obtain rfl : u1 = Value.ref a := r1
  have e2 := hc.eq r2
  subst e2
  obtain ⟨t1, ho⟩ := exo_at I.hok ea
  obtain ⟨cdD, hcD, _⟩ := PySem.W.any_some R.hd
  have isCls : (PySem.W.clsIn X.K D).isSome = true := by
    rw [hcD]
    rfl
  have done : ∀ tk, EP X pins σ Q (.bool b) { s with toks := tk } := fun tk => ⟨.bl b, H, I.tok _, rfl, q⟩
  cases d with
  | none =>
    have J : PySem.W.InstAt s.heap a { cls := .ref D, dict := none, data := .fields #[.ref t1, .none, .none, .none, .bool false, .none] } D none := ⟨ho, rfl, rfl, trivial⟩
    exact PySem.W.kia_one (PySem.W.kitx_exc isCls R.ga R.gg R.exC R.ha R.hn R.ht R.hm) I.kIn J e (fun z => nomatch z) done
  | some dx =>
    obtain ⟨fs, ed'⟩ := ed dx rfl
    obtain ⟨mA, hns, rel⟩ := exd_at I.hok ed'
    obtain ⟨od, hod, hl⟩ := lookIn_ns hns
    have J : PySem.W.InstAt s.heap a { cls := .ref D, dict := some dx, data := .fields #[.ref t1, .none, .none, .none, .bool false, .none] } D (some od) := ⟨ho, rfl, rfl, hod⟩
    exact PySem.W.kia_one (PySem.W.kitx_exc isCls R.ga R.gg R.exC R.ha R.hn R.ht R.hm) I.kIn J e (fun z => nomatch z) done
end
end My
set_option maxHeartbeats 4000000
/-! the __init__ of own exceptions, by their shapes -/
namespace My
open PySem PySem.Spec PyProof.Rows L2

theorem visOf {N ps : List Str} {sc : Scope} (S : FnScope N ps sc) {x : Str} (h : x ∈ ps) : Vis sc x := by
  rcases S.par x h with k | k
  · exact .inl k
  · exact .inr (.inl k)

/-- one attribute: self.f = f -/
def spOne (C : Addr) (f : Str) : Sp := fun vs H Q _ => ∃ (a : Addr) (v : V), vs = [.ref a, v] ∧ H a = some (exo a C none) ∧
  ∀ dx, H dx = none → dx ≠ a → Q .non (upd (upd H a (exo a C (some dx))) dx (exd dx [(f, v)]))
/-- two: self.f = f, self.g = g -/
def spTwo (C : Addr) (f g : Str) : Sp := fun vs H Q _ => ∃ (a : Addr) (v u : V), vs = [.ref a, v, u] ∧ H a = some (exo a C none) ∧
  ∀ dx, H dx = none → dx ≠ a → Q .non (upd (upd (upd H a (exo a C (some dx))) dx (exd dx [(f, v)])) dx (exd dx [(g, u), (f, v)]))
/-- none: B.__init__(self, a text) -/
def spNil (C : Addr) : Sp := fun vs H Q _ => ∃ a : Addr, vs = [.ref a] ∧ H a = some (exo a C none) ∧ Q .non H

section
variable {P : Program} {w : World} {K : PySem.W.Frag} {mg : Str → Option Value} {base : Heap} {st : Stmt} {qual f g : Str} {C fI : Addr} {fd : FuncData}
theorem ok_one (F : Fun K "__init__" qual st fI fd) (S : FnScope ["self", f] ["self", f] (defScope st))
    (hb : ∃ p1 p2 p3 p4, defBody st = [.Assign [.Attribute (.Name "self" p1) f p2] (.Name f p3) p4])
    (hf : (f == ("__debug__" : Str)) = false) (hf2 : (f == ("__classdict__" : Str)) = false) (T : ExG K C) (no : PySem.W.findIn K (.ref C) f = some none) :
    FnOk P w K mg base CX0 1 fI fd ["self", f] (spOne C f) := by
  obtain ⟨p1, p2, p3, p4, hb⟩ := hb
  refine F.ok S (fun vs H Q E h => ?_) (fun cdv A outer s H vs Q E hr h => ?_)
  · obtain ⟨a, v, rfl, _⟩ := h
    rfl
  · obtain ⟨a, v, rfl, ha, k⟩ := h
    rw [hb]
    refine ⟨_, pss_one (ps_self (pv 0 (hv := visOf S (by simp))) (pv 1 (hv := visOf S (by simp)) (hd := hf) (hcd := hf2))), ?_⟩
    exact ⟨v, rfl, .ref a, rfl, a, C, rfl, T, no, .inl ⟨ha, fun dx n ne => k dx n ne⟩⟩
theorem ok_two (F : Fun K "__init__" qual st fI fd) (S : FnScope ["self", f, g] ["self", f, g] (defScope st))
    (hb : ∃ p1 p2 p3 p4 q1 q2 q3 q4, defBody st = [.Assign [.Attribute (.Name "self" p1) f p2] (.Name f p3) p4, .Assign [.Attribute (.Name "self" q1) g q2] (.Name g q3) q4])
    (hf : (f == ("__debug__" : Str)) = false) (hf2 : (f == ("__classdict__" : Str)) = false) (hg : (g == ("__debug__" : Str)) = false) (hg2 : (g == ("__classdict__" : Str)) = false)
    (T : ExG K C) (no : PySem.W.findIn K (.ref C) f = some none) (no2 : PySem.W.findIn K (.ref C) g = some none) :
    FnOk P w K mg base CX0 1 fI fd ["self", f, g] (spTwo C f g) := by
  obtain ⟨p1, p2, p3, p4, q1, q2, q3, q4, hb⟩ := hb
  refine F.ok S (fun vs H Q E h => ?_) (fun cdv A outer s H vs Q E hr h => ?_)
  · obtain ⟨a, v, u, rfl, _⟩ := h
    rfl
  · obtain ⟨a, v, u, rfl, ha, k⟩ := h
    rw [hb]
    refine ⟨_, pss_cons (ps_self (pv 0 (hv := visOf S (by simp))) (pv 1 (hv := visOf S (by simp)) (hd := hf) (hcd := hf2)))
      (pss_one (ps_self (pv 0 (hv := visOf S (by simp))) (pv 2 (hv := visOf S (by simp)) (hd := hg) (hcd := hg2)))), ?_⟩
    refine ⟨v, rfl, .ref a, rfl, a, C, rfl, T, no, .inl ⟨ha, fun dx n ne => ?_⟩⟩
    exact ⟨u, rfl, .ref a, rfl, a, C, rfl, T, no2, .inr ⟨dx, _, by rw [upd_ne (Ne.symm ne), upd_same], upd_same, by simp, k dx n ne⟩⟩
end

/-! ### RuntimeError.__init__(self, ..) -/
theorem typRE : typeOf (.type "RuntimeError") = pure (.type "type") := by kernel_rfl
structure ExRt (K : PySem.W.Frag) (C : Addr) : Prop where
  cls : ∃ nm q N bs sn sub ab col dd k0 k1 k2 k3 k5, K.lookup C = some (excClassObj nm q C N bs [.type "RuntimeError", .type "Exception", .type "BaseException", .type "object"] true sn sub ab col dd k0 k1 k2 k3 k5 "RuntimeError.__new__")
section
variable {X : Cx} {pins : List (Addr × Obj)} {σ : L2.St} {H : Hp} {s : Shared} {a C : Addr} {A : Around} {E : Value → Shared → Prop}
theorem initRt {us : List Value} {Q : Value → Shared → Prop} (T : ExRt X.K C) (I : Inv X pins σ H s) (e : H a = some (exo a C none)) (hl : us.length ≤ sizeLine)
    (h : ∀ s', Inv X pins σ H s' → Q .none s') : wpAny (model X.prog X.w) A (call (.builtin "RuntimeError.__init__") (.ref a :: us)) Q E s := by
  obtain ⟨nm, q, N, bs, sn, sub, ab, col, dd, k0, k1, k2, k3, k5, hC⟩ := T.cls
  obtain ⟨t1, ho⟩ := exo_at I.hok e
  have I0 := I
  obtain ⟨hp, g, d, t, os⟩ := s
  refine wpAny_call (PySem.HandSPX.init_base F.excBase_RuntimeError (fun Y => rfl) (I.kIn _ _ hC) ho hl fun h' t2 k hx => ?_)
  have J := I0.write (t' := t) (x := a) (e := a) (o := exo a C none) (by rw [e]; exact True.intro) (.inl rfl) k ⟨_, hx⟩ (exo_ok hx)
  have eu : upd H a (exo a C none) = H := by
    funext b
    by_cases hb : b = a
    · rw [hb, upd_same, e]
    · rw [upd_ne hb]
  rw [eu] at J
  exact h _ J
end
def tRtI (K : PySem.W.Frag) (ta : TA) : TE := fun σ H Q => ta σ H fun vs H1 => ∃ (a C : Addr) (ws : List V), vs = .ref a :: ws ∧ ws.length ≤ 1000 ∧ ExRt K C ∧ H1 a = some (exo a C none) ∧ Q .non H1
section
variable {X : Cx} {e : Expr} {es : List Expr} {ta : TA} {p1 p2 pos : Pos}
theorem pe_rtinit {pl : Sem Bool} (hg : Gl X "RuntimeError") (hm : X.mg "RuntimeError" = none)
    (vV : PySem.W.findCls X.K (.type "RuntimeError") (.type "type") "__init__" = some (.val (.builtin "RuntimeError.__init__"))) (ha : PA X (e :: es) ta)
    (hc : eval (.Call (.Attribute (.Name "RuntimeError" p1) "__init__" p2) (e :: es) [] pos) X.env = (do
      let ov ← eval (.Name "RuntimeError" p1) X.env
      standAt p2.atName
      let (f, first) ← holding [ov] (getMethod ov "__init__" pl)
      callWith pos f first (backTo pos (starEach (e :: es) X.env)) (backToKw pos (keywordEach [] X.env))) := by rfl)
    (he : starEach (e :: es) X.env = (false, eval e X.env) :: starEach es X.env := by rfl) (hpl : (backTo pos (starEach es X.env)).any (·.1) = false := by rfl) :
    PE X (.Call (.Attribute (.Name "RuntimeError" p1) "__init__" p2) (e :: es) [] pos) (tRtI X.K ta) := by
  refine ⟨fun pins s σ H Q I h => ?_⟩
  refine PySem.W.methodCall_KW (ld_blt I hg hm PyProof.Rows.Boot.«RuntimeError» ?_ (by decide) (by decide)) hc
  obtain ⟨m, fr⟩ := I.fr
  refine PySem.W.method_type fr I.ok.mod.kin typRE (by decide +kernel) vV (by decide +kernel) ?_
  show wpAny _ _ (callWith pos (Value.builtin "RuntimeError.__init__") [] (backTo pos (starEach (e :: es) X.env)) []) _ _ _
  refine PyProof.Rows.callWith_method1 (thn (ha.run pos pins _ σ H _ (I.tok _) h) ?_) he hpl
  rintro us s1 ⟨vs, H1, I1, r1, a, C, ws, ev, few, T, ea, q⟩
  subst ev
  cases r1 with
  | @cons _ u0 _ ur ra rw' =>
    obtain rfl : u0 = Value.ref a := ra
    have small : ur.length ≤ sizeLine := by
      rw [← Paired.length rw', sizeLine_eq]
      omega
    exact initRt T I1 ea small fun s' J => ⟨.non, H1, J, rfl, q⟩
end
end My
set_option maxHeartbeats 4000000
/-! short words for own exceptions made as values -/
namespace My
open PySem PySem.Spec PyProof.Rows L2 Evl

theorem peImp {X : Cx} {e : Expr} {t t' : TE} (h : PE X e t) (k : ∀ σ H Q, t' σ H Q → t σ H Q) : PE X e t' := ⟨fun pins s σ H Q I q => h.run pins s σ H Q I (k σ H Q q)⟩

section
variable {K : PySem.W.Frag} {fd : FuncData} {ps : List Str}
theorem kbPos (b : Binds K fd ps []) : KBn K fd ps ps.length [] (fun us _ => us) (fun vs _ => vs) where
  to := fun s us ws inK l1 _ => by
    have q := b s us inK (by rw [List.append_nil]; exact l1)
    rw [List.append_nil] at q
    exact q
  rel := fun r _ => r
end

/-- a class whose __init__ keeps one field -/
structure Mkr (P : Program) (w : World) (K : PySem.W.Frag) (mg : Str → Option Value) (base : Heap) (C : Addr) (f : Str) : Prop where
  ex : ∃ (fI : Addr) (fd : FuncData), ExG K C ∧ PySem.W.findIn K (.ref C) "__init__" = some (some (.ref fI)) ∧ PySem.W.typeIn K (.ref fI) = some (.type "function") ∧
    FnOk P w K mg base CX0 1 fI fd ["self", f] (spOne C f) ∧ KBn K fd ["self", f] 2 [] (fun us _ => us) (fun vs _ => vs) ∧
    KBn K fd ["self", f] 1 [f] (fun us ws => us ++ ws) (fun vs zs => vs ++ zs)
/-- a class whose __init__ keeps two -/
structure Mkr2 (P : Program) (w : World) (K : PySem.W.Frag) (mg : Str → Option Value) (base : Heap) (C : Addr) (f g : Str) : Prop where
  ex : ∃ (fI : Addr) (fd : FuncData), ExG K C ∧ PySem.W.findIn K (.ref C) "__init__" = some (some (.ref fI)) ∧ PySem.W.typeIn K (.ref fI) = some (.type "function") ∧
    FnOk P w K mg base CX0 1 fI fd ["self", f, g] (spTwo C f g) ∧ KBn K fd ["self", f, g] 3 [] (fun us _ => us) (fun vs _ => vs) ∧
    KBn K fd ["self", f, g] 1 [f, g] (fun us ws => us ++ ws) (fun vs zs => vs ++ zs) ∧
    KBn K fd ["self", f, g] 1 [g, f] (fun us ws => us ++ ws.reverse) (fun vs zs => vs ++ zs.reverse)
/-- a class whose __init__ keeps none -/
structure Mkr0 (P : Program) (w : World) (K : PySem.W.Frag) (mg : Str → Option Value) (base : Heap) (C : Addr) : Prop where
  ex : ∃ (fI : Addr) (fd : FuncData), ExG K C ∧ PySem.W.findIn K (.ref C) "__init__" = some (some (.ref fI)) ∧ PySem.W.typeIn K (.ref fI) = some (.type "function") ∧
    FnOk P w K mg base CX0 1 fI fd ["self"] (spNil C) ∧ KBn K fd ["self"] 1 [] (fun us _ => us) (fun vs _ => vs)

/-- what comes of it: a new exception of C, its dict told -/
def EvX (te : TE) (σ : L2.St) (H : Hp) (C : Addr) (fs : List (Str × V)) : Prop := ∀ H1, Ex H H1 → ∀ Q : VK,
  (∀ a dx H2, H1 a = none → Ex H1 H2 → H2 a = some (exo a C (some dx)) → H2 dx = some (exd dx fs) → Q (.ref a) H2) → te σ H1 Q
def EvX0 (te : TE) (σ : L2.St) (H : Hp) (C : Addr) : Prop := ∀ H1, Ex H H1 → ∀ Q : VK, (∀ a H2, H1 a = none → Ex H1 H2 → H2 a = some (exo a C none) → Q (.ref a) H2) → te σ H1 Q

section
variable {σ : L2.St} {H : Hp} {C a : Addr} {f g : Str} {v u : V} {te tu : TE} {Q : VK} {E : XK}
theorem spOneOf (ha : H a = none) (q : ∀ dx H2, Ex H H2 → H2 a = some (exo a C (some dx)) → H2 dx = some (exd dx [(f, v)]) → Q (.ref a) H2) :
    spOne C f [.ref a, v] (upd H a (exo a C none)) (fun w H3 => w = .non ∧ Q (.ref a) H3) E := by
  refine ⟨a, v, rfl, upd_same, fun dx n ne => ⟨rfl, ?_⟩⟩
  rw [upd_upd]
  rw [upd_ne ne] at n
  have n1 : upd H a (exo a C (some dx)) dx = none := by
    rw [upd_ne ne]
    exact n
  exact q dx _ ((Ex.new ha).trans (Ex.new n1)) (by rw [upd_ne (Ne.symm ne), upd_same]) upd_same
theorem spTwoOf (ha : H a = none) (q : ∀ dx H2, Ex H H2 → H2 a = some (exo a C (some dx)) → H2 dx = some (exd dx [(g, u), (f, v)]) → Q (.ref a) H2) :
    spTwo C f g [.ref a, v, u] (upd H a (exo a C none)) (fun w H3 => w = .non ∧ Q (.ref a) H3) E := by
  refine ⟨a, v, u, rfl, upd_same, fun dx n ne => ⟨rfl, ?_⟩⟩
  rw [upd_upd, upd_upd]
  rw [upd_ne ne] at n
  have n1 : upd H a (exo a C (some dx)) dx = none := by
    rw [upd_ne ne]
    exact n
  exact q dx _ ((Ex.new ha).trans (Ex.new n1)) (by rw [upd_ne (Ne.symm ne), upd_same]) upd_same
theorem ex_one (h : Ev te σ H v) : EvX (tMadeK C 1 0 (spOne C f) (fun vs _ => vs) (tCons te tNil) tNil) σ H C [(f, v)] := fun H1 e Q q =>
  h H1 e _ fun H2 e2 => ⟨rfl, rfl, by decide, fun a ha => spOneOf ha fun dx H3 e3 h1 h2 => q a dx H3 (fresh_back e2 ha) (e2.trans e3) h1 h2⟩
theorem ex_oneK (h : Ev te σ H v) : EvX (tMadeK C 0 1 (spOne C f) (fun vs zs => vs ++ zs) tNil (tCons te tNil)) σ H C [(f, v)] := fun H1 e Q q =>
  h H1 e _ fun H2 e2 => ⟨rfl, rfl, by decide, fun a ha => spOneOf ha fun dx H3 e3 h1 h2 => q a dx H3 (fresh_back e2 ha) (e2.trans e3) h1 h2⟩
theorem ex_two (h : Ev te σ H v) (h' : Ev tu σ H u) : EvX (tMadeK C 2 0 (spTwo C f g) (fun vs _ => vs) (tCons te (tCons tu tNil)) tNil) σ H C [(g, u), (f, v)] := fun H1 e Q q =>
  h H1 e _ fun H2 e2 => h' H2 (e.trans e2) _ fun H3 e3 => ⟨rfl, rfl, by decide, fun a ha => spTwoOf ha fun dx H4 e4 h1 h2 => q a dx H4 (fresh_back (e2.trans e3) ha) ((e2.trans e3).trans e4) h1 h2⟩
theorem ex_twoK (h : Ev te σ H v) (h' : Ev tu σ H u) : EvX (tMadeK C 0 2 (spTwo C f g) (fun vs zs => vs ++ zs) tNil (tCons te (tCons tu tNil))) σ H C [(g, u), (f, v)] := fun H1 e Q q =>
  h H1 e _ fun H2 e2 => h' H2 (e.trans e2) _ fun H3 e3 => ⟨rfl, rfl, by decide, fun a ha => spTwoOf ha fun dx H4 e4 h1 h2 => q a dx H4 (fresh_back (e2.trans e3) ha) ((e2.trans e3).trans e4) h1 h2⟩
theorem ex_twoR (h : Ev te σ H v) (h' : Ev tu σ H u) : EvX (tMadeK C 0 2 (spTwo C f g) (fun vs zs => vs ++ zs.reverse) tNil (tCons tu (tCons te tNil))) σ H C [(g, u), (f, v)] := fun H1 e Q q =>
  h' H1 e _ fun H2 e2 => h H2 (e.trans e2) _ fun H3 e3 => ⟨rfl, rfl, by decide, fun a ha => spTwoOf ha fun dx H4 e4 h1 h2 => q a dx H4 (fresh_back (e2.trans e3) ha) ((e2.trans e3).trans e4) h1 h2⟩
theorem ex_nil : EvX0 (tMadeK C 0 0 (spNil C) (fun vs _ => vs) tNil tNil) σ H C := fun H1 e Q q =>
  ⟨rfl, rfl, by decide, fun a ha => ⟨a, rfl, upd_same, rfl, q a _ ha (Ex.new ha) upd_same⟩⟩
end

section
variable {X : Cx} {C : Addr} {x f g : Str} {e d : Expr} {te tu : TE} {p pos kp kq : Pos}
theorem passN : Passes CX0 X (fun _ _ _ => False) := fun _ _ _ _ _ _ _ z => z.elim
/-- C(e) -/
theorem pe_mk1 (M : Mkr X.prog X.w X.K X.mg X.base C f) (hr : Room 2 X.A) (hg : Gl X x) (hm : X.mg x = some (.ref C)) (he : PE X e te) (hdb : (x == ("__debug__" : Str)) = false := by decide)
    (hs : starEach [e] X.env = (false, eval e X.env) :: starEach [] X.env := by rfl) :
    PE X (.Call (.Name x p) [e] [] pos) (tMadeK C 1 0 (spOne C f) (fun vs _ => vs) (tCons te tNil) tNil) := by
  obtain ⟨fI, fd, T, iC, tI, F, b0, b1⟩ := M.ex
  refine pe_madeK (n := 1) (ks := []) T iC tI F hr hg hm b0 passN (pa_cons he pa_nil hs) pk_nil rfl rfl hdb hs ?_
  rw [hs]
  rfl
/-- C(f = e) -/
theorem pe_mk1K (M : Mkr X.prog X.w X.K X.mg X.base C f) (hr : Room 2 X.A) (hg : Gl X x) (hm : X.mg x = some (.ref C)) (he : PE X e te) (hdb : (x == ("__debug__" : Str)) = false := by decide) :
    PE X (.Call (.Name x p) [] [⟨some f, e, kp⟩] pos) (tMadeK C 0 1 (spOne C f) (fun vs zs => vs ++ zs) tNil (tCons te tNil)) := by
  obtain ⟨fI, fd, T, iC, tI, F, b0, b1⟩ := M.ex
  exact pe_madeK0 (ks := [f]) T iC tI F hr hg hm b1 passN (pk_cons he pk_nil) rfl rfl hdb rfl
/-- C(e, d) -/
theorem pe_mk2 (M : Mkr2 X.prog X.w X.K X.mg X.base C f g) (hr : Room 2 X.A) (hg : Gl X x) (hm : X.mg x = some (.ref C)) (he : PE X e te) (hd : PE X d tu) (hdb : (x == ("__debug__" : Str)) = false := by decide)
    (hs : starEach [e, d] X.env = (false, eval e X.env) :: starEach [d] X.env := by rfl) (hs2 : starEach [d] X.env = (false, eval d X.env) :: starEach [] X.env := by rfl) :
    PE X (.Call (.Name x p) [e, d] [] pos) (tMadeK C 2 0 (spTwo C f g) (fun vs _ => vs) (tCons te (tCons tu tNil)) tNil) := by
  obtain ⟨fI, fd, T, iC, tI, F, b0, b1, b2⟩ := M.ex
  refine pe_madeK (n := 2) (ks := []) T iC tI F hr hg hm b0 passN (pa_cons he (pa_cons hd pa_nil hs2) hs) pk_nil rfl rfl hdb hs ?_
  rw [hs, hs2]
  rfl
/-- C(f = e, g = d) -/
theorem pe_mk2K (M : Mkr2 X.prog X.w X.K X.mg X.base C f g) (hr : Room 2 X.A) (hg : Gl X x) (hm : X.mg x = some (.ref C)) (he : PE X e te) (hd : PE X d tu) (hdb : (x == ("__debug__" : Str)) = false := by decide) :
    PE X (.Call (.Name x p) [] [⟨some f, e, kp⟩, ⟨some g, d, kq⟩] pos) (tMadeK C 0 2 (spTwo C f g) (fun vs zs => vs ++ zs) tNil (tCons te (tCons tu tNil))) := by
  obtain ⟨fI, fd, T, iC, tI, F, b0, b1, b2⟩ := M.ex
  exact pe_madeK0 (ks := [f, g]) T iC tI F hr hg hm b1 passN (pk_cons he (pk_cons hd pk_nil)) rfl rfl hdb rfl
/-- C(g = d, f = e) -/
theorem pe_mk2R (M : Mkr2 X.prog X.w X.K X.mg X.base C f g) (hr : Room 2 X.A) (hg : Gl X x) (hm : X.mg x = some (.ref C)) (he : PE X e te) (hd : PE X d tu) (hdb : (x == ("__debug__" : Str)) = false := by decide) :
    PE X (.Call (.Name x p) [] [⟨some g, d, kq⟩, ⟨some f, e, kp⟩] pos) (tMadeK C 0 2 (spTwo C f g) (fun vs zs => vs ++ zs.reverse) tNil (tCons tu (tCons te tNil))) := by
  obtain ⟨fI, fd, T, iC, tI, F, b0, b1, b2⟩ := M.ex
  exact pe_madeK0 (ks := [g, f]) T iC tI F hr hg hm b2 passN (pk_cons hd (pk_cons he pk_nil)) rfl rfl hdb rfl
/-- C() -/
theorem pe_mk0 (M : Mkr0 X.prog X.w X.K X.mg X.base C) (hr : Room 2 X.A) (hg : Gl X x) (hm : X.mg x = some (.ref C)) (hdb : (x == ("__debug__" : Str)) = false := by decide) :
    PE X (.Call (.Name x p) [] [] pos) (tMadeK C 0 0 (spNil C) (fun vs _ => vs) tNil tNil) := by
  obtain ⟨fI, fd, T, iC, tI, F, b0⟩ := M.ex
  exact pe_madeK0 (ks := []) T iC tI F hr hg hm b0 passN pk_nil rfl rfl hdb rfl
end
end My
set_option maxHeartbeats 4000000
/-! what repr, attributes, comparisons and enumerate come to, in the words of Evl -/
namespace My
open PySem PySem.Spec PyProof.Rows L2 Evl

/-- v stands for d, and d can be shown in short -/
structure Gd (K : PySem.W.Frag) (H : Hp) (v : V) (d : PyData) : Prop where
  dd : Dd K H v d
  sh : d.showable = true
  sz : d.shown.length ≤ 2000
  dp : d.depth ≤ 10
section
variable {K : PySem.W.Frag} {H H' : Hp} {σ : L2.St} {v x y : V} {d : PyData} {te ta tb : TE}
theorem Gd.ext (g : Gd K H v d) (e : Ex H H') : Gd K H' v d := ⟨Dd.ext e d v g.dd, g.sh, g.sz, g.dp⟩
theorem ev_repr (h : Ev te σ H v) (g : Gd K H v d) : Ev (tCB (rRepr K) (tCons te tNil)) σ H (.str d.shown) := fun H1 e Q q =>
  h H1 e _ fun H2 e2 => ⟨v, d, rfl, .inr (g.ext (e.trans e2)).dd, g.sh, Nat.le_trans g.sz (by decide), Nat.le_trans g.dp (by decide), q H2 e2⟩
/-- repr of a list that is written there -/
theorem ev_reprL {ta : TA} {vs : List V} {ds : List PyData} (h : EvA ta σ H vs) (hd : Dds K H vs ds) (hz : vs.length ≤ 1000) (sh : (PyData.list ds).showable = true) (sz : (PyData.list ds).shown.length ≤ 10000) (dp : (PyData.list ds).depth ≤ 30) :
    Ev (tCB (rRepr K) (tCons (tLstB ta) tNil)) σ H (.str (PyData.list ds).shown) := fun H1 e Q q =>
  h H1 e _ fun H2 e2 => ⟨sz_of (by omega), fun p hp np => by
    have eN : Ex H2 (upd H2 p (.lst vs)) := Ex.new hp
    exact ⟨.ref p, .list ds, rfl, .inr (.lst (SqL.of upd_same) np (Dds.ext ((e.trans e2).trans eN) ds vs hd)), sh, Nat.le_trans sz (by decide), Nat.le_trans dp (by decide), q _ (e2.trans eN)⟩⟩
theorem ev_exAt {a C dx : Addr} {f : Str} {fs : List (Str × V)} (h : Ev te σ H (.ref a)) (R : ExR K C) (no : PySem.W.findIn K (.ref C) f = some none)
    (h1 : H a = some (exo a C (some dx))) (h2 : H dx = some (exd dx fs)) (el : fs.lookup f = some v) : Ev (tExAt K f te) σ H v := fun H1 e Q q =>
  h H1 e _ fun H2 e2 => ⟨a, C, dx, fs, v, rfl, R, no, e2 _ _ (e _ _ h1), e2 _ _ (e _ _ h2), el, q H2 e2⟩
theorem rv_neSame (h1 : ∀ H', Ex H H' → Dp K H' x d) (h2 : ∀ H', Ex H H' → Dp K H' y d) (s : SeqAt.shaped d = true) : RV (rNeD K) x y H (.bl false) := fun H1 e Q q =>
  ⟨d, d, h1 H1 e, h2 H1 e, s, s, by
    rw [PySem.SeqAt.eqv_refl d (PySem.SeqAt.canLay_of_shaped s)]
    exact q H1 (Ex.refl H1)⟩
theorem rv_eqSame (h1 : ∀ H', Ex H H' → Dp K H' x d) (h2 : ∀ H', Ex H H' → Dp K H' y d) (s : SeqAt.shaped d = true) : RV (rEqD K) x y H (.bl true) := fun H1 e Q q =>
  ⟨d, d, h1 H1 e, h2 H1 e, s, s, by
    rw [PySem.SeqAt.eqv_refl d (PySem.SeqAt.canLay_of_shaped s)]
    exact q H1 (Ex.refl H1)⟩
theorem dpBools : ∀ (bs : List Bool), DpAll K H (bs.map V.bl) (bs.map PyData.bool)
  | [] => .nil
  | b :: r => .cons (.bl b) (dpBools r)
theorem dpInts : ∀ (ns : List Int), DpAll K H (ns.map V.int) (ns.map PyData.int)
  | [] => .nil
  | b :: r => .cons (.int b) (dpInts r)
theorem dp_bools {p : Addr} {bs : List Bool} (h : H p = some (.lst (bs.map V.bl))) : Dp K H (.ref p) (.list (bs.map PyData.bool)) := .lst (SqL.of h) (dpBools bs)
theorem dp_ints {p : Addr} {ns : List Int} (h : H p = some (.lst (ns.map V.int))) : Dp K H (.ref p) (.list (ns.map PyData.int)) := .lst (SqL.of h) (dpInts ns)
theorem ev_min2 {i j : Int} (ha : Ev ta σ H (.int i)) (hb : Ev tb σ H (.int j)) : Ev (tCB (fun xs H Q => ∃ i j, xs = [.int i, .int j] ∧ Q (.int (if j < i then j else i)) H) (tCons ta (tCons tb tNil))) σ H (.int (if j < i then j else i)) := fun H1 e Q q =>
  ha H1 e _ fun H2 e2 => hb H2 (e.trans e2) _ fun H3 e3 => ⟨i, j, rfl, q H3 (e2.trans e3)⟩
end

/-- for i, x in enumerate(a list that stands) -/
theorem for_enum {K : PySem.W.Frag} {a : Addr} {xs : List V} {g : TG} {tb : TS} {D : Ends} {σ : L2.St} {H : Hp} (Pv : Nat → L2.St → Hp → Prop) (h0 : Pv 0 σ H) (hl : ∀ i σ H, i ≤ xs.length → Pv i σ H → SqL K H a xs)
    (hs : ∀ i x σ H T, xs[i]? = some x → Pv i σ H → H T = none → g (.ref T) σ (upd H T (.tup [.int (i : Nat), x])) fun σ2 H2 => tb { D with nx := Pv (i + 1), ct := Pv (i + 1), bk := D.nx } σ2 H2) (hd : ∀ σ H, Pv xs.length σ H → D.nx σ H) :
    ∃ W : Nat → Nat → L2.St → Hp → Prop, (∃ m, W 0 m σ H) ∧ ∀ i m σ H, W i m σ H →
      ((Ite K a).stop i H ∧ D.nx σ H) ∨ ((Ite K a).go i H ∧ ∃ N : L2.St → Hp → Prop, (∀ σ' H', N σ' H' → ∃ m', m' < m ∧ W (i + 1) m' σ' H') ∧
        ∀ x H', (Ite K a).yld i H x H' → g x σ H' fun σ2 H2 => tb { D with nx := N, ct := N, bk := D.nx } σ2 H2) := by
  refine ⟨fun i m σ H => m = xs.length - i ∧ i ≤ xs.length ∧ Pv i σ H, ⟨xs.length, by simp, Nat.zero_le _, h0⟩, ?_⟩
  rintro i m σ H ⟨rfl, hi, p⟩
  have q := hl i σ H hi p
  by_cases lt : i < xs.length
  · refine .inr ⟨⟨xs, xs[i], q, by simp [lt]⟩, Pv (i + 1), fun σ' H' p' => ⟨xs.length - (i + 1), by omega, rfl, lt, p'⟩, ?_⟩
    rintro x H' ⟨T, y, rfl, hT, rfl, hy⟩
    exact hs i y σ H T (hy xs q) p hT
  · have e : i = xs.length := by omega
    subst e
    exact .inl ⟨⟨xs, q, Nat.le_refl _⟩, hd σ H p⟩
end My
namespace My
open PySem PySem.Spec PyProof.Rows L2 Evl
/-- a def of the module, its promise, as a constant -/
structure Df (P : Program) (w : World) (K : PySem.W.Frag) (mg : Str → Option Value) (base : Heap) (x : Str) (ps : List Str) (k : Nat) (sp : Sp) : Prop where
  ex : ∃ (f : Addr) (fd : FuncData), mg x = some (.ref f) ∧ PySem.W.keepIn K (.ref f) = true ∧ FnOk P w K mg base CX0 k f fd ps sp ∧ Binds K fd ps []
theorem pe_df {X : Cx} {x : Str} {ps : List Str} {k : Nat} {sp : Sp} {e : Expr} {es : List Expr} {t : TA} {p pos : Pos} (D : Df X.prog X.w X.K X.mg X.base x ps k sp) (hr : Room k X.A) (hg : Gl X x) (ha : PA X (e :: es) t)
    (hdb : (x == ("__debug__" : Str)) = false := by decide) (he : starEach (e :: es) X.env = (false, eval e X.env) :: starEach es X.env := by rfl) (hpl : (backTo pos (starEach es X.env)).any (·.1) = false := by rfl) :
    PE X (.Call (.Name x p) (e :: es) [] pos) (tCall sp [] E0 t) := by
  obtain ⟨f, fd, hm, hk, F, b⟩ := D.ex
  exact pe_call F hr hg hm hk b .nil pass0 ha hdb he hpl
section
variable {σ : L2.St} {H : Hp} {ta tb : TE} {xs : List V}
theorem el_rep {k : Int} (ha : EvL ta σ H xs) (hb : ∀ H1, Ex H H1 → Ev tb σ H1 (.int k)) (h : -(2 ^ 63) ≤ k ∧ k < 2 ^ 63) (z : xs.length * k.toNat ≤ 100000) : EvL (tOp rRep ta tb) σ H (List.replicate k.toNat xs).flatten := fun H1 e Q q =>
  ha H1 e _ fun l H2 _ e2 h2 => hb H2 (e.trans e2) H2 (Ex.refl H2) _ fun H3 e3 =>
    ⟨l, k, xs, rfl, rfl, e3 l _ h2, h.1, h.2, sz_of z, fun r hr => q r _ (fresh_back (e2.trans e3) hr) ((e2.trans e3).trans (Ex.new hr)) upd_same⟩
end
end My
namespace My
open PySem PySem.Spec PyProof.Rows L2 Evl
/-- a row of new exceptions of one class, all with the same fields -/
def EvXr (C : Addr) (ta : TA) (σ : L2.St) (H : Hp) (fs : List (Str × V)) (n : Nat) : Prop := ∀ H1, Ex H H1 → ∀ Q : List V → Hp → Prop,
  (∀ (as : List Addr) (H2 : Hp), Ex H1 H2 → as.length = n → (∀ (m : Nat) (a : Addr), as[m]? = some a → ∃ dx, H2 a = some (exo a C (some dx)) ∧ H2 dx = some (exd dx fs)) → Q (as.map V.ref) H2) → ta σ H1 Q
section
variable {C : Addr} {te : TE} {ta : TA} {σ : L2.St} {H : Hp} {fs : List (Str × V)} {n : Nat} {K : PySem.W.Frag} {tu tz : TS} {D : Ends} {j : Nat}
theorem exr_nil : EvXr C tNil σ H fs 0 := fun H1 e Q q => q [] H1 (Ex.refl H1) rfl fun m a h => by simp at h
theorem exr_cons (h : EvX te σ H C fs) (hr : EvXr C ta σ H fs n) : EvXr C (tCons te ta) σ H fs (n + 1) := fun H1 e Q q =>
  h H1 e _ fun a dx H2 _ e2 h1 h2 => hr H2 (e.trans e2) _ fun bs H3 e3 hl x => q (a :: bs) H3 (e2.trans e3) (by rw [List.length_cons, hl]) fun k b hb => by
    cases k with
    | zero =>
      have z : a = b := by simpa using hb
      subst z
      exact ⟨dx, e3 _ _ h1, e3 _ _ h2⟩
    | succ k => exact x k b (by simpa using hb)
/-- for e in [C(..), C(..)] -/
theorem s_forX (h : EvXr C ta σ H fs n) (hn : n ≤ 1000) (S : L2.St → Prop) (s0 : S σ)
    (hs : ∀ a dx σ' H', Ex H H' → H' a = some (exo a C (some dx)) → H' dx = some (exd dx fs) → S σ' → ∀ N : L2.St → Hp → Prop, (∀ σ2 H2, Ex H' H2 → S σ2 → N σ2 H2) →
      tu { D with nx := N, ct := N, bk := D.nx } (σ'.set j (some (.ref a))) H')
    (hd : ∀ σ' H', Ex H H' → S σ' → D.nx σ' H') : tFor (iList K (tLst ta)) (gName j) tu D σ H :=
  h H (Ex.refl H) _ fun as H1 e1 hl x => ⟨by rw [List.length_map, hl]; exact sz_of (by omega), fun L nL => ⟨L, rfl, ⟨_, SqL.of upd_same⟩,
    for_list (K := K) (a := L) (xs := as.map V.ref) (fun _ σ' H' => Ex (upd H1 L (.lst (as.map V.ref))) H' ∧ S σ') ⟨Ex.refl _, s0⟩ (fun _ σ' H' _ q => ex_l q.1 (SqL.of upd_same))
      (fun m v σ' H' hv q => by
        obtain ⟨a, ha, rfl⟩ : ∃ a, as[m]? = some a ∧ v = .ref a := by
          rw [List.getElem?_map] at hv
          cases z : as[m]? with
          | none =>
            rw [z] at hv
            cases hv
          | some u =>
            rw [z] at hv
            exact ⟨u, rfl, (Option.some.inj hv).symm⟩
        obtain ⟨dx, h1, h2⟩ := x m a ha
        have eN : Ex H1 (upd H1 L (.lst (as.map V.ref))) := Ex.new nL
        exact hs a dx σ' H' ((e1.trans eN).trans q.1) (q.1 _ _ (eN _ _ h1)) (q.1 _ _ (eN _ _ h2)) q.2 _ fun σ2 H2 e2 s2 => ⟨q.1.trans e2, s2⟩)
      fun σ' H' q => hd σ' H' ((e1.trans (Ex.new nL)).trans q.1) q.2⟩⟩
theorem q_forX (h : EvXr C ta σ H fs n) (hn : n ≤ 1000) (S : L2.St → Prop) (s0 : S σ)
    (hs : ∀ a dx σ' H', Ex H H' → H' a = some (exo a C (some dx)) → H' dx = some (exd dx fs) → S σ' → ∀ N : L2.St → Hp → Prop, (∀ σ2 H2, Ex H' H2 → S σ2 → N σ2 H2) →
      tu { D with nx := N, ct := N, bk := tz D } (σ'.set j (some (.ref a))) H')
    (hd : ∀ σ' H', Ex H H' → S σ' → tz D σ' H') : tSeq (tFor (iList K (tLst ta)) (gName j) tu) tz D σ H := s_forX (D := { D with nx := tz D }) h hn S s0 hs hd
end
end My
set_option maxHeartbeats 4000000
/-! evaluation told in data: which datum a value stands for, not where it lies -/
namespace My
open PySem PySem.Spec PyProof.Rows L2 Evl
/-- the class of a datum -/
def tyD : PyData → String
  | .none => "NoneType"
  | .bool _ => "bool"
  | .int _ => "int"
  | .str _ => "str"
  | .list _ => "list"
  | .tuple _ => "tuple"
  | .dict _ => "dict"
theorem Dd.ty {K : PySem.W.Frag} {H : Hp} {v : V} {d : PyData} (h : Dd K H v d) : TyX K H v (.type (tyD d)) := by
  cases h with
  | non => exact .base .non
  | bl b => exact .base (.bl b)
  | int i => exact .base (.int i)
  | str x => exact .base (.str x)
  | lst hs n ha =>
    rcases hs with (h | ⟨o, h⟩) | ⟨o, its, n, hk, hc, _⟩
    · exact .base (.lst h)
    · exact .base (.frz h)
    · exact .kList hk hc
  | tup hs ha =>
    rcases hs with (h | ⟨o, h⟩) | ⟨o, its, n, hk, hc, _⟩
    · exact .base (.tup h)
    · exact .fTuple h
    · exact .kTuple hk hc
  | dct h => exact .base (.dK h)
theorem Dds.len {K : PySem.W.Frag} {H : Hp} : ∀ {vs : List V} {ds : List PyData}, Dds K H vs ds → vs.length = ds.length
  | _, _, .nil => rfl
  | _, _, .cons _ t => by rw [List.length_cons, List.length_cons, t.len]
theorem Dds.get {K : PySem.W.Frag} {H : Hp} : ∀ {vs : List V} {ds : List PyData}, Dds K H vs ds → ∀ {i : Nat} {v : V}, vs[i]? = some v → ∃ d, ds[i]? = some d ∧ Dd K H v d
  | _, _, .nil, i, v, h => by simp at h
  | _, _, .cons h t, 0, v, e => by
    simp at e
    subst e
    exact ⟨_, rfl, h⟩
  | _, _, .cons h t, i + 1, v, e => by
    simp at e
    obtain ⟨d, e1, e2⟩ := t.get e
    exact ⟨d, by simpa using e1, e2⟩
theorem Dds.at {K : PySem.W.Frag} {H : Hp} : ∀ {vs : List V} {ds : List PyData}, Dds K H vs ds → ∀ {i : Nat} {d : PyData}, ds[i]? = some d → ∃ v, vs[i]? = some v ∧ Dd K H v d
  | _, _, .nil, i, d, h => by simp at h
  | _, _, .cons h t, 0, d, e => by
    simp at e
    subst e
    exact ⟨_, rfl, h⟩
  | _, _, .cons h t, i + 1, d, e => by
    simp at e
    obtain ⟨v, e1, e2⟩ := t.at e
    exact ⟨v, by simpa using e1, e2⟩
theorem Dds.app {K : PySem.W.Frag} {H : Hp} : ∀ {vs ws : List V} {ds es : List PyData}, Dds K H vs ds → Dds K H ws es → Dds K H (vs ++ ws) (ds ++ es)
  | _, _, _, _, .nil, t => t
  | _, _, _, _, .cons h r, t => .cons h (Dds.app r t)
theorem Dds.strs {K : PySem.W.Frag} {H : Hp} : ∀ (ys : List Str), Dds K H (ys.map V.str) (ys.map PyData.str)
  | [] => .nil
  | y :: ys => .cons (.str y) (Dds.strs ys)
theorem Dds.bls {K : PySem.W.Frag} {H : Hp} : ∀ {vs : List V} {bs : List Bool}, Dds K H vs (bs.map PyData.bool) → vs = bs.map V.bl
  | _, [], .nil => rfl
  | _, b :: bs, .cons h t => by
    cases h
    rw [List.map_cons, t.bls]
theorem Dds.txts {K : PySem.W.Frag} {H : Hp} : ∀ {vs : List V} {ys : List Str}, Dds K H vs (ys.map PyData.str) → vs = ys.map V.str
  | _, [], .nil => rfl
  | _, y :: ys, .cons h t => by
    cases h
    rw [List.map_cons, t.txts]

mutual
/-- no list, no dict within -/
def noList : PyData → Bool
  | .none => true
  | .bool _ => true
  | .int _ => true
  | .str _ => true
  | .tuple ds => noLists ds
  | .list _ => false
  | .dict _ => false
def noLists : List PyData → Bool
  | [] => true
  | d :: ds => noList d && noLists ds
end
mutual
/-- such a datum does not hang on what a list holds -/
theorem Dd.upd {K : PySem.W.Frag} {H : Hp} {a : Addr} {xs : List V} {o : HO} (h : H a = some (.lst xs)) : ∀ (d : PyData) (v : V), noList d = true → Dd K H v d → Dd K (L2.upd H a o) v d
  | .none, _, _, g => by
    cases g
    exact .non
  | .bool b, _, _, g => by
    cases g
    exact .bl b
  | .int i, _, _, g => by
    cases g
    exact .int i
  | .str x, _, _, g => by
    cases g
    exact .str x
  | .tuple ds, _, n, g => by
    cases g with
    | @tup b ys _ hs ha =>
      refine .tup ?_ (Dds.upd h ds _ n ha)
      have ne : ∀ {u : HO}, H b = some u → (∀ zs, u ≠ .lst zs) → L2.upd H a o b = some u := fun {u} hb nz => by
        rw [upd_ne (fun z => ?_)]
        · exact hb
        · rw [z, h] at hb
          exact nz xs (Option.some.inj hb).symm
      rcases hs with (hb | ⟨ob, hb⟩) | hb
      · exact .inl (.inl (ne hb (fun _ z => nomatch z)))
      · exact .inl (.inr ⟨ob, ne hb (fun _ z => nomatch z)⟩)
      · exact .inr hb
  | .list _, _, n, _ => by cases n
  | .dict _, _, n, _ => by cases n
theorem Dds.upd {K : PySem.W.Frag} {H : Hp} {a : Addr} {xs : List V} {o : HO} (h : H a = some (.lst xs)) : ∀ (ds : List PyData) (vs : List V), noLists ds = true → Dds K H vs ds → Dds K (L2.upd H a o) vs ds
  | [], _, _, g => by
    cases g
    exact .nil
  | d :: ds, _, n, g => by
    cases g with
    | cons g1 g2 =>
      have n2 : (noList d && noLists ds) = true := n
      rw [Bool.and_eq_true] at n2
      exact .cons (Dd.upd h d _ n2.1 g1) (Dds.upd h ds _ n2.2 g2)
end
theorem noLists_of : ∀ {ds : List PyData}, (∀ d ∈ ds, noList d = true) → noLists ds = true
  | [], _ => rfl
  | d :: ds, h => by
    show (noList d && noLists ds) = true
    rw [h d (List.mem_cons_self ..), noLists_of fun d' h' => h d' (List.mem_cons_of_mem _ h')] <;> rfl

def EvD (K : PySem.W.Frag) (te : TE) (σ : L2.St) (H : Hp) (d : PyData) : Prop := ∀ H1, Ex H H1 → ∀ Q : VK, (∀ v H2, Ex H1 H2 → Dd K H2 v d → Q v H2) → te σ H1 Q
def EvDs (K : PySem.W.Frag) (ta : TA) (σ : L2.St) (H : Hp) (ds : List PyData) : Prop := ∀ H1, Ex H H1 → ∀ Q : List V → Hp → Prop, (∀ vs H2, Ex H1 H2 → Dds K H2 vs ds → Q vs H2) → ta σ H1 Q
/-- a new list of these data -/
def EvDL (K : PySem.W.Frag) (te : TE) (σ : L2.St) (H : Hp) (ds : List PyData) : Prop := ∀ H1, Ex H H1 → ∀ Q : VK, (∀ p xs H2, H1 p = none → Ex H1 H2 → H2 p = some (.lst xs) → Dds K H2 xs ds → Q (.ref p) H2) → te σ H1 Q
/-- a def that answers a datum to data -/
def SpD (K : PySem.W.Frag) (sp : Sp) (ds : List PyData) (r : PyData) : Prop := ∀ vs H, Dds K H vs ds → ∀ Q : VK, (∀ v H', Ex H H' → Dd K H' v r → Q v H') → ∀ E : XK, sp vs H Q E
def spD (K : PySem.W.Frag) (ok : List PyData → Prop) (F : List PyData → PyData) : Sp := fun vs H Q _ => ∃ ds, Dds K H vs ds ∧ ok ds ∧ ∀ v H', Ex H H' → Dd K H' v (F ds) → Q v H'
theorem spD_ok {K : PySem.W.Frag} {ok : List PyData → Prop} {F : List PyData → PyData} {ds : List PyData} {r : PyData} (h : ok ds) (e : F ds = r) : SpD K (spD K ok F) ds r := fun vs H dd Q q E => ⟨ds, dd, h, by rw [e]; exact q⟩

section
variable {K : PySem.W.Frag} {H H' : Hp} {σ : L2.St} {v x y : V} {d : PyData} {ds : List PyData} {te ta tb : TE} {tas : TA} {i : Nat} {D : Ends}
theorem EvD.mono (e : Ex H H') (h : EvD K te σ H d) : EvD K te σ H' d := fun H1 a Q q => h H1 (e.trans a) Q q
theorem ed_of (h : Ev te σ H v) (g : Dd K H v d) : EvD K te σ H d := fun H1 e Q q => h H1 e Q fun H2 e2 => q v H2 e2 (Dd.ext (e.trans e2) d v g)
theorem ed_var (h : σ[i]? = some (some v)) (g : Dd K H v d) : EvD K (tVar i) σ H d := ed_of (ev_var h) g
theorem ed_str {z : Str} (h : Ev te σ H (.str z)) : EvD K te σ H (.str z) := ed_of h (.str z)
theorem ed_int {z : Int} (h : Ev te σ H (.int z)) : EvD K te σ H (.int z) := ed_of h (.int z)
theorem ed_bl {z : Bool} (h : Ev te σ H (.bl z)) : EvD K te σ H (.bool z) := ed_of h (.bl z)
theorem ed_non (h : Ev te σ H .non) : EvD K te σ H .none := ed_of h .non
theorem EvD.str {z : Str} (h : EvD K te σ H (.str z)) : Ev te σ H (.str z) := fun H1 e Q q => h H1 e Q fun v H2 e2 dd => by
  cases dd
  exact q H2 e2
theorem EvD.int {z : Int} (h : EvD K te σ H (.int z)) : Ev te σ H (.int z) := fun H1 e Q q => h H1 e Q fun v H2 e2 dd => by
  cases dd
  exact q H2 e2
theorem EvD.bl {z : Bool} (h : EvD K te σ H (.bool z)) : Ev te σ H (.bl z) := fun H1 e Q q => h H1 e Q fun v H2 e2 dd => by
  cases dd
  exact q H2 e2
theorem EvD.non (h : EvD K te σ H .none) : Ev te σ H .non := fun H1 e Q q => h H1 e Q fun v H2 e2 dd => by
  cases dd
  exact q H2 e2
theorem ed_is {d' : PyData} (h : EvD K te σ H d) (e : d = d') : EvD K te σ H d' := by
  subst e
  exact h
theorem eds_nil : EvDs K tNil σ H [] := fun H1 _ _ q => q [] H1 (Ex.refl H1) .nil
theorem eds_cons {tr : TA} (h : EvD K ta σ H d) (hr : EvDs K tr σ H ds) : EvDs K (tCons ta tr) σ H (d :: ds) := fun H1 e Q q =>
  h H1 e _ fun v H2 e2 g => hr H2 (e.trans e2) _ fun vs H3 e3 gs => q (v :: vs) H3 (e2.trans e3) (.cons (Dd.ext e3 _ _ g) gs)
theorem ed_tup (h : EvDs K tas σ H ds) (hl : ds.length ≤ 100000) : EvD K (tTup tas) σ H (.tuple ds) := fun H1 e Q q =>
  h H1 e _ fun vs H2 e2 g => ⟨sz_of (by rw [g.len]; exact hl), fun p hp => q (.ref p) _ (e2.trans (Ex.new hp)) (.tup (st_of upd_same) (Dds.ext (Ex.new hp) _ _ g))⟩
theorem ed_lst (h : EvDs K tas σ H ds) (hl : ds.length ≤ 100000) : EvD K (tLstB tas) σ H (.list ds) := fun H1 e Q q =>
  h H1 e _ fun vs H2 e2 g => ⟨sz_of (by rw [g.len]; exact hl), fun p hp hs => q (.ref p) _ (e2.trans (Ex.new hp)) (.lst (sq_of upd_same) hs (Dds.ext (Ex.new hp) _ _ g))⟩
theorem edl_lst (h : EvDs K tas σ H ds) (hl : ds.length ≤ 100000) : EvDL K (tLst tas) σ H ds := fun H1 e Q q =>
  h H1 e _ fun vs H2 e2 g => ⟨sz_of (by rw [g.len]; exact hl), fun p hp => q p vs _ (fresh_back e2 hp) (e2.trans (Ex.new hp)) upd_same (Dds.ext (Ex.new hp) _ _ g)⟩
theorem ed_call {sp : Sp} {r : PyData} {E : XK} (h : EvDs K tas σ H ds) (hs : SpD K sp ds r) : EvD K (tCall sp [] E tas) σ H r := fun H1 e Q q =>
  h H1 e _ fun vs H2 e2 g => hs (vs ++ []) H2 (by rw [List.append_nil]; exact g) Q (fun v H3 e3 g3 => q v H3 (e2.trans e3) g3) E
/-- isinstance(e, n) -/
theorem ed_isi {n : String} {b : Bool} (h : EvD K te σ H d) (e : kitB (tyD d) n = some b) : Ev (tCB (rIsi K) (tCons te (tCons (tC (.ty n)) tNil))) σ H (.bl b) := fun H1 e1 Q q =>
  h H1 e1 _ fun v H2 e2 g => ⟨v, .ty n, .type (tyD d), .type n, b, rfl, .ty n, g.ty, kit_ty e, q H2 e2⟩
/-- len(e) of a tuple or a text -/
def rLenD (K : PySem.W.Frag) : List V → Hp → VK → Prop := fun xs H Q => ∃ x n, xs = [x] ∧ LenV K x H n ∧ Q (.int n) H
theorem ed_lenT (h : EvD K te σ H (.tuple ds)) : Ev (tCB (rLenD K) (tCons te tNil)) σ H (.int (ds.length : Int)) := fun H1 e1 Q q =>
  h H1 e1 _ fun v H2 e2 g => by
    cases g with
    | tup hs ha => exact ⟨_, ds.length, rfl, .inr ⟨_, hs, ha.len.symm⟩, q H2 e2⟩
theorem ed_lenS {z : Str} (h : Ev te σ H (.str z)) (hz : z.length ≤ 100000) : Ev (tCB (rLenD K) (tCons te tNil)) σ H (.int (z.length : Int)) := fun H1 e1 Q q =>
  h H1 e1 _ fun H2 e2 => ⟨_, z.length, rfl, ⟨sz_of hz, rfl⟩, q H2 e2⟩
theorem ed_lenL {p : Addr} {xs : List V} (h : Ev te σ H (.ref p)) (hx : SqL K H p xs) : Ev (tCB (rLenD K) (tCons te tNil)) σ H (.int (xs.length : Int)) := fun H1 e1 Q q =>
  h H1 e1 _ fun H2 e2 => ⟨_, xs.length, rfl, .inl ⟨xs, ex_l (e1.trans e2) hx, rfl⟩, q H2 e2⟩
/-- e[j] of a tuple -/
theorem ed_ixT {j : Nat} (h : EvD K ta σ H (.tuple ds)) (hi : ∀ H1, Ex H H1 → Ev tb σ H1 (.int (j : Int))) (hd : ds[j]? = some d) : EvD K (tOp (rIxT K) ta tb) σ H d := fun H1 e1 Q q =>
  h H1 e1 _ fun v H2 e2 g => hi H2 (e1.trans e2) H2 (Ex.refl _) _ fun H3 e3 => by
    cases g with
    | @tup a xs _ hs ha =>
      obtain ⟨x, hx, gx⟩ := ha.at hd
      have lt : j < xs.length := (List.getElem?_eq_some_iff.mp hx).1
      exact ⟨a, xs, (j : Int), x, rfl, rfl, ex_t e3 hs, atI_nat hx, q x H3 (e2.trans e3) (Dd.ext e3 _ _ gx)⟩

/-! statements -/
theorem s_asgD (h : EvD K te σ H d) (k : ∀ v H1, Ex H H1 → Dd K H1 v d → D.nx (σ.set i (some v)) H1) : tAsg te (gName i) D σ H := h H (Ex.refl H) _ fun v H1 e g => k v H1 e g
theorem q_asgD {tz : TS} (h : EvD K te σ H d) (k : ∀ v H1, Ex H H1 → Dd K H1 v d → tz D (σ.set i (some v)) H1) : tSeq (tAsg te (gName i)) tz D σ H := s_asgD (D := { D with nx := tz D }) h k
theorem s_asgDL (h : EvDL K te σ H ds) (k : ∀ p xs H1, H p = none → Ex H H1 → H1 p = some (.lst xs) → Dds K H1 xs ds → D.nx (σ.set i (some (.ref p))) H1) : tAsg te (gName i) D σ H := h H (Ex.refl H) _ fun p xs H1 hp e h1 g => k p xs H1 hp e h1 g
theorem q_asgDL {tz : TS} (h : EvDL K te σ H ds) (k : ∀ p xs H1, H p = none → Ex H H1 → H1 p = some (.lst xs) → Dds K H1 xs ds → tz D (σ.set i (some (.ref p))) H1) : tSeq (tAsg te (gName i)) tz D σ H := s_asgDL (D := { D with nx := tz D }) h k
theorem s_retD (h : EvD K te σ H d) (k : ∀ v H1, Ex H H1 → Dd K H1 v d → D.rt v H1) : tRet te D σ H := h H (Ex.refl H) _ fun v H1 e g => k v H1 e g

/-! what is walked, by data -/
def EvIt (K : PySem.W.Frag) (wi : TI) (σ : L2.St) (H : Hp) (ds : List PyData) : Prop := ∀ H1, Ex H H1 → ∀ R : It → Hp → Prop,
  (∀ J H2, Ex H1 H2 → Walk J ds.length (fun H' => Ex H2 H') (fun i Hh x H' => H' = Hh ∧ ∃ d, ds[i]? = some d ∧ Dd K Hh x d) → R J H2) → wi σ H1 R
theorem walk_L {a : Addr} {xs : List V} (hx : SqL K H a xs) (g : Dds K H xs ds) : Walk (Itl K a) ds.length (fun H' => Ex H H') (fun i Hh x H' => H' = Hh ∧ ∃ d, ds[i]? = some d ∧ Dd K Hh x d) := by
  rw [← g.len]
  exact walk_list.mono (fun H' e => ex_l e hx) fun i Hh x H' _ e y => ⟨y.1, (Dds.ext e _ _ g).get y.2⟩
theorem walk_T {a : Addr} {xs : List V} (hx : SqT K H a xs) (g : Dds K H xs ds) : Walk (Itt K a) ds.length (fun H' => Ex H H') (fun i Hh x H' => H' = Hh ∧ ∃ d, ds[i]? = some d ∧ Dd K Hh x d) := by
  rw [← g.len]
  exact walk_tup.mono (fun H' e => ex_t e hx) fun i Hh x H' _ e y => ⟨y.1, (Dds.ext e _ _ g).get y.2⟩
def signsD (z : Str) : List PyData := z.cps.toList.map fun c => .str ⟨#[c]⟩
theorem walk_S {z : Str} : Walk (Its z) (signsD z).length (fun H' => Ex H H') (fun i Hh x H' => H' = Hh ∧ ∃ d, (signsD z)[i]? = some d ∧ Dd K Hh x d) := by
  have e : (signsD z).length = z.cps.size := by simp [signsD]
  rw [e]
  refine walk_str.mono (fun _ _ => True.intro) fun i Hh x H' _ _ y => ?_
  obtain ⟨y1, c, y2, rfl⟩ := y
  exact ⟨y1, .str ⟨#[c]⟩, by simp [signsD, y2], .str _⟩
theorem it_L {tl : TE} {a : Addr} {xs : List V} (h : Ev tl σ H (.ref a)) (hx : SqL K H a xs) (g : Dds K H xs ds) : EvIt K (iList K tl) σ H ds := fun H1 e R k =>
  h H1 e _ fun H2 e2 => ⟨a, rfl, ⟨xs, ex_l (e.trans e2) hx⟩, k _ H2 e2 (walk_L (ex_l (e.trans e2) hx) (Dds.ext (e.trans e2) _ _ g))⟩
theorem it_NL {tl : TE} (h : EvDL K tl σ H ds) : EvIt K (iList K tl) σ H ds := fun H1 e R k =>
  h H1 e _ fun p xs H2 hp e2 hx g => ⟨p, rfl, ⟨xs, sq_of hx⟩, k _ H2 e2 (walk_L (sq_of hx) g)⟩
theorem it_T {tl : TE} (h : EvD K tl σ H (.tuple ds)) : EvIt K (iTup K tl) σ H ds := fun H1 e R k =>
  h H1 e _ fun v H2 e2 g => by
    cases g with
    | @tup a xs _ hs ha => exact ⟨a, rfl, ⟨xs, hs⟩, k _ H2 e2 (walk_T hs ha)⟩
theorem it_S {tl : TE} {z : Str} (h : Ev tl σ H (.str z)) : EvIt K (iStr tl) σ H (signsD z) := fun H1 e R k => h H1 e _ fun H2 e2 => ⟨z, rfl, k _ H2 e2 walk_S⟩
theorem take_yes {p : PyData → Bool} {f : PyData → PyData} {i : Nat} (e : ds[i]? = some d) (h : p d = true) : ((ds.take (i + 1)).filter p).map f = ((ds.take i).filter p).map f ++ [f d] := by
  rw [List.take_add_one, e]
  simp [h]
theorem take_no {p : PyData → Bool} {f : PyData → PyData} {i : Nat} (e : ds[i]? = some d) (h : p d = false) : ((ds.take (i + 1)).filter p).map f = ((ds.take i).filter p).map f := by
  rw [List.take_add_one, e]
  simp [h]
/-- [f for x in .. if p] -/
theorem edl_lc {wi : TI} {tt : TT} {j : Nat} {vs : List Nat} (p : PyData → Bool) (f : PyData → PyData) (h : EvIt K wi σ H ds) (hz : ds.length ≤ 40000) (nl : ∀ d, d ∈ ds → p d = true → noList (f d) = true) (hw : ∀ x, wipe ((wipe σ vs).set j (some x)) vs = wipe σ vs)
    (ht : ∀ x d H1, Ex H H1 → d ∈ ds → Dd K H1 x d → EvT tt ((wipe σ vs).set j (some x)) H1 (p d)) (he : ∀ x d H1, Ex H H1 → d ∈ ds → Dd K H1 x d → p d = true → EvD K te ((wipe σ vs).set j (some x)) H1 (f d)) :
    EvDL K (tLc wi (gName j) tt te vs) σ H ((ds.filter p).map f) := fun H0 e Q q => h H0 e _ fun J H1 e1 w Dl hD =>
  lc_it w (fun i H' => Ex (upd H1 Dl (.lst [])) (upd H' Dl (.lst [])) ∧ ∃ acc, H' Dl = some (.lst acc) ∧ Dds K H' acc (((ds.take i).filter p).map f)) ⟨fun a o h => by rw [upd_upd]; exact h, [], upd_same, by simp; exact .nil⟩
    (fun i H' _ p' a o ha => by
      have n : a ≠ Dl := ne_of_none ha hD
      have q1 := p'.1 a o (by rw [upd_ne n]; exact ha)
      rw [upd_ne n] at q1
      exact q1)
    (fun i x H' H2 hi pv y => by
      obtain ⟨rfl, d, hd, g⟩ := y
      obtain ⟨p1, acc, p2, p3⟩ := pv
      have ex : Ex H1 H2 := fun a o ha => by
        have n : a ≠ Dl := ne_of_none ha hD
        have q1 := p1 a o (by rw [upd_ne n]; exact ha)
        rw [upd_ne n] at q1
        exact q1
      have hm : d ∈ ds := List.mem_of_getElem? hd
      have la : acc.length ≤ i := by
        rw [p3.len, List.length_map]
        refine Nat.le_trans (List.length_filter_le _ _) ?_
        rw [List.length_take]
        omega
      have exE : Ex H H2 := (e.trans e1).trans ex
      refine ⟨hw x, ht x d H2 exE hm g H2 (Ex.refl _) _ fun H3 e3 => ?_⟩
      have step : ∀ {H4 : Hp}, Ex H2 H4 → Ex (upd H1 Dl (.lst [])) (upd H4 Dl (.lst [])) := fun {H4} e4 a o ha => by
        by_cases n : a = Dl
        · subst n
          rw [upd_same] at ha ⊢
          exact ha
        · rw [upd_ne n] at ha ⊢
          exact e4 a o (ex a o ha)
      cases hp : p d with
      | true =>
        refine he x d H3 (exE.trans e3) hm (Dd.ext e3 _ _ g) hp H3 (Ex.refl _) _ fun u H4 e4 gu => ⟨acc, e4 _ _ (e3 _ _ p2), sz_lt (by omega), ?_, acc ++ [u], upd_same, ?_⟩
        · rw [upd_upd]
          exact step (e3.trans e4)
        · rw [take_yes hd hp]
          have nl1 : noLists (((ds.take i).filter p).map f) = true := noLists_of fun d' h' => by
            rw [List.mem_map] at h'
            obtain ⟨d0, h0, rfl⟩ := h'
            rw [List.mem_filter] at h0
            exact nl d0 (List.mem_of_mem_take h0.1) h0.2
          have p2' := e4 _ _ (e3 _ _ p2)
          exact Dds.app (Dds.upd p2' _ _ nl1 (Dds.ext (e3.trans e4) _ _ p3)) (.cons (Dd.upd p2' _ _ (nl d hm hp) gu) .nil)
      | false =>
        refine ⟨step e3, acc, e3 _ _ p2, ?_⟩
        rw [take_no hd hp]
        exact Dds.ext e3 _ _ p3)
    (fun H' pv => by
      obtain ⟨p1, acc, p2, p3⟩ := pv
      rw [List.take_length] at p3
      refine q Dl acc H' (fresh_back e1 hD) (e1.trans fun a o ha => ?_) p2 p3
      have n : a ≠ Dl := ne_of_none ha hD
      have q1 := p1 a o (by rw [upd_ne n]; exact ha)
      rw [upd_ne n] at q1
      exact q1)
end
end My
set_option maxHeartbeats 4000000
/-! the end of a law whose defs make lambdas: the tables of their code objects are tracked from the start, no guarded builtin runs -/
namespace My
open PySem PySem.Spec PyProof.Rows L2

/-- the script and the empty tables, nothing else -/
def scriptTabs (K : PySem.W.Frag) (ts : List Addr) (a : Addr) (o : Obj) (xs : List V) : Hp := fun b => if b ∈ ts then some (.tbl #[]) else onlyScript K a o xs b

theorem lawCallT {P : Program} {w : World} {K : PySem.W.Frag} {mg mb : Str → Option Value} {k : Nat} {fa a : Addr} {cs : List (Addr × Addr)} {fd : FuncData} {x : Str} {sp : Sp}
    {s₁ : Shared} {vs : List Value} {ns : List Int}
    (inK : K.In s₁.heap) (glob : s₁.heap.Ns mainGlobals mg) (blt : s₁.heap.Ns builtinsNs mb) (bltIs : ∀ x : Str, x ≠ "__name__" → mb x = bootBuiltins x)
    (free : s₁.heap.NoLimit) (gens : s₁.gens = #[])
    (tabs : ∀ p ∈ cs, s₁.heap.get? p.2 = some { cls := .none, data := .fields #[] }) (out : ∀ p ∈ cs, K.lookup p.2 = none) (code : ∀ p ∈ cs, PySem.W.CodeHd s₁.heap p.1 p.2)
    (modB : ∃ (bm : Addr) (ob : Obj), mg "__builtins__" = some (.ref bm) ∧ bm ≠ builtinsNs ∧ s₁.heap.get? bm = some ob ∧ ob.cls = .type "module" ∧ ob.dict = some builtinsNs ∧ ob.data = .plain)
    (ha : s₁.heap.get? a = some { cls := .type "list", data := .seq vs.toArray }) (areInts : IntsAre vs ns)
    (len : ns.length ≤ sizeLine) (room : Room k callerA)
    (F : ∀ base : Heap, K.In base → base.Ns mainGlobals mg → (∀ p ∈ cs, LamX.TabB base mg p.1 p.2) → FnG P w K mg base CX0 k fa fd [x] sp)
    (binds : ∀ (s : Shared) (u : Value), BindsTo s fd ⟨[u], []⟩ [(x, u)])
    (promise : ∀ H : Hp, (∀ p ∈ cs, H p.2 = some (.tbl #[])) → SqL K H a (ns.map V.int) → sp [.ref a] H (fun v _ => v = .bl true) fun _ _ _ => False) :
    codeAny (model P w) callerA (.call (.ref fa) ⟨[.ref a], []⟩)
      (fun r s' => r = .ok (.ret (.bool true)) ∧ OldK s₁.heap s'.heap ∧ s'.os = s₁.os ∧ AllBare s'.gens) s₁ := by
  have rv := vals_ints areInts
  have lenV := areInts.length
  let ts := cs.map (·.2)
  let ob : Obj := { cls := .type "list", data := .seq vs.toArray }
  let H := scriptTabs K ts a ob (ns.map V.int)
  have isTab : ∀ {b : Addr}, b ∈ ts → s₁.heap.get? b = some { cls := .none, data := .fields #[] } := fun {b} hb => by
    obtain ⟨p, hp, rfl⟩ := List.mem_map.mp hb
    exact tabs p hp
  have aOut : a ∉ ts := fun z => by
    have q := isTab z
    rw [ha] at q
    have q2 := congrArg Obj.data (Option.some.inj q)
    cases q2
  have Htab : ∀ {b : Addr}, b ∈ ts → H b = some (.tbl #[]) := fun hb => if_pos hb
  have Hrest : ∀ {b : Addr}, b ∉ ts → H b = onlyScript K a ob (ns.map V.int) b := fun hb => if_neg hb
  have hok : HOk P w H s₁.heap := fun b u e => by
    by_cases hb : b ∈ ts
    · rw [Htab hb] at e
      cases e
      exact isTab hb
    · rw [Hrest hb] at e
      obtain ⟨rfl, _, rfl⟩ := onlyScript_at e
      exact ⟨ha, by rw [List.length_map]; exact len, vs, _, rv, ha⟩
  have hS : SqL K H a (ns.map V.int) := by
    cases e : K.lookup a with
    | none => exact Or.inl (Or.inr ⟨ob, (Hrest aOut).trans (if_pos ⟨rfl, by rw [e]; rfl⟩)⟩)
    | some o =>
      have q := inK a o e
      rw [ha] at q
      cases q
      exact Or.inr ⟨_, vs.toArray, _, e, rfl, rfl, rfl, by rw [List.size_toArray, lenV]; exact len, by simpa using rv⟩
  have freeAt : ∀ {b : Addr}, (b = a → False) → b ∉ ts → H b = none := fun {b} n1 n2 => by
    rw [Hrest n2]
    cases e : onlyScript K a ob (ns.map V.int) b with
    | none => rfl
    | some u => exact (n1 (onlyScript_at e).1).elim
  have under : ∀ {b : Addr} {o : Obj}, s₁.heap.get? b = some o → H b = none → (hidT s₁.heap H).get? b = some o := fun e n => hidT_get e n
  -- an object that is neither a row of values nor an empty record is not tracked
  have other : ∀ {b : Addr} {o : Obj}, s₁.heap.get? b = some o → (∀ its n, o.data ≠ .seq its n) → o.data ≠ .fields #[] → (hidT s₁.heap H).get? b = some o := fun {b o} e n1 n2 => by
    refine under e (freeAt ?_ fun z => ?_)
    · rintro rfl
      rw [ha] at e
      cases e
      exact n1 _ _ rfl
    · rw [isTab z] at e
      cases e
      exact n2 rfl
  have maps : ∀ {b : Addr} {m : Str → Option Value}, s₁.heap.Ns b m → (hidT s₁.heap H).Ns b m := by
    rintro b m ⟨o, es, ep, e, d, r⟩
    exact ⟨o, es, ep, other e (fun _ _ z => by rw [d] at z; cases z) (fun z => by rw [d] at z; cases z), d, r⟩
  have inBase : K.In (hidT s₁.heap H) := fun b o e => under (inK b o e) (by
    by_cases hb : b ∈ ts
    · obtain ⟨p, hp, rfl⟩ := List.mem_map.mp hb
      rw [out p hp] at e
      cases e
    · rw [Hrest hb]
      cases q : onlyScript K a ob (ns.map V.int) b with
      | none => rfl
      | some u =>
        obtain ⟨rfl, z, _⟩ := onlyScript_at q
        rw [z] at e
        cases e)
  have md : Mod K mg (hidT s₁.heap H) := by
    obtain ⟨mc, q1, q2⟩ := free
    exact ⟨inBase, maps glob, ⟨mb, maps blt, bltIs⟩, ⟨mc, maps q1, q2⟩⟩
  have TB : ∀ p ∈ cs, LamX.TabB (hidT s₁.heap H) mg p.1 p.2 := fun p hp => by
    refine ⟨?_, ?_, ?_⟩
    · obtain ⟨o, us, file, tf, flags, tg, inF, text, tt, e1, r1, r2, rest⟩ := code p hp
      refine ⟨o, us, file, tf, flags, tg, inF, text, tt, other e1 (fun _ _ z => by rw [r2] at z; cases z) (fun z => ?_), r1, r2, rest⟩
      have z2 := r2.symm.trans z
      have us0 : us = #[] := by injection z2
      have h3 := rest.1
      rw [us0] at h3
      simp at h3
    · obtain ⟨bm, obm, b1, b2, b3, b4, b5, b6⟩ := modB
      refine ⟨bm, obm, b1, b2, ?_, ?_, other b3 (fun _ _ z => by rw [b6] at z; cases z) (fun z => by rw [b6] at z; cases z), b4, b5, b6⟩
      · rintro rfl
        obtain ⟨o, es, ep, e, d, _⟩ := glob
        rw [e] at b3
        cases b3
        rw [d] at b6
        cases b6
      · rintro rfl
        rw [tabs p hp] at b3
        cases b3
        cases b6
    · intro z
      obtain ⟨o, es, ep, e, d, _⟩ := glob
      rw [z, tabs p hp] at e
      cases e
      cases d
  have nil : ∀ b : Addr, b ∈ frs [] → False := fun b z => by
    have z' : b ∈ ([] : List Addr) := z
    cases z'
  have e0 : Env0 P w K mg (hidT s₁.heap H) callerA [] s₁ H :=
    ⟨rfl, md, fun b o e => of_hidT e, Nat.le_of_eq (hidT_size _ _), trivial, fun b hb => (nil b hb).elim, hok, .of_eq gens⟩
  have run := (F _ inBase (maps glob) TB).run callerA [] s₁ H ⟨[.ref a], []⟩ [.ref a] [.ref a] _ _ rfl room e0 (binds s₁ (.ref a)) (.cons rfl .nil)
    (promise H (fun p hp => Htab (List.mem_map_of_mem hp)) hS)
  refine codeAny_mono run fun r s' h => ?_
  match r, h with
  | .error e, h => exact False.elim h
  | .ok (.ret u), h =>
    obtain ⟨v, H', os, bare, un, hok', r', q⟩ := h
    obtain rfl : v = .bl true := q
    obtain rfl : u = Value.bool true := r'
    have same : ∀ b o, b ∉ ts → s₁.heap.get? b = some o → s'.heap.get? b = some o := fun b o nb e => by
      cases q : H b with
      | none => exact un.keep b o e q (fun z => nil b z) (by simp)
      | some u =>
        have q1 := q
        rw [Hrest nb] at q1
        obtain ⟨rfl, _, rfl⟩ := onlyScript_at q1
        have q2 := un.frzs _ _ _ q
        obtain ⟨e2, _⟩ := hok' _ _ q2
        rw [ha] at e
        cases e
        exact e2
    have bigger : ∀ p ∈ cs, ∃ more : Array Value, s'.heap.get? p.2 = some { cls := .none, data := .fields more } := fun p hp => by
      obtain ⟨more, z⟩ := un.tbls p.2 #[] (Htab (List.mem_map_of_mem hp))
      exact ⟨_, hok' p.2 _ z⟩
    refine ⟨rfl, ⟨fun b o e => ?_, fun b o e => ?_⟩, os, bare⟩
    · by_cases hb : b ∈ ts
      · obtain ⟨p, hp, rfl⟩ := List.mem_map.mp hb
        obtain ⟨more, hm⟩ := bigger p hp
        rw [tabs p hp] at e
        cases e
        refine .inr (.inl ⟨((code p hp).tab (tabs p hp)).isCodeTable, rfl, #[], more, rfl, ?_⟩)
        rw [Array.empty_append]
        exact hm
      · exact .inl (same b o hb e)
    · by_cases hb : b ∈ ts
      · obtain ⟨p, hp, rfl⟩ := List.mem_map.mp hb
        obtain ⟨more, hm⟩ := bigger p hp
        exact ⟨_, hm⟩
      · exact ⟨o, same b o hb e⟩
  | .ok .next, h => exact False.elim h
  | .ok .brk, h => exact False.elim h
  | .ok .cont, h => exact False.elim h

/-- what the head leaves to the law's promise, with tables -/
theorem walkGT {l : PySem.W.OpenLaw} {n k : Nat} {q : Program} {loose : List Str} {XP : (Str → Option Value) → Heap → Prop} {YP : World → Heap → Prop}
    {d : DefRec} {K : Params → PySem.W.Frag} {sp : World → Sp} {x : Str}
    (most : l.most = some n) (small : n ≤ sizeLine) (hdf : d.params.defaults = []) (room : Room k callerA)
    (hY : ∀ (w : World) (h : Heap), YP w h → (K w.params).In h)
    (F : ∀ (w : World) (mg : Str → Option Value) (fa : Addr) (h : Heap), YP w h → (K w.params).In h → h.Ns mainGlobals mg → mg d.name = some (.ref fa) →
      ∃ (fd : FuncData) (cs : List (Addr × Addr)), (∀ p ∈ cs, h.get? p.2 = some { cls := .none, data := .fields #[] }) ∧ (∀ p ∈ cs, (K w.params).lookup p.2 = none) ∧ (∀ p ∈ cs, PySem.W.CodeHd h p.1 p.2) ∧
        (∀ (s : Shared) (u : Value), BindsTo s fd ⟨[u], []⟩ [(x, u)]) ∧
        (∀ (H : Hp) (a : Addr) (ns : List Int), ns.length ≤ n → (∀ p ∈ cs, H p.2 = some (.tbl #[])) → SqL (K w.params) H a (ns.map V.int) → sp w [.ref a] H (fun v _ => v = .bl true) fun _ _ _ => False) ∧
        ∀ base : Heap, (K w.params).In base → base.Ns mainGlobals mg → (∀ p ∈ cs, LamX.TabB base mg p.1 p.2) → FnG l.prog w (K w.params) mg base CX0 k fa fd [x] (sp w)) :
    PySem.W.WalkO q loose XP YP l.row.toRowW d [] (fun f vs => PySem.call f vs) := by
  refine Att.attach_callB most hdf fun w s₀ s₁ mg mb fa o pm cd doc a vs ns G Y ho hd hcd hmg hobj hints hlen hbits hg => ?_
  have inK := hY w _ Y
  obtain ⟨fd, cs, tabs, out, code, binds, promise, hF⟩ := F w mg fa _ Y inK G.T.g hmg
  exact lawCallT inK G.T.g G.T.b G.T.builtins G.T.nolimit hg tabs out code G.T.bmain hobj hints (Nat.le_trans hlen small) room hF binds
    fun H hH hS => promise H a ns hlen hH hS
end My
set_option maxHeartbeats 4000000
namespace K03
open PySem L2 Evl My
def top (i : Nat) : Stmt := PySem.Challenge.pw_maskededits_k03_marks_and_names.main.body.getD i (.Pass ⟨0, 0, 0, 0⟩)
abbrev sWord : Stmt := top 6
abbrev sInteger : Stmt := top 11
abbrev sSource : Stmt := top 12
abbrev sMark : Stmt := top 13
abbrev sName : Stmt := top 14

/-! ### what is a word, a mark, a name: of data -/
def LET : Str := "abcdefghijklmnopqrstuvwxyz"
def DIG : Str := "0123456789"
def isStr : PyData → Bool
  | .str _ => true
  | _ => false
def isTup : PyData → Bool
  | .tuple _ => true
  | _ => false
def lenOk : PyData → Bool
  | .str s => decide (1 ≤ s.length) && decide (s.length ≤ 8)
  | _ => false
def signIn (z : Str) : PyData → Bool
  | .str s => match s.cps.toList with
    | [c] => decide (c ∈ z.cps.toList)
    | _ => false
  | _ => false
def allIn (z : Str) : PyData → Bool
  | .str s => s.cps.toList.all fun c => decide (c ∈ z.cps.toList)
  | _ => false
def wordD (d : PyData) : Bool := isStr d && lenOk d && allIn LET d
def emptyD : PyData → Bool
  | .str s => decide (s = "")
  | _ => false
def srcD (d : PyData) : Bool := isStr d && (emptyD d || wordD d)
def intD : PyData → Bool
  | .int _ => true
  | _ => false
def rangeD : PyData → Bool
  | .int i => decide (1 ≤ i) && decide (i ≤ 1000000000000000000)
  | _ => false
def markD : PyData → Bool
  | .tuple [a, b, c] => wordD a && srcD b && rangeD c
  | _ => false
def nameD : PyData → Bool
  | .tuple ds => ds.all markD
  | _ => false
def okS (s : Str) : Bool := decide (s.length ≤ 10000) && PyData.strOk s
mutual
/-- texts and rows of a size that can be handled -/
def small : PyData → Bool
  | .none => true
  | .bool _ => true
  | .int _ => true
  | .str s => okS s
  | .tuple ds => decide (ds.length ≤ 1000) && smalls ds
  | .list ds => decide (ds.length ≤ 1000) && smalls ds
  | .dict _ => true
def smalls : List PyData → Bool
  | [] => true
  | d :: ds => small d && smalls ds
end
theorem smalls_of : ∀ {ds : List PyData} {d : PyData}, smalls ds = true → d ∈ ds → small d = true
  | e :: ds, d, h, m => by
    have h2 : (small e && smalls ds) = true := h
    rw [Bool.and_eq_true] at h2
    rcases List.mem_cons.mp m with z | z
    · rw [z]
      exact h2.1
    · exact smalls_of h2.2 z
theorem small_tup {ds : List PyData} (h : small (.tuple ds) = true) : ds.length ≤ 1000 ∧ ∀ d ∈ ds, small d = true := by
  have h2 : (decide (ds.length ≤ 1000) && smalls ds) = true := h
  rw [Bool.and_eq_true, decide_eq_true_eq] at h2
  exact ⟨h2.1, fun d m => smalls_of h2.2 m⟩
theorem okS_len {s : Str} (h : okS s = true) : s.length ≤ 10000 := of_decide_eq_true (Bool.and_eq_true_iff.mp h).1
theorem okS_ok {s : Str} (h : okS s = true) : PyData.strOk s = true := (Bool.and_eq_true_iff.mp h).2
theorem small_str {s : Str} (h : small (.str s) = true) : s.length ≤ 10000 := okS_len h
theorem isStr_kit (d : PyData) : kitB (tyD d) "str" = some (isStr d) := match d with
  | .none => (by decide +kernel : kitB "NoneType" "str" = some false)
  | .bool b => (by decide +kernel : kitB "bool" "str" = some false)
  | .int i => (by decide +kernel : kitB "int" "str" = some false)
  | .str s => (by decide +kernel : kitB "str" "str" = some true)
  | .list s => (by decide +kernel : kitB "list" "str" = some false)
  | .tuple s => (by decide +kernel : kitB "tuple" "str" = some false)
  | .dict s => (by decide +kernel : kitB "dict" "str" = some false)
theorem isTup_kit (d : PyData) : kitB (tyD d) "tuple" = some (isTup d) := match d with
  | .none => (by decide +kernel : kitB "NoneType" "tuple" = some false)
  | .bool b => (by decide +kernel : kitB "bool" "tuple" = some false)
  | .int i => (by decide +kernel : kitB "int" "tuple" = some false)
  | .str s => (by decide +kernel : kitB "str" "tuple" = some false)
  | .list s => (by decide +kernel : kitB "list" "tuple" = some false)
  | .tuple s => (by decide +kernel : kitB "tuple" "tuple" = some true)
  | .dict s => (by decide +kernel : kitB "dict" "tuple" = some false)
def isInt : PyData → Bool
  | .int _ => true
  | .bool _ => true
  | _ => false
def isBool : PyData → Bool
  | .bool _ => true
  | _ => false
theorem isInt_kit (d : PyData) : kitB (tyD d) "int" = some (isInt d) := match d with
  | .none => (by decide +kernel : kitB "NoneType" "int" = some false)
  | .bool b => (by decide +kernel : kitB "bool" "int" = some true)
  | .int i => (by decide +kernel : kitB "int" "int" = some true)
  | .str s => (by decide +kernel : kitB "str" "int" = some false)
  | .list s => (by decide +kernel : kitB "list" "int" = some false)
  | .tuple s => (by decide +kernel : kitB "tuple" "int" = some false)
  | .dict s => (by decide +kernel : kitB "dict" "int" = some false)
theorem isBool_kit (d : PyData) : kitB (tyD d) "bool" = some (isBool d) := match d with
  | .none => (by decide +kernel : kitB "NoneType" "bool" = some false)
  | .bool b => (by decide +kernel : kitB "bool" "bool" = some true)
  | .int i => (by decide +kernel : kitB "int" "bool" = some false)
  | .str s => (by decide +kernel : kitB "str" "bool" = some false)
  | .list s => (by decide +kernel : kitB "list" "bool" = some false)
  | .tuple s => (by decide +kernel : kitB "tuple" "bool" = some false)
  | .dict s => (by decide +kernel : kitB "dict" "bool" = some false)
theorem notF {b : Bool} (h : (!b) = false) : b = true := by
  cases b
  · cases h
  · rfl
theorem isStr_is {d : PyData} (h : isStr d = true) : ∃ s, d = .str s := by
  cases d <;> first | exact ⟨_, rfl⟩ | cases h
theorem isTup_is {d : PyData} (h : isTup d = true) : ∃ s, d = .tuple s := by
  cases d <;> first | exact ⟨_, rfl⟩ | cases h
theorem all_signs (z s : Str) : ((signsD s).map (signIn z)).all id = allIn z (.str s) := by
  unfold signsD
  rw [List.map_map, List.all_map]
  rfl

structure Txt (mg : Str → Option Value) : Prop where
  len : mg "len" = none
  all : mg "all" = none
  isn : mg "isinstance" = none
  str : mg "str" = none
  int : mg "int" = none
  bool : mg "bool" = none
  tuple : mg "tuple" = none
  letters : ∃ u, mg "LETTERS" = some u ∧ RelV (.str LET) u
  longest : ∃ u, mg "LONGEST_WORD" = some u ∧ RelV (.int 8) u
  digits : ∃ u, mg "DIGITS" = some u ∧ RelV (.str DIG) u
  greatest : ∃ u, mg "GREATEST_NUMBER" = some u ∧ RelV (.int 1000000000000000000) u
  most : ∃ u, mg "MOST_DIGITS" = some u ∧ RelV (.int 19) u

section
variable {K : PySem.W.Frag} {σ : L2.St} {H : Hp} {ta tb tc te : TE}
theorem et_chain {i j k : Int} (ha : Ev ta σ H (.int i)) (hb : Ev tb σ H (.int j)) (hc : Ev tc σ H (.int k)) :
    EvT (tTest (tChain (rI0 fun i j => .bl (decide (i ≤ j))) (rI0 fun i j => .bl (decide (i ≤ j))) ta tb tc)) σ H (decide (i ≤ j) && decide (j ≤ k)) := fun H1 e Q q =>
  ha H1 e _ fun H2 e2 => hb H2 (e.trans e2) _ fun H3 e3 => ⟨i, j, rfl, rfl, decide (i ≤ j), rfl, by
    cases h : decide (i ≤ j) with
    | true => exact hc H3 ((e.trans e2).trans e3) _ fun H4 e4 => ⟨j, k, rfl, rfl, decide (j ≤ k), rfl, by
        have z := q H4 ((e2.trans e3).trans e4)
        rw [h] at z
        exact z⟩
    | false => exact ⟨false, rfl, by
        have z := q H3 (e2.trans e3)
        rw [h] at z
        exact z⟩⟩
theorem ev_chain {i j k : Int} (ha : Ev ta σ H (.int i)) (hb : Ev tb σ H (.int j)) (hc : Ev tc σ H (.int k)) :
    Ev (tChain (rI0 fun i j => .bl (decide (i ≤ j))) (rI0 fun i j => .bl (decide (i ≤ j))) ta tb tc) σ H (.bl (decide (i ≤ j) && decide (j ≤ k))) := fun H1 e Q q =>
  ha H1 e _ fun H2 e2 => hb H2 (e.trans e2) _ fun H3 e3 => ⟨i, j, rfl, rfl, decide (i ≤ j), rfl, by
    cases h : decide (i ≤ j) with
    | true => exact hc H3 ((e.trans e2).trans e3) _ fun H4 e4 => ⟨j, k, rfl, rfl, by
        have z := q H4 ((e2.trans e3).trans e4)
        rw [h] at z
        exact z⟩
    | false =>
        have z := q H3 (e2.trans e3)
        rw [h] at z
        exact z⟩
theorem ed_all {bs : List Bool} (h : EvDL K te σ H (bs.map PyData.bool)) : Ev (tCB (rAll K) (tCons te tNil)) σ H (.bl (bs.all id)) := fun H1 e Q q =>
  h H1 e _ fun p xs H2 _ e2 hx g => ⟨p, bs, rfl, by rw [← g.bls]; exact sq_of hx, q H2 e2⟩
theorem et_yes : EvT tYes σ H true := fun H1 _ _ q => q H1 (Ex.refl H1)
theorem ev_inS {c : Nat} {z : Str} (ha : Ev ta σ H (.str ⟨#[c]⟩)) (hb : Ev tb σ H (.str z)) : Ev (tOp rInS ta tb) σ H (.bl (decide (c ∈ z.cps.toList))) :=
  ev_op ha hb (rv_val fun H1 _ Q q => ⟨c, z, rfl, rfl, q⟩)
/-- [sign in z for sign in text] -/
theorem edl_signs {tl : TE} {s z : Str} {j : Nat} {vs : List Nat} {tz : TE} (h : Ev tl σ H (.str s)) (hs : s.length ≤ 10000) (hw : ∀ x, wipe ((wipe σ vs).set j (some x)) vs = wipe σ vs)
    (hj : ∀ x, ((wipe σ vs).set j (some x))[j]? = some (some x)) (hz : ∀ x H1, Ev tz ((wipe σ vs).set j (some x)) H1 (.str z)) :
    EvDL K (tLc (iStr tl) (gName j) tYes (tOp rInS (tVar j) tz) vs) σ H (((signsD s).map (signIn z)).map PyData.bool) := by
  have len : (signsD s).length ≤ 40000 := by
    have e : (signsD s).length = s.length := by simp [signsD, Str.length]
    omega
  have r := edl_lc (K := K) (tt := tYes) (te := tOp rInS (tVar j) tz) (fun _ => true) (fun d => .bool (signIn z d)) (it_S h) len (fun _ _ _ => rfl) hw (fun _ _ _ _ _ _ => et_yes) (fun x d H1 _ hm g _ => by
    unfold signsD at hm
    rw [List.mem_map] at hm
    obtain ⟨c, _, rfl⟩ := hm
    cases g
    exact ed_bl (ev_inS (ev_var (hj _)) (hz _ _)))
  rw [List.filter_eq_self.mpr (fun _ _ => rfl)] at r
  rw [List.map_map]
  exact r
end

section
variable {P : Program} {w : World} {K : PySem.W.Frag} {mg : Str → Option Value} {base : Heap} {f : Addr} {fd : FuncData}
theorem scWord : FnScope ["thing", "sign"] ["thing"] (defScope sWord) := ⟨rfl, rfl, rfl, by decide +kernel, rfl, by decide +kernel, by decide +kernel⟩
theorem ok_word (F : Fun K "is_word" "is_word" sWord f fd) (T : Txt mg) : FnOk P w K mg base CX0 1 f fd ["thing"] (spD K (fun ds => ∃ d, ds = [d] ∧ small d = true) fun ds => .bool (wordD (ds.headD .none))) := by
  refine F.ok scWord (fun vs H Q E h => ?_) (fun cdv A outer s H vs Q E hr h => ?_)
  · obtain ⟨_, g, ⟨d, rfl, _⟩, _⟩ := h
    exact g.len
  · obtain ⟨_, g, ⟨d, rfl, hd⟩, kQ⟩ := h
    cases g with
    | @cons v _ _ _ g1 g2 =>
    cases g2
    refine ⟨_, pss_cons (ps_if (PW.pt (pw_or (pt_not (pt_val (pe_callB call_isi (by rfl) T.isn (by decide +kernel) (pa_cons (pv 0) (pa_cons (pe_bltn (v := .ty "str") (by rfl) T.str (by decide +kernel) rfl) pa_nil)))))
        (pw_or1 (pt_not (pt_chain op_le op_le pe_int (pe_callB call_len (by rfl) T.len (by decide +kernel) (pa_cons (pv 0) pa_nil)) (C8.pe_gc (v := .int 8) rfl T.longest)))))) (pss_one (ps_ret pe_bl)) pss_nil)
      (pss_one (ps_ret (pe_callB (cr_all rfl) (by rfl) T.all (by decide +kernel) (pa_cons
        (pe_lc (own := [("sign", 1)]) (g := gName 1) (tt := tYes) (te := tOp rInS (tVar 1) (tC (.str LET))) rfl scWord.nd (pi_str (pv 0)) (blkOk_by (own := [("sign", 1)]) (N := ["thing", "sign"]) (sc := defScope sWord) (by decide +kernel))
          (fun _ _ _ _ _ => pg_name (i := 1) scWord.nd rfl (Or.inl rfl)) (fun _ _ _ _ _ => pts_nil) (fun _ _ _ _ _ => pe_cmpR op_inS (pv 1) (C8.pe_gc (v := .str LET) rfl T.letters) rfl)) pa_nil)))), ?_⟩
    have c1 : ∀ (H1 : Hp), Ex H H1 → EvT (tNot (tB (tCB (rIsi K) (tCons (tVar 0) (tCons (tC (.ty "str")) tNil))))) (start ["thing", "sign"] [v]) H1 (!isStr d) := fun H1 e => et_not (et_B (ed_isi (ed_var rfl (Dd.ext e _ _ g1)) (isStr_kit d)))
    refine q_when (b := !isStr d || !lenOk d) (et_or (c1 H (Ex.refl H)) fun hz => ?_) (fun hb H1 e1 => ?_) (fun hb H1 e1 => ?_)
    · obtain ⟨s, rfl⟩ := isStr_is (notF hz)
      cases g1
      refine et_not (et_is (et_chain ev_c (ed_lenS (K := K) (ev_var rfl) (Nat.le_trans (small_str hd) (by decide))) ev_c) ?_)
      show (decide ((1 : Int) ≤ (s.length : Int)) && decide ((s.length : Int) ≤ 8)) = (decide (1 ≤ s.length) && decide (s.length ≤ 8))
      congr 1 <;> exact decide_eq_decide.mpr (by omega)
    · refine s_retD (ed_bl ev_c) fun u H2 e2 gu => kQ u H2 (e1.trans e2) (by
        have z : wordD d = false := by
          unfold wordD
          cases h1 : isStr d <;> cases h2 : lenOk d <;> rw [h1, h2] at hb <;> first | rfl | cases hb
        show Dd K H2 u (.bool (wordD d))
        rw [z]
        exact gu)
    · have z1 : isStr d = true := by
        cases h1 : isStr d
        · rw [h1] at hb
          cases hb
        · rfl
      have z2 : lenOk d = true := by
        cases h1 : lenOk d
        · rw [z1, h1] at hb
          cases hb
        · rfl
      obtain ⟨s, rfl⟩ := isStr_is z1
      cases g1
      refine s_retD (ed_bl (ed_all (edl_signs (s := s) (z := LET) (ev_var rfl) (small_str hd) (fun _ => rfl) (fun _ => rfl) (fun _ _ => ev_c)))) fun u H2 e2 gu => kQ u H2 (e1.trans e2) (by
        show Dd K H2 u (.bool (wordD (.str s)))
        unfold wordD
        rw [z1, z2, ← all_signs]
        exact gu)
end
end K03
set_option maxHeartbeats 4000000
namespace K03
open PySem L2 Evl My
def ok1 : List PyData → Prop := fun ds => ∃ d, ds = [d] ∧ small d = true
/-- a def that answers a Bool to a datum -/
def spB (K : PySem.W.Frag) (F : PyData → Bool) : Sp := spD K ok1 fun ds => .bool (F (ds.headD .none))
theorem spB_ok {K : PySem.W.Frag} {F : PyData → Bool} {d : PyData} {b : Bool} (h : small d = true) (e : F d = b) : SpD K (spB K F) [d] (.bool b) := spD_ok ⟨d, rfl, h⟩ (by rw [← e]; rfl)
section
variable {K : PySem.W.Frag} {σ : L2.St} {H : Hp} {te ta tb : TE} {d : PyData}
theorem ev_spB {F : PyData → Bool} {E : XK} (h : EvD K te σ H d) (hd : small d = true) : Ev (tCall (spB K F) [] E (tCons te tNil)) σ H (.bl (F d)) := (ed_call (eds_cons h eds_nil) (spB_ok hd rfl)).bl
/-- a tuple of three, put into three names -/
theorem q_asgT3 {tz : TS} {D : Ends} {i j k : Nat} {a b c : PyData} (h : EvD K te σ H (.tuple [a, b, c])) (kk : ∀ u v w H1, Ex H H1 → Dd K H1 u a → Dd K H1 v b → Dd K H1 w c → tz D (((σ.set i (some u)).set j (some v)).set k (some w)) H1) :
    tSeq (tAsg te (gTup K 3 (gCons (gName i) (gCons (gName j) (gCons (gName k) gNil))))) tz D σ H := h H (Ex.refl H) _ fun v H1 e g => by
  cases g with
  | @tup p xs _ hs ha =>
    cases ha with
    | @cons x1 r1 _ _ g1 t1 =>
      cases t1 with
      | @cons x2 r2 _ _ g2 t2 =>
        cases t2 with
        | @cons x3 r3 _ _ g3 t3 =>
          cases t3
          exact ⟨p, _, rfl, hs, rfl, x1, _, rfl, x2, _, rfl, x3, _, rfl, rfl, kk x1 x2 x3 H1 e g1 g2 g3⟩
end
def len3 : PyData → Bool
  | .tuple ds => decide (ds.length = 3)
  | _ => false
theorem is3 {d : PyData} (h : (!isTup d || !len3 d) = false) : ∃ a b c, d = .tuple [a, b, c] := by
  cases d with
  | tuple ds =>
    match ds, h with
    | [a, b, c], _ => exact ⟨a, b, c, rfl⟩
    | [], h => cases h
    | [_], h => cases h
    | [_, _], h => cases h
    | _ :: _ :: _ :: _ :: _, h =>
      exfalso
      simp [isTup, len3] at h
  | _ => cases h
theorem not3 {d : PyData} (h : (!isTup d || !len3 d) = true) : markD d = false := by
  cases d with
  | tuple ds =>
    match ds, h with
    | [a, b, c], h => cases h
    | [], _ => rfl
    | [_], _ => rfl
    | [_, _], _ => rfl
    | _ :: _ :: _ :: _ :: _, _ => rfl
  | _ => rfl
section
variable {P : Program} {w : World} {K : PySem.W.Frag} {mg : Str → Option Value} {base : Heap} {f : Addr} {fd : FuncData}
theorem scInteger : FnScope ["thing"] ["thing"] (defScope sInteger) := ⟨rfl, rfl, rfl, by decide +kernel, rfl, by decide +kernel, by decide +kernel⟩
theorem ok_integer (F : Fun K "is_integer" "is_integer" sInteger f fd) (T : Txt mg) : FnOk P w K mg base CX0 1 f fd ["thing"] (spB K intD) := by
  refine F.ok scInteger (fun vs H Q E h => ?_) (fun cdv A outer s H vs Q E hr h => ?_)
  · obtain ⟨_, g, ⟨d, rfl, _⟩, _⟩ := h
    exact g.len
  · obtain ⟨_, g, ⟨d, rfl, hd⟩, kQ⟩ := h
    cases g with
    | @cons v _ _ _ g1 g2 =>
    cases g2
    refine ⟨_, pss_one (ps_ret (pe_and (pe_callB call_isi (by rfl) T.isn (by decide +kernel) (pa_cons (pv 0) (pa_cons (pe_bltn (v := .ty "int") (by rfl) T.int (by decide +kernel) rfl) pa_nil)))
      (pe_one (pe_not (pe_callB call_isi (by rfl) T.isn (by decide +kernel) (pa_cons (pv 0) (pa_cons (pe_bltn (v := .ty "bool") (by rfl) T.bool (by decide +kernel) rfl) pa_nil))))))), ?_⟩
    refine s_retD (K := K) (ed_bl (ev_andV (ed_isi (ed_var rfl g1) (isInt_kit d)) fun _ => ev_notV (ed_isi (ed_var rfl g1) (isBool_kit d)))) fun u H1 e1 gu => kQ u H1 e1 ?_
    have z : (isInt d && !isBool d) = intD d := by cases d <;> rfl
    rw [z] at gu
    exact gu
theorem scSource : FnScope ["thing"] ["thing"] (defScope sSource) := ⟨rfl, rfl, rfl, by decide +kernel, rfl, by decide +kernel, by decide +kernel⟩
theorem ok_source (F : Fun K "is_source" "is_source" sSource f fd) (T : Txt mg) (W : Df P w K mg base "is_word" ["thing"] 1 (spB K wordD)) : FnOk P w K mg base CX0 2 f fd ["thing"] (spB K srcD) := by
  refine F.ok scSource (fun vs H Q E h => ?_) (fun cdv A outer s H vs Q E hr h => ?_)
  · obtain ⟨_, g, ⟨d, rfl, _⟩, _⟩ := h
    exact g.len
  · obtain ⟨_, g, ⟨d, rfl, hd⟩, kQ⟩ := h
    cases g with
    | @cons v _ _ _ g1 g2 =>
    cases g2
    refine ⟨_, pss_one (ps_ret (pe_and (pe_callB call_isi (by rfl) T.isn (by decide +kernel) (pa_cons (pv 0) (pa_cons (pe_bltn (v := .ty "str") (by rfl) T.str (by decide +kernel) rfl) pa_nil)))
      (pe_one (pe_or (pe_cmpR op_eq (pv 0) pe_str (nomark _)) (pe_one (pe_df W hr rfl (pa_cons (pv 0) pa_nil))))))), ?_⟩
    refine s_retD (K := K) (ed_bl (ev_andV (b := emptyD d || wordD d) (ed_isi (ed_var rfl g1) (isStr_kit d)) fun hs => ?_)) fun u H1 e1 gu => kQ u H1 e1 gu
    obtain ⟨s, rfl⟩ := isStr_is hs
    refine ev_orV ?_ fun _ => ev_spB (ed_var rfl g1) hd
    cases g1
    refine ev_is (ev_op (ev_var rfl) ev_c (rv_eq rfl)) ?_
    show V.bl (decide (V.str s = V.str "")) = V.bl (decide (s = ""))
    congr 1
    exact decide_eq_decide.mpr ⟨fun h => V.str.inj h, fun h => by rw [h]⟩
theorem scMark : FnScope ["thing", "level", "source", "number"] ["thing"] (defScope sMark) := ⟨rfl, rfl, rfl, by decide +kernel, rfl, by decide +kernel, by decide +kernel⟩
theorem ok_mark (F : Fun K "is_mark" "is_mark" sMark f fd) (T : Txt mg) (W : Df P w K mg base "is_word" ["thing"] 1 (spB K wordD)) (S : Df P w K mg base "is_source" ["thing"] 2 (spB K srcD)) (I : Df P w K mg base "is_integer" ["thing"] 1 (spB K intD)) :
    FnOk P w K mg base CX0 3 f fd ["thing"] (spB K markD) := by
  refine F.ok scMark (fun vs H Q E h => ?_) (fun cdv A outer s H vs Q E hr h => ?_)
  · obtain ⟨_, g, ⟨d, rfl, _⟩, _⟩ := h
    exact g.len
  · obtain ⟨_, g, ⟨d, rfl, hd⟩, kQ⟩ := h
    have hr1 : Room 1 _ := hr.mono (by decide)
    cases g with
    | @cons v _ _ _ g1 g2 =>
    cases g2
    refine ⟨_, pss_cons (ps_if (PW.pt (pw_or (pt_not (pt_val (pe_callB call_isi (by rfl) T.isn (by decide +kernel) (pa_cons (pv 0) (pa_cons (pe_bltn (v := .ty "tuple") (by rfl) T.tuple (by decide +kernel) rfl) pa_nil)))))
        (pw_or1 (pt_cmpR op_ne (pe_callB call_len (by rfl) T.len (by decide +kernel) (pa_cons (pv 0) pa_nil)) pe_int (nomark _))))) (pss_one (ps_ret pe_bl)) pss_nil)
      (pss_cons (ps_asg (pv 0) (pg_tup rfl (pgs_cons (pg_name (i := 1) scMark.nd rfl (Or.inl rfl)) (pgs_cons (pg_name (i := 2) scMark.nd rfl (Or.inl rfl)) (pgs_cons (pg_name (i := 3) scMark.nd rfl (Or.inl rfl)) pgs_nil)))))
      (pss_cons (ps_if (PW.pt (pw_or (pt_not (pt_val (pe_df W hr1 rfl (pa_cons (pv 1) pa_nil)))) (pw_or1 (pt_not (pt_val (pe_df S hr rfl (pa_cons (pv 2) pa_nil))))))) (pss_one (ps_ret pe_bl)) pss_nil)
      (pss_one (ps_ret (pe_and (pe_df I hr1 rfl (pa_cons (pv 3) pa_nil)) (pe_one (pe_chain op_le op_le pe_int (pv 3) (C8.pe_gc (v := .int 1000000000000000000) rfl T.greatest)))))))), ?_⟩
    have no : markD d = false → ∀ H1, Ex H H1 → tRet (tC (.bl false)) { nx := fun _ H' => Q .non H', rt := Q } (start ["thing", "level", "source", "number"] [v]) H1 := fun z H1 e1 =>
      s_retD (K := K) (ed_bl ev_c) fun u H2 e2 gu => kQ u H2 (e1.trans e2) (by
        show Dd K H2 u (.bool (markD d))
        rw [z]
        exact gu)
    refine q_when (b := !isTup d || !len3 d) (et_or (et_not (et_B (ed_isi (ed_var rfl g1) (isTup_kit d)))) fun hz => ?_) (fun hb H1 e1 => no ?_ H1 e1) (fun hb H1 e1 => ?_)
    · obtain ⟨ds, rfl⟩ := isTup_is (notF hz)
      refine et_is (et_test (ev_op (ed_lenT (ed_var rfl g1)) ev_c (rv_ne rfl))) ?_
      show (!decide (V.int (ds.length : Int) = V.int 3)) = !decide (ds.length = 3)
      congr 1
      exact decide_eq_decide.mpr ⟨fun h => by injection h with h; omega, fun h => by rw [h]; rfl⟩
    · exact not3 hb
    · obtain ⟨a, b, c, rfl⟩ := is3 hb
      have hs := small_tup hd
      have ha := hs.2 a (by simp)
      have hb' := hs.2 b (by simp)
      refine q_asgT3 (ed_var rfl (Dd.ext e1 _ _ g1)) fun va vb vc H2 e2 ga gb gc => ?_
      refine q_when (b := !wordD a || !srcD b) (et_or (et_not (et_B (ev_spB (ed_var rfl ga) ha))) fun _ => et_not (et_B (ev_spB (ed_var rfl gb) hb'))) (fun hb H3 e3 => ?_) (fun hb H3 e3 => ?_)
      · refine s_retD (K := K) (ed_bl ev_c) fun u H4 e4 gu => kQ u H4 ((e1.trans e2).trans (e3.trans e4)) ?_
        have z : (wordD a && srcD b && rangeD c) = false := by
          cases h1 : wordD a <;> cases h2 : srcD b <;> rw [h1, h2] at hb <;> first | rfl | cases hb
        show Dd K H4 u (.bool (wordD a && srcD b && rangeD c))
        rw [z]
        exact gu
      · have gc3 := Dd.ext e3 _ _ gc
        have z1 : (wordD a && srcD b) = true := by
          cases h1 : wordD a <;> cases h2 : srcD b <;> rw [h1, h2] at hb <;> first | rfl | cases hb
        have fin : Ev (tAndV (tCall (spB K intD) [] E0 (tCons (tVar 3) tNil)) (tChain (rI0 fun i j => .bl (decide (i ≤ j))) (rI0 fun i j => .bl (decide (i ≤ j))) (tC (.int 1)) (tVar 3) (tC (.int 1000000000000000000))))
            ((((start ["thing", "level", "source", "number"] [v]).set 1 (some va)).set 2 (some vb)).set 3 (some vc)) H3 (.bl (intD c && rangeD c)) := by
          refine ev_andV ?_ fun hc => ?_
          · exact ev_spB (ed_var rfl gc3) (hs.2 c (by simp))
          · cases c with
            | int i =>
              cases gc3
              exact ev_chain ev_c (ev_var rfl) ev_c
            | _ => cases hc
        refine s_retD (K := K) (ed_bl fin) fun u H4 e4 gu => kQ u H4 ((e1.trans e2).trans (e3.trans e4)) ?_
        have z : (intD c && rangeD c) = (wordD a && srcD b && rangeD c) := by
          rw [z1]
          cases c <;> rfl
        rw [z] at gu
        exact gu
theorem scName : FnScope ["thing", "mark"] ["thing"] (defScope sName) := ⟨rfl, rfl, rfl, by decide +kernel, rfl, by decide +kernel, by decide +kernel⟩
theorem ok_isname (F : Fun K "is_name" "is_name" sName f fd) (T : Txt mg) (M : Df P w K mg base "is_mark" ["thing"] 3 (spB K markD)) : FnOk P w K mg base CX0 4 f fd ["thing"] (spB K nameD) := by
  refine F.ok scName (fun vs H Q E h => ?_) (fun cdv A outer s H vs Q E hr h => ?_)
  · obtain ⟨_, g, ⟨d, rfl, _⟩, _⟩ := h
    exact g.len
  · obtain ⟨_, g, ⟨d, rfl, hd⟩, kQ⟩ := h
    cases g with
    | @cons v _ _ _ g1 g2 =>
    cases g2
    refine ⟨_, pss_one (ps_ret (pe_and (pe_callB call_isi (by rfl) T.isn (by decide +kernel) (pa_cons (pv 0) (pa_cons (pe_bltn (v := .ty "tuple") (by rfl) T.tuple (by decide +kernel) rfl) pa_nil)))
      (pe_one (pe_callB (cr_all rfl) (by rfl) T.all (by decide +kernel) (pa_cons
        (pe_lc (own := [("mark", 1)]) (g := gName 1) (tt := tYes) (te := tCall (spB K markD) [] E0 (tCons (tVar 1) tNil)) rfl scName.nd (pi_tup (pv 0)) (blkOk_by (own := [("mark", 1)]) (N := ["thing", "mark"]) (sc := defScope sName) (by decide +kernel))
          (fun _ _ _ _ _ => pg_name (i := 1) scName.nd rfl (Or.inl rfl)) (fun _ _ _ _ _ => pts_nil) (fun _ _ _ _ _ => pe_df M hr rfl (pa_cons (pv 1) pa_nil))) pa_nil))))), ?_⟩
    refine s_retD (K := K) (ed_bl (z := nameD d) ?_) fun u H1 e1 gu => kQ u H1 e1 gu
    refine ev_is (ev_andV (b := nameD d) (ed_isi (ed_var rfl g1) (isTup_kit d)) fun hz => ?_) (by cases d <;> rfl)
    obtain ⟨ds, rfl⟩ := isTup_is hz
    have hs := small_tup hd
    have r := edl_lc (K := K) (σ := start ["thing", "mark"] [v]) (j := 1) (vs := [1]) (tt := tYes) (te := tCall (spB K markD) [] E0 (tCons (tVar 1) tNil)) (fun _ => true) (fun d => .bool (markD d)) (it_T (tl := tVar 0) (ed_var rfl g1)) (by omega) (fun _ _ _ => rfl) (fun _ => rfl) (fun _ _ _ _ _ _ => et_yes)
      (fun x d H1 _ hm g _ => ed_bl (ev_spB (ed_var rfl g) (hs.2 d hm)))
    rw [List.filter_eq_self.mpr (fun _ _ => rfl)] at r
    have e : ds.map (fun d => PyData.bool (markD d)) = (ds.map markD).map PyData.bool := by rw [List.map_map]; rfl
    rw [e] at r
    refine ev_is (ed_all r) ?_
    show V.bl ((ds.map markD).all id) = V.bl (ds.all markD)
    rw [List.all_map]
    rfl
end
end K03
set_option maxHeartbeats 4000000
namespace K03
open PySem L2 Evl My
abbrev sMText : Stmt := top 15
abbrev sNumber : Stmt := top 17
abbrev sWMark : Stmt := top 18
/-! ### texts in their parts -/
theorem spl_len (S : List Nat) : ∀ (l : List Nat) (k : Nat) (acc : List Nat), (∀ p ∈ TL.spl S k acc l, p.length ≤ acc.length + l.length) ∧ (TL.spl S k acc l).length ≤ l.length + 1
  | [], k, acc => by
    rw [TL.spl_nil]
    exact ⟨fun p hp => by
      rw [List.mem_singleton.mp hp]
      exact Nat.le_refl _, Nat.le_refl _⟩
  | c :: r, 0, acc => by
    by_cases h : TL.pre S (c :: r) = true
    · rw [TL.spl_hit h]
      have ih := spl_len S r (S.length - 1) []
      refine ⟨fun p hp => ?_, by rw [List.length_cons, List.length_cons]; have := ih.2; omega⟩
      rcases List.mem_cons.mp hp with rfl | hp
      · exact Nat.le_add_right _ _
      · have := ih.1 p hp
        rw [List.length_nil] at this
        rw [List.length_cons]
        omega
    · rw [TL.spl_miss (Bool.eq_false_iff.mpr h)]
      have ih := spl_len S r 0 (acc ++ [c])
      refine ⟨fun p hp => ?_, by have := ih.2; rw [List.length_cons]; omega⟩
      have := ih.1 p hp
      rw [List.length_append, List.length_singleton] at this
      rw [List.length_cons]
      omega
  | c :: r, k + 1, acc => by
    have ih := spl_len S r k acc
    show (∀ p ∈ TL.spl S k acc r, p.length ≤ acc.length + (c :: r).length) ∧ (TL.spl S k acc r).length ≤ (c :: r).length + 1
    refine ⟨fun p hp => ?_, by have := ih.2; rw [List.length_cons]; omega⟩
    have := ih.1 p hp
    rw [List.length_cons]
    omega
theorem split_small {s y : Str} (hy : TL.tl y ≠ []) (hk : ¬ Builtin.Str.strKind s < Builtin.Str.strKind y) : (∀ p ∈ Txt.split s y, p.length ≤ s.length) ∧ (Txt.split s y).length ≤ s.length + 1 := by
  have e := TL.split_spl s y hy hk
  have h := spl_len (TL.tl y) (TL.tl s) 0 []
  have l1 : (TL.tl s).length = s.length := by simp [TL.tl, Str.length]
  rw [← e, l1] at h
  refine ⟨fun p hp => ?_, by have := h.2; rw [List.length_map] at this; exact this⟩
  have := h.1 (TL.tl p) (List.mem_map_of_mem hp)
  rw [List.length_nil, Nat.zero_add] at this
  have l2 : (TL.tl p).length = p.length := by simp [TL.tl, Str.length]
  omega
theorem spl_mem (S : List Nat) : ∀ (l : List Nat) (k : Nat) (acc : List Nat), ∀ p ∈ TL.spl S k acc l, ∀ c ∈ p, c ∈ acc ∨ c ∈ l
  | [], k, acc => by
    rw [TL.spl_nil]
    intro p hp c hc
    rw [List.mem_singleton.mp hp] at hc
    exact .inl hc
  | x :: r, 0, acc => by
    by_cases h : TL.pre S (x :: r) = true
    · rw [TL.spl_hit h]
      intro p hp c hc
      rcases List.mem_cons.mp hp with rfl | hp
      · exact .inl hc
      · rcases spl_mem S r (S.length - 1) [] p hp c hc with z | z
        · cases z
        · exact .inr (List.mem_cons_of_mem _ z)
    · rw [TL.spl_miss (Bool.eq_false_iff.mpr h)]
      intro p hp c hc
      rcases spl_mem S r 0 (acc ++ [x]) p hp c hc with z | z
      · rcases List.mem_append.mp z with z | z
        · exact .inl z
        · exact .inr (List.mem_cons.mpr (.inl (List.mem_singleton.mp z)))
      · exact .inr (List.mem_cons_of_mem _ z)
  | x :: r, k + 1, acc => by
    intro p hp c hc
    rcases spl_mem S r k acc p hp c hc with z | z
    · exact .inl z
    · exact .inr (List.mem_cons_of_mem _ z)
theorem split_ok {s y : Str} (hy : TL.tl y ≠ []) (hk : ¬ Builtin.Str.strKind s < Builtin.Str.strKind y) (h : okS s = true) : ∀ p ∈ Txt.split s y, okS p = true := fun p hp => by
  have e := TL.split_spl s y hy hk
  have hm : TL.tl p ∈ TL.spl (TL.tl y) 0 [] (TL.tl s) := e ▸ List.mem_map_of_mem hp
  have hl := (split_small hy hk).1 p hp
  have hs := okS_ok h
  unfold PyData.strOk at hs
  rw [← Array.all_toList, List.all_eq_true] at hs
  unfold okS PyData.strOk
  rw [Bool.and_eq_true, decide_eq_true_eq, ← Array.all_toList, List.all_eq_true]
  refine ⟨Nat.le_trans hl (okS_len h), fun c hc => ?_⟩
  rcases spl_mem _ _ _ _ _ hm c hc with z | z
  · cases z
  · exact hs c z
def DOT : Str := "."
def PLUS : Str := "+"
theorem dot_small (s : Str) : (∀ p ∈ Txt.split s DOT, p.length ≤ s.length) ∧ (Txt.split s DOT).length ≤ s.length + 1 := split_small (by decide +kernel) (TL.kind_ok (by decide +kernel))
theorem plus_small (s : Str) : (∀ p ∈ Txt.split s PLUS, p.length ≤ s.length) ∧ (Txt.split s PLUS).length ≤ s.length + 1 := split_small (by decide +kernel) (TL.kind_ok (by decide +kernel))
theorem dot_ok {s : Str} (h : okS s = true) : ∀ p ∈ Txt.split s DOT, okS p = true := split_ok (by decide +kernel) (TL.kind_ok (by decide +kernel)) h
theorem plus_ok {s : Str} (h : okS s = true) : ∀ p ∈ Txt.split s PLUS, okS p = true := split_ok (by decide +kernel) (TL.kind_ok (by decide +kernel)) h
/-- the number that a text writes -/
def lenN (s : Str) : Bool := decide (1 ≤ s.length) && decide (s.length ≤ 19)
def zero1 (s : Str) : Bool := decide (s.cps.toList.head? = some 48)
def numD (s : Str) : PyData := if (!lenN s || zero1 s) = true then .none else if allIn DIG (.str s) = true then .int (NumText.digitsVal s.cps.toList : Nat) else .none
def mkD (a b : Str) (n : PyData) : PyData := if markD (.tuple [.str a, .str b, n]) = true then .tuple [.str a, .str b, n] else .none
def wmD (s : Str) : PyData := match Txt.split s DOT with
  | [a, b, c] => if b = "" then .none else mkD a b (numD c)
  | [a, b] => mkD a "" (numD b)
  | _ => .none
/-- a def that answers a datum to a text -/
def spS (K : PySem.W.Frag) (F : Str → PyData) : Sp := spD K (fun ds => ∃ s, ds = [.str s] ∧ okS s = true) fun ds => match ds with
  | [.str s] => F s
  | _ => .none
section
variable {K : PySem.W.Frag} {σ : L2.St} {H : Hp} {te ta tb : TE}
theorem ed_spS {F : Str → PyData} {E : XK} {s : Str} (h : Ev te σ H (.str s)) (hs : okS s = true) : EvD K (tCall (spS K F) [] E (tCons te tNil)) σ H (F s) :=
  ed_call (eds_cons (ed_str h) eds_nil) (spD_ok ⟨s, rfl, hs⟩ rfl)
theorem el_split {a b : Str} (ha : Ev ta σ H (.str a)) (hb : Ev tb σ H (.str b)) (h1 : (b.length == 0) = false) (h2 : a.length ≤ 20000) :
    EvL (tM1 (fun x xs H Q => ∃ a b, x = .str a ∧ xs = [.str b] ∧ (b.length == 0) = false ∧ a.length + 2 ≤ sizeLine ∧ rNewStrs (Txt.split a b) H Q) ta tb) σ H ((Txt.split a b).map V.str) := fun H1 e Q q =>
  ha H1 e _ fun H2 e2 => ⟨⟨a, rfl⟩, hb H2 (e.trans e2) _ fun H3 e3 => ⟨a, b, rfl, rfl, h1, Nat.le_trans (Nat.add_le_add_right h2 2) (by decide), fun p hp => q p _ (fresh_back (e2.trans e3) hp) ((e2.trans e3).trans (Ex.new hp)) upd_same⟩⟩
end
theorem dig_mem : ∀ c : Nat, c ∈ DIG.cps.toList → 48 ≤ c ∧ c ≤ 57 := by
  have e : DIG.cps.toList = [48, 49, 50, 51, 52, 53, 54, 55, 56, 57] := by decide +kernel
  rw [e]
  intro c h
  simp at h
  omega
theorem int_dig {s : Str} (h : allIn DIG (.str s) = true) (h1 : 1 ≤ s.length) (h2 : s.length ≤ 4300) : intText? s = some ((NumText.digitsVal s.cps.toList : Nat) : Int) := by
  refine intText_digits (fun c hc => ?_) (fun z => ?_) h2
  · have h3 : (s.cps.toList.all fun c => decide (c ∈ DIG.cps.toList)) = true := h
    rw [List.all_eq_true] at h3
    exact dig_mem c (of_decide_eq_true (h3 c hc))
  · have : s.cps.toList.length = s.length := by simp [Str.length]
    rw [z, List.length_nil] at this
    omega
section
variable {P : Program} {w : World} {K : PySem.W.Frag} {mg : Str → Option Value} {base : Heap} {f : Addr} {fd : FuncData}
theorem scNumber : FnScope ["text", "sign"] ["text"] (defScope sNumber) := ⟨rfl, rfl, rfl, by decide +kernel, rfl, by decide +kernel, by decide +kernel⟩
theorem ok_number (F : Fun K "written_number" "written_number" sNumber f fd) (T : Txt mg) : FnOk P w K mg base CX0 1 f fd ["text"] (spS K numD) := by
  refine F.ok scNumber (fun vs H Q E h => ?_) (fun cdv A outer s H vs Q E hr h => ?_)
  · obtain ⟨_, g, ⟨d, rfl, _⟩, _⟩ := h
    exact g.len
  · obtain ⟨_, g, ⟨z, rfl, hz⟩, kQ⟩ := h
    have kQ : ∀ (v : V) (H' : Hp), Ex H H' → Dd K H' v (numD z) → Q v H' := kQ
    have hz := okS_len hz
    cases g with
    | @cons v _ _ _ g1 g2 =>
    cases g2
    cases g1
    refine ⟨_, pss_cons (ps_if (PW.pt (pw_or (pt_not (pt_chain op_le op_le pe_int (pe_callB call_len (by rfl) T.len (by decide +kernel) (pa_cons (pv 0) pa_nil)) (C8.pe_gc (v := .int 19) rfl T.most)))
        (pw_or1 (pt_cmpR op_eq (pe_ix ix_str (pv 0) pe_int (fun _ _ => rfl)) pe_str (nomark _))))) (pss_one (ps_ret pe_non)) pss_nil)
      (pss_cons (ps_if (pt_not (pt_val (pe_callB (cr_all rfl) (by rfl) T.all (by decide +kernel) (pa_cons
        (pe_lc (own := [("sign", 1)]) (g := gName 1) (tt := tYes) (te := tOp rInS (tVar 1) (tC (.str DIG))) rfl scNumber.nd (pi_str (pv 0)) (blkOk_by (own := [("sign", 1)]) (N := ["text", "sign"]) (sc := defScope sNumber) (by decide +kernel))
          (fun _ _ _ _ _ => pg_name (i := 1) scNumber.nd rfl (Or.inl rfl)) (fun _ _ _ _ _ => pts_nil) (fun _ _ _ _ _ => pe_cmpR op_inS (pv 1) (C8.pe_gc (v := .str DIG) rfl T.digits) rfl)) pa_nil)))) (pss_one (ps_ret pe_non)) pss_nil)
      (pss_one (ps_ret (pe_callTy call_int_str (by rfl) T.int (by decide +kernel) (pa_cons (pv 0) pa_nil))))), ?_⟩
    refine q_when (b := !lenN z || zero1 z) (et_or ?_ fun hl => ?_) (fun hb H1 e1 => ?_) (fun hb H1 e1 => ?_)
    · refine et_not (et_is (et_chain ev_c (ed_lenS (K := K) (ev_var rfl) (Nat.le_trans hz (by decide))) ev_c) ?_)
      show (decide ((1 : Int) ≤ (z.length : Int)) && decide ((z.length : Int) ≤ 19)) = (decide (1 ≤ z.length) && decide (z.length ≤ 19))
      congr 1 <;> exact decide_eq_decide.mpr (by omega)
    · have hl2 := notF hl
      unfold lenN at hl2
      rw [Bool.and_eq_true, decide_eq_true_eq, decide_eq_true_eq] at hl2
      have hlen : z.cps.toList.length = z.length := by simp [Str.length]
      cases hc : z.cps.toList with
      | nil =>
        rw [hc, List.length_nil] at hlen
        omega
      | cons c r =>
        refine et_is (et_test (ev_op (ev_op (ev_var rfl) ev_c (rv_ixS (by omega) (by rw [hc]; exact atI_nat (j := 0) rfl))) ev_c (rv_eq rfl))) ?_
        unfold zero1
        rw [hc]
        refine decide_eq_decide.mpr ⟨fun h => ?_, fun h => ?_⟩
        · injection h with h
          have h2 := congrArg (fun x : Str => x.cps.toList) h
          simp only at h2
          rw [show (Str.ofString "0").cps.toList = [48] by decide +kernel] at h2
          simp at h2
          rw [h2]
          rfl
        · simp at h
          rw [h]
          rfl
    · refine s_retD (K := K) (ed_non ev_c) fun u H2 e2 gu => kQ u H2 (e1.trans e2) ?_
      unfold numD
      rw [if_pos hb]
      exact gu
    · have hl : lenN z = true := by
        cases h : lenN z
        · rw [h] at hb
          cases hb
        · rfl
      unfold lenN at hl
      rw [Bool.and_eq_true, decide_eq_true_eq, decide_eq_true_eq] at hl
      have nb : ¬ (!lenN z || zero1 z) = true := by
        rw [hb]
        exact Bool.false_ne_true
      refine q_when (b := !allIn DIG (.str z)) (et_not (et_is (et_B (ed_all (K := K) (edl_signs (s := z) (z := DIG) (ev_var rfl) hz (fun _ => rfl) (fun _ => rfl) (fun _ _ => ev_c)))) (all_signs DIG z))) (fun hb2 H2 e2 => ?_) (fun hb2 H2 e2 => ?_)
      · refine s_retD (K := K) (ed_non ev_c) fun u H3 e3 gu => kQ u H3 (e1.trans (e2.trans e3)) ?_
        unfold numD
        rw [if_neg nb]
        have h3 : allIn DIG (.str z) = false := by
          cases h : allIn DIG (.str z)
          · rfl
          · rw [h] at hb2
            cases hb2
        rw [h3]
        exact gu
      · have h3 := notF hb2
        have ei := int_dig h3 hl.1 (by omega)
        have ev : Ev (tCB (fun xs H Q => ∃ a n, xs = [.str a] ∧ PySem.intText? a = some n ∧ a.length ≤ 640 ∧ Q (.int n) H) (tCons (tVar 0) tNil)) (start ["text", "sign"] [V.str z]) H2 (.int ((NumText.digitsVal z.cps.toList : Nat) : Int)) :=
          ev_cb (ea_cons (ev_var rfl) ea_nil) fun H3 _ Q q => ⟨z, _, rfl, ei, by omega, q H3 (Ex.refl _)⟩
        refine s_retD (K := K) (ed_int ev) fun u H3 e3 gu => kQ u H3 (e1.trans (e2.trans e3)) ?_
        unfold numD
        rw [if_neg nb, if_pos h3]
        exact gu
end
end K03
set_option maxHeartbeats 4000000
namespace K03
open PySem L2 Evl My
theorem numD_small (s : Str) : small (numD s) = true := by
  unfold numD
  split
  · rfl
  · split <;> rfl
theorem small_of {s : Str} (h : okS s = true) : small (.str s) = true := h
theorem mark_small {a b : Str} {n : PyData} (ha : okS a = true) (hb : okS b = true) (hn : small n = true) : small (.tuple [.str a, .str b, n]) = true := by
  show (decide (3 ≤ 1000) && (small (.str a) && (small (.str b) && (small n && true)))) = true
  rw [small_of ha, small_of hb, hn]
  rfl
theorem decStr {s t : Str} : decide (V.str s = V.str t) = decide (s = t) := decide_eq_decide.mpr ⟨fun h => V.str.inj h, fun h => by rw [h]⟩
theorem decLen {n k : Nat} : decide (V.int (n : Int) = V.int (k : Int)) = decide (n = k) := decide_eq_decide.mpr ⟨fun h => by injection h with h; omega, fun h => by rw [h]⟩
section
variable {P : Program} {w : World} {K : PySem.W.Frag} {mg : Str → Option Value} {base : Heap} {f : Addr} {fd : FuncData}
theorem scWMark : FnScope ["text", "parts", "mark"] ["text"] (defScope sWMark) := ⟨rfl, rfl, rfl, by decide +kernel, rfl, by decide +kernel, by decide +kernel⟩
theorem ok_wmark (F : Fun K "written_mark" "written_mark" sWMark f fd) (T : Txt mg) (N : Df P w K mg base "written_number" ["text"] 1 (spS K numD)) (M : Df P w K mg base "is_mark" ["thing"] 3 (spB K markD)) : FnOk P w K mg base CX0 4 f fd ["text"] (spS K wmD) := by
  refine F.ok scWMark (fun vs H Q E h => ?_) (fun cdv A outer s H vs Q E hr h => ?_)
  · obtain ⟨_, g, ⟨d, rfl, _⟩, _⟩ := h
    exact g.len
  · obtain ⟨_, g, ⟨z, rfl, hz⟩, kQ⟩ := h
    have kQ : ∀ (v : V) (H' : Hp), Ex H H' → Dd K H' v (wmD z) → Q v H' := kQ
    have hr1 : Room 1 _ := hr.mono (by decide)
    cases g with
    | @cons v _ _ _ g1 g2 =>
    cases g2
    cases g1
    refine ⟨_, pss_cons (ps_set (i := 1) scWMark.nd rfl (Or.inl rfl) (pe_split (pv 0) pe_str))
      (pss_cons (ps_if (PW.pt (pw_and (pt_cmpR op_eq (pe_callB call_len (by rfl) T.len (by decide +kernel) (pa_cons (pv 1) pa_nil)) pe_int (nomark _)) (pw_and1 (pt_cmpR op_ne (pe_ix ix_list (pv 1) pe_int (fun _ _ => rfl)) pe_str (nomark _)))))
          (pss_one (ps_set (i := 2) scWMark.nd rfl (Or.inl rfl) (pe_tup (pa_cons (pe_ix ix_list (pv 1) pe_int (fun _ _ => rfl)) (pa_cons (pe_ix ix_list (pv 1) pe_int (fun _ _ => rfl)) (pa_cons (pe_df N hr1 rfl (pa_cons (pe_ix ix_list (pv 1) pe_int (fun _ _ => rfl)) pa_nil)) pa_nil))))))
          (pss_one (ps_if (pt_cmpR op_eq (pe_callB call_len (by rfl) T.len (by decide +kernel) (pa_cons (pv 1) pa_nil)) pe_int (nomark _))
            (pss_one (ps_set (i := 2) scWMark.nd rfl (Or.inl rfl) (pe_tup (pa_cons (pe_ix ix_list (pv 1) pe_int (fun _ _ => rfl)) (pa_cons pe_str (pa_cons (pe_df N hr1 rfl (pa_cons (pe_ix ix_list (pv 1) pe_int (fun _ _ => rfl)) pa_nil)) pa_nil))))))
            (pss_one (ps_ret pe_non)))))
      (pss_cons (ps_if (pt_val (pe_df M hr rfl (pa_cons (pv 2) pa_nil))) (pss_one (ps_ret (pv 2))) pss_nil) (pss_one (ps_ret pe_non)))), ?_⟩
    have hp := dot_small z
    have hzl := okS_len hz
    refine q_asgL (el_split (ev_var rfl) ev_c (by decide +kernel) (by omega)) fun p H1 np e1 h1 => ?_
    have fin : ∀ (a b : Str) (n : PyData), okS a = true → okS b = true → small n = true → wmD z = mkD a b n → ∀ v H2, Ex H1 H2 → Dd K H2 v (.tuple [.str a, .str b, n]) →
        tSeq (tIfS (tB (tCall (spB K markD) [] E0 (tCons (tVar 2) tNil))) (tRet (tVar 2)) tNext) (tRet (tC .non)) { nx := fun _ H' => Q .non H', rt := Q } (((start ["text", "parts", "mark"] [V.str z]).set 1 (some (.ref p))).set 2 (some v)) H2 := by
      intro a b n ha hb hn ew v H2 e2 g
      refine q_when (et_B (ev_spB (ed_var rfl g) (mark_small ha hb hn))) (fun hm H3 e3 => ?_) (fun hm H3 e3 => ?_)
      · refine s_retD (ed_var rfl (Dd.ext e3 _ _ g)) fun u H4 e4 gu => kQ u H4 ((e1.trans e2).trans (e3.trans e4)) ?_
        rw [ew]
        unfold mkD
        rw [if_pos hm]
        exact gu
      · refine s_retD (K := K) (ed_non ev_c) fun u H4 e4 gu => kQ u H4 ((e1.trans e2).trans (e3.trans e4)) ?_
        rw [ew]
        unfold mkD
        rw [if_neg (by rw [hm]; exact Bool.false_ne_true)]
        exact gu
    have lenL : ∀ H2, Ex H1 H2 → Ev (tCB (rLenD K) (tCons (tVar 1) tNil)) ((start ["text", "parts", "mark"] [V.str z]).set 1 (some (.ref p))) H2 (.int (((Txt.split z DOT).length : Nat) : Int)) := fun H2 e2 =>
      ev_is (ed_lenL (ev_var rfl) (sq_of (e2 _ _ h1))) (by rw [List.length_map] <;> rfl)
    have part : ∀ (j : Nat) (y : Str), (Txt.split z DOT)[j]? = some y → ∀ H2, Ex H1 H2 → Ev (tOp (rIxL K) (tVar 1) (tC (.int (j : Int)))) ((start ["text", "parts", "mark"] [V.str z]).set 1 (some (.ref p))) H2 (.str y) := fun j y hy H2 e2 =>
      ev_op (ev_var rfl) ev_c (rv_ixL (sq_of (e2 _ _ h1)) (atI_nat (by rw [List.getElem?_map, show (Txt.split z ".")[j]? = some y from hy] <;> rfl)))
    have psm : ∀ (j : Nat) (y : Str), (Txt.split z DOT)[j]? = some y → okS y = true := fun j y hy => dot_ok hz y (List.mem_of_getElem? hy)
    have isLen : ∀ (k : Nat) H2, Ex H1 H2 → EvT (tTest (tOp rEq (tCB (rLenD K) (tCons (tVar 1) tNil)) (tC (.int (k : Int))))) ((start ["text", "parts", "mark"] [V.str z]).set 1 (some (.ref p))) H2 (decide ((Txt.split z DOT).length = k)) := fun k H2 e2 =>
      et_is (et_test (ev_op (lenL H2 e2) ev_c (rv_eq rfl))) decLen
    refine q_if (b := decide ((Txt.split z DOT).length = 3) && decide ((Txt.split z DOT)[1]? ≠ some ("" : Str))) (et_and (isLen 3 H1 (Ex.refl _)) fun h3 => ?_) (fun hb H2 e2 => ?_) (fun hb H2 e2 => ?_)
    · have l3 := of_decide_eq_true h3
      have hy : (Txt.split z DOT)[1]? = some ((Txt.split z DOT)[1]'(by omega)) := by simp
      refine et_is (et_test (ev_op (part 1 _ hy H1 (Ex.refl _)) ev_c (rv_ne rfl))) ?_
      rw [hy, decStr]
      simp
    · rw [Bool.and_eq_true, decide_eq_true_eq, decide_eq_true_eq] at hb
      match hsp : Txt.split z DOT, hb with
      | [a, b, c], hb =>
        rw [hsp] at psm part
        have eb : b ≠ "" := fun z => hb.2 (by rw [z]; rfl)
        refine s_asgD (ed_tup (eds_cons (ed_str (part 0 a rfl H2 e2)) (eds_cons (ed_str (part 1 b rfl H2 e2)) (eds_cons (ed_spS (part 2 c rfl H2 e2) (psm 2 c rfl)) eds_nil))) (by simp)) fun v H3 e3 g => ?_
        refine fin a b (numD c) (psm 0 a rfl) (psm 1 b rfl) (numD_small c) ?_ v H3 (e2.trans e3) g
        unfold wmD
        rw [hsp]
        exact if_neg eb
    · refine s_if (isLen 2 H2 e2) (fun h2 H3 e3 => ?_) (fun h2 H3 e3 => ?_)
      · have l2 := of_decide_eq_true h2
        match hsp : Txt.split z DOT, l2 with
        | [a, b], _ =>
          rw [hsp] at psm part
          refine s_asgD (ed_tup (eds_cons (ed_str (part 0 a rfl H3 (e2.trans e3))) (eds_cons (ed_str ev_c) (eds_cons (ed_spS (part 1 b rfl H3 (e2.trans e3)) (psm 1 b rfl)) eds_nil))) (by simp)) fun v H4 e4 g => ?_
          refine fin a "" (numD b) (psm 0 a rfl) (by decide +kernel) (numD_small b) ?_ v H4 ((e2.trans e3).trans e4) g
          unfold wmD
          rw [hsp]
      · refine s_retD (K := K) (ed_non ev_c) fun u H4 e4 gu => kQ u H4 (e1.trans (e2.trans (e3.trans e4))) ?_
        have l2 := of_decide_eq_false h2
        have ew : wmD z = .none := by
          unfold wmD
          split
          · rename_i a b c hsp
            split
            · rfl
            · rename_i eb
              exfalso
              rw [hsp] at hb
              have : decide (([a, b, c] : List Str)[1]? ≠ some ("" : Str)) = true := decide_eq_true (by simpa using eb)
              rw [this] at hb
              cases hb
          · rename_i a b hsp
            rw [hsp] at l2
            exact absurd rfl l2
          · rfl
        rw [ew]
        exact gu
end
end K03
set_option maxHeartbeats 4000000
namespace K03
open PySem L2 Evl My
abbrev sNText : Stmt := top 16
abbrev sParse : Stmt := top 19
def num (n : Int) : Str := Str.ofString (toString n)
def markT (a b : Str) (n : Int) : Str := if b = "" then ((Str.empty ++ a) ++ ".") ++ num n else ((((Str.empty ++ a) ++ ".") ++ b) ++ ".") ++ num n
def markTD : PyData → Str
  | .tuple [.str a, .str b, .int n] => markT a b n
  | _ => Str.empty
theorem mark_is {d : PyData} (h : markD d = true) : ∃ a b n, d = .tuple [.str a, .str b, .int n] ∧ a.length ≤ 8 ∧ b.length ≤ 8 ∧ 1 ≤ n ∧ n ≤ 1000000000000000000 := by
  match d, h with
  | .tuple [a, b, c], h =>
    have h2 : (wordD a && srcD b && rangeD c) = true := h
    rw [Bool.and_eq_true, Bool.and_eq_true] at h2
    obtain ⟨⟨ha, hb⟩, hc⟩ := h2
    have hl : ∀ {x : PyData}, wordD x = true → ∃ s, x = .str s ∧ s.length ≤ 8 := fun {x} hx => by
      unfold wordD at hx
      rw [Bool.and_eq_true, Bool.and_eq_true] at hx
      obtain ⟨s, rfl⟩ := isStr_is hx.1.1
      have h3 : (decide (1 ≤ s.length) && decide (s.length ≤ 8)) = true := hx.1.2
      rw [Bool.and_eq_true, decide_eq_true_eq, decide_eq_true_eq] at h3
      exact ⟨s, rfl, h3.2⟩
    obtain ⟨a, rfl, la⟩ := hl ha
    have hb2 : ∃ s, b = .str s ∧ s.length ≤ 8 := by
      unfold srcD at hb
      rw [Bool.and_eq_true, Bool.or_eq_true] at hb
      rcases hb.2 with z | z
      · obtain ⟨s, rfl⟩ := isStr_is hb.1
        have e : s = "" := of_decide_eq_true z
        exact ⟨s, rfl, by rw [e]; decide⟩
      · exact hl z
    obtain ⟨b, rfl, lb⟩ := hb2
    match c, hc with
    | .int n, hc =>
      have h3 : (decide (1 ≤ n) && decide (n ≤ 1000000000000000000)) = true := hc
      rw [Bool.and_eq_true, decide_eq_true_eq, decide_eq_true_eq] at h3
      exact ⟨a, b, n, rfl, la, lb, h3.1, h3.2⟩
theorem num_len {n : Int} (h1 : 1 ≤ n) (h2 : n ≤ 1000000000000000000) : (num n).length ≤ 19 := by
  obtain ⟨k, rfl⟩ := Int.eq_ofNat_of_zero_le (show 0 ≤ n by omega)
  have e := TL.tl_num k
  have l : (TL.tl (num (k : Int))).length = (num (k : Int)).length := by simp [TL.tl, Str.length]
  have h := TL.numL_len (n := k) (k := 19) (by decide) (by omega)
  rw [← l]
  exact e ▸ h
theorem num_log {n : Int} (h1 : 1 ≤ n) (h2 : n ≤ 1000000000000000000) : n.natAbs.log2 < 1920 := by
  have h : n.natAbs < 2 ^ 60 := by
    have : (2 : Nat) ^ 60 = 1152921504606846976 := by decide
    omega
  have h3 : n.natAbs.log2 < 60 := (Nat.log2_lt (by omega)).mpr h
  omega
section
variable {K : PySem.W.Frag} {σ : L2.St} {H : Hp} {te ta tb tc td t5 : TE}
theorem ev_fmtS {y : Str} (h : Ev te σ H (.str y)) (hy : y.length ≤ 100000) : Ev (tFmt te) σ H (.str y) := fun H1 e Q q => h H1 e _ fun H2 e2 => .inl ⟨y, rfl, sz_of hy, q H2 e2⟩
theorem ev_fmtI {n : Int} (h : Ev te σ H (.int n)) (hn : n.natAbs.log2 < 1920) : Ev (tFmt te) σ H (.str (num n)) := fun H1 e Q q => h H1 e _ fun H2 e2 => .inr ⟨n, rfl, hn, q H2 e2⟩
theorem ev_js3 {a b c : Str} (h1 : Ev ta σ H (.str a)) (h2 : Ev tb σ H (.str b)) (h3 : Ev tc σ H (.str c)) (hl : a.length + b.length + c.length ≤ 100000) :
    Ev (fun σ H Q => tJs [ta, tb, tc] Str.empty σ H fun out H1 => Q (.str out) H1) σ H (.str (((Str.empty ++ a) ++ b) ++ c)) := fun H1 e Q q =>
  h1 H1 e _ fun H2 e2 => ⟨a, rfl, sz_of (by rw [PySem.Str.length_append, show Str.empty.length = 0 from rfl]; omega), h2 H2 (e.trans e2) _ fun H3 e3 => ⟨b, rfl, sz_of (by rw [PySem.Str.length_append, PySem.Str.length_append, show Str.empty.length = 0 from rfl]; omega),
    h3 H3 ((e.trans e2).trans e3) _ fun H4 e4 => ⟨c, rfl, sz_of (by rw [PySem.Str.length_append, PySem.Str.length_append, PySem.Str.length_append, show Str.empty.length = 0 from rfl]; omega), q H4 ((e2.trans e3).trans e4)⟩⟩⟩
theorem ev_js5 {a b c d f : Str} (h1 : Ev ta σ H (.str a)) (h2 : Ev tb σ H (.str b)) (h3 : Ev tc σ H (.str c)) (h4 : Ev td σ H (.str d)) (h5 : Ev t5 σ H (.str f)) (hl : a.length + b.length + c.length + d.length + f.length ≤ 100000) :
    Ev (fun σ H Q => tJs [ta, tb, tc, td, t5] Str.empty σ H fun out H1 => Q (.str out) H1) σ H (.str (((((Str.empty ++ a) ++ b) ++ c) ++ d) ++ f)) := fun H1 e Q q =>
  h1 H1 e _ fun H2 e2 => ⟨a, rfl, sz_of (by simp only [PySem.Str.length_append, show Str.empty.length = 0 from rfl]; omega), h2 H2 (e.trans e2) _ fun H3 e3 => ⟨b, rfl, sz_of (by simp only [PySem.Str.length_append, show Str.empty.length = 0 from rfl]; omega),
    h3 H3 ((e.trans e2).trans e3) _ fun H4 e4 => ⟨c, rfl, sz_of (by simp only [PySem.Str.length_append, show Str.empty.length = 0 from rfl]; omega), h4 H4 (((e.trans e2).trans e3).trans e4) _ fun H5 e5 => ⟨d, rfl, sz_of (by simp only [PySem.Str.length_append, show Str.empty.length = 0 from rfl]; omega),
      h5 H5 ((((e.trans e2).trans e3).trans e4).trans e5) _ fun H6 e6 => ⟨f, rfl, sz_of (by simp only [PySem.Str.length_append, show Str.empty.length = 0 from rfl]; omega), q H6 ((((e2.trans e3).trans e4).trans e5).trans e6)⟩⟩⟩⟩⟩
end
section
variable {P : Program} {w : World} {K : PySem.W.Frag} {mg : Str → Option Value} {base : Heap} {f : Addr} {fd : FuncData}
def spMT (K : PySem.W.Frag) : Sp := spD K (fun ds => ∃ d, ds = [d] ∧ markD d = true) fun ds => .str (markTD (ds.headD .none))
theorem scMText : FnScope ["mark", "level", "source", "number"] ["mark"] (defScope sMText) := ⟨rfl, rfl, rfl, by decide +kernel, rfl, by decide +kernel, by decide +kernel⟩
theorem ok_mtext (F : Fun K "mark_text" "mark_text" sMText f fd) : FnOk P w K mg base CX0 1 f fd ["mark"] (spMT K) := by
  refine F.ok scMText (fun vs H Q E h => ?_) (fun cdv A outer s H vs Q E hr h => ?_)
  · obtain ⟨_, g, ⟨d, rfl, _⟩, _⟩ := h
    exact g.len
  · obtain ⟨_, g, ⟨d, rfl, hd⟩, kQ⟩ := h
    obtain ⟨a, b, n, rfl, la, lb, n1, n2⟩ := mark_is hd
    have kQ : ∀ (v : V) (H' : Hp), Ex H H' → Dd K H' v (.str (markT a b n)) → Q v H' := kQ
    cases g with
    | @cons v _ _ _ g1 g2 =>
    cases g2
    refine ⟨_, pss_cons (ps_asg (pv 0) (pg_tup rfl (pgs_cons (pg_name (i := 1) scMText.nd rfl (Or.inl rfl)) (pgs_cons (pg_name (i := 2) scMText.nd rfl (Or.inl rfl)) (pgs_cons (pg_name (i := 3) scMText.nd rfl (Or.inl rfl)) pgs_nil)))))
      (pss_cons (ps_if (pt_cmpR op_eq (pv 2) pe_str (nomark _)) (pss_one (ps_ret (by exact pe_joined (PJ.cons (pe_fmt (pv 1)) (PJ.cons pe_str (PJ.cons (pe_fmt (pv 3)) PJ.nil)))))) pss_nil)
      (pss_one (ps_ret (by exact pe_joined (PJ.cons (pe_fmt (pv 1)) (PJ.cons pe_str (PJ.cons (pe_fmt (pv 2)) (PJ.cons pe_str (PJ.cons (pe_fmt (pv 3)) PJ.nil))))))))), ?_⟩
    have ln := num_len n1 n2
    have lg := num_log n1 n2
    refine q_asgT3 (ed_var rfl g1) fun va vb vc H1 e1 ga gb gc => ?_
    cases ga
    cases gb
    cases gc
    refine q_when (b := decide (b = "")) (et_is (et_test (ev_op (ev_var rfl) ev_c (rv_eq rfl))) decStr) (fun hb H2 e2 => ?_) (fun hb H2 e2 => ?_)
    · refine s_retD (K := K) (ed_str (ev_js3 (ev_fmtS (ev_var rfl) (by omega)) ev_c (ev_fmtI (ev_var rfl) lg) (by rw [show Str.length "." = 1 from rfl]; omega))) fun u H3 e3 gu => kQ u H3 (e1.trans (e2.trans e3)) ?_
      unfold markT
      rw [if_pos (of_decide_eq_true hb)]
      exact gu
    · refine s_retD (K := K) (ed_str (ev_js5 (ev_fmtS (ev_var rfl) (by omega)) ev_c (ev_fmtS (ev_var rfl) (by omega)) ev_c (ev_fmtI (ev_var rfl) lg) (by rw [show Str.length "." = 1 from rfl]; omega))) fun u H3 e3 gu => kQ u H3 (e1.trans (e2.trans e3)) ?_
      unfold markT
      rw [if_neg (of_decide_eq_false hb)]
      exact gu
end
end K03
set_option maxHeartbeats 4000000
namespace K03
open PySem L2 Evl My
mutual
theorem dp_of {K : PySem.W.Frag} {H : Hp} : ∀ (d : PyData) (v : V), noList d = true → Dd K H v d → Dp K H v d
  | .none, _, _, g => by
    cases g
    exact .non
  | .bool b, _, _, g => by
    cases g
    exact .bl b
  | .int i, _, _, g => by
    cases g
    exact .int i
  | .str x, _, _, g => by
    cases g
    exact .str x
  | .tuple ds, _, n, g => by
    cases g with
    | tup hs ha => exact .tup hs (dps_of ds _ n ha)
  | .list _, _, n, _ => by cases n
  | .dict _, _, n, _ => by cases n
theorem dps_of {K : PySem.W.Frag} {H : Hp} : ∀ (ds : List PyData) (vs : List V), noLists ds = true → Dds K H vs ds → DpAll K H vs ds
  | [], _, _, g => by
    cases g
    exact .nil
  | d :: ds, _, n, g => by
    cases g with
    | cons g1 g2 =>
      have n2 : (noList d && noLists ds) = true := n
      rw [Bool.and_eq_true] at n2
      exact .cons (dp_of d _ n2.1 g1) (dps_of ds _ n2.2 g2)
end
theorem let_mem : ∀ c : Nat, c ∈ LET.cps.toList → 97 ≤ c ∧ c ≤ 122 := by
  have e : LET.cps.toList = [97, 98, 99, 100, 101, 102, 103, 104, 105, 106, 107, 108, 109, 110, 111, 112, 113, 114, 115, 116, 117, 118, 119, 120, 121, 122] := by decide +kernel
  rw [e]
  intro c h
  simp at h
  omega
/-- a text of small letters -/
def Low (s : Str) : Prop := ∀ c ∈ s.cps.toList, 97 ≤ c ∧ c ≤ 122
theorem low_of {s : Str} (h : wordD (.str s) = true) : Low s := by
  unfold wordD at h
  rw [Bool.and_eq_true] at h
  have h3 : (s.cps.toList.all fun c => decide (c ∈ LET.cps.toList)) = true := h.2
  rw [List.all_eq_true] at h3
  exact fun c hc => let_mem c (of_decide_eq_true (h3 c hc))
theorem low_empty : Low "" := fun c hc => by
  have e : (Str.ofString "").cps.toList = [] := by decide +kernel
  rw [e] at hc
  cases hc
theorem low_ok {s : Str} (h : Low s) : PyData.strOk s = true := by
  unfold PyData.strOk
  rw [← Array.all_toList, List.all_eq_true]
  exact fun c hc => decide_eq_true (by have := h c hc; omega)
/-- what a mark is -/
structure IsMark (d : PyData) (a b : Str) (n : Int) : Prop where
  eq : d = .tuple [.str a, .str b, .int n]
  la : a.length ≤ 8
  lb : b.length ≤ 8
  n1 : 1 ≤ n
  n2 : n ≤ 1000000000000000000
  wa : Low a
  wb : Low b
theorem mark_is2 {d : PyData} (h : markD d = true) : ∃ a b n, IsMark d a b n := by
  obtain ⟨a, b, n, rfl, la, lb, n1, n2⟩ := mark_is h
  have h2 : (wordD (.str a) && srcD (.str b) && rangeD (.int n)) = true := h
  rw [Bool.and_eq_true, Bool.and_eq_true] at h2
  refine ⟨a, b, n, rfl, la, lb, n1, n2, low_of h2.1.1, ?_⟩
  have hb := h2.1.2
  unfold srcD at hb
  rw [Bool.and_eq_true, Bool.or_eq_true] at hb
  rcases hb.2 with z | z
  · have e : b = "" := of_decide_eq_true z
    rw [e]
    exact low_empty
  · exact low_of z
theorem mark_noList {d : PyData} (h : markD d = true) : noList d = true := by
  obtain ⟨a, b, n, rfl, _⟩ := mark_is h
  rfl
theorem mark_lay {d : PyData} (h : markD d = true) : d.canLay0 = true ∧ d.depth ≤ 1 := by
  obtain ⟨a, b, n, m⟩ := mark_is2 h
  rw [m.eq]
  refine ⟨?_, Nat.le_refl 1⟩
  show (PyData.strOk a && (PyData.strOk b && (true && true))) = true
  rw [low_ok m.wa, low_ok m.wb]
  rfl
theorem lays_of : ∀ {ds : List PyData}, (∀ d ∈ ds, d.canLay0 = true ∧ d.depth ≤ 1) → PyData.canLayAll0 ds = true ∧ PyData.depthAll ds ≤ 1
  | [], _ => ⟨rfl, Nat.zero_le _⟩
  | d :: ds, h => by
    have h1 := h d (List.mem_cons_self ..)
    have h2 := lays_of fun e m => h e (List.mem_cons_of_mem _ m)
    refine ⟨?_, ?_⟩
    · show (d.canLay0 && PyData.canLayAll0 ds) = true
      rw [h1.1, h2.1]
      rfl
    · show max d.depth (PyData.depthAll ds) ≤ 1
      have := h1.2
      have := h2.2
      omega
theorem shaped_tup {ds : List PyData} (h : ∀ d ∈ ds, d.canLay0 = true ∧ d.depth ≤ 1) : SeqAt.shaped (.tuple ds) = true := by
  have h1 := lays_of h
  show (PyData.canLayAll0 ds && decide (PyData.depthAll ds + 1 ≤ 64)) = true
  rw [h1.1, decide_eq_true (by omega)]
  rfl
theorem shaped_lst {ds : List PyData} (h : ∀ d ∈ ds, d.canLay0 = true ∧ d.depth ≤ 1) : SeqAt.shaped (.list ds) = true := shaped_tup h
theorem name_lays {ds : List PyData} (h : nameD (.tuple ds) = true) : ∀ d ∈ ds, d.canLay0 = true ∧ d.depth ≤ 1 := fun d m => mark_lay (List.all_eq_true.mp (show ds.all markD = true from h) d m)
theorem wm_or (s : Str) : wmD s = .none ∨ markD (wmD s) = true := by
  have k : ∀ a b n, mkD a b n = .none ∨ markD (mkD a b n) = true := fun a b n => by
    unfold mkD
    split
    · rename_i h
      exact .inr h
    · exact .inl rfl
  unfold wmD
  split
  · split
    · exact .inl rfl
    · exact k _ _ _
  · exact k _ _ _
  · exact .inl rfl
theorem wm_noList (s : Str) : noList (wmD s) = true := by
  rcases wm_or s with h | h
  · rw [h]
    rfl
  · exact mark_noList h
theorem wm_lay (s : Str) : (wmD s).canLay0 = true ∧ (wmD s).depth ≤ 1 := by
  rcases wm_or s with h | h
  · rw [h]
    exact ⟨rfl, Nat.zero_le _⟩
  · exact mark_lay h
def isNoneD : PyData → Bool
  | .none => true
  | _ => false
theorem eqv_none (d : PyData) : PyData.eqv d .none = isNoneD d := by cases d <;> rfl
/-- a def that raises or answers -/
def spRz (K : PySem.W.Frag) (C : Addr) (F : PyData → Option PyData) : Sp := fun vs H Q E => ∃ v d, vs = [v] ∧ Dd K H v d ∧ small d = true ∧
  (∀ r, F d = some r → ∀ u H', Ex H H' → Dd K H' u r → Q u H') ∧ (F d = none → ∀ dd H', Ex H H' → H' dd = some (.xd [("value", v)]) → E (.ref C) (some dd) H')
def nameTD : PyData → Str
  | .tuple [] => "/"
  | .tuple ds => Txt.join PLUS (ds.map markTD)
  | _ => Str.empty
def nameF (d : PyData) : Option PyData := if nameD d = true then some (.str (nameTD d)) else none
def marksD (s : Str) : List PyData := (Txt.split s PLUS).map wmD
def parseS (s : Str) : Option PyData := if s = "/" then some (.tuple []) else if (marksD s).any isNoneD = true then none else some (.tuple (marksD s))
def parseF : PyData → Option PyData
  | .str s => parseS s
  | _ => none
section
variable {K : PySem.W.Frag} {σ : L2.St} {H : Hp} {te : TE} {v : V} {C : Addr} {f : Str}
/-- an own error with one field, made to be raised -/
theorem mkO1 {Q : XK} (h : Ev te σ H v) (k : ∀ d H', Ex H H' → H' d = some (.xd [(f, v)]) → Q (.ref C) (some d) H') : tMkO C (spOne C f) [] (tCons te tNil) σ H Q :=
  h H (Ex.refl H) _ fun H2 e2 => ⟨(by decide : 1 ≤ 1000), fun a ha => ⟨a, v, rfl, upd_same, fun dx n ne => ⟨rfl, dx, [(f, v)], by rw [upd_ne (Ne.symm ne), upd_same], upd_same, by rw [upd_ne ne] at n; exact n,
    k dx _ (fun b o hb => by
      rw [upd_ne ne] at n
      have hb2 := e2 b o hb
      have n1 : b ≠ dx := ne_of_none hb2 n
      have n2 : b ≠ a := ne_of_none hb2 ha
      rw [upd_ne n1, del_ne n2, upd_ne n1, upd_ne n2, upd_ne n2]
      exact hb2) upd_same⟩⟩⟩
end
end K03
set_option maxHeartbeats 4000000
namespace K03
open PySem L2 Evl My
abbrev sPool : Stmt := top 21
abbrev sTake : Stmt := top 22
section
variable {σ : L2.St} {H : Hp} {ta tb te : TE} {i j : Int} {K : PySem.W.Frag}
theorem evAdd (ha : Ev ta σ H (.int i)) (hb : Ev tb σ H (.int j)) : Ev (tOp (rI0 fun i j => .int (i + j)) ta tb) σ H (.int (i + j)) := ev_op ha hb rv_I0
theorem evMul (ha : Ev ta σ H (.int i)) (hb : Ev tb σ H (.int j)) (h : CMul i j) : Ev (tOp (rI CMul fun i j => .int (i * j)) ta tb) σ H (.int (i * j)) := ev_op ha hb (rv_I h)
theorem evMod (ha : Ev ta σ H (.int i)) (hb : Ev tb σ H (.int j)) (h : 0 < j) : Ev (tOp (rI (fun _ j => 0 < j) fun i j => .int (i % j)) ta tb) σ H (.int (i % j)) := ev_op ha hb (rv_I h)
theorem evDiv (ha : Ev ta σ H (.int i)) (hb : Ev tb σ H (.int j)) (h : CDiv i j) : Ev (tOp (rI CDiv fun i j => .int (i / j)) ta tb) σ H (.int (i / j)) := ev_op ha hb (rv_I h)
theorem evPow (ha : Ev ta σ H (.int i)) (hb : Ev tb σ H (.int j)) (h : CPow i j) : Ev (tOp (rI CPow fun i j => .int (i ^ j.toNat)) ta tb) σ H (.int (i ^ j.toNat)) := ev_op ha hb (rv_I h)
theorem etLt (ha : Ev ta σ H (.int i)) (hb : Ev tb σ H (.int j)) : EvT (tTest (tOp (rI0 fun i j => .bl (decide (i < j))) ta tb)) σ H (decide (i < j)) := et_test (ev_op ha hb rv_I0)
theorem etGt (ha : Ev ta σ H (.int i)) (hb : Ev tb σ H (.int j)) : EvT (tTest (tOp (rI0 fun i j => .bl (decide (j < i))) ta tb)) σ H (decide (j < i)) := et_test (ev_op ha hb rv_I0)
end
/-- the pool of a cell: two numbers, the second one small -/
def spPool (K : PySem.W.Frag) : Sp := fun vs H Q _ => ∃ (a : Addr) (ns : List Int) (k : Nat), vs = [.ref a, .int (k : Int)] ∧ SqL K H a (ns.map V.int) ∧ ns.length ≤ 63 ∧ k ≤ 63 ∧
  ∀ p c z H', H p = none → Ex H H' → H' p = some (.lst [.int c, .int z]) → 0 ≤ c → 0 ≤ z → z < 2147483648 → Q (.ref p) H'
/-- a draw: the pool turns, the number lies below sides -/
def spTake : Sp := fun vs H Q _ => ∃ (p : Addr) (c z sides : Int), vs = [.ref p, .int sides] ∧ H p = some (.lst [.int c, .int z]) ∧ 0 ≤ c ∧ 0 ≤ z ∧ z < 2147483648 ∧ 0 < sides ∧ sides < 1073741824 ∧
  ∀ n c' z', 0 ≤ n → n < sides → 0 ≤ c' → 0 ≤ z' → z' < 2147483648 → Q (.int n) (upd H p (.lst [.int c', .int z']))
section
variable {P : Program} {w : World} {K : PySem.W.Frag} {mg : Str → Option Value} {base : Heap} {f : Addr} {fd : FuncData}
theorem scPool : FnScope ["_law_script", "_law_k", "_law_cell", "_law_seed"] ["_law_script", "_law_k"] (defScope sPool) := ⟨rfl, rfl, rfl, by decide +kernel, rfl, by decide +kernel, by decide +kernel⟩
theorem ok_pool (F : Fun K "_law_pool" "_law_pool" sPool f fd) (T : mg "len" = none) : FnOk P w K mg base CX0 1 f fd ["_law_script", "_law_k"] (spPool K) := by
  refine F.ok scPool (fun vs H Q E h => ?_) (fun cdv A outer s H vs Q E hr h => ?_)
  · obtain ⟨a, ns, k, rfl, _⟩ := h
    rfl
  · obtain ⟨a, ns, k, rfl, hS, hlen, k63, kQ⟩ := h
    have hk : (0 : Int) ≤ (k : Int) ∧ (k : Int) ≤ 63 := ⟨by omega, by omega⟩
    refine ⟨_, pss_cons (ps_set (i := 2) scPool.nd rfl (Or.inl rfl) pe_int)
      (pss_cut (ps_if (pt_cmpR op_lt (pv 1) (pe_callB call_len_seq (by rfl) T PySem.boot_len (pa_cons (pv 0) pa_nil)) (nomark _))
        (pss_one (ps_set (i := 2) scPool.nd rfl (Or.inl rfl) (pe_ix ix_list (pv 0) (pv 1) (fun _ _ => rfl)))) pss_nil)
      (pss_cons (ps_set (i := 3) scPool.nd rfl (Or.inl rfl) (pe_op op_mod (pe_op op_mul (pe_op op_add (pe_op op_add (pe_op op_mod (pv 2) pe_int) (pe_op op_mul (pe_op op_mul pe_int (pv 1)) (pv 1))) pe_int) pe_int) pe_int))
      (pss_cut (ps_if (pt_cmpR op_lt (pv 2) (pe_op op_pow pe_int pe_int) (nomark _)) (pss_one (ps_set (i := 2) scPool.nd rfl (Or.inl rfl) pe_int)) pss_nil)
      (pss_one (ps_ret (pe_lst (pa_cons (pv 2) (pa_cons (pe_op op_add (pe_op op_mod (pe_op op_mul (pv 3) (pv 3)) pe_int) pe_int) pa_nil)))))))), ?_⟩
    refine q_asg ev_c fun H1 e1 => ?_
    refine q_cut (M := fun σ' H' => ∃ c : Int, σ' = [some (.ref a), some (.int (k : Int)), some (.int c), none] ∧ Ex H H') ?_ ?_
    · refine s_when (etLt (ev_var rfl) (ev_len (ev_var rfl) (ex_l e1 hS))) (fun hb H2 e2 => ?_) (fun hb H2 e2 => ⟨0, rfl, e1.trans e2⟩)
      have lt : k < ns.length := by
        have q := of_decide_eq_true hb
        rw [List.length_map] at q
        omega
      have get : atI (ns.map V.int) (k : Int) = some (V.int ns[k]) := by
        refine atI_nat ?_
        rw [List.getElem?_map, List.getElem?_eq_getElem lt]
        rfl
      exact s_asg (ev_op (ev_var rfl) (ev_var rfl) (rv_ixL (ex_l (e1.trans e2) hS) get)) fun H3 e3 => ⟨ns[k], rfl, (e1.trans e2).trans e3⟩
    · rintro σ' H2 ⟨c, rfl, e2⟩
      have seed : ∀ y : Int, 0 ≤ y % 2147483647 ∧ y % 2147483647 < 2147483648 := fun y => ⟨Int.emod_nonneg y (by decide), by have := Int.emod_lt_of_pos y (show (0 : Int) < 2147483647 by decide); omega⟩
      refine q_asg (evMod (evMul (evAdd (evAdd (evMod (ev_var rfl) ev_c (by decide)) (evMul (evMul ev_c (ev_var rfl) (Or.inl (by decide))) (ev_var rfl) (Or.inl ⟨by omega, by omega⟩))) ev_c) ev_c (Or.inr (by decide))) ev_c (by decide)) fun H3 e3 => ?_
      generalize hx : ((c % 2147483629 + 7919 * (k : Int) * (k : Int) + 13) * 48271) % 2147483647 = x
      have x01 : 0 ≤ x ∧ x < 2147483648 := by
        rw [← hx]
        exact seed _
      refine q_cut (M := fun σ' H' => ∃ c : Int, 0 ≤ c ∧ σ' = [some (.ref a), some (.int (k : Int)), some (.int c), some (.int x)] ∧ Ex H H') ?_ ?_
      · refine s_when (etLt (ev_var rfl) (evPow ev_c ev_c ⟨by decide, by decide, by decide⟩)) (fun hb H4 e4 => ?_) (fun hb H4 e4 => ?_)
        · exact s_asg ev_c fun H5 e5 => ⟨0, by omega, rfl, ((e2.trans e3).trans e4).trans e5⟩
        · refine ⟨c, ?_, rfl, (e2.trans e3).trans e4⟩
          have q := of_decide_eq_false hb
          have big : (0 : Int) ≤ 10 ^ (18 : Int).toNat := by decide
          omega
      · rintro σ'' H4 ⟨c', c0, rfl, e4⟩
        refine s_retL (el_lst (ea_cons (ev_var rfl) (ea_cons (evAdd (evMod (evMul (ev_var rfl) (ev_var rfl) (Or.inl ⟨by omega, by omega⟩)) ev_c (by decide)) ev_c) ea_nil)) (by simp)) fun p H5 hp e5 h5 => ?_
        exact kQ p _ _ H5 (fresh_back e4 hp) (e4.trans e5) h5 c0 (by have := Int.emod_nonneg (x * x) (show (2147483587 : Int) ≠ 0 by decide); omega)
          (by have := Int.emod_lt_of_pos (x * x) (show (0 : Int) < 2147483587 by decide); omega)

theorem scTake : FnScope ["_law_pool_here", "_law_sides", "_law_found"] ["_law_pool_here", "_law_sides"] (defScope sTake) := ⟨rfl, rfl, rfl, by decide +kernel, rfl, by decide +kernel, by decide +kernel⟩
theorem ok_take (F : Fun K "_law_take" "_law_take" sTake f fd) (T : mg "len" = none) : FnOk P w K mg base CX0 1 f fd ["_law_pool_here", "_law_sides"] spTake := by
  refine F.ok scTake (fun vs H Q E h => ?_) (fun cdv A outer s H vs Q E hr h => ?_)
  · obtain ⟨p, c, z, sides, rfl, _⟩ := h
    rfl
  · obtain ⟨p, c, z, sides, rfl, hp, c0, z0, z1, s0, s1, kQ⟩ := h
    have hL := fun {x y : Int} {H' : Hp} (h : H' p = some (.lst [.int x, .int y])) => (SqL.of h : SqL K H' p [.int x, .int y])
    refine ⟨_, pss_cons (ps_if (pt_cmpR op_gt (pe_ix ix_list (pv 0) pe_int (fun _ _ => rfl)) pe_int (nomark _))
        (pss_cons (ps_set (i := 2) scTake.nd rfl (Or.inl rfl) (pe_op op_mod (pe_ix ix_list (pv 0) pe_int (fun _ _ => rfl)) (pv 1)))
        (pss_cons (ps_asg (pe_op op_fdiv (pe_ix ix_list (pv 0) pe_int (fun _ _ => rfl)) (pv 1)) (pg_sub (pv 0) pe_int set_list))
        (pss_one (ps_ret (pv 2))))) pss_nil)
      (pss_cons (ps_asg (pe_op op_mod (pe_op op_add (pe_op op_mul (pe_ix ix_list (pv 0) pe_int (fun _ _ => rfl)) pe_int) pe_int) pe_int) (pg_sub (pv 0) pe_int set_list))
      (pss_one (ps_ret (pe_op op_mod (pe_op op_fdiv (pe_op op_mod (pe_op op_mul (pe_ix ix_list (pv 0) pe_int (fun _ _ => rfl)) (pe_ix ix_list (pv 0) pe_int (fun _ _ => rfl))) pe_int) pe_int) (pv 1))))), ?_⟩
    refine ⟨_, rfl, p, [.int c, .int z], 0, .int c, rfl, rfl, hL hp, rfl, c, 0, rfl, rfl, _, rfl, ?_⟩
    refine ite2 (fun hc => ?_) (fun hc => ?_)
    · refine ⟨_, rfl, p, [.int c, .int z], 0, .int c, rfl, rfl, hL hp, rfl, _, rfl, c, sides, rfl, rfl, s0, ?_⟩
      refine ⟨_, rfl, p, [.int c, .int z], 0, .int c, rfl, rfl, hL hp, rfl, _, rfl, c, sides, rfl, rfl, ⟨s0, s1⟩, ?_⟩
      refine ⟨_, rfl, p, [.int c, .int z], 0, 0, rfl, rfl, hp, rfl, _, rfl, ?_⟩
      exact kQ _ _ _ (Int.emod_nonneg c (by omega)) (Int.emod_lt_of_pos c s0) (Int.ediv_nonneg c0 (by omega)) z0 z1
    · refine ⟨_, rfl, p, [.int c, .int z], 1, .int z, rfl, rfl, hL hp, rfl, z, 48271, rfl, rfl, Or.inr (by decide), _, 11, rfl, rfl, _, 2147483647, rfl, rfl, (by show (0 : Int) < 2147483647; decide), ?_⟩
      refine ⟨_, rfl, p, [.int c, .int z], 1, 1, rfl, rfl, hp, rfl, ?_⟩
      have z01 : 0 ≤ (z * 48271 + 11) % 2147483647 ∧ (z * 48271 + 11) % 2147483647 < 2147483647 := ⟨Int.emod_nonneg _ (by decide), Int.emod_lt_of_pos _ (by decide)⟩
      have hp' : upd H p (.lst ([V.int c, V.int z].set 1 ((fun i j => V.int (i % j)) (z * 48271 + 11) 2147483647))) p = some (.lst [.int c, .int ((z * 48271 + 11) % 2147483647)]) := upd_same
      refine ⟨_, rfl, p, _, 1, .int ((z * 48271 + 11) % 2147483647), rfl, rfl, hL hp', rfl, _, rfl, p, _, 1, .int ((z * 48271 + 11) % 2147483647), rfl, rfl, hL hp', rfl, _, _, rfl, rfl, Or.inl ⟨by omega, by omega⟩, _, 2147483629, rfl, rfl, (by show (0 : Int) < 2147483629; decide), _, 64, rfl, rfl, ⟨by decide, by decide⟩, _, rfl, _, sides, rfl, rfl, s0, ?_⟩
      exact kQ _ _ _ (Int.emod_nonneg _ (by omega)) (Int.emod_lt_of_pos _ s0) c0 z01.1 (by omega)
end
end K03
set_option maxHeartbeats 4000000
namespace K03
open PySem L2 Evl My
/-- the error's class, its __init__ -/
structure InvN (P : Program) (w : World) (K : PySem.W.Frag) (mg : Str → Option Value) (base : Heap) (C : Addr) : Prop where
  ex : ∃ (fI : Addr) (fd : FuncData), OexC K C ∧ PySem.W.findIn K (.ref C) "__init__" = some (some (.ref fI)) ∧ PySem.W.typeIn K (.ref fI) = some (.type "function") ∧ FnOk P w K mg base CX0 1 fI fd ["self", "value"] (spOne C "value") ∧ Binds K fd ["self", "value"] []
  g : mg "InvalidName" = some (.ref C)
theorem pmk_inv {X : Cx} {C : Addr} {e : Expr} {te : TE} {p pos : Pos} (V : InvN X.prog X.w X.K X.mg X.base C) (hr : Room 2 X.A) (hg : Gl X "InvalidName") (he : PE X e te) (hs : starEach [e] X.env = (false, eval e X.env) :: starEach [] X.env := by rfl) :
    PMk X (.Call (.Name "InvalidName" p) [e] [] pos) (tMkO C (spOne C "value") [] (tCons te tNil)) := by
  obtain ⟨fI, fd, T, iC, tI, F, b⟩ := V.ex
  refine pmk_oex T iC tI F hr b .nil passN hg V.g (pa_cons he pa_nil hs) (by decide) hs ?_
  rfl
section
variable {K : PySem.W.Frag} {σ : L2.St} {H : Hp} {ta te tb : TE}
theorem ev_joinD {a : Str} {ys : List Str} (ha : Ev ta σ H (.str a)) (h : EvDL K te σ H (ys.map PyData.str)) (hz : (ys.map (·.length)).sum + ys.length * a.length ≤ 16777216) :
    Ev (tM1 (fun x xs H Q => ∃ a p, ∃ ys : List Str, x = .str a ∧ xs = [.ref p] ∧ (SqL K H p (ys.map V.str) ∨ SqT K H p (ys.map V.str)) ∧ (ys.map (·.length)).sum + ys.length * a.length ≤ 16777216 ∧ Q (.str (Txt.join a ys)) H) ta te) σ H (.str (Txt.join a ys)) := fun H1 e Q q =>
  ha H1 e _ fun H2 e2 => ⟨⟨a, rfl⟩, h H2 (e.trans e2) _ fun p xs H3 hp e3 hx g => ⟨a, p, ys, rfl, rfl, .inl (by rw [← g.txts]; exact sq_of hx), hz, q H3 (e2.trans e3)⟩⟩
theorem ed_tupleL {ds : List PyData} {p : Addr} {xs : List V} (h : Ev te σ H (.ref p)) (hx : SqL K H p xs) (g : Dds K H xs ds) :
    EvD K (tCB (fun xs H Q => ∃ p ys, xs = [.ref p] ∧ ((SqL K H p ys ∧ ∀ l, H l = none → Q (.ref l) (upd H l (.tup ys))) ∨ (SqT K H p ys ∧ Q (.ref p) H))) (tCons te tNil)) σ H (.tuple ds) := fun H1 e Q q =>
  h H1 e _ fun H2 e2 => ⟨p, xs, rfl, .inl ⟨ex_l (e.trans e2) hx, fun l hl => q (.ref l) _ (e2.trans (Ex.new hl)) (.tup (st_of upd_same) (Dds.ext ((e.trans e2).trans (Ex.new hl)) _ _ g))⟩⟩
end
theorem sum_le : ∀ (l : List Nat) (k : Nat), (∀ x ∈ l, x ≤ k) → l.sum ≤ l.length * k
  | [], k, _ => Nat.zero_le _
  | x :: l, k, h => by
    have h1 := h x (List.mem_cons_self ..)
    have h2 := sum_le l k fun y m => h y (List.mem_cons_of_mem _ m)
    rw [List.sum_cons, List.length_cons, Nat.succ_mul]
    omega
theorem markT_len {d : PyData} (h : markD d = true) : (markTD d).length ≤ 50 := by
  obtain ⟨a, b, n, rfl, la, lb, n1, n2⟩ := mark_is h
  have ln := num_len n1 n2
  show (markT a b n).length ≤ 50
  unfold markT
  split <;> simp only [PySem.Str.length_append, show Str.empty.length = 0 from rfl, show Str.length "." = 1 from rfl] <;> omega
section
variable {P : Program} {w : World} {K : PySem.W.Frag} {mg : Str → Option Value} {base : Heap} {f C : Addr} {fd : FuncData}
theorem scNText : FnScope ["name", "mark"] ["name"] (defScope sNText) := ⟨rfl, rfl, rfl, by decide +kernel, rfl, by decide +kernel, by decide +kernel⟩
theorem ok_ntext (F : Fun K "name_text" "name_text" sNText f fd) (VN : InvN P w K mg base C) (N : Df P w K mg base "is_name" ["thing"] 4 (spB K nameD)) (M : Df P w K mg base "mark_text" ["mark"] 1 (spMT K)) :
    FnOk P w K mg base (L2.CX P w) 5 f fd ["name"] (spRz K C nameF) := by
  refine F.okX scNText (fun vs H Q E h => ?_) (fun cdv A outer s H vs Q E hr h => ?_)
  · obtain ⟨v, d, rfl, _⟩ := h
    rfl
  · obtain ⟨v, d, rfl, g1, hd, kQ, kE⟩ := h
    have hr1 : Room 1 _ := hr.mono (by decide)
    have hr2 : Room 2 _ := hr.mono (by decide)
    refine ⟨_, pss_cons (ps_if (pt_not (pt_val (pe_df N hr rfl (pa_cons (pv 0) pa_nil)))) (pss_one (ps_raise rfl (takes_of rfl rfl rfl rfl) (pmk_inv VN hr2 rfl (pv 0)))) pss_nil)
      (pss_cons (ps_if (pt_cmpR (op_eqD hr.units) (pv 0) (pe_tup pa_nil) (nomark _)) (pss_one (ps_ret pe_str)) pss_nil)
      (pss_one (ps_ret (pe_join pe_str (pe_lc (own := [("mark", 1)]) (g := gName 1) (tt := tYes) (te := tCall (spMT K) [] E0 (tCons (tVar 1) tNil)) rfl scNText.nd (pi_tup (pv 0)) (blkOk_by (own := [("mark", 1)]) (N := ["name", "mark"]) (sc := defScope sNText) (by decide +kernel))
          (fun _ _ _ _ _ => pg_name (i := 1) scNText.nd rfl (Or.inl rfl)) (fun _ _ _ _ _ => pts_nil) (fun _ _ _ _ _ => pe_df M hr1 rfl (pa_cons (pv 1) pa_nil))))))), ?_⟩
    refine q_when (b := !nameD d) (et_not (et_B (ev_spB (ed_var rfl g1) hd))) (fun hb H1 e1 => ?_) (fun hb H1 e1 => ?_)
    · have nf : nameF d = none := by
        unfold nameF
        cases h : nameD d
        · rfl
        · rw [h] at hb
          cases hb
      exact mkO1 (ev_var rfl) fun dd H2 e2 hdd => kE nf dd H2 (e1.trans e2) hdd
    · have hn := notF hb
      have g2 := Dd.ext e1 _ _ g1
      have nf : nameF d = some (.str (nameTD d)) := by
        unfold nameF
        rw [if_pos hn]
      match d, hn with
      | .tuple ds, hn =>
        have hs := small_tup hd
        have hm : ∀ x ∈ ds, markD x = true := fun x m => List.all_eq_true.mp (show ds.all markD = true from hn) x m
        have nl : noList (.tuple ds) = true := noLists_of fun x m => mark_noList (hm x m)
        refine q_when (b := decide (ds = [])) ?_ (fun hb2 H2 e2 => ?_) (fun hb2 H2 e2 => ?_)
        · refine et_is (et_test (ev_opU (xs := []) (ev_var rfl) (eu_tup ea_nil (by simp)) fun p H2 hp e2 => rv_val fun H3 e3 Q q =>
            ⟨.tuple ds, .tuple [], dp_of _ _ nl (Dd.ext (e2.trans e3) _ _ g2), .tup (st_of (e3 _ _ hp)) .nil, shaped_tup (name_lays hn), rfl, q⟩)) ?_
          cases ds <;> rfl
        · refine s_retD (K := K) (ed_str ev_c) fun u H3 e3 gu => kQ _ nf u H3 (e1.trans (e2.trans e3)) ?_
          rw [of_decide_eq_true hb2]
          exact gu
        · have r := edl_lc (K := K) (σ := start ["name", "mark"] [v]) (j := 1) (vs := [1]) (tt := tYes) (te := tCall (spMT K) [] E0 (tCons (tVar 1) tNil)) (fun _ => true) (fun d => .str (markTD d)) (it_T (tl := tVar 0) (ed_var rfl (Dd.ext e2 _ _ g2))) (by omega) (fun _ _ _ => rfl) (fun _ => rfl) (fun _ _ _ _ _ _ => et_yes)
            (fun x d H1 _ m g _ => ed_call (eds_cons (ed_var rfl g) eds_nil) (spD_ok ⟨d, rfl, hm d m⟩ rfl))
          rw [List.filter_eq_self.mpr (fun _ _ => rfl)] at r
          have e : ds.map (fun d => PyData.str (markTD d)) = (ds.map markTD).map PyData.str := by rw [List.map_map]; rfl
          rw [e] at r
          refine s_retD (K := K) (ed_str (ev_joinD (a := PLUS) ev_c r ?_)) fun u H3 e3 gu => kQ _ nf u H3 (e1.trans (e2.trans e3)) ?_
          · have z := sum_le ((ds.map markTD).map (·.length)) 50 fun x m => by
              rw [List.map_map, List.mem_map] at m
              obtain ⟨y, my, rfl⟩ := m
              exact markT_len (hm y my)
            rw [List.length_map, List.length_map] at z
            rw [List.length_map, show PLUS.length = 1 from rfl]
            have := hs.1
            omega
          · match ds, hb2 with
            | x :: xs, _ => exact gu
theorem scParse : FnScope ["text", "marks", "part"] ["text"] (defScope sParse) := ⟨rfl, rfl, rfl, by decide +kernel, rfl, by decide +kernel, by decide +kernel⟩
theorem ok_parse (F : Fun K "parse_name" "parse_name" sParse f fd) (T : Txt mg) (VN : InvN P w K mg base C) (W : Df P w K mg base "written_mark" ["text"] 4 (spS K wmD)) :
    FnOk P w K mg base (L2.CX P w) 5 f fd ["text"] (spRz K C parseF) := by
  refine F.okX scParse (fun vs H Q E h => ?_) (fun cdv A outer s H vs Q E hr h => ?_)
  · obtain ⟨v, d, rfl, _⟩ := h
    rfl
  · obtain ⟨v, d, rfl, g1, hd, kQ, kE⟩ := h
    have hr2 : Room 2 _ := hr.mono (by decide)
    refine ⟨_, pss_cons (ps_if (pt_not (pt_val (pe_callB call_isi (by rfl) T.isn (by decide +kernel) (pa_cons (pv 0) (pa_cons (pe_bltn (v := .ty "str") (by rfl) T.str (by decide +kernel) rfl) pa_nil))))) (pss_one (ps_raise rfl (takes_of rfl rfl rfl rfl) (pmk_inv VN hr2 rfl (pv 0)))) pss_nil)
      (pss_cons (ps_if (pt_cmpR op_eq (pv 0) pe_str (nomark _)) (pss_one (ps_ret (pe_tup pa_nil))) pss_nil)
      (pss_cons (ps_setLc (i := 1) (own := [("part", 2)]) (g := gName 2) (tt := tYes) (te := tCall (spS K wmD) [] E0 (tCons (tVar 2) tNil)) rfl scParse.nd rfl rfl rfl (pi_list (pe_split (pv 0) pe_str)) (blkOk_by (own := [("part", 2)]) (N := ["text", "marks", "part"]) (sc := defScope sParse) (by decide +kernel))
          (fun _ _ _ _ _ => pg_name (i := 2) scParse.nd rfl (Or.inl rfl)) (fun _ _ _ _ _ => pts_nil) (fun _ _ _ _ _ => pe_df W hr rfl (pa_cons (pv 2) pa_nil)))
      (pss_cons (ps_if (pt_cmpR (op_inD (by have h9 := hr.un; show (A.deeper _).units + 65 < cLine; omega)) pe_non (pv 1) rfl) (pss_one (ps_raise rfl (takes_of rfl rfl rfl rfl) (pmk_inv VN hr2 rfl (pv 0)))) pss_nil)
      (pss_one (ps_ret (pe_callTy call_tuple_of (by rfl) T.tuple (by decide +kernel) (pa_cons (pv 1) pa_nil))))))), ?_⟩
    refine q_when (b := !isStr d) (et_not (et_B (ed_isi (ed_var rfl g1) (isStr_kit d)))) (fun hb H1 e1 => ?_) (fun hb H1 e1 => ?_)
    · have nf : parseF d = none := by cases d <;> first | rfl | cases hb
      exact mkO1 (ev_var rfl) fun dd H2 e2 hdd => kE nf dd H2 (e1.trans e2) hdd
    · obtain ⟨z, rfl⟩ := isStr_is (notF hb)
      have hz := small_str hd
      cases g1
      refine q_when (b := decide (z = "/")) (et_is (et_test (ev_op (ev_var rfl) ev_c (rv_eq rfl))) decStr) (fun hb2 H2 e2 => ?_) (fun hb2 H2 e2 => ?_)
      · refine s_retD (ed_tup (K := K) eds_nil (by simp)) fun u H3 e3 gu => kQ (.tuple []) ?_ u H3 (e1.trans (e2.trans e3)) gu
        show parseS z = _
        unfold parseS
        rw [if_pos (of_decide_eq_true hb2)]
      · have hp := plus_small z
        have src : EvDL K (tM1 (fun x xs H Q => ∃ a b, x = .str a ∧ xs = [.str b] ∧ (b.length == 0) = false ∧ a.length + 2 ≤ sizeLine ∧ rNewStrs (Txt.split a b) H Q) (tVar 0) (tC (.str "+"))) (start ["text", "marks", "part"] [V.str z]) H2 ((Txt.split z PLUS).map PyData.str) := fun H3 e3 Q q =>
          el_split (σ := start ["text", "marks", "part"] [V.str z]) (a := z) (b := PLUS) (ev_var rfl) ev_c (by decide +kernel) (by omega) H3 e3 Q fun p H4 np e4 h4 => q p _ H4 np e4 h4 (Dds.strs _)
        have r := edl_lc (K := K) (σ := start ["text", "marks", "part"] [V.str z]) (j := 2) (vs := [2]) (tt := tYes) (te := tCall (spS K wmD) [] E0 (tCons (tVar 2) tNil)) (fun _ => true) (fun d => match d with | .str s => wmD s | _ => .none) (it_NL src)
          (by rw [List.length_map]; omega) (fun d m _ => by
            rw [List.mem_map] at m
            obtain ⟨s, _, rfl⟩ := m
            exact wm_noList s) (fun _ => rfl) (fun _ _ _ _ _ _ => et_yes)
          (fun x d H1 _ m g _ => by
            rw [List.mem_map] at m
            obtain ⟨s, ms, rfl⟩ := m
            cases g
            exact ed_spS (ev_var rfl) (plus_ok hd s ms))
        rw [List.filter_eq_self.mpr (fun _ _ => rfl), List.map_map] at r
        refine q_asgDL (ds := marksD z) r fun p xs H3 np e3 h3 g3 => ?_
        have all3 : ∀ d ∈ marksD z, d.canLay0 = true ∧ d.depth ≤ 1 := fun d m => by
          unfold marksD at m
          rw [List.mem_map] at m
          obtain ⟨s, _, rfl⟩ := m
          exact wm_lay s
        have nls : noLists (marksD z) = true := noLists_of fun d m => by
          unfold marksD at m
          rw [List.mem_map] at m
          obtain ⟨s, _, rfl⟩ := m
          exact wm_noList s
        refine q_when (b := (marksD z).any isNoneD) ?_ (fun hb3 H4 e4 => ?_) (fun hb3 H4 e4 => ?_)
        · refine et_is (et_test (ev_op (z := .bl ((marksD z).any fun y => PyData.eqv y .none)) ev_c (ev_var rfl) (rv_val fun H4 e4 Q q =>
            ⟨.none, marksD z, .non, .lst (sq_of (e4 _ _ h3)) (dps_of _ _ nls (Dds.ext e4 _ _ g3)), rfl, shaped_lst all3, q⟩))) ?_
          congr 1
          funext d
          exact eqv_none d
        · refine mkO1 (ev_var rfl) fun dd H5 e5 hdd => kE ?_ dd H5 (e1.trans (e2.trans (e3.trans (e4.trans e5)))) hdd
          show parseS z = none
          unfold parseS
          rw [if_neg (of_decide_eq_false hb2), if_pos hb3]
        · refine s_retD (ed_tupleL (ds := marksD z) (ev_var rfl) (sq_of (e4 _ _ h3)) (Dds.ext e4 _ _ g3)) fun u H5 e5 gu => kQ (.tuple (marksD z)) ?_ u H5 (e1.trans (e2.trans (e3.trans (e4.trans e5)))) gu
          show parseS z = _
          unfold parseS
          rw [if_neg (of_decide_eq_false hb2), if_neg (by rw [hb3]; exact Bool.false_ne_true)]
end
end K03
set_option maxHeartbeats 4000000
namespace K03
open PySem L2 Evl My
abbrev sLWord : Stmt := top 26
abbrev sLMark : Stmt := top 27
section
variable {K : PySem.W.Frag} {σ : L2.St} {H : Hp} {ta tb te : TE}
theorem ev_niS {c : Nat} {z : Str} (ha : Ev ta σ H (.str ⟨#[c]⟩)) (hb : Ev tb σ H (.str z)) : Ev (tOp rNotInS ta tb) σ H (.bl (!decide (c ∈ z.cps.toList))) :=
  ev_op ha hb (rv_val fun H1 _ Q q => ⟨c, z, rfl, rfl, q⟩)
/-- [sign for sign in text if sign not in z] -/
theorem edl_nosigns {tl : TE} {s z : Str} {j : Nat} {vs : List Nat} {tz : TE} (h : Ev tl σ H (.str s)) (hs : s.length ≤ 10000) (hw : ∀ x, wipe ((wipe σ vs).set j (some x)) vs = wipe σ vs)
    (hj : ∀ x, ((wipe σ vs).set j (some x))[j]? = some (some x)) (hz : ∀ x H1, Ev tz ((wipe σ vs).set j (some x)) H1 (.str z)) :
    EvDL K (tLc (iStr tl) (gName j) (tTest (tOp rNotInS (tVar j) tz)) (tVar j) vs) σ H ((signsD s).filter fun d => !signIn z d) := by
  have len : (signsD s).length ≤ 40000 := by
    have e : (signsD s).length = s.length := by simp [signsD, Str.length]
    omega
  have sg : ∀ {d : PyData}, d ∈ signsD s → ∃ c, d = .str ⟨#[c]⟩ := fun {d} hm => by
    unfold signsD at hm
    rw [List.mem_map] at hm
    obtain ⟨c, _, rfl⟩ := hm
    exact ⟨c, rfl⟩
  have r := edl_lc (K := K) (tt := tTest (tOp rNotInS (tVar j) tz)) (te := tVar j) (fun d => !signIn z d) (fun d => d) (it_S h) len (fun d hm _ => by
    obtain ⟨c, rfl⟩ := sg hm
    rfl) hw (fun x d H1 _ hm g => by
      obtain ⟨c, rfl⟩ := sg hm
      cases g
      exact et_test (ev_niS (ev_var (hj _)) (hz _ _))) (fun x d H1 _ hm g _ => ed_var (hj x) g)
  rw [List.map_id'] at r
  exact r
/-- a new list of data against the empty one -/
theorem ev_eqNil {neg : Bool} {ds : List PyData} (ha : EvDL K ta σ H ds) (nl : noLists ds = true) (sh : SeqAt.shaped (.list ds) = true) : Ev (tOp (rEqD K) ta (tLst tNil)) σ H (.bl (decide (ds = []))) := fun H1 e Q q =>
  ha H1 e _ fun p xs H2 np e2 hx g => ⟨by show 0 ≤ sizeLine; exact Nat.zero_le _, fun r hr => ⟨.list ds, .list [], .lst (sq_of ((Ex.new hr) _ _ hx)) (dps_of _ _ nl (Dds.ext (Ex.new hr) _ _ g)), .lst (sq_of upd_same) .nil, sh, rfl, by
    have z : PyData.eqv (.list ds) (.list []) = decide (ds = []) := by cases ds <;> rfl
    rw [z]
    exact q _ (e2.trans (Ex.new hr))⟩⟩
theorem ev_neNil {ds : List PyData} (ha : EvDL K ta σ H ds) (nl : noLists ds = true) (sh : SeqAt.shaped (.list ds) = true) : Ev (tOp (rNeD K) ta (tLst tNil)) σ H (.bl (!decide (ds = []))) := fun H1 e Q q =>
  ha H1 e _ fun p xs H2 np e2 hx g => ⟨by show 0 ≤ sizeLine; exact Nat.zero_le _, fun r hr => ⟨.list ds, .list [], .lst (sq_of ((Ex.new hr) _ _ hx)) (dps_of _ _ nl (Dds.ext (Ex.new hr) _ _ g)), .lst (sq_of upd_same) .nil, sh, rfl, by
    have z : PyData.eqv (.list ds) (.list []) = decide (ds = []) := by cases ds <;> rfl
    rw [z]
    exact q _ (e2.trans (Ex.new hr))⟩⟩
end
theorem signs_lay {s : Str} (h : PyData.strOk s = true) {p : PyData → Bool} : noLists ((signsD s).filter p) = true ∧ SeqAt.shaped (.list ((signsD s).filter p)) = true := by
  have sg : ∀ d ∈ (signsD s).filter p, ∃ c, c ∈ s.cps.toList ∧ d = .str ⟨#[c]⟩ := fun d hm => by
    have hm := (List.mem_filter.mp hm).1
    unfold signsD at hm
    rw [List.mem_map] at hm
    obtain ⟨c, hc, rfl⟩ := hm
    exact ⟨c, hc, rfl⟩
  refine ⟨noLists_of fun d hm => ?_, shaped_lst fun d hm => ?_⟩
  · obtain ⟨c, _, rfl⟩ := sg d hm
    rfl
  · obtain ⟨c, hc, rfl⟩ := sg d hm
    refine ⟨?_, Nat.zero_le _⟩
    unfold PyData.strOk at h
    rw [← Array.all_toList, List.all_eq_true] at h
    show PyData.strOk ⟨#[c]⟩ = true
    unfold PyData.strOk
    rw [← Array.all_toList, List.all_eq_true]
    intro c' hc'
    rw [List.mem_singleton.mp hc']
    exact h c hc
theorem nosign {s z : Str} : decide (((signsD s).filter fun d => !signIn z d) = []) = allIn z (.str s) := by
  cases h : allIn z (.str s) with
  | true =>
    refine decide_eq_true ?_
    rw [List.filter_eq_nil_iff]
    intro d hm
    unfold signsD at hm
    rw [List.mem_map] at hm
    obtain ⟨c, hc, rfl⟩ := hm
    have h2 : (s.cps.toList.all fun c => decide (c ∈ z.cps.toList)) = true := h
    rw [List.all_eq_true] at h2
    have h3 := h2 c hc
    have e : signIn z (.str ⟨#[c]⟩) = decide (c ∈ z.cps.toList) := rfl
    rw [e, h3]
    exact Bool.false_ne_true
  | false =>
    refine decide_eq_false fun hn => ?_
    rw [List.filter_eq_nil_iff] at hn
    have h2 : (s.cps.toList.all fun c => decide (c ∈ z.cps.toList)) = false := h
    rw [List.all_eq_false] at h2
    obtain ⟨c, hc, h3⟩ := h2
    refine hn (.str ⟨#[c]⟩) ?_ ?_
    · unfold signsD
      exact List.mem_map_of_mem hc
    · have e : signIn z (.str ⟨#[c]⟩) = decide (c ∈ z.cps.toList) := rfl
      rw [e, Bool.not_eq_true' ]
      exact Bool.eq_false_iff.mpr h3
section
variable {P : Program} {w : World} {K : PySem.W.Frag} {mg : Str → Option Value} {base : Heap} {f : Addr} {fd : FuncData}
theorem scLWord : FnScope ["_law_thing", "_law_sign"] ["_law_thing"] (defScope sLWord) := ⟨rfl, rfl, rfl, by decide +kernel, rfl, by decide +kernel, by decide +kernel⟩
theorem ok_lword (F : Fun K "_law_is_word" "_law_is_word" sLWord f fd) (T : Txt mg) : FnOk P w K mg base CX0 1 f fd ["_law_thing"] (spB K wordD) := by
  refine F.ok scLWord (fun vs H Q E h => ?_) (fun cdv A outer s H vs Q E hr h => ?_)
  · obtain ⟨_, g, ⟨d, rfl, _⟩, _⟩ := h
    exact g.len
  · obtain ⟨_, g, ⟨d, rfl, hd⟩, kQ⟩ := h
    have kQ : ∀ (v : V) (H' : Hp), Ex H H' → Dd K H' v (.bool (wordD d)) → Q v H' := kQ
    cases g with
    | @cons v _ _ _ g1 g2 =>
    cases g2
    refine ⟨_, pss_cons (ps_if (PW.pt (pw_or (pt_not (pt_val (pe_callB call_isi (by rfl) T.isn (by decide +kernel) (pa_cons (pv 0) (pa_cons (pe_bltn (v := .ty "str") (by rfl) T.str (by decide +kernel) rfl) pa_nil)))))
        (pw_or (pt_cmpR op_lt (pe_callB call_len (by rfl) T.len (by decide +kernel) (pa_cons (pv 0) pa_nil)) pe_int (nomark _)) (pw_or1 (pt_cmpR op_gt (pe_callB call_len (by rfl) T.len (by decide +kernel) (pa_cons (pv 0) pa_nil)) pe_int (nomark _)))))) (pss_one (ps_ret pe_bl)) pss_nil)
      (pss_one (ps_ret (pe_cmpR (op_eqD hr.units) (pe_lc (own := [("_law_sign", 1)]) (g := gName 1) (tt := tTest (tOp rNotInS (tVar 1) (tC (.str LET)))) (te := tVar 1) rfl scLWord.nd (pi_str (pv 0)) (blkOk_by (own := [("_law_sign", 1)]) (N := ["_law_thing", "_law_sign"]) (sc := defScope sLWord) (by decide +kernel))
          (fun _ _ _ _ _ => pg_name (i := 1) scLWord.nd rfl (Or.inl rfl)) (fun _ _ _ _ _ => pts_one (pt_cmpR op_notInS (pv 1) pe_str rfl)) (fun _ _ _ _ _ => pv 1)) (pe_lst pa_nil) (nomark _)))), ?_⟩
    refine q_when (b := !isStr d || (!lenOk d)) (et_or (et_not (et_B (ed_isi (ed_var rfl g1) (isStr_kit d)))) fun hz => ?_) (fun hb H1 e1 => ?_) (fun hb H1 e1 => ?_)
    · obtain ⟨s, rfl⟩ := isStr_is (notF hz)
      have hl := small_str hd
      cases g1
      refine et_is (et_or (etLt (ed_lenS (K := K) (ev_var rfl) (by omega)) ev_c) fun _ => etGt (ed_lenS (K := K) (ev_var rfl) (by omega)) ev_c) ?_
      show (decide ((s.length : Int) < 1) || decide ((8 : Int) < (s.length : Int))) = !(decide (1 ≤ s.length) && decide (s.length ≤ 8))
      rw [Bool.eq_iff_iff]
      simp
      omega
    · refine s_retD (K := K) (ed_bl ev_c) fun u H2 e2 gu => kQ u H2 (e1.trans e2) ?_
      have z : wordD d = false := by
        unfold wordD
        cases h1 : isStr d <;> cases h2 : lenOk d <;> rw [h1, h2] at hb <;> first | rfl | cases hb
      rw [z]
      exact gu
    · have z1 : isStr d = true := by
        cases h1 : isStr d
        · rw [h1] at hb
          cases hb
        · rfl
      have z2 : lenOk d = true := by
        cases h1 : lenOk d
        · rw [z1, h1] at hb
          cases hb
        · rfl
      obtain ⟨s, rfl⟩ := isStr_is z1
      cases g1
      have sl := signs_lay (okS_ok (show okS s = true from hd)) (p := fun d => !signIn LET d)
      refine s_retD (K := K) (ed_bl (ev_is (ev_eqNil (neg := true) (edl_nosigns (s := s) (z := LET) (ev_var rfl) (small_str hd) (fun _ => rfl) (fun _ => rfl) (fun _ _ => ev_c)) sl.1 sl.2) (by rw [nosign]))) fun u H2 e2 gu => kQ u H2 (e1.trans e2) ?_
      unfold wordD
      rw [z1, z2]
      exact gu
end
end K03
set_option maxHeartbeats 4000000
namespace K03
open PySem L2 Evl My
section
variable {P : Program} {w : World} {K : PySem.W.Frag} {mg : Str → Option Value} {base : Heap} {f : Addr} {fd : FuncData}
theorem pow18 : (10 : Int) ^ (18 : Int).toNat = 1000000000000000000 := by decide
theorem scLMark : FnScope ["_law_thing"] ["_law_thing"] (defScope sLMark) := ⟨rfl, rfl, rfl, by decide +kernel, rfl, by decide +kernel, by decide +kernel⟩
theorem ok_lmark (F : Fun K "_law_is_mark" "_law_is_mark" sLMark f fd) (T : Txt mg) (W : Df P w K mg base "_law_is_word" ["_law_thing"] 1 (spB K wordD)) : FnOk P w K mg base CX0 2 f fd ["_law_thing"] (spB K markD) := by
  refine F.ok scLMark (fun vs H Q E h => ?_) (fun cdv A outer s H vs Q E hr h => ?_)
  · obtain ⟨_, g, ⟨d, rfl, _⟩, _⟩ := h
    exact g.len
  · obtain ⟨_, g, ⟨d, rfl, hd⟩, kQ⟩ := h
    have kQ : ∀ (v : V) (H' : Hp), Ex H H' → Dd K H' v (.bool (markD d)) → Q v H' := kQ
    cases g with
    | @cons v _ _ _ g1 g2 =>
    cases g2
    refine ⟨_, pss_cons (ps_if (PW.pt (pw_or (pt_not (pt_val (pe_callB call_isi (by rfl) T.isn (by decide +kernel) (pa_cons (pv 0) (pa_cons (pe_bltn (v := .ty "tuple") (by rfl) T.tuple (by decide +kernel) rfl) pa_nil)))))
        (pw_or (pt_cmpR op_ne (pe_callB call_len (by rfl) T.len (by decide +kernel) (pa_cons (pv 0) pa_nil)) pe_int (nomark _)) (pw_or1 (pt_not (pt_val (pe_df W hr rfl (pa_cons (pe_ix ix_tup (pv 0) pe_int (fun _ _ => rfl)) pa_nil)))))))) (pss_one (ps_ret pe_bl)) pss_nil)
      (pss_cons (ps_if (PW.pt (pw_or (pt_not (pt_val (pe_callB call_isi (by rfl) T.isn (by decide +kernel) (pa_cons (pe_ix ix_tup (pv 0) pe_int (fun _ _ => rfl)) (pa_cons (pe_bltn (v := .ty "str") (by rfl) T.str (by decide +kernel) rfl) pa_nil)))))
        (pw_or1 (PW.pt (pw_and (pt_cmpR op_ne (pe_ix ix_tup (pv 0) pe_int (fun _ _ => rfl)) pe_str (nomark _)) (pw_and1 (pt_not (pt_val (pe_df W hr rfl (pa_cons (pe_ix ix_tup (pv 0) pe_int (fun _ _ => rfl)) pa_nil)))))))))) (pss_one (ps_ret pe_bl)) pss_nil)
      (pss_one (ps_ret (pe_and (pe_callB call_isi (by rfl) T.isn (by decide +kernel) (pa_cons (pe_ix ix_tup (pv 0) pe_int (fun _ _ => rfl)) (pa_cons (pe_bltn (v := .ty "int") (by rfl) T.int (by decide +kernel) rfl) pa_nil)))
        (pe_and (pe_not (pe_callB call_isi (by rfl) T.isn (by decide +kernel) (pa_cons (pe_ix ix_tup (pv 0) pe_int (fun _ _ => rfl)) (pa_cons (pe_bltn (v := .ty "bool") (by rfl) T.bool (by decide +kernel) rfl) pa_nil))))
          (pe_one (pe_chain op_le op_le pe_int (pe_ix ix_tup (pv 0) pe_int (fun _ _ => rfl)) (pe_op op_pow pe_int pe_int)))))))), ?_⟩
    have no : markD d = false → ∀ H1, Ex H H1 → tRet (tC (.bl false)) { nx := fun _ H' => Q .non H', rt := Q } (start ["_law_thing"] [v]) H1 := fun z H1 e1 =>
      s_retD (K := K) (ed_bl ev_c) fun u H2 e2 gu => kQ u H2 (e1.trans e2) (by
        rw [z]
        exact gu)
    by_cases h3 : (!isTup d || !len3 d) = false
    · obtain ⟨a, b, c, rfl⟩ := is3 h3
      have hs := small_tup hd
      have sa := hs.2 a (by simp)
      have sb := hs.2 b (by simp)
      have at_ : ∀ (j : Nat) (x : PyData), [a, b, c][j]? = some x → ∀ H1, Ex H H1 → EvD K (tOp (rIxT K) (tVar 0) (tC (.int (j : Int)))) (start ["_law_thing"] [v]) H1 x := fun j x hx H1 e1 =>
        ed_ixT (ds := [a, b, c]) (ed_var rfl (Dd.ext e1 _ _ g1)) (fun _ _ => ev_c) hx
      refine q_when (b := !wordD a) (et_is (et_or (et_not (et_B (ed_isi (ed_var rfl g1) (isTup_kit _)))) fun _ => et_or (et_test (ev_op (ed_lenT (ed_var rfl g1)) ev_c (rv_ne rfl))) fun _ => et_not (et_B (ev_spB (at_ 0 a rfl H (Ex.refl _)) sa))) rfl) (fun hb H1 e1 => ?_) (fun hb H1 e1 => ?_)
      · refine no ?_ H1 e1
        have z : wordD a = false := by
          cases h : wordD a
          · rfl
          · rw [h] at hb
            cases hb
        show (wordD a && srcD b && rangeD c) = false
        rw [z]
        rfl
      · have wa := notF hb
        refine q_when (b := !srcD b) (et_is (et_or (b := !emptyD b && !wordD b) (et_not (et_B (ed_isi (at_ 1 b rfl H1 e1) (isStr_kit b)))) fun hz => ?_) (by
            unfold srcD
            cases isStr b <;> cases emptyD b <;> cases wordD b <;> rfl)) (fun hb2 H2 e2 => ?_) (fun hb2 H2 e2 => ?_)
        · obtain ⟨s, rfl⟩ := isStr_is (notF hz)
          refine et_and (et_is (et_test (ev_op (at_ 1 _ rfl H1 e1).str ev_c (rv_ne rfl))) (by rw [decStr]; rfl)) fun _ => et_not (et_B (ev_spB (at_ 1 _ rfl H1 e1) sb))
        · refine no ?_ H2 (e1.trans e2)
          have z : srcD b = false := by
            cases h : srcD b
            · rfl
            · rw [h] at hb2
              cases hb2
          show (wordD a && srcD b && rangeD c) = false
          rw [z, Bool.and_false]
          rfl
        · have sb2 := notF hb2
          have e12 := e1.trans e2
          have fin : Ev (tAndV (tCB (rIsi K) (tCons (tOp (rIxT K) (tVar 0) (tC (.int 2))) (tCons (tC (.ty "int")) tNil))) (tAndV (tNotV (tCB (rIsi K) (tCons (tOp (rIxT K) (tVar 0) (tC (.int 2))) (tCons (tC (.ty "bool")) tNil))))
              (tChain (rI0 fun i j => .bl (decide (i ≤ j))) (rI0 fun i j => .bl (decide (i ≤ j))) (tC (.int 1)) (tOp (rIxT K) (tVar 0) (tC (.int 2))) (tOp (rI CPow fun i j => .int (i ^ j.toNat)) (tC (.int 10)) (tC (.int 18))))))
              (start ["_law_thing"] [v]) H2 (.bl (isInt c && (!isBool c && rangeD c))) := by
            refine ev_andV (ed_isi (at_ 2 c rfl H2 e12) (isInt_kit c)) fun hi => ev_andV (ev_notV (ed_isi (at_ 2 c rfl H2 e12) (isBool_kit c))) fun hj => ?_
            cases c with
            | int i =>
              refine ev_is (ev_chain ev_c (at_ 2 _ rfl H2 e12).int (evPow ev_c ev_c ⟨by decide, by decide, by decide⟩)) ?_
              rw [pow18]
              rfl
            | bool i => cases hj
            | _ => cases hi
          refine s_retD (K := K) (ed_bl fin) fun u H3 e3 gu => kQ u H3 (e12.trans e3) ?_
          have z : (isInt c && (!isBool c && rangeD c)) = markD (.tuple [a, b, c]) := by
            show _ = (wordD a && srcD b && rangeD c)
            rw [wa, sb2]
            cases c <;> rfl
          rw [z] at gu
          exact gu
    · have h3 : (!isTup d || !len3 d) = true := by
        cases h : (!isTup d || !len3 d)
        · exact absurd h h3
        · rfl
      refine q_when (b := true) ?_ (fun _ H1 e1 => no (not3 h3) H1 e1) (fun hb => by cases hb)
      refine et_is (et_or (b := true) (et_not (et_B (ed_isi (ed_var rfl g1) (isTup_kit d)))) fun hz => ?_) (by cases isTup d <;> rfl)
      have ht := notF hz
      match d, ht with
      | .tuple ds, _ =>
        have hl : ¬ ds.length = 3 := fun z => by
          have : (!isTup (.tuple ds) || !len3 (.tuple ds)) = false := by
            show (!true || !decide (ds.length = 3)) = false
            rw [decide_eq_true z]
            rfl
          rw [this] at h3
          cases h3
        refine et_is (et_or (b := true) (et_test (ev_op (ed_lenT (ed_var rfl g1)) ev_c (rv_ne rfl))) fun hn => ?_) (Bool.or_true _)
        exfalso
        have : decide (V.int (ds.length : Int) = V.int 3) = true := notF hn
        rw [show (V.int 3 : V) = V.int ((3 : Nat) : Int) from rfl, decLen] at this
        exact hl (of_decide_eq_true this)
end
end K03
set_option maxHeartbeats 8000000
namespace K03
open PySem L2 Evl My
abbrev sParsed : Stmt := top 28
/-- a part read as the law reads it: the mark is not asked yet -/
def triD (a b c : Str) : PyData := if (decide (c = "") || (decide (19 < c.length) || zero1 c)) = true then .none else if allIn DIG (.str c) = true then .tuple [.str a, .str b, .int (NumText.digitsVal c.cps.toList : Nat)] else .none
def partD (s : Str) : PyData := match Txt.split s DOT with
  | [a, b] => triD a "" b
  | [a, b, c] => if b = "" then .none else triD a b c
  | _ => .none
def partsD (z : Str) : List PyData := (Txt.split z PLUS).map partD
def lawS (z : Str) : PyData := if z = "/" then .tuple [] else if (partsD z).any isNoneD = true then .none else if (partsD z).all markD = true then .tuple (partsD z) else .none
theorem len0 {c : Str} : decide (c = "") = !decide (1 ≤ c.length) := by
  have e : c = "" ↔ c.length = 0 := ⟨fun h => by rw [h]; rfl, fun h => by
    have h2 : c.cps.size = 0 := h
    have h3 : c.cps = #[] := Array.eq_empty_of_size_eq_zero h2
    cases c
    cases h3
    rfl⟩
  rw [Bool.eq_iff_iff, decide_eq_true_iff, Bool.not_eq_true', decide_eq_false_iff_not, e]
  omega
theorem mk_tri (a b c : Str) : mkD a b (numD c) = if markD (triD a b c) = true then triD a b c else .none := by
  unfold mkD numD triD
  have e : (!lenN c || zero1 c) = (decide (c = "") || (decide (19 < c.length) || zero1 c)) := by
    unfold lenN
    rw [len0, Bool.not_and, Bool.or_assoc]
    congr 2
    rw [Bool.eq_iff_iff]
    simp
  rw [e]
  split
  · have h : markD (.tuple [.str a, .str b, .none]) = false := by
      show (wordD (.str a) && srcD (.str b) && rangeD .none) = false
      exact Bool.and_false _
    rw [h]
    rfl
  · split
    · rfl
    · have h : markD (.tuple [.str a, .str b, .none]) = false := by
        show (wordD (.str a) && srcD (.str b) && rangeD .none) = false
        exact Bool.and_false _
      rw [h]
      rfl
theorem wm_part (s : Str) : wmD s = if markD (partD s) = true then partD s else .none := by
  unfold wmD partD
  generalize Txt.split s DOT = l
  have nn : (if markD PyData.none = true then PyData.none else PyData.none) = PyData.none := rfl
  match l with
  | [a, b] => exact mk_tri a "" b
  | [a, b, c] =>
    show (if b = "" then PyData.none else mkD a b (numD c)) = if markD (if b = "" then PyData.none else triD a b c) = true then (if b = "" then PyData.none else triD a b c) else PyData.none
    by_cases hb : b = ""
    · rw [if_pos hb, if_pos hb]
      rfl
    · rw [if_neg hb, if_neg hb]
      exact mk_tri a b c
  | [] => rfl
  | [_] => rfl
  | _ :: _ :: _ :: _ :: _ => rfl
theorem mark_notNone {d : PyData} (h : markD d = true) : isNoneD d = false := by
  obtain ⟨a, b, n, rfl, _⟩ := mark_is h
  rfl
theorem law_is (z : Str) : lawS z = (parseS z).getD .none := by
  unfold lawS parseS
  split
  · rfl
  · have e : marksD z = (partsD z).map fun d => if markD d = true then d else .none := by
      unfold marksD partsD
      rw [List.map_map]
      exact List.map_congr_left fun s _ => wm_part s
    by_cases ha : (partsD z).all markD = true
    · have h1 : marksD z = partsD z := by
        rw [e]
        conv => rhs; rw [← List.map_id (partsD z)]
        exact List.map_congr_left fun d m => if_pos (List.all_eq_true.mp ha d m)
      have h2 : (partsD z).any isNoneD = false := List.any_eq_false.mpr fun d m => by
        rw [mark_notNone (List.all_eq_true.mp ha d m)]
        exact Bool.false_ne_true
      rw [h1, h2, if_neg Bool.false_ne_true, if_pos ha]
      rfl
    · have h3 : (marksD z).any isNoneD = true := by
        have h4 : (partsD z).all markD = false := Bool.eq_false_iff.mpr ha
        rw [List.all_eq_false] at h4
        obtain ⟨d, m, hd⟩ := h4
        rw [e, List.any_eq_true]
        exact ⟨.none, List.mem_map.mpr ⟨d, m, if_neg hd⟩, rfl⟩
      rw [h3, if_neg ha, if_pos rfl]
      split <;> rfl
theorem tri_noList (a b c : Str) : noList (triD a b c) = true := by
  unfold triD
  split
  · rfl
  · split <;> rfl
theorem part_noList (s : Str) : noList (partD s) = true := by
  unfold partD
  split
  · exact tri_noList _ _ _
  · split
    · rfl
    · exact tri_noList _ _ _
  · rfl
end K03
set_option maxHeartbeats 8000000
namespace K03
open PySem L2 Evl My
def NP : List Str := ["_law_text_here", "_law_found", "_law_part", "_law_words", "_law_sign", "_law_one"]
/-- all but what lies at fp stands -/
def But (fp : Addr) (H H' : Hp) : Prop := ∀ b o, b ≠ fp → H b = some o → H' b = some o
theorem But.refl (fp : Addr) (H : Hp) : But fp H H := fun _ _ _ h => h
theorem But.ex {fp : Addr} {H H' H2 : Hp} (b : But fp H H') (e : Ex H' H2) : But fp H H2 := fun a o n h => e a o (b a o n h)
theorem But.upd {fp : Addr} {H H' : Hp} {o : HO} (b : But fp H H') : But fp H (L2.upd H' fp o) := fun a u n h => by
  rw [upd_ne n]
  exact b a u n h
theorem But.of {fp : Addr} {H0 H H' : Hp} (e : Ex H0 H) (n : H0 fp = none) (b : But fp H H') : Ex H0 H' := fun a o h => b a o (ne_of_none h n) (e a o h)
theorem rmark_big {n : Nat} : decide ((19 : Int) < (n : Int)) = decide (19 < n) := decide_eq_decide.mpr (by omega)
theorem zero_c {c : Nat} {r : List Nat} {z : Str} (hc : z.cps.toList = c :: r) : decide (V.str (⟨#[c]⟩ : Str) = V.str "0") = zero1 z := by
  unfold zero1
  rw [hc]
  refine decide_eq_decide.mpr ⟨fun h => ?_, fun h => ?_⟩
  · injection h with h
    have h2 := congrArg (fun x : Str => x.cps.toList) h
    simp only at h2
    rw [show (Str.ofString "0").cps.toList = [48] by decide +kernel] at h2
    simp at h2
    rw [h2]
    rfl
  · simp at h
    rw [h]
    rfl
theorem tri_small {a b c : Str} (ha : okS a = true) (hb : okS b = true) : small (triD a b c) = true ∧ (triD a b c).canLay0 = true ∧ (triD a b c).depth ≤ 1 := by
  unfold triD
  split
  · exact ⟨rfl, rfl, Nat.zero_le _⟩
  · split
    · refine ⟨mark_small ha hb rfl, ?_, Nat.le_refl 1⟩
      show (PyData.strOk a && (PyData.strOk b && (true && true))) = true
      rw [okS_ok ha, okS_ok hb]
      rfl
    · exact ⟨rfl, rfl, Nat.zero_le _⟩
theorem part_small {s : Str} (h : okS s = true) : small (partD s) = true ∧ (partD s).canLay0 = true ∧ (partD s).depth ≤ 1 := by
  have hp := dot_ok h
  unfold partD
  generalize Txt.split s DOT = l at hp
  match l, hp with
  | [a, b], hp => exact tri_small (hp a (by simp)) (by decide +kernel)
  | [a, b, c], hp =>
    show small (if b = "" then PyData.none else triD a b c) = true ∧ (if b = "" then PyData.none else triD a b c).canLay0 = true ∧ (if b = "" then PyData.none else triD a b c).depth ≤ 1
    by_cases hb : b = ""
    · rw [if_pos hb]
      exact ⟨rfl, rfl, Nat.zero_le _⟩
    · rw [if_neg hb]
      exact tri_small (hp a (by simp)) (hp b (by simp))
  | [], _ => exact ⟨rfl, rfl, Nat.zero_le _⟩
  | [_], _ => exact ⟨rfl, rfl, Nat.zero_le _⟩
  | _ :: _ :: _ :: _ :: _, _ => exact ⟨rfl, rfl, Nat.zero_le _⟩
section
variable {K : PySem.W.Frag} {σ : L2.St} {H : Hp} {ta te tb : TE} {D : Ends} {d : PyData}
theorem s_appD {l : Addr} {xs : List V} (hl : H l = some (.lst xs)) (ha : Ev ta σ H (.ref l)) (h : EvD K te σ H d) (hz : xs.length < 100000) (k : ∀ v H1, Ex H H1 → Dd K H1 v d → D.nx σ (upd H1 l (.lst (xs ++ [v])))) :
    tDrop (tBM K "list" rAppend ta (tCons te tNil)) D σ H := ha H (Ex.refl H) _ fun H1 e1 =>
  ⟨Or.inl ⟨rfl, xs, sq_of (e1 l _ hl)⟩, h H1 e1 _ fun v H2 e2 g => ⟨l, xs, v, rfl, rfl, e2 l _ (e1 l _ hl), sz_lt hz, k v H2 (e1.trans e2) g⟩⟩
theorem ed_if {t : TT} {b : Bool} (h : EvT t σ H b) (h1 : b = true → ∀ H1, Ex H H1 → EvD K ta σ H1 d) (h2 : b = false → ∀ H1, Ex H H1 → EvD K tb σ H1 d) : EvD K (tIf t ta tb) σ H d := fun H1 e Q q =>
  h H1 e _ fun H2 e2 => by
    cases hb : b with
    | true =>
      show ta σ H2 Q
      exact h1 hb H2 (e.trans e2) H2 (Ex.refl _) Q fun v H3 e3 g => q v H3 (e2.trans e3) g
    | false =>
      show tb σ H2 Q
      exact h2 hb H2 (e.trans e2) H2 (Ex.refl _) Q fun v H3 e3 g => q v H3 (e2.trans e3) g
end
section
variable {P : Program} {w : World} {K : PySem.W.Frag} {mg : Str → Option Value} {base : Heap} {f : Addr} {fd : FuncData}
theorem scParsed : FnScope NP ["_law_text_here"] (defScope sParsed) := ⟨rfl, rfl, rfl, by decide +kernel, rfl, by decide +kernel, by decide +kernel⟩
theorem ok_parsed (F : Fun K "_law_parsed" "_law_parsed" sParsed f fd) (T : Txt mg) (M : Df P w K mg base "_law_is_mark" ["_law_thing"] 2 (spB K markD)) : FnOk P w K mg base CX0 3 f fd ["_law_text_here"] (spS K lawS) := by
  refine F.ok scParsed (fun vs H Q E h => ?_) (fun cdv A outer s H vs Q E hr h => ?_)
  · obtain ⟨_, g, ⟨d, rfl, _⟩, _⟩ := h
    exact g.len
  · obtain ⟨_, g, ⟨z, rfl, hz⟩, kQ⟩ := h
    have kQ : ∀ (v : V) (H' : Hp), Ex H H' → Dd K H' v (lawS z) → Q v H' := kQ
    cases g with
    | @cons v _ _ _ g1 g2 =>
    cases g2
    cases g1
    refine ⟨_, pss_cons (ps_if (pt_cmpR op_eq (pv 0) pe_str (nomark _)) (pss_one (ps_ret (pe_tup pa_nil))) pss_nil)
      (pss_cons (ps_set (i := 1) scParsed.nd rfl (Or.inl rfl) (pe_lst pa_nil))
      (pss_cons (ps_for PassesOwn.never rfl (pi_list (pe_split (pv 0) pe_str)) (pg_name (i := 2) scParsed.nd rfl (Or.inl rfl))
        (pss_cons (ps_set (i := 3) scParsed.nd rfl (Or.inl rfl) (pe_split (pv 2) pe_str))
        (pss_cut (ps_if (pt_cmpR op_eq (pe_callB call_len (by rfl) T.len (by decide +kernel) (pa_cons (pv 3) pa_nil)) pe_int (nomark _))
            (pss_one (ps_set (i := 3) scParsed.nd rfl (Or.inl rfl) (pe_lst (pa_cons (pe_ix ix_list (pv 3) pe_int (fun _ _ => rfl)) (pa_cons pe_str (pa_cons (pe_ix ix_list (pv 3) pe_int (fun _ _ => rfl)) pa_nil))))))
            (pss_one (ps_if (PW.pt (pw_or (pt_cmpR op_ne (pe_callB call_len (by rfl) T.len (by decide +kernel) (pa_cons (pv 3) pa_nil)) pe_int (nomark _)) (pw_or1 (pt_cmpR op_eq (pe_ix ix_list (pv 3) pe_int (fun _ _ => rfl)) pe_str (nomark _))))) (pss_one (ps_ret pe_non)) pss_nil)))
        (pss_cons (ps_if (PW.pt (pw_or (pt_cmpR op_eq (pe_ix ix_list (pv 3) pe_int (fun _ _ => rfl)) pe_str (nomark _)) (pw_or (pt_cmpR op_gt (pe_callB call_len (by rfl) T.len (by decide +kernel) (pa_cons (pe_ix ix_list (pv 3) pe_int (fun _ _ => rfl)) pa_nil)) pe_int (nomark _))
            (pw_or1 (pt_cmpR op_eq (pe_ix ix_str (pe_ix ix_list (pv 3) pe_int (fun _ _ => rfl)) pe_int (fun _ _ => rfl)) pe_str (nomark _)))))) (pss_one (ps_ret pe_non)) pss_nil)
        (pss_cons (ps_if (pt_cmpR (op_neD hr.units) (pe_lc (own := [("_law_sign", 4)]) (g := gName 4) (tt := tTest (tOp rNotInS (tVar 4) (tC (.str DIG)))) (te := tVar 4) rfl scParsed.nd (pi_str (pe_ix ix_list (pv 3) pe_int (fun _ _ => rfl))) (blkOk_by (own := [("_law_sign", 4)]) (N := NP) (sc := defScope sParsed) (by decide +kernel))
            (fun _ _ _ _ _ => pg_name (i := 4) scParsed.nd rfl (Or.inl rfl)) (fun _ _ _ _ _ => pts_one (pt_cmpR op_notInS (pv 4) pe_str rfl)) (fun _ _ _ _ _ => pv 4)) (pe_lst pa_nil) (nomark _)) (pss_one (ps_ret pe_non)) pss_nil)
        (pss_one (ps_expr (pe_bm PySem.F.plainAttrs_list PySem.F.slot_list_append PySem.F.type_list_append mt_append (pv 1) (pa_cons (pe_tup (pa_cons (pe_ix ix_list (pv 3) pe_int (fun _ _ => rfl)) (pa_cons (pe_ix ix_list (pv 3) pe_int (fun _ _ => rfl)) (pa_cons (pe_callTy call_int_str (by rfl) T.int (by decide +kernel) (pa_cons (pe_ix ix_list (pv 3) pe_int (fun _ _ => rfl)) pa_nil)) pa_nil)))) pa_nil)))))))))
      (pss_one (ps_ret (pe_ifExp (pt_cmpR (op_eqD hr.units) (pe_lc (own := [("_law_one", 5)]) (g := gName 5) (tt := tNot (tB (tCall (spB K markD) [] E0 (tCons (tVar 5) tNil)))) (te := tVar 5) rfl scParsed.nd (pi_list (pv 1)) (blkOk_by (own := [("_law_one", 5)]) (N := NP) (sc := defScope sParsed) (by decide +kernel))
            (fun _ _ _ _ _ => pg_name (i := 5) scParsed.nd rfl (Or.inl rfl)) (fun _ _ _ _ _ => pts_one (pt_not (pt_val (pe_df M hr rfl (pa_cons (pv 5) pa_nil))))) (fun _ _ _ _ _ => pv 5)) (pe_lst pa_nil) (nomark _))
          (pe_callTy call_tuple_of (by rfl) T.tuple (by decide +kernel) (pa_cons (pv 1) pa_nil)) pe_non))))), ?_⟩
    have hzl := okS_len hz
    refine q_when (b := decide (z = "/")) (et_is (et_test (ev_op (ev_var rfl) ev_c (rv_eq rfl))) decStr) (fun hb H1 e1 => ?_) (fun hb H1 e1 => ?_)
    · refine s_retD (ed_tup (K := K) eds_nil (by simp)) fun u H2 e2 gu => kQ u H2 (e1.trans e2) ?_
      unfold lawS
      rw [if_pos (of_decide_eq_true hb)]
      exact gu
    · have nz := of_decide_eq_false hb
      refine q_asgL (el_lst ea_nil (by simp)) fun fp H2 nfp e2 hfp => ?_
      have nfH : H fp = none := fresh_back e1 nfp
      have e12 : Ex H H2 := e1.trans e2
      have hps := plus_small z
      have hpo := plus_ok hz
      have bad : ∀ s, s ∈ Txt.split z PLUS → isNoneD (partD s) = true → ∀ H', But fp H2 H' → Q .non H' := fun s ms hn H' b => by
        have ew : lawS z = .none := by
          unfold lawS
          have h9 : (partsD z).any isNoneD = true := List.any_eq_true.mpr ⟨partD s, by unfold partsD; exact List.mem_map_of_mem ms, hn⟩
          rw [if_neg nz, if_pos h9]
        refine kQ .non H' (b.of e12 nfH) ?_
        rw [ew]
        exact .non
      refine q_forNL (el_split (a := z) (b := PLUS) (ev_var rfl) ev_c (by decide +kernel) (by omega)) (fun p i σ' H' => ∃ o2 o3 acc, σ' = [some (.str z), some (.ref fp), o2, o3, none, none] ∧ But fp H2 H' ∧ p ≠ fp ∧
          H' p = some (.lst ((Txt.split z PLUS).map V.str)) ∧ H' fp = some (.lst acc) ∧ Dds K H' acc ((partsD z).take i) ∧ ∀ d ∈ (partsD z).take i, isNoneD d = false) ?_ ?_ ?_ ?_
      · intro p H3 np e3 h3
        exact ⟨none, none, [], rfl, fun b o _ h => e3 b o h, fun q => (by rw [q, hfp] at np; cases np), h3, e3 _ _ hfp, .nil, fun d m => by cases m⟩
      · rintro p i σ' H' _ ⟨_, _, _, _, _, _, hp, _⟩
        exact sq_of hp
      · rintro p i x σ' H' hx ⟨o2, o3, acc, rfl, but, pne, hp, hf, gs, good⟩
        obtain ⟨s, hs, rfl⟩ : ∃ s, (Txt.split z PLUS)[i]? = some s ∧ x = V.str s := by
          rw [List.getElem?_map] at hx
          cases e : (Txt.split z PLUS)[i]? with
          | none =>
            rw [e] at hx
            cases hx
          | some s =>
            rw [e] at hx
            exact ⟨s, rfl, (Option.some.inj hx).symm⟩
        have ms : s ∈ Txt.split z PLUS := List.mem_of_getElem? hs
        have os := hpo s ms
        have hi : i < (Txt.split z PLUS).length := (List.getElem?_eq_some_iff.mp hs).1
        have hd := dot_ok os
        have hls := okS_len os
        have retN : isNoneD (partD s) = true → ∀ (σ2 : L2.St) H4, Ex H' H4 → tRet (tC .non) { nx := fun σ H' => Q V.non H', rt := Q } σ2 H4 := fun hn σ2 H4 e4 => s_ret ev_c fun H5 e5 => bad s ms hn H5 (but.ex (e4.trans e5))
        refine q_asgL (el_split (a := s) (b := DOT) (ev_var rfl) ev_c (by decide +kernel) (by omega)) fun q H4 nq e4 h4 => ?_
        have lenL : ∀ H5, Ex H4 H5 → Ev (tCB (rLenD K) (tCons (tVar 3) tNil)) ([some (V.str z), some (.ref fp), some (.str s), some (.ref q), none, none] : L2.St) H5 (.int (((Txt.split s DOT).length : Nat) : Int)) := fun H5 e5 =>
          ev_is (ed_lenL (ev_var rfl) (sq_of (e5 _ _ h4))) (by rw [List.length_map] <;> rfl)
        have part : ∀ (j : Nat) (y : Str), (Txt.split s DOT)[j]? = some y → ∀ H5, Ex H4 H5 → Ev (tOp (rIxL K) (tVar 3) (tC (.int (j : Int)))) ([some (V.str z), some (.ref fp), some (.str s), some (.ref q), none, none] : L2.St) H5 (.str y) := fun j y hy H5 e5 =>
          ev_op (ev_var rfl) ev_c (rv_ixL (sq_of (e5 _ _ h4)) (atI_nat (by rw [List.getElem?_map, hy] <;> rfl)))
        have isLen : ∀ (k : Nat) H5, Ex H4 H5 → EvT (tTest (tOp rEq (tCB (rLenD K) (tCons (tVar 3) tNil)) (tC (.int (k : Int))))) ([some (V.str z), some (.ref fp), some (.str s), some (.ref q), none, none] : L2.St) H5 (decide ((Txt.split s DOT).length = k)) := fun k H5 e5 =>
          et_is (et_test (ev_op (lenL H5 e5) ev_c (rv_eq rfl))) decLen
        refine q_cut (M := fun σ2 H5 => ∃ r a b c, σ2 = [some (V.str z), some (.ref fp), some (.str s), some (.ref r), none, none] ∧ Ex H4 H5 ∧ H5 r = some (.lst [.str a, .str b, .str c]) ∧ okS a = true ∧ okS b = true ∧ okS c = true ∧ partD s = triD a b c) ?_ ?_
        · refine s_if (isLen 2 H4 (Ex.refl _)) (fun h2 H5 e5 => ?_) (fun h2 H5 e5 => ?_)
          · have l2 := of_decide_eq_true h2
            match hsp : Txt.split s DOT, l2 with
            | [a, b], _ =>
              rw [hsp] at part hd
              refine s_asgL (el_lst (ea_cons (part 0 a rfl H5 e5) (ea_cons ev_c (ea_cons (part 1 b rfl H5 e5) ea_nil))) (by simp)) fun r H6 nr e6 h6 => ⟨r, a, "", b, rfl, e5.trans e6, h6, hd a (by simp), by decide +kernel, hd b (by simp), ?_⟩
              unfold partD
              rw [hsp]
          · have l2 := of_decide_eq_false h2
            refine s_when (b := !decide ((Txt.split s DOT).length = 3) || decide ((Txt.split s DOT)[1]? = some ("" : Str))) (et_or (et_is (et_test (ev_op (lenL H5 e5) ev_c (rv_ne rfl))) (by rw [show (V.int 3 : V) = V.int ((3 : Nat) : Int) from rfl, decLen])) fun h3 => ?_) (fun hb3 H6 e6 => ?_) (fun hb3 H6 e6 => ?_)
            · have l3 : (Txt.split s DOT).length = 3 := of_decide_eq_true (notF h3)
              have hy : (Txt.split s DOT)[1]? = some ((Txt.split s DOT)[1]'(by omega)) := by simp
              refine et_is (et_test (ev_op (part 1 _ hy H5 e5) ev_c (rv_eq rfl))) ?_
              rw [hy, decStr]
              simp
            · refine retN ?_ _ H6 (e4.trans (e5.trans e6))
              unfold partD
              match hsp : Txt.split s DOT, l2, hb3 with
              | [a, b], l2, _ => exact absurd rfl l2
              | [a, b, c], _, hb3 =>
                have eb : b = "" := by
                  have h9 : (!true || decide (([a, b, c] : List Str)[1]? = some ("" : Str))) = true := hb3
                  have h8 := of_decide_eq_true (show decide (([a, b, c] : List Str)[1]? = some ("" : Str)) = true from h9)
                  exact Option.some.inj h8
                show isNoneD (if b = "" then PyData.none else triD a b c) = true
                rw [if_pos eb]
                rfl
              | [], _, _ => rfl
              | [_], _, _ => rfl
              | _ :: _ :: _ :: _ :: _, _, _ => rfl
            · match hsp : Txt.split s DOT, hb3 with
              | [a, b, c], hb3 =>
                have eb : ¬ b = "" := fun e => by
                  have h9 : decide (([a, b, c] : List Str)[1]? = some ("" : Str)) = false := hb3
                  exact of_decide_eq_false h9 (by rw [e]; rfl)
                rw [hsp] at hd
                refine ⟨q, a, b, c, rfl, e5.trans e6, ?_, hd a (by simp), hd b (by simp), hd c (by simp), ?_⟩
                · have h4' := (e5.trans e6) _ _ h4
                  rw [show Txt.split s DOT = [a, b, c] from hsp] at h4'
                  exact h4'
                · unfold partD
                  rw [hsp]
                  exact if_neg eb
        · rintro σ2 H5 ⟨r, a, b, c, rfl, e5, h5, oa, ob, oc, ep⟩
          have lc := okS_len oc
          have e45 := e4.trans e5
          have pr : ∀ (j : Nat) (y : Str), ([a, b, c] : List Str)[j]? = some y → ∀ H6, Ex H5 H6 → ∀ (o4 : Option V), Ev (tOp (rIxL K) (tVar 3) (tC (.int (j : Int)))) ([some (V.str z), some (.ref fp), some (.str s), some (.ref r), o4, none] : L2.St) H6 (.str y) := fun j y hy H6 e6 o4 =>
            ev_op (ev_var rfl) ev_c (rv_ixL (xs := ([a, b, c] : List Str).map V.str) (sq_of (e6 _ _ h5)) (atI_nat (by rw [List.getElem?_map, hy] <;> rfl)))
          refine q_when (b := decide (c = "") || (decide (19 < c.length) || zero1 c)) (et_or (et_is (et_test (ev_op (pr 2 c rfl H5 (Ex.refl _) none) ev_c (rv_eq rfl))) decStr) fun hc => et_or (et_is (etGt (ed_lenS (K := K) (pr 2 c rfl H5 (Ex.refl _) none) (by omega)) ev_c) rmark_big) fun _ => ?_) (fun hb3 H6 e6 => ?_) (fun hb3 H6 e6 => ?_)
          · rw [len0] at hc
            have hc1 := of_decide_eq_true (notF hc)
            have hlen : c.cps.toList.length = c.length := by simp [Str.length]
            cases hcc : c.cps.toList with
            | nil =>
              rw [hcc, List.length_nil] at hlen
              omega
            | cons y ys => exact et_is (et_test (ev_op (ev_op (pr 2 c rfl H5 (Ex.refl _) none) ev_c (rv_ixS (by omega) (by rw [hcc]; exact atI_nat (j := 0) rfl))) ev_c (rv_eq rfl))) (zero_c hcc)
          · refine retN ?_ _ H6 (e45.trans e6)
            rw [ep]
            unfold triD
            rw [if_pos hb3]
            rfl
          · have sl := signs_lay (okS_ok oc) (p := fun d => !signIn DIG d)
            have nb : ¬ (decide (c = "") || (decide (19 < c.length) || zero1 c)) = true := by
              rw [hb3]
              exact Bool.false_ne_true
            refine q_when (b := !allIn DIG (.str c)) (et_test (ev_is (ev_neNil (edl_nosigns (s := c) (z := DIG) (j := 4) (vs := [4]) (pr 2 c rfl H6 e6 none) lc (fun _ => rfl) (fun _ => rfl) (fun _ _ => ev_c)) sl.1 sl.2) (by rw [nosign]))) (fun hb4 H7 e7 => ?_) (fun hb4 H7 e7 => ?_)
            · refine retN ?_ _ H7 (e45.trans (e6.trans e7))
              rw [ep]
              unfold triD
              have h9 : allIn DIG (.str c) = false := by
                cases h : allIn DIG (.str c)
                · rfl
                · rw [h] at hb4
                  cases hb4
              rw [if_neg nb, h9]
              rfl
            · have ha := notF hb4
              have hl3 : 1 ≤ c.length ∧ c.length ≤ 19 := by
                have h9 := hb3
                rw [Bool.or_eq_false_iff, Bool.or_eq_false_iff, len0] at h9
                have h8 := of_decide_eq_true (notF h9.1)
                have h7 := of_decide_eq_false h9.2.1
                exact ⟨h8, by omega⟩
              have ei := int_dig ha hl3.1 (by omega)
              have e67 := e6.trans e7
              have evI : Ev (tCB (fun xs H Q => ∃ a n, xs = [.str a] ∧ PySem.intText? a = some n ∧ a.length ≤ 640 ∧ Q (.int n) H) (tCons (tOp (rIxL K) (tVar 3) (tC (.int 2))) tNil)) ([some (V.str z), some (.ref fp), some (.str s), some (.ref r), none, none] : L2.St) H7 (.int ((NumText.digitsVal c.cps.toList : Nat) : Int)) :=
                ev_cb (ea_cons (pr 2 c rfl H7 e67 none) ea_nil) fun H8 _ Q q => ⟨c, _, rfl, ei, by omega, q H8 (Ex.refl _)⟩
              have tri : triD a b c = .tuple [.str a, .str b, .int (NumText.digitsVal c.cps.toList : Nat)] := by
                unfold triD
                rw [if_neg nb, if_pos ha]
              have hf7 : H7 fp = some (.lst acc) := e67 _ _ (e45 _ _ hf)
              have la : acc.length ≤ i := by
                rw [gs.len, List.length_take]
                omega
              refine s_appD hf7 (ev_var rfl) (ed_tup (eds_cons (ed_str (pr 0 a rfl H7 e67 none)) (eds_cons (ed_str (pr 1 b rfl H7 e67 none)) (eds_cons (ed_int evI) eds_nil))) (by simp)) (by omega) fun v H8 e8 gv => ?_
              have e48 := (e45.trans e67).trans e8
              have tk : (partsD z).take (i + 1) = (partsD z).take i ++ [partD s] := by
                rw [List.take_add_one, show (partsD z)[i]? = some (partD s) by unfold partsD; rw [List.getElem?_map, hs]; rfl]
                rfl
              refine ⟨some (.str s), some (.ref r), acc ++ [v], rfl, (but.ex e48).upd, pne, by rw [upd_ne pne]; exact e48 _ _ hp, upd_same, ?_, ?_⟩
              · rw [tk]
                have h8 := e48 _ _ hf
                refine Dds.app (Dds.upd h8 _ _ (noLists_of fun d m => ?_) (Dds.ext e48 _ _ gs)) (.cons (Dd.upd h8 _ _ (part_noList s) ?_) .nil)
                · have m2 := List.mem_of_mem_take m
                  unfold partsD at m2
                  rw [List.mem_map] at m2
                  obtain ⟨s', _, rfl⟩ := m2
                  exact part_noList s'
                · rw [ep, tri]
                  exact gv
              · rw [tk]
                intro d m
                rcases List.mem_append.mp m with m | m
                · exact good d m
                · rw [List.mem_singleton.mp m, ep, tri]
                  rfl
      · rintro p σ' H' ⟨o2, o3, acc, rfl, but, pne, hp, hf, gs, good⟩
        have len : ((Txt.split z PLUS).map V.str).length = (partsD z).length := by
          unfold partsD
          rw [List.length_map, List.length_map]
        rw [len, List.take_length] at gs good
        have exH : Ex H H' := but.of e12 nfH
        have psm : ∀ d ∈ partsD z, small d = true ∧ d.canLay0 = true ∧ d.depth ≤ 1 := fun d m => by
          unfold partsD at m
          rw [List.mem_map] at m
          obtain ⟨s', ms', rfl⟩ := m
          exact part_small (hpo s' ms')
        have r := edl_lc (K := K) (σ := [some (V.str z), some (.ref fp), o2, o3, none, none]) (j := 5) (vs := [5]) (tt := tNot (tB (tCall (spB K markD) [] E0 (tCons (tVar 5) tNil)))) (te := tVar 5) (fun d => !markD d) (fun d => d) (it_L (tl := tVar 1) (ev_var rfl) (sq_of hf) gs)
          (by unfold partsD; rw [List.length_map]; omega) (fun d m _ => by
            unfold partsD at m
            rw [List.mem_map] at m
            obtain ⟨s', _, rfl⟩ := m
            exact part_noList s') (fun _ => rfl) (fun x d H1 _ m g => et_not (et_B (ev_spB (ed_var rfl g) (psm d m).1))) (fun x d H1 _ m g _ => ed_var rfl g)
        rw [List.map_id'] at r
        have nany : (partsD z).any isNoneD = false := List.any_eq_false.mpr fun d m => by
          rw [good d m]
          exact Bool.false_ne_true
        have ev := ev_eqNil (neg := false) r (noLists_of fun d m => by
            have m2 := (List.mem_filter.mp m).1
            unfold partsD at m2
            rw [List.mem_map] at m2
            obtain ⟨s', _, rfl⟩ := m2
            exact part_noList s') (shaped_lst fun d m => (psm d (List.mem_filter.mp m).1).2)
        have eb : decide ((partsD z).filter (fun d => !markD d) = []) = (partsD z).all markD := by
          rw [Bool.eq_iff_iff, decide_eq_true_iff, List.filter_eq_nil_iff, List.all_eq_true]
          refine ⟨fun h d m => ?_, fun h d m => ?_⟩
          · have h2 := h d m
            cases hm : markD d
            · rw [hm] at h2
              exact absurd rfl h2
            · rfl
          · rw [h d m]
            exact Bool.false_ne_true
        refine s_retD (d := lawS z) (ed_if (b := (partsD z).all markD) (et_is (et_test ev) eb) (fun hall H4 e4 => ?_) (fun hall H4 e4 => ?_)) fun u H5 e5 gu => kQ u H5 (exH.trans e5) gu
        · refine ed_is (ed_tupleL (ds := partsD z) (ev_var rfl) (sq_of (e4 _ _ hf)) (Dds.ext e4 _ _ gs)) ?_
          unfold lawS
          rw [if_neg nz, nany, if_neg Bool.false_ne_true, if_pos hall]
        · refine ed_is (ed_non ev_c) ?_
          unfold lawS
          rw [if_neg nz, nany, if_neg Bool.false_ne_true, hall]
          rfl
end
end K03
set_option maxHeartbeats 8000000
namespace K03
open PySem L2 Evl My
abbrev sLText : Stmt := top 25
section
variable {K : PySem.W.Frag} {σ : L2.St} {H : Hp} {ta te tb : TE} {D : Ends} {d : PyData}
theorem ev_cat {a b : Str} (ha : Ev ta σ H (.str a)) (hb : Ev tb σ H (.str b)) (hz : a.length + b.length ≤ 100000) : Ev (tOp (fun x y H Q => ∃ i j, x = .str i ∧ y = .str j ∧ i.length + j.length ≤ sizeLine ∧ Q (.str (i ++ j)) H) ta tb) σ H (.str (a ++ b)) :=
  ev_op ha hb (rv_val fun _ _ _ q => ⟨a, b, rfl, rfl, sz_of hz, q⟩)
theorem ev_strI {n : Int} (h : Ev te σ H (.int n)) (hn : n.natAbs.log2 < 1920) : Ev (tCB (fun xs H Q => ∃ i, xs = [.int i] ∧ i.natAbs.log2 < 1920 ∧ Q (.str (toString i)) H) (tCons te tNil)) σ H (.str (num n)) := fun H1 e Q q =>
  h H1 e _ fun H2 e2 => ⟨n, rfl, hn, q H2 e2⟩
theorem ev_orS {a b : Str} (ha : Ev ta σ H (.str a)) (hz : a.length ≤ 100000) (hb : a.length = 0 → Ev tb σ H (.str b)) : Ev (tOrT K ta tb) σ H (.str (if a.length = 0 then b else a)) := fun H1 e Q q =>
  ha H1 e _ fun H2 e2 => ⟨(a.length : Int) != 0, ⟨sz_of hz, rfl⟩, by
    by_cases h : a.length = 0
    · have h2 : ((a.length : Int) != 0) = false := by rw [h]; rfl
      rw [h2]
      rw [if_pos h] at q
      exact hb h H2 (e.trans e2) Q fun H3 e3 => q H3 (e2.trans e3)
    · have h2 : ((a.length : Int) != 0) = true := by
        rw [bne_iff_ne]
        omega
      rw [h2]
      rw [if_neg h] at q
      exact q H2 e2⟩
end
theorem join_empty : Txt.join PLUS [] = Str.empty := by
  rw [TL.join_eq]
  rfl
theorem tl_len (s : Str) : (TL.tl s).length = s.length := by simp [TL.tl, Str.length]
theorem joinL_pos (S : List Nat) : ∀ (l : List (List Nat)) (x : List Nat), x ≠ [] → TL.joinL S (x :: l) ≠ []
  | [], x, h => by
    intro z
    exact h (by simpa [TL.joinL] using z)
  | y :: l, x, h => by
    intro z
    refine h ?_
    have z2 : x ++ (S ++ TL.joinL S (y :: l)) = [] := z
    exact (List.append_eq_nil_iff.mp z2).1
theorem joinL_len (S : List Nat) : ∀ (l : List (List Nat)), (TL.joinL S l).length ≤ (l.map List.length).sum + l.length * S.length
  | [] => Nat.zero_le _
  | [x] => by
    show x.length ≤ _
    simp
  | x :: y :: l => by
    have ih := joinL_len S (y :: l)
    show (x ++ (S ++ TL.joinL S (y :: l))).length ≤ ((x :: y :: l).map List.length).sum + (x :: y :: l).length * S.length
    rw [List.length_append, List.length_append, List.map_cons, List.sum_cons, List.length_cons, Nat.succ_mul]
    omega
theorem markTD_pos {d : PyData} (h : markD d = true) : 0 < (markTD d).length := by
  obtain ⟨a, b, n, rfl, la, lb, n1, n2⟩ := mark_is h
  show 0 < (markT a b n).length
  unfold markT
  split <;> simp only [PySem.Str.length_append, show Str.length "." = 1 from rfl] <;> omega
theorem name_text_is {ds : List PyData} (h : ∀ d ∈ ds, markD d = true) : (if (Txt.join PLUS (ds.map markTD)).length = 0 then ("/" : Str) else Txt.join PLUS (ds.map markTD)) = nameTD (.tuple ds) := by
  match ds, h with
  | [], _ =>
    have e : Txt.join PLUS (([] : List PyData).map markTD) = Str.empty := join_empty
    rw [e]
    rfl
  | x :: xs, h =>
    have hx := markTD_pos (h x (List.mem_cons_self ..))
    have e : (Txt.join PLUS ((x :: xs).map markTD)).length ≠ 0 := by
      rw [← tl_len, TL.join_eq, TL.tl_join]
      intro z
      refine joinL_pos (TL.tl PLUS) ((xs.map markTD).map TL.tl) (TL.tl (markTD x)) (fun z2 => ?_) (List.eq_nil_of_length_eq_zero z)
      have := tl_len (markTD x)
      rw [z2, List.length_nil] at this
      omega
    rw [if_neg e]
    rfl
section
variable {P : Program} {w : World} {K : PySem.W.Frag} {mg : Str → Option Value} {base : Heap} {f : Addr} {fd : FuncData}
def spLT (K : PySem.W.Frag) : Sp := spD K (fun ds => ∃ d, ds = [d] ∧ small d = true ∧ nameD d = true) fun ds => .str (nameTD (ds.headD .none))
theorem scLText : FnScope ["_law_name_here", "_law_parts", "_law_level", "_law_source", "_law_number"] ["_law_name_here"] (defScope sLText) := ⟨rfl, rfl, rfl, by decide +kernel, rfl, by decide +kernel, by decide +kernel⟩
theorem ok_ltext (F : Fun K "_law_text" "_law_text" sLText f fd) (T : Txt mg) : FnOk P w K mg base CX0 1 f fd ["_law_name_here"] (spLT K) := by
  refine F.ok scLText (fun vs H Q E h => ?_) (fun cdv A outer s H vs Q E hr h => ?_)
  · obtain ⟨_, g, ⟨d, rfl, _⟩, _⟩ := h
    exact g.len
  · obtain ⟨_, g, ⟨d, rfl, hd, hn⟩, kQ⟩ := h
    have kQ : ∀ (v : V) (H' : Hp), Ex H H' → Dd K H' v (.str (nameTD d)) → Q v H' := kQ
    cases g with
    | @cons v _ _ _ g1 g2 =>
    cases g2
    refine ⟨_, pss_cons (ps_set (i := 1) scLText.nd rfl (Or.inl rfl) (pe_lst pa_nil))
      (pss_cons (ps_for PassesOwn.never rfl (pi_tup (pv 0)) (pg_tup rfl (pgs_cons (pg_name (i := 2) scLText.nd rfl (Or.inl rfl)) (pgs_cons (pg_name (i := 3) scLText.nd rfl (Or.inl rfl)) (pgs_cons (pg_name (i := 4) scLText.nd rfl (Or.inl rfl)) pgs_nil))))
        (pss_one (ps_expr (pe_bm PySem.F.plainAttrs_list PySem.F.slot_list_append PySem.F.type_list_append mt_append (pv 1) (pa_cons
          (pe_ifExp (pt_cmpR op_eq (pv 3) pe_str (nomark _)) (pe_op op_add_str (pe_op op_add_str (pv 2) pe_str) (pe_callTy call_str_int (by rfl) T.str (by decide +kernel) (pa_cons (pv 4) pa_nil)))
            (pe_op op_add_str (pe_op op_add_str (pe_op op_add_str (pe_op op_add_str (pv 2) pe_str) (pv 3)) pe_str) (pe_callTy call_str_int (by rfl) T.str (by decide +kernel) (pa_cons (pv 4) pa_nil)))) pa_nil)))))
      (pss_one (ps_ret (pe_orT (pe_join pe_str (pv 1)) (pe_one pe_str))))), ?_⟩
    match d, hn with
    | .tuple ds, hn =>
      have hs := small_tup hd
      have hm : ∀ x ∈ ds, markD x = true := fun x m => List.all_eq_true.mp (show ds.all markD = true from hn) x m
      cases g1 with
      | @tup a xs _ hx gs =>
        refine q_asgL (el_lst ea_nil (by simp)) fun fp H2 nfp e2 hfp => ?_
        refine q_forT (a := a) (xs := xs) (ev_var rfl) (ex_t e2 hx) (fun i σ' H' => ∃ o2 o3 o4, σ' = [some (V.ref a), some (.ref fp), o2, o3, o4] ∧ But fp H2 H' ∧ H' fp = some (.lst (((ds.take i).map markTD).map V.str))) ?_ ?_ ?_ ?_
        · intro H3 e3
          exact ⟨none, none, none, rfl, fun b o _ h => e3 b o h, e3 _ _ hfp⟩
        · rintro i σ' H' _ ⟨_, _, _, _, but, _⟩
          have bu := but.of e2 nfp
          exact ex_t bu hx
        · rintro i x σ' H' hxi ⟨o2, o3, o4, rfl, but, hf⟩
          have exH : Ex H H' := but.of e2 nfp
          obtain ⟨d, hdi, gd⟩ := (Dds.ext exH _ _ gs).get hxi
          have md := hm d (List.mem_of_getElem? hdi)
          obtain ⟨la', lb', n, rfl, la, lb, n1, n2⟩ := mark_is md
          have ln := num_len n1 n2
          have lg := num_log n1 n2
          have il : i < ds.length := (List.getElem?_eq_some_iff.mp hdi).1
          cases gd with
          | @tup t ys _ ht ha =>
            cases ha with
            | cons g1 t1 =>
              cases t1 with
              | cons g2 t2 =>
                cases t2 with
                | cons g3 t3 =>
                  cases t3
                  cases g1
                  cases g2
                  cases g3
                  refine ⟨t, _, rfl, ht, rfl, _, _, rfl, _, _, rfl, _, _, rfl, rfl, ?_⟩
                  have tk : ((ds.take (i + 1)).map markTD).map V.str = ((ds.take i).map markTD).map V.str ++ [V.str (markT la' lb' n)] := by
                    rw [List.take_add_one, hdi]
                    simp
                    rfl
                  refine s_app (v := .str (markT la' lb' n)) hf (ev_var rfl) (ev_if (b := decide (lb' = "")) (et_is (et_test (ev_op (ev_var rfl) ev_c (rv_eq rfl))) decStr) (fun hb => ?_) (fun hb => ?_)) (by rw [List.length_map, List.length_map, List.length_take]; omega) fun H3 e3 => ?_
                  · refine ev_is (ev_cat (ev_cat (ev_var rfl) ev_c (by rw [show Str.length "." = 1 from rfl]; omega)) (ev_strI (ev_var rfl) lg) (by rw [PySem.Str.length_append, show Str.length "." = 1 from rfl]; omega)) ?_
                    unfold markT
                    rw [if_pos (of_decide_eq_true hb), PySem.Str.empty_append]
                  · refine ev_is (ev_cat (ev_cat (ev_cat (ev_cat (ev_var rfl) ev_c (by rw [show Str.length "." = 1 from rfl]; omega)) (ev_var rfl) (by simp only [PySem.Str.length_append, show Str.length "." = 1 from rfl]; omega)) ev_c (by simp only [PySem.Str.length_append, show Str.length "." = 1 from rfl]; omega)) (ev_strI (ev_var rfl) lg) (by simp only [PySem.Str.length_append, show Str.length "." = 1 from rfl]; omega)) ?_
                    unfold markT
                    rw [if_neg (of_decide_eq_false hb), PySem.Str.empty_append]
                  · refine ⟨_, _, _, rfl, (but.ex e3).upd, ?_⟩
                    rw [upd_same, tk]
        · rintro σ' H' ⟨o2, o3, o4, rfl, but, hf⟩
          have exH : Ex H H' := but.of e2 nfp
          rw [gs.len, List.take_length] at hf
          have ej : Ev (tM1 (fun x xs H Q => ∃ a p, ∃ ys : List Str, x = .str a ∧ xs = [.ref p] ∧ (SqL K H p (ys.map V.str) ∨ SqT K H p (ys.map V.str)) ∧ (ys.map (·.length)).sum + ys.length * a.length ≤ 16777216 ∧ Q (.str (Txt.join a ys)) H) (tC (.str "+")) (tVar 1))
              ([some (V.ref a), some (.ref fp), o2, o3, o4] : L2.St) H' (.str (Txt.join PLUS (ds.map markTD))) := fun H3 e3 Q q => ⟨⟨_, rfl⟩, _, rfl, PLUS, fp, ds.map markTD, rfl, rfl, .inl (sq_of (e3 _ _ hf)), by
            have z := sum_le ((ds.map markTD).map (·.length)) 50 fun x m => by
              rw [List.map_map, List.mem_map] at m
              obtain ⟨y, my, rfl⟩ := m
              exact markT_len (hm y my)
            rw [List.length_map, List.length_map] at z
            rw [List.length_map, show PLUS.length = 1 from rfl]
            have := hs.1
            omega, q H3 (Ex.refl _)⟩
          have jl : (Txt.join PLUS (ds.map markTD)).length ≤ 100000 := by
            rw [← tl_len, TL.join_eq, TL.tl_join]
            refine Nat.le_trans (joinL_len _ _) ?_
            have z := sum_le ((((ds.map markTD).map TL.tl)).map List.length) 50 fun x m => by
              rw [List.map_map, List.map_map, List.mem_map] at m
              obtain ⟨y, my, rfl⟩ := m
              show (TL.tl (markTD y)).length ≤ 50
              rw [tl_len]
              exact markT_len (hm y my)
            rw [List.length_map, List.length_map, List.length_map] at z
            rw [List.length_map, List.length_map, tl_len, show PLUS.length = 1 from rfl]
            have := hs.1
            omega
          refine s_retD (K := K) (ed_str (ev_orS (b := "/") ej jl fun _ => ev_c)) fun u H3 e3 gu => kQ u H3 (exH.trans e3) ?_
          rw [name_text_is hm] at gu
          exact gu
end
end K03
set_option maxHeartbeats 4000000
namespace K03
open PySem L2 Evl My
theorem tl_dot : TL.tl DOT = [46] := by decide +kernel
theorem tl_plus : TL.tl PLUS = [43] := by decide +kernel
theorem tl_low {s : Str} (h : Low s) {c : Nat} (hc : c < 97) : c ∉ TL.tl s := fun m => by
  have := h c m
  omega
theorem head_num : ∀ (k : Nat) (n : Nat), n ≤ k → 1 ≤ n → (TL.numL n).head? ≠ some 48
  | 0, n, h, h1 => by omega
  | k + 1, n, h, h1 => by
    by_cases hn : n < 10
    · rw [TL.numL_lt hn]
      intro z
      have := Option.some.inj z
      omega
    · rw [TL.numL_step (by omega)]
      have ih := head_num k (n / 10) (by omega) (by omega)
      cases hl : TL.numL (n / 10) with
      | nil => exact absurd hl (TL.numL_ne _)
      | cons x xs =>
        rw [hl] at ih
        exact ih
theorem numD_num {n : Int} (h1 : 1 ≤ n) (h2 : n ≤ 1000000000000000000) : numD (num n) = .int n := by
  have hl := num_len h1 h2
  obtain ⟨k, rfl⟩ := Int.eq_ofNat_of_zero_le (show 0 ≤ n by omega)
  have e : TL.tl (num (k : Int)) = TL.numL k := TL.tl_num k
  have e2 : (num (k : Int)).cps.toList = TL.numL k := e
  have pos : 1 ≤ (num (k : Int)).length := by
    rw [← tl_len, e]
    have := TL.numL_ne k
    cases hk : TL.numL k with
    | nil => exact absurd hk this
    | cons x xs => simp
  unfold numD
  have hz : zero1 (num (k : Int)) = false := by
    unfold zero1
    rw [e2]
    exact decide_eq_false (head_num k k (Nat.le_refl _) (by omega))
  have hn : lenN (num (k : Int)) = true := by
    unfold lenN
    rw [decide_eq_true pos, decide_eq_true hl]
    rfl
  rw [hz, hn, if_neg (by decide)]
  have ha : allIn DIG (.str (num (k : Int))) = true := by
    show ((num (k : Int)).cps.toList.all fun c => decide (c ∈ DIG.cps.toList)) = true
    rw [e2, List.all_eq_true]
    intro c hc
    have hd := TL.numL_digits k c hc
    refine decide_eq_true ?_
    have e3 : DIG.cps.toList = [48, 49, 50, 51, 52, 53, 54, 55, 56, 57] := by decide +kernel
    rw [e3]
    simp
    omega
  rw [if_pos ha, e2, TL.numL_val]
theorem num_free {n : Int} (h1 : 1 ≤ n) {s : Nat} (h : s < 48 ∨ 57 < s) : s ∉ TL.tl (num n) := by
  obtain ⟨k, rfl⟩ := Int.eq_ofNat_of_zero_le (show 0 ≤ n by omega)
  have e : TL.tl (num (k : Int)) = TL.numL k := TL.tl_num k
  rw [e]
  exact TL.numL_free h
theorem markT_join2 {a : Str} {n : Int} : markT a "" n = Txt.join DOT [a, num n] := by
  unfold markT
  rw [if_pos rfl, PySem.Str.empty_append, TL.join_eq]
  refine TL.ext_tl ?_
  rw [TL.tl_append, TL.tl_append, TL.tl_join]
  show TL.tl a ++ TL.tl DOT ++ TL.tl (num n) = TL.tl a ++ (TL.tl DOT ++ TL.tl (num n))
  rw [List.append_assoc]
theorem markT_join3 {a b : Str} {n : Int} (hb : ¬ b = "") : markT a b n = Txt.join DOT [a, b, num n] := by
  unfold markT
  rw [if_neg hb, PySem.Str.empty_append, TL.join_eq]
  refine TL.ext_tl ?_
  rw [TL.tl_append, TL.tl_append, TL.tl_append, TL.tl_append, TL.tl_join]
  show TL.tl a ++ TL.tl DOT ++ TL.tl b ++ TL.tl DOT ++ TL.tl (num n) = TL.tl a ++ (TL.tl DOT ++ (TL.tl b ++ (TL.tl DOT ++ TL.tl (num n))))
  simp only [List.append_assoc]
theorem wm_text {d : PyData} (h : markD d = true) : wmD (markTD d) = d := by
  obtain ⟨a, b, n, m⟩ := mark_is2 h
  obtain ⟨rfl, la, lb, n1, n2, wa, wb⟩ := m
  show wmD (markT a b n) = _
  have fin : mkD a b (numD (num n)) = .tuple [.str a, .str b, .int n] := by
    rw [numD_num n1 n2]
    unfold mkD
    rw [if_pos h]
  unfold wmD
  by_cases hb : b = ""
  · subst hb
    rw [markT_join2, TL.split_join (s := 46) (S := []) tl_dot (by decide +kernel) (by simp) (fun p hp => by
      rcases List.mem_cons.mp hp with rfl | hp
      · exact tl_low wa (by decide)
      · rw [List.mem_singleton.mp hp]
        exact num_free n1 (by decide))]
    exact fin
  · rw [markT_join3 hb, TL.split_join (s := 46) (S := []) tl_dot (by decide +kernel) (by simp) (fun p hp => by
      rcases List.mem_cons.mp hp with rfl | hp
      · exact tl_low wa (by decide)
      · rcases List.mem_cons.mp hp with rfl | hp
        · exact tl_low wb (by decide)
        · rw [List.mem_singleton.mp hp]
          exact num_free n1 (by decide))]
    show (if b = "" then PyData.none else mkD a b (numD (num n))) = _
    rw [if_neg hb]
    exact fin
theorem markTD_signs {d : PyData} (h : markD d = true) : ∀ c ∈ TL.tl (markTD d), c = 46 ∨ (48 ≤ c ∧ c ≤ 57) ∨ (97 ≤ c ∧ c ≤ 122) := by
  obtain ⟨a, b, n, m⟩ := mark_is2 h
  obtain ⟨rfl, la, lb, n1, n2, wa, wb⟩ := m
  have num_ : ∀ c ∈ TL.tl (num n), 48 ≤ c ∧ c ≤ 57 := fun c hc => by
    by_cases z : c < 48 ∨ 57 < c
    · exact absurd hc (num_free n1 z)
    · omega
  have dot_ : ∀ c ∈ TL.tl (Str.ofString "."), c = 46 := fun c hc => by
    have e : TL.tl (Str.ofString ".") = [46] := tl_dot
    rw [e] at hc
    exact List.mem_singleton.mp hc
  show ∀ c ∈ TL.tl (markT a b n), _
  unfold markT
  intro c hc
  split at hc
  · rw [PySem.Str.empty_append, TL.tl_append, TL.tl_append, List.mem_append, List.mem_append] at hc
    rcases hc with (hc | hc) | hc
    · exact .inr (.inr (wa c hc))
    · exact .inl (dot_ c hc)
    · exact .inr (.inl (num_ c hc))
  · rw [PySem.Str.empty_append, TL.tl_append, TL.tl_append, TL.tl_append, TL.tl_append, List.mem_append, List.mem_append, List.mem_append, List.mem_append] at hc
    rcases hc with (((hc | hc) | hc) | hc) | hc
    · exact .inr (.inr (wa c hc))
    · exact .inl (dot_ c hc)
    · exact .inr (.inr (wb c hc))
    · exact .inl (dot_ c hc)
    · exact .inr (.inl (num_ c hc))
theorem joinL_mem (S : List Nat) : ∀ (l : List (List Nat)) (c : Nat), c ∈ TL.joinL S l → c ∈ S ∨ ∃ p ∈ l, c ∈ p
  | [], c, h => by cases h
  | [x], c, h => .inr ⟨x, List.mem_cons_self .., h⟩
  | x :: y :: l, c, h => by
    have h2 : c ∈ x ++ (S ++ TL.joinL S (y :: l)) := h
    rw [List.mem_append, List.mem_append] at h2
    rcases h2 with h | h | h
    · exact .inr ⟨x, List.mem_cons_self .., h⟩
    · exact .inl h
    · rcases joinL_mem S (y :: l) c h with z | ⟨p, hp, z⟩
      · exact .inl z
      · exact .inr ⟨p, List.mem_cons_of_mem _ hp, z⟩
/-- the signs of a written name -/
theorem nameTD_signs {ds : List PyData} (h : ∀ d ∈ ds, markD d = true) (hne : ds ≠ []) : ∀ c ∈ TL.tl (nameTD (.tuple ds)), c = 43 ∨ c = 46 ∨ (48 ≤ c ∧ c ≤ 57) ∨ (97 ≤ c ∧ c ≤ 122) := by
  match ds, hne with
  | x :: xs, _ =>
    show ∀ c ∈ TL.tl (Txt.join PLUS ((x :: xs).map markTD)), _
    rw [TL.join_eq, TL.tl_join]
    intro c hc
    rcases joinL_mem _ _ c hc with z | ⟨p, hp, z⟩
    · rw [tl_plus] at z
      exact .inl (List.mem_singleton.mp z)
    · rw [List.map_map, List.mem_map] at hp
      obtain ⟨d, hd, rfl⟩ := hp
      exact .inr (markTD_signs (h d hd) c z)
/-- what is written is read -/
theorem parse_text {ds : List PyData} (h : ∀ d ∈ ds, markD d = true) : parseS (nameTD (.tuple ds)) = some (.tuple ds) := by
  match ds, h with
  | [], _ => rfl
  | x :: xs, h =>
    have ns : ¬ nameTD (.tuple (x :: xs)) = "/" := fun z => by
      have hs := nameTD_signs h (by simp) 47 (by rw [z]; decide +kernel)
      omega
    unfold parseS
    rw [if_neg ns]
    have e : marksD (nameTD (.tuple (x :: xs))) = x :: xs := by
      show (Txt.split (Txt.join PLUS ((x :: xs).map markTD)) PLUS).map wmD = x :: xs
      rw [TL.split_join (s := 43) (S := []) tl_plus (by decide +kernel) (by simp) (fun p hp => by
        rw [List.mem_map] at hp
        obtain ⟨d, hd, rfl⟩ := hp
        intro z
        have := markTD_signs (h d hd) 43 z
        omega), List.map_map]
      conv => rhs; rw [← List.map_id (x :: xs)]
      exact List.map_congr_left fun d m => wm_text (h d m)
    rw [e, if_neg]
    intro z
    rw [List.any_eq_true] at z
    obtain ⟨d, m, z⟩ := z
    rw [mark_notNone (h d m)] at z
    cases z
end K03
set_option maxHeartbeats 4000000
namespace K03
open PySem L2 Evl My
abbrev sLawWord : Stmt := top 23
def PoolAt (H : Hp) (p : Addr) : Prop := ∃ c z : Int, H p = some (.lst [.int c, .int z]) ∧ 0 ≤ c ∧ 0 ≤ z ∧ z < 2147483648
theorem PoolAt.ext {H H' : Hp} {p : Addr} (h : PoolAt H p) (e : Ex H H') : PoolAt H' p := by
  obtain ⟨c, z, h1, h2⟩ := h
  exact ⟨c, z, e _ _ h1, h2⟩
theorem PoolAt.ne {H : Hp} {p q : Addr} (h : PoolAt H p) (n : H q = none) : q ≠ p := fun e => by
  obtain ⟨c, z, h1, _⟩ := h
  rw [e, h1] at n
  cases n
theorem But.trans {p : Addr} {H H1 H2 : Hp} (a : But p H H1) (b : But p H1 H2) : But p H H2 := fun x o n h => b x o n (a x o n h)
theorem But.ofEx {p : Addr} {H H' : Hp} (e : Ex H H') : But p H H' := fun x o _ h => e x o h
section
variable {σ : L2.St} {H : Hp} {te : TE} {p : Addr} {i : Nat} {sides : Int}
theorem take_go {Q : VK} {E : XK} (hp : PoolAt H p) (h0 : σ[i]? = some (some (.ref p))) (hE : Ev te σ H (.int sides)) (hs : 0 < sides ∧ sides < 1073741824)
    (k : ∀ n H', 0 ≤ n → n < sides → But p H H' → PoolAt H' p → Q (.int n) H') : tCall spTake [] E (tCons (tVar i) (tCons te tNil)) σ H Q := by
  refine ⟨_, h0, hE H (Ex.refl _) _ fun H1 e1 => ?_⟩
  obtain ⟨c, z, h1, c0, z0, z1⟩ := hp
  exact ⟨p, c, z, sides, rfl, e1 _ _ h1, c0, z0, z1, hs.1, hs.2, fun n c' z' n0 n1 c0' z0' z1' => k n _ n0 n1 (But.ofEx e1).upd ⟨c', z', upd_same, c0', z0', z1'⟩⟩
end
def spWord : Sp := fun vs H Q _ => ∃ p, vs = [.ref p] ∧ PoolAt H p ∧ ∀ s H', wordD (.str s) = true → But p H H' → PoolAt H' p → Q (.str s) H'
theorem joinL_one : ∀ (l : List (List Nat)), (∀ x ∈ l, ∃ c, x = [c] ∧ c ∈ LET.cps.toList) → (TL.joinL [] l).length = l.length ∧ ∀ c ∈ TL.joinL [] l, c ∈ LET.cps.toList
  | [], _ => ⟨rfl, fun c h => by cases h⟩
  | [x], h => by
    obtain ⟨c, rfl, hc⟩ := h x (List.mem_cons_self ..)
    exact ⟨rfl, fun d hd => by rw [List.mem_singleton.mp hd]; exact hc⟩
  | x :: y :: l, h => by
    obtain ⟨c, rfl, hc⟩ := h x (List.mem_cons_self ..)
    have ih := joinL_one (y :: l) fun z m => h z (List.mem_cons_of_mem _ m)
    show (([c] : List Nat) ++ ([] ++ TL.joinL [] (y :: l))).length = _ ∧ ∀ d ∈ ([c] : List Nat) ++ ([] ++ TL.joinL [] (y :: l)), d ∈ LET.cps.toList
    refine ⟨?_, fun d hd => ?_⟩
    · rw [List.nil_append, List.length_append, ih.1]
      simp
      omega
    · rw [List.nil_append] at hd
      rcases List.mem_append.mp hd with z | z
      · rw [List.mem_singleton.mp z]
        exact hc
      · exact ih.2 d z
theorem word_of {ys : List Str} (h1 : 1 ≤ ys.length) (h2 : ys.length ≤ 8) (h : ∀ y ∈ ys, ∃ c, y = ⟨#[c]⟩ ∧ c ∈ LET.cps.toList) : wordD (.str (Txt.join "" ys)) = true := by
  have e : TL.tl (Txt.join "" ys) = TL.joinL [] (ys.map TL.tl) := by
    rw [TL.join_eq, TL.tl_join, show TL.tl (Str.ofString "") = [] by decide +kernel]
  have j := joinL_one (ys.map TL.tl) fun x m => by
    rw [List.mem_map] at m
    obtain ⟨y, hy, rfl⟩ := m
    obtain ⟨c, rfl, hc⟩ := h y hy
    exact ⟨c, rfl, hc⟩
  rw [← e, List.length_map] at j
  have l := tl_len (Txt.join "" ys)
  unfold wordD
  have a1 : lenOk (.str (Txt.join "" ys)) = true := by
    show (decide (1 ≤ (Txt.join "" ys).length) && decide ((Txt.join "" ys).length ≤ 8)) = true
    rw [← l, j.1, decide_eq_true h1, decide_eq_true h2]
    rfl
  have a2 : allIn LET (.str (Txt.join "" ys)) = true := by
    show ((Txt.join "" ys).cps.toList.all fun c => decide (c ∈ LET.cps.toList)) = true
    rw [List.all_eq_true]
    exact fun c hc => decide_eq_true (j.2 c hc)
  rw [a1, a2]
  rfl
theorem six_let : ∀ c : Nat, c ∈ ("abcxyz" : Str).cps.toList → c ∈ LET.cps.toList := by
  have e1 : ("abcxyz" : Str).cps.toList = [97, 98, 99, 120, 121, 122] := by decide +kernel
  have e2 : LET.cps.toList = [97, 98, 99, 100, 101, 102, 103, 104, 105, 106, 107, 108, 109, 110, 111, 112, 113, 114, 115, 116, 117, 118, 119, 120, 121, 122] := by decide +kernel
  rw [e1, e2]
  intro c h
  simp at h ⊢
  omega
section
variable {P : Program} {w : World} {K : PySem.W.Frag} {mg : Str → Option Value} {base : Heap} {f : Addr} {fd : FuncData}
theorem scLawWord : FnScope ["_law_pool_here", "_law_turn"] ["_law_pool_here"] (defScope sLawWord) := ⟨rfl, rfl, rfl, by decide +kernel, rfl, by decide +kernel, by decide +kernel⟩
theorem ok_lawword (F : Fun K "_law_word" "_law_word" sLawWord f fd) (hR : mg "range" = none) (TK : Df P w K mg base "_law_take" ["_law_pool_here", "_law_sides"] 1 spTake) : FnOk P w K mg base CX0 2 f fd ["_law_pool_here"] spWord := by
  refine F.ok scLawWord (fun vs H Q E h => ?_) (fun cdv A outer s H vs Q E hr h => ?_)
  · obtain ⟨p, rfl, _⟩ := h
    rfl
  · obtain ⟨p, rfl, hp, kQ⟩ := h
    refine ⟨_, pss_one (ps_ret (pe_join pe_str (pe_lc (own := [("_law_turn", 1)]) (g := gName 1) (tt := tYes) (te := tOp rIxS (tC (.str "abcxyz")) (tCall spTake [] E0 (tCons (tVar 0) (tCons (tC (.int 6)) tNil)))) rfl scLawWord.nd
      (pi_range1 rfl hR (pa_cons (pe_ix ix_list (pe_lst (pa_cons pe_int (pa_cons pe_int (pa_cons pe_int pa_nil)))) (pe_df TK hr rfl (pa_cons (pv 0) (pa_cons pe_int pa_nil))) (fun _ _ => rfl)) pa_nil))
      (blkOk_by (own := [("_law_turn", 1)]) (N := ["_law_pool_here", "_law_turn"]) (sc := defScope sLawWord) (by decide +kernel))
      (fun _ _ _ _ _ => pg_name (i := 1) scLawWord.nd rfl (Or.inl rfl)) (fun _ _ _ _ _ => pts_nil) (fun _ _ _ _ _ => pe_ix ix_str pe_str (pe_df TK hr rfl (pa_cons (pv 0) (pa_cons pe_int pa_nil))) (fun _ _ => rfl))))), ?_⟩
    refine ⟨⟨_, rfl⟩, ⟨(by show 3 ≤ sizeLine; decide), fun q hq => ?_⟩⟩
    have hp1 : PoolAt (upd H q (.lst [.int 1, .int 2, .int 8])) p := hp.ext (Ex.new hq)
    have qp : q ≠ p := hp.ne hq
    refine take_go (i := 0) hp1 rfl ev_c ⟨by decide, by decide⟩ fun n H3 n0 n1 b3 hp3 => ?_
    have hq3 : H3 q = some (.lst [.int 1, .int 2, .int 8]) := b3 _ _ qp upd_same
    have hb3 : But p H H3 := (But.ofEx (Ex.new hq)).trans b3
    obtain ⟨m, hm, m1, m8⟩ : ∃ m : Int, atI [V.int 1, V.int 2, V.int 8] n = some (.int m) ∧ 1 ≤ m ∧ m ≤ 8 := by
      have : n = 0 ∨ n = 1 ∨ n = 2 := by omega
      rcases this with rfl | rfl | rfl
      · exact ⟨1, rfl, by decide, by decide⟩
      · exact ⟨2, rfl, by decide, by decide⟩
      · exact ⟨8, rfl, by decide, by decide⟩
    refine ⟨q, _, n, _, rfl, rfl, sq_of hq3, hm, m, rfl, by omega, by omega, fun Dl hD => ?_⟩
    refine lc_range (lo := 0) (n := m.toNat) (fun i H' => PoolAt H' p ∧ Dl ≠ p ∧ (∀ b o, b ≠ p → b ≠ Dl → H3 b = some o → H' b = some o) ∧ ∃ ys : List Str, H' Dl = some (.lst (ys.map V.str)) ∧ ys.length = i ∧ ∀ y ∈ ys, ∃ c, y = ⟨#[c]⟩ ∧ c ∈ LET.cps.toList) ?_ ?_ ?_
    · exact ⟨hp3.ext (Ex.new hD), hp3.ne hD, fun b o _ _ h => Ex.new hD b o h, [], upd_same, rfl, fun y m => by cases m⟩
    · rintro i H' hi ⟨pp, nd, bb, ys, hl, len, ally⟩
      refine ⟨rfl, ?_⟩
      show tOp rIxS (tC (.str "abcxyz")) (tCall spTake [] E0 (tCons (tVar 0) (tCons (tC (.int 6)) tNil))) _ H' _
      refine take_go (i := 0) pp rfl ev_c ⟨by decide, by decide⟩ fun n H4 n0 n1 b4 hp4 => ?_
      have hl4 := b4 _ _ nd hl
      obtain ⟨c, hc⟩ : ∃ c, atI ("abcxyz" : Str).cps.toList n = some c := by
        have e1 : ("abcxyz" : Str).cps.toList = [97, 98, 99, 120, 121, 122] := by decide +kernel
        rw [e1]
        have : n = 0 ∨ n = 1 ∨ n = 2 ∨ n = 3 ∨ n = 4 ∨ n = 5 := by omega
        rcases this with rfl | rfl | rfl | rfl | rfl | rfl <;> exact ⟨_, rfl⟩
      have cm : c ∈ ("abcxyz" : Str).cps.toList := by
        unfold atI at hc
        cases hx : ixN ("abcxyz" : Str).cps.toList.length n with
        | none =>
          rw [hx] at hc
          cases hc
        | some j =>
          rw [hx] at hc
          exact List.mem_of_getElem? hc
      refine ⟨_, n, c, rfl, rfl, (by decide), hc, ys.map V.str, hl4, sz_lt (by rw [List.length_map]; omega), ?_⟩
      refine ⟨?_, nd, fun b o n1 n2 h => ?_, ys ++ [⟨#[c]⟩], ?_, ?_, ?_⟩
      · obtain ⟨c', z', h1, h2⟩ := hp4
        exact ⟨c', z', by rw [upd_ne (Ne.symm nd)]; exact h1, h2⟩
      · rw [upd_ne n2]
        exact b4 _ _ n1 (bb b o n1 n2 h)
      · rw [upd_same, List.map_append]
        rfl
      · rw [List.length_append, len]
        rfl
      · intro y m
        rcases List.mem_append.mp m with m | m
        · exact ally y m
        · exact ⟨c, List.mem_singleton.mp m, six_let c cm⟩
    · rintro H' ⟨pp, nd, bb, ys, hl, len, ally⟩
      have lm : ys.length ≤ 8 ∧ 1 ≤ ys.length := by omega
      refine ⟨_, Dl, ys, rfl, rfl, .inl (sq_of hl), ?_, kQ _ H' (word_of lm.2 lm.1 ally) (fun b o n1 h => ?_) pp⟩
      · have z := sum_le (ys.map (·.length)) 1 fun x m => by
          rw [List.mem_map] at m
          obtain ⟨y, my, rfl⟩ := m
          obtain ⟨c, rfl, _⟩ := ally y my
          exact Nat.le_refl 1
        rw [List.length_map] at z
        rw [show Str.length "" = 0 from rfl]
        omega
      · have h3 := hb3 b o n1 h
        exact bb b o n1 (ne_of_none h3 hD) h3
end
end K03
set_option maxHeartbeats 4000000
namespace K03
open PySem L2 Evl My
abbrev sLawName : Stmt := top 24
mutual
theorem dd_but {K : PySem.W.Frag} {H H' : Hp} {a : Addr} {xs : List V} (h : H a = some (.lst xs)) (b : But a H H') : ∀ (d : PyData) (v : V), noList d = true → Dd K H v d → Dd K H' v d
  | .none, _, _, g => by
    cases g
    exact .non
  | .bool b, _, _, g => by
    cases g
    exact .bl b
  | .int i, _, _, g => by
    cases g
    exact .int i
  | .str x, _, _, g => by
    cases g
    exact .str x
  | .tuple ds, _, n, g => by
    cases g with
    | @tup c ys _ hs ha =>
      refine .tup ?_ (dds_but h b ds _ n ha)
      have ne : ∀ {u : HO}, H c = some u → (∀ zs, u ≠ .lst zs) → H' c = some u := fun {u} hb nz => b c u (fun z => by
        rw [z, h] at hb
        exact nz xs (Option.some.inj hb).symm) hb
      rcases hs with (hb | ⟨ob, hb⟩) | hb
      · exact .inl (.inl (ne hb (fun _ z => nomatch z)))
      · exact .inl (.inr ⟨ob, ne hb (fun _ z => nomatch z)⟩)
      · exact .inr hb
  | .list _, _, n, _ => by cases n
  | .dict _, _, n, _ => by cases n
theorem dds_but {K : PySem.W.Frag} {H H' : Hp} {a : Addr} {xs : List V} (h : H a = some (.lst xs)) (b : But a H H') : ∀ (ds : List PyData) (vs : List V), noLists ds = true → Dds K H vs ds → Dds K H' vs ds
  | [], _, _, g => by
    cases g
    exact .nil
  | d :: ds, _, n, g => by
    cases g with
    | cons g1 g2 =>
      have n2 : (noList d && noLists ds) = true := n
      rw [Bool.and_eq_true] at n2
      exact .cons (dd_but h b d _ n2.1 g1) (dds_but h b ds _ n2.2 g2)
end
/-- a drawn name: up to four marks -/
def spLName (K : PySem.W.Frag) : Sp := fun vs H Q _ => ∃ p, vs = [.ref p] ∧ PoolAt H p ∧ ∀ u ds H', Dd K H' u (.tuple ds) → ds.length ≤ 4 → (∀ d ∈ ds, markD d = true) → But p H H' → PoolAt H' p → Q u H'
section
variable {σ : L2.St} {H : Hp} {p : Addr} {i : Nat}
theorem word_go {Q : VK} {E : XK} (hp : PoolAt H p) (h0 : σ[i]? = some (some (.ref p))) (k : ∀ s H', wordD (.str s) = true → But p H H' → PoolAt H' p → Q (.str s) H') : tCall spWord [] E (tCons (tVar i) tNil) σ H Q :=
  ⟨_, h0, p, rfl, hp, k⟩
end
section
variable {P : Program} {w : World} {K : PySem.W.Frag} {mg : Str → Option Value} {base : Heap} {f : Addr} {fd : FuncData}
theorem scLawName : FnScope ["_law_pool_here", "_law_found", "_law_turn", "_law_number"] ["_law_pool_here"] (defScope sLawName) := ⟨rfl, rfl, rfl, by decide +kernel, rfl, by decide +kernel, by decide +kernel⟩
theorem ok_lawname (F : Fun K "_law_name" "_law_name" sLawName f fd) (hR : mg "range" = none) (hT : mg "tuple" = none) (TK : Df P w K mg base "_law_take" ["_law_pool_here", "_law_sides"] 1 spTake) (WD : Df P w K mg base "_law_word" ["_law_pool_here"] 2 spWord) :
    FnOk P w K mg base CX0 3 f fd ["_law_pool_here"] (spLName K) := by
  refine F.ok scLawName (fun vs H Q E h => ?_) (fun cdv A outer s H vs Q E hr h => ?_)
  · obtain ⟨p, rfl, _⟩ := h
    rfl
  · obtain ⟨p, rfl, hp, kQ⟩ := h
    have hr1 : Room 1 _ := hr.mono (by decide)
    refine ⟨_, pss_cons (ps_set (i := 1) scLawName.nd rfl (Or.inl rfl) (pe_lst pa_nil))
      (pss_cons (ps_for PassesOwn.never rfl (pi_range1 rfl hR (pa_cons (pe_df TK hr1 rfl (pa_cons (pv 0) (pa_cons pe_int pa_nil))) pa_nil)) (pg_name (i := 2) scLawName.nd rfl (Or.inl rfl))
        (pss_cons (ps_set (i := 3) scLawName.nd rfl (Or.inl rfl) (pe_op op_add pe_int (pe_ix ix_list (pe_lst (pa_cons (pe_df TK hr1 rfl (pa_cons (pv 0) (pa_cons pe_int pa_nil))) (pa_cons (pe_df TK hr1 rfl (pa_cons (pv 0) (pa_cons (pe_op op_pow pe_int pe_int) pa_nil)))
            (pa_cons (pe_op op_sub (pe_op op_pow pe_int pe_int) pe_int) pa_nil)))) (pe_df TK hr1 rfl (pa_cons (pv 0) (pa_cons pe_int pa_nil))) (fun _ _ => rfl))))
        (pss_one (ps_expr (pe_bm PySem.F.plainAttrs_list PySem.F.slot_list_append PySem.F.type_list_append mt_append (pv 1) (pa_cons (pe_tup (pa_cons (pe_df WD hr rfl (pa_cons (pv 0) pa_nil))
          (pa_cons (pe_ix ix_list (pe_lst (pa_cons pe_str (pa_cons (pe_df WD hr rfl (pa_cons (pv 0) pa_nil)) pa_nil))) (pe_df TK hr1 rfl (pa_cons (pv 0) (pa_cons pe_int pa_nil))) (fun _ _ => rfl)) (pa_cons (pv 3) pa_nil)))) pa_nil))))))
      (pss_one (ps_ret (pe_callTy call_tuple_of (by rfl) hT (by decide +kernel) (pa_cons (pv 1) pa_nil))))), ?_⟩
    refine q_asgL (el_lst ea_nil (by simp)) fun fp H2 nfp e2 hfp => ?_
    have hp2 : PoolAt H2 p := hp.ext e2
    have fnp : fp ≠ p := hp.ne nfp
    refine take_go (i := 0) hp2 rfl ev_c ⟨by decide, by decide⟩ fun n H3 n0 n1 b3 hp3 => ?_
    have hf3 := b3 _ _ fnp hfp
    refine ⟨n, rfl, by omega, by omega, for_range (lo := 0) (n := n.toNat) (fun i σ' H' => ∃ o2 o3 acc ds, σ' = [some (.ref p), some (.ref fp), o2, o3] ∧ PoolAt H' p ∧ (∀ b o, b ≠ p → b ≠ fp → H3 b = some o → H' b = some o) ∧ H' fp = some (.lst acc) ∧ Dds K H' acc ds ∧ ds.length = i ∧ ∀ d ∈ ds, markD d = true) ?_ ?_ ?_⟩
    · exact ⟨none, none, [], [], rfl, hp3, fun _ _ _ _ h => h, hf3, .nil, rfl, fun d m => by cases m⟩
    · rintro i σ' H' hi ⟨o2, o3, acc, ds, rfl, pp, bb, hf, gs, len, good⟩
      have nls : noLists ds = true := noLists_of fun d m => mark_noList (good d m)
      -- the number
      show tCall spTake [] E0 (tCons (tVar 0) (tCons (tC (.int 12)) tNil)) ([some (.ref p), some (.ref fp), some (.int ((0 : Int) + (i : Int))), o3] : L2.St) H' _
      refine take_go (i := 0) pp rfl ev_c ⟨by decide, by decide⟩ fun a1 Ha a10 a11 ba hpa => ?_
      refine take_go (i := 0) (sides := 1000000) hpa rfl (ev_is (evPow ev_c ev_c ⟨by decide, by decide, by decide⟩) (by decide)) ⟨by decide, by decide⟩ fun a2 Hb a20 a21 bb2 hpb => ?_
      refine (ev_is (w := .int 999999999999999999) (ev_op (evPow ev_c ev_c ⟨by decide, by decide, by decide⟩) ev_c rv_I0) (by decide)) Hb (Ex.refl _) _ fun Hc ec => ?_
      refine ⟨(by show 3 ≤ sizeLine; decide), fun q hq => ?_⟩
      have hpc := (hpb.ext ec)
      have qp : q ≠ p := hpc.ne hq
      refine take_go (i := 0) (hpc.ext (Ex.new hq)) rfl ev_c ⟨by decide, by decide⟩ fun a3 Hd a30 a31 bd hpd => ?_
      have hqd : Hd q = some (.lst [.int a1, .int a2, .int 999999999999999999]) := bd _ _ qp upd_same
      obtain ⟨m, hm, m1, m8⟩ : ∃ m : Int, atI [V.int a1, V.int a2, V.int 999999999999999999] a3 = some (.int m) ∧ 0 ≤ m ∧ m < 1000000000000000000 := by
        have : a3 = 0 ∨ a3 = 1 ∨ a3 = 2 := by omega
        rcases this with rfl | rfl | rfl
        · exact ⟨a1, rfl, by omega, by omega⟩
        · exact ⟨a2, rfl, by omega, by omega⟩
        · exact ⟨_, rfl, by decide, by decide⟩
      refine ⟨q, _, a3, _, rfl, rfl, sq_of hqd, hm, 1, m, rfl, rfl, ?_⟩
      have bd2 : But p H' Hd := ((ba.trans bb2).trans (But.ofEx ec)).trans ((But.ofEx (Ex.new hq)).trans bd)
      -- the mark
      refine ⟨_, rfl, .inl ⟨rfl, acc, sq_of (bd2 _ _ fnp hf)⟩, ?_⟩
      show tCall spWord [] E0 (tCons (tVar 0) tNil) ([some (.ref p), some (.ref fp), some (.int ((0 : Int) + (i : Int))), some (.int (1 + m))] : L2.St) Hd _
      refine word_go (i := 0) hpd rfl fun s1 He w1 be hpe => ?_
      show tCall spWord [] E0 (tCons (tVar 0) tNil) ([some (.ref p), some (.ref fp), some (.int ((0 : Int) + (i : Int))), some (.int (1 + m))] : L2.St) He _
      refine word_go (i := 0) hpe rfl fun s2 Hf w2 bf hpf => ?_
      refine ⟨(by show 2 ≤ sizeLine; decide), fun r hr' => ?_⟩
      have rp : r ≠ p := hpf.ne hr'
      refine take_go (i := 0) (hpf.ext (Ex.new hr')) rfl ev_c ⟨by decide, by decide⟩ fun a4 Hg a40 a41 bg hpg => ?_
      have hrg : Hg r = some (.lst [.str "", .str s2]) := bg _ _ rp upd_same
      obtain ⟨s3, h3, w3⟩ : ∃ s3 : Str, atI [V.str "", V.str s2] a4 = some (.str s3) ∧ srcD (.str s3) = true := by
        have : a4 = 0 ∨ a4 = 1 := by omega
        rcases this with rfl | rfl
        · exact ⟨"", rfl, rfl⟩
        · refine ⟨s2, rfl, ?_⟩
          unfold srcD
          rw [w2, Bool.or_true]
          rfl
      refine ⟨r, _, a4, _, rfl, rfl, sq_of hrg, h3, _, rfl, (by show 3 ≤ sizeLine; decide), fun t ht => ?_⟩
      have bg2 : But p H' Hg := ((bd2.trans be).trans bf).trans ((But.ofEx (Ex.new hr')).trans bg)
      have hfg := bg2 _ _ fnp hf
      have tf : fp ≠ t := ne_of_none hfg ht
      have hft : (upd Hg t (.tup [.str s1, .str s3, .int (1 + m)])) fp = some (.lst acc) := by
        rw [upd_ne tf]
        exact hfg
      obtain ⟨pc, pz, hpl, _⟩ := id pp
      have gsg : Dds K (upd Hg t (.tup [.str s1, .str s3, .int (1 + m)])) acc ds := Dds.ext (Ex.new ht) _ _ (dds_but hpl bg2 ds acc nls gs)
      have md : markD (.tuple [.str s1, .str s3, .int (1 + m)]) = true := by
        show (wordD (.str s1) && srcD (.str s3) && (decide (1 ≤ 1 + m) && decide (1 + m ≤ 1000000000000000000))) = true
        rw [w1, w3, decide_eq_true (by omega), decide_eq_true (by omega)]
        rfl
      refine ⟨fp, acc, .ref t, rfl, rfl, hft, sz_lt (by rw [gs.len]; omega), _, _, acc ++ [.ref t], ds ++ [.tuple [.str s1, .str s3, .int (1 + m)]], rfl, ?_, fun b o n1 n2 h => ?_, upd_same, ?_, ?_, ?_⟩
      · obtain ⟨c', z', h1, h2⟩ := hpg.ext (Ex.new (o := .tup [.str s1, .str s3, .int (1 + m)]) ht)
        exact ⟨c', z', by rw [upd_ne (Ne.symm fnp)]; exact h1, h2⟩
      · rw [upd_ne n2]
        exact Ex.new ht b o (bg2 b o n1 (bb b o n1 n2 h))
      · refine Dds.app (Dds.upd hft _ _ nls gsg) (.cons (Dd.upd hft _ _ rfl ?_) .nil)
        exact .tup (st_of upd_same) (.cons (.str _) (.cons (.str _) (.cons (.int _) .nil)))
      · rw [List.length_append, len]
        rfl
      · intro d m'
        rcases List.mem_append.mp m' with m' | m'
        · exact good d m'
        · rw [List.mem_singleton.mp m']
          exact md
    · rintro σ' H' ⟨o2, o3, acc, ds, rfl, pp, bb, hf, gs, len, good⟩
      refine (ed_tupleL (K := K) (ds := ds) (ev_var rfl) (sq_of hf) gs) H' (Ex.refl _) _ fun u H4 e4 gu => ?_
      refine kQ u ds H4 gu (by omega) good (fun b o n1 h => e4 b o ?_) (pp.ext e4)
      have h2 := e2 b o h
      have n2 : b ≠ fp := ne_of_none h nfp
      exact bb b o n1 n2 (b3 b o n1 h2)
end
end K03
set_option maxHeartbeats 4000000
namespace K03
open PySem PySem.Spec PyProof.Rows L2 Evl My LamX
abbrev sRefused : Stmt := top 29
/-- what the error keeps can be told -/
structure Told (K : PySem.W.Frag) (H : Hp) (v : V) (d : PyData) : Prop where
  dd : Dd K H v d
  sh : d.showable = true
  sz : d.shown.length ≤ 100000
  dp : d.depth ≤ 60
def NR : List Str := ["_law_door", "_law_thing", "e"]
theorem scRefused : FnScope NR ["_law_door", "_law_thing"] (defScope sRefused) := ⟨rfl, rfl, rfl, by decide +kernel, rfl, by decide +kernel, by decide +kernel⟩
/-- the way out of a door that refuses v: the error keeps what is told like v -/
def Ech (K : PySem.W.Frag) (C : Addr) (v : V) (d : PyData) (Q : VK) : XK := fun cls dd H' => cls = .ref C ∧ ∃ a v', dd = some a ∧ H' a = some (.xd [("value", v')]) ∧ Told K H' v' d ∧ Told K H' v d ∧ ∀ H2, Ex H' H2 → Q (.bl true) H2
/-- _law_refused(lambda: .., e): the door refuses -/
def tDoor (K : PySem.W.Frag) (C : Addr) (T : List (Addr × Str)) (q : Str) (t : XK → TE) (te : TE) : TE := fun σ H Q => Tabs T H ∧ ∀ H1 c', ExtN H H1 → Tabs T H1 → H1 c' = some (CodeO c' q) →
  te σ H1 fun v H2 => H2 c' = some (CodeO c' q) ∧ ∃ d, t (Ech K C v d Q) σ H2 fun _ _ => False
structure Rf (P : Program) (w : World) (K : PySem.W.Frag) (mg : Str → Option Value) (base : Heap) (C : Addr) : Prop where
  ex : ∃ (g : Addr) (fd : FuncData), mg "_law_refused" = some (.ref g) ∧ PySem.W.keepIn K (.ref g) = true ∧ Fun K "_law_refused" "_law_refused" sRefused g fd ∧ Binds K fd ["_law_door", "_law_thing"] []
  xf : XfC K C
  exm : PySem.W.exmOne K (.ref C) (.ref C) = some true
  no : PySem.W.findIn K (.ref C) "value" = some none
  gC : mg "InvalidName" = some (.ref C)
  rep : mg "repr" = none
/-- the door is asked, the way out told of the very slots -/
theorem door_at {X : Cx} {pins : List (Addr × Obj)} {σ : L2.St} {H : Hp} {s : Shared} {g f c' : Addr} {cdg pm ctv : Value} {params : Arguments} {body : Expr} {scope : Scope} {k : Nat} {pn : List (Addr × Obj)} {xe : Value → Shared → Prop} {W : WX} {tb : TE} {p1 p2 : Pos}
    (I : Inv X pins σ H s) (L : LamS X.env.scope scope) (at1 : s.heap.get? f = some (PySem.W.kla_obj "<lambda>" (X.env.qual ++ "<lambda>") params body scope (cloFrom X.env.cells scope.names []) pm c' ctv)) (un1 : H f = none) (nf : f ∉ frs X.stack)
    (hb0 : bindArgs (PySem.W.kla_fn "<lambda>" (X.env.qual ++ "<lambda>") params body scope (cloFrom X.env.cells scope.names []) pm (.ref c') ctv) ⟨[], []⟩ = pure [])
    (tk : Takes ((cxOf C8.CX0 X.prog X.w X.K X.mg X.base NR "_law_refused" (defScope sRefused) g cdg X.A X.stack s H C8.E0).tr pn xe) W) (room : Room (k + 1) (X.A.deeper (envOfC "_law_refused" (defScope sRefused) s.heap.objs.size g cdg)))
    {pZ : List (Addr × Obj)} {sZ : Shared} {σZ : L2.St} {HZ : Hp} {Q : VK} (IZ : Inv ((cxOf C8.CX0 X.prog X.w X.K X.mg X.base NR "_law_refused" (defScope sRefused) g cdg X.A X.stack s H C8.E0).tr pn xe) pZ σZ HZ sZ)
    (bodyOk : ∀ (A : Around) (outer : List Env) (s : Shared) (H : Hp), Room k (A.deeper (lamEnv X scope s.heap.objs.size f c')) → PE (lamCx X A outer s H (WE W σZ) scope f c') body tb)
    (slot : σZ[0]? = some (some (.ref f))) (known : HZ c' = some (CodeO c' (X.env.qual ++ "<lambda>"))) (go : tb σ HZ Q) :
    wpAny (model X.prog X.w) ((cxOf C8.CX0 X.prog X.w X.K X.mg X.base NR "_law_refused" (defScope sRefused) g cdg X.A X.stack s H C8.E0).tr pn xe).A (eval (.Call (.Name "_law_door" p1) [] [] p2) ((cxOf C8.CX0 X.prog X.w X.K X.mg X.base NR "_law_refused" (defScope sRefused) g cdg X.A X.stack s H C8.E0).tr pn xe).env)
      (EP ((cxOf C8.CX0 X.prog X.w X.K X.mg X.base NR "_law_refused" (defScope sRefused) g cdg X.A X.stack s H C8.E0).tr pn xe) pZ σZ Q) xe sZ := by
  have named := (pe_var (X := (cxOf C8.CX0 X.prog X.w X.K X.mg X.base NR "_law_refused" (defScope sRefused) g cdg X.A X.stack s H C8.E0).tr pn xe) (x := "_law_door") (pos := p1) (i := 0) rfl (by first | exact Or.inl rfl | exact Or.inr (Or.inl rfl))).run pZ sZ σZ HZ (fun v H1 => v = .ref f ∧ H1 = HZ) IZ ⟨.ref f, slot, rfl, rfl⟩
  refine wpAny_Call_Name_kw (thn named ?_)
  rintro u s1 ⟨v, H1, I1, rv, rfl, rfl⟩
  obtain rfl : u = Value.ref f := rv
  have still := I1.base.keep f _ at1 un1 nf (fun z => nomatch (show f ∈ ([] : List Addr) from z))
  refine PySem.W.callWith_F0 ⟨_, _, _, _, still⟩ ?_
  have grown : Un (frs X.stack) [] H H1 s.heap s1.heap := I1.base
  obtain ⟨⟨oc, flds, t, isc, isd, isq⟩, _, _⟩ := I1.hok c' _ known
  have asked : codeAny (model X.prog X.w) (X.A.deeper (envOfC "_law_refused" (defScope sRefused) s.heap.objs.size g cdg)) (.call (.ref f) ⟨[], []⟩)
      (CR (L2.CX X.prog X.w) (envOfC "_law_refused" (defScope sRefused) s.heap.objs.size g cdg :: X.stack) X.prog X.w H1 s1 Q (WE W σZ)) s1 := by
    refine PySem.W.kla_callFunE room.depth still rfl L.co L.gen rfl ⟨c', oc, flds, t, rfl, isc, isd, isq⟩ ?_
    rw [hb0]
    refine wpAny_pure (wpAny_newFunctionEnv (fun y hy => (L.own y hy).2) (fun y hy => by cases hy) (fun fresh ns bare => ⟨I1.nolimit.fresh _ bare, ?_⟩) L.kind)
    have kept : ∀ b o, s1.heap.get? b = some o → fresh.get? b = some o := fun b o e => bare.extBut b o (Nat.ne_of_lt (Heap.lt_size e)) (Heap.get?_push_of_some _ e)
    have J := lam_start2 (c' := c') (f := f) (E := WE W σZ) (tk := s1.toks + ([] : List (Str × Value)).length) I L I1.env0 room.hd grown ns kept
    refine PySem.W.kla_codeExpr (wpAny_mono ((bodyOk _ _ s1 H1 (room.deeper _)).run [] _ _ H1 Q J go) ?_ fun e s' hq => hq)
    rintro u s' ⟨w', H', J', rw', q⟩
    exact ⟨w', H', J'.os, J'.bare, J'.base, J'.hok, rw', q⟩
  refine wpAny_call (codeAny_mono asked fun r s' hq => ?_)
  match r, hq with
  | .error e, hq => exact passAt tk σZ pZ H1 s1 e s' I1 hq
  | .ok (.ret u), hq => exact I1.after hq
  | .ok .next, hq => exact hq.elim
  | .ok .brk, hq => exact hq.elim
  | .ok .cont, hq => exact hq.elim
theorem pe_door {X : Cx} {C c P : Addr} {k : Nat} {T : List (Addr × Str)} {params : Arguments} {body e : Expr} {scope : Scope} {t : XK → TE} {te : TE} {p lpos pos : Pos} (R : Rf X.prog X.w X.K X.mg X.base C) (hst : X.stack = X.env :: X.outer) (hfr0 : X.env.frame = some X.env.locals)
    (hgd : X.A.guards = some []) (hr : Room (k + 2) X.A) (hg : Gl X "_law_refused") (TB : TabB X.base X.mg c P) (hcode : X.env.code = .ref c) (hmT : (P, X.env.qual ++ "<lambda>") ∈ T) (hu : ∀ p ∈ T, p.1 = P → p.2 = X.env.qual ++ "<lambda>")
    (L : LamS X.env.scope scope) (hdef : defaultsOf params X.env = ([], []))
    (hbind : ∀ (q : Str) (cl : List (Str × Addr)) (pm cv ctv : Value), bindArgs (PySem.W.kla_fn "<lambda>" q params body scope cl pm cv ctv) ⟨[], []⟩ = pure [])
    (hbody : ∀ (A : Around) (outer : List Env) (s : Shared) (H : Hp) (E : XK) (f c' : Addr), Room k (A.deeper (lamEnv X scope s.heap.objs.size f c')) → PE (lamCx X A outer s H E scope f c') body (t E))
    (tm : ∀ (E E' : XK) σ H, (∀ cls dd H', E cls dd H' → E' cls dd H') → t E σ H (fun _ _ => False) → t E' σ H (fun _ _ => False)) (he : PE X e te) (hs2 : starEach (.Lambda params body scope lpos :: [e]) X.env = (false, eval (.Lambda params body scope lpos) X.env) :: starEach [e] X.env := by rfl) (hs1 : starEach [e] X.env = (false, eval e X.env) :: starEach [] X.env := by rfl) :
    PE X (.Call (.Name "_law_refused" p) [.Lambda params body scope lpos, e] [] pos) (tDoor X.K C T (X.env.qual ++ "<lambda>") t te) := by
  refine ⟨fun pins s σ H Q I h => ?_⟩
  obtain ⟨hT, h⟩ := h
  obtain ⟨g, fd, hm, hk, F, hb⟩ := R.ex
  obtain ⟨oc, od, kV, doc, pm0, an, cdv, ct, osl, rfl, lk, hcg⟩ := F.ex
  refine wpAny_Call_Name_kw (ld_glob I hg hm ?_ (by decide))
  refine PySem.W.callWith_K (h₀ := X.base) I.ok.mod.kin hk ?_ hs2 (by rw [hs1]; rfl)
  rw [hs2]
  show wpAny _ _ (spliced ((false, eval (.Lambda params body scope lpos) X.env) :: backTo pos (starEach [e] X.env))) _ _ s
  refine Calls.spliced_cons (lam_make2 I TB hcode hmT hu hT hdef (L.has I.ok) fun f c' pm' ctv H1 s1 I1 eN T1 hf hfn hfr hco => ?_)
  have hfl : f ≠ X.env.locals ∧ f ∉ X.fs := by
    rw [hst] at hfr
    unfold frs at hfr
    rw [List.filterMap_cons, hfr0] at hfr
    exact ⟨fun z => hfr (by rw [z]; exact List.mem_cons_self ..), fun z => hfr (List.mem_cons_of_mem _ z)⟩
  have I1p : Inv X ((f, PySem.W.kla_obj "<lambda>" (X.env.qual ++ "<lambda>") params body scope (cloFrom X.env.cells scope.names []) pm' c' ctv) :: pins) σ H1 s1 := { I1 with
    pin := fun q hq => by
      rcases List.mem_append.mp hq with z | z
      · exact I1.pin q (List.mem_append_left _ z)
      · rcases List.mem_cons.mp z with rfl | z
        · exact ⟨hf, hfn, hfl.1, hfl.2, fun v z => by cases z⟩
        · exact I1.pin q (List.mem_append_right _ z) }
  have run := (pa_cons he pa_nil hs1).run pos _ s1 σ H1 (fun vs H2 => match vs with
    | [v] => H2 c' = some (CodeO c' (X.env.qual ++ "<lambda>")) ∧ ∃ d, t (Ech X.K C v d Q) σ H2 fun _ _ => False
    | _ => False) I1p (h H1 c' eN T1 hco)
  refine thn run ?_
  rintro us s2 ⟨vs, H2, I2p, r2, ht⟩
  match vs, us, r2, ht with
  | [v], [u], r2, ht =>
    cases r2 with
    | cons rv rn =>
      obtain ⟨hco2, d, ht⟩ := ht
      obtain ⟨hf2, hfn2, _, _, _⟩ := I2p.pin (f, _) (List.mem_append_right _ (List.mem_cons_self ..))
      have I2 : Inv X pins σ H2 s2 := { I2p with pin := fun q hq => I2p.pin q (by
        rcases List.mem_append.mp hq with z | z
        · exact List.mem_append_left _ z
        · exact List.mem_append_right _ (List.mem_cons_of_mem _ z)) }
      refine ⟨I2.kIn, ?_⟩
      show wpAny _ _ (call (.ref g) [.ref f, u]) _ _ _
      have rc : codeAny (model X.prog X.w) X.A (.call (.ref g) ⟨[.ref f, u], []⟩) (CR C8.CX0 X.stack X.prog X.w H2 s2 Q C8.E0) s2 := by
        refine run_ofS (N := NR) (ps := ["_law_door", "_law_thing"]) (us := [.ref f, u]) (vs := [.ref f, v]) lk hcg scRefused hr I2.env0 (hb s2 [.ref f, u] I2.kIn rfl) (.cons rfl (.cons rv .nil)) rfl fun hr' => ?_
        have hun : (X.A.deeper (envOfC "_law_refused" (defScope sRefused) s2.heap.objs.size g cdv)).units + 200 < cLine := by
          have := hr'.un
          omega
        refine ⟨_, PSs.nox (pss_cons (ps_try_as (i := 2) (c := .ref C) (tb := fun W D σZ HZ => σZ[0]? = some (some (.ref f)) ∧ HZ c' = some (CodeO c' (X.env.qual ++ "<lambda>")) ∧ t (WE W σZ) σ HZ fun _ _ => False)
          (ts := fun a cls d => tRet (tOp rEq (tCB (rRepr X.K) (tCons (tXf a cls d C "value" (tVar 2)) tNil)) (tCB (rRepr X.K) (tCons (tVar 1) tNil)))) (Wout := fun _ _ _ _ => False) rfl rfl scRefused.nd rfl rfl ⟨rfl, by decide, Or.inl R.gC⟩ L2.takes0
          (fun W pn xe tk _ => ?_)
          (fun a oe cls d pn hz hf => pss_one (ps_ret (pe_cmpR op_eq (pe_callB (call_reprU hgd hun) (by rfl) R.rep (by decide +kernel) (pa_cons (pe_xf R.xf R.no hz hf (pv 2)) pa_nil)) (pe_callB (call_reprU hgd hun) (by rfl) R.rep (by decide +kernel) (pa_cons (pv 1) pa_nil)) (nomark _)))))
          (pss_one (ps_ret pe_bl))), ?_⟩
        · have ask : ∀ p1 p2 : Pos, PE ((cxOf C8.CX0 X.prog X.w X.K X.mg X.base NR "_law_refused" (defScope sRefused) g cdv X.A X.stack s2 H2 C8.E0).tr pn xe) (.Call (.Name "_law_door" p1) [] [] p2)
              (fun σZ HZ _ => σZ[0]? = some (some (.ref f)) ∧ HZ c' = some (CodeO c' (X.env.qual ++ "<lambda>")) ∧ t (WE W σZ) σ HZ fun _ _ => False) := fun p1 p2 =>
            ⟨fun pZ sZ σZ HZ Q IZ ⟨h1, h2, h3⟩ => wpAny_mono (door_at (Q := fun _ _ => False) I2 L hf2 hfn2 hfr (hbind _ _ _ _ _) tk hr' IZ (fun A outer s H r => hbody A outer s H (WE W σZ) f c' r) h1 h2 h3) (fun v s' ⟨_, _, _, _, z⟩ => z.elim) fun e s' h => h⟩
          exact pss_one (ps_expr (ask _ _))
        · refine ⟨rfl, hco2, tm _ _ _ _ ?_ ht⟩
          rintro cls dd H' ⟨rfl, a0, v', rfl, hx, td', td, k⟩
          refine ⟨true, R.exm, fun _ a na => ?_, fun z => Bool.noConfusion z⟩
          have sz : d.shown.length ≤ sizeLine := sz_of td.sz
          have dp : d.depth ≤ 64 := Nat.le_trans td.dp (by decide)
          refine ⟨.ref a, rfl, rfl, rfl, a0, _, v', rfl, hx, rfl, v', d, rfl, .inr td'.dd, td.sh, sz, dp, v, rfl, v, d, rfl, .inr td.dd, td.sh, sz, dp, rfl, ?_⟩
          have e : decide (V.str d.shown = V.str d.shown) = true := decide_eq_true rfl
          rw [e]
          exact k H' (Ex.refl _)
      refine wpAny_call (codeAny_mono rc fun r s3 hq => ?_)
      match r, hq with
      | .error e, hq => exact (show False from hq).elim
      | .ok (.ret u), hq => exact I2.after hq
      | .ok .next, hq => exact hq.elim
      | .ok .brk, hq => exact hq.elim
      | .ok .cont, hq => exact hq.elim
end K03
set_option maxHeartbeats 4000000
namespace My
open PySem PySem.Spec PyProof.Rows L2
section
variable {P : Program} {w : World} {K : PySem.W.Frag} {mg : Str → Option Value} {base : Heap} {CX : CXT} {k : Nat} {f : Addr} {ps : List Str} {sp : Sp}
/-- by the body, its guards and its code object known -/
theorem FnG.byBodyAt {x qual : Str} {st : Stmt} {N : List Str} {oc : Value} {od an : Option Addr} {osl : Array (Option Value)} {kV doc pm cdv ct : Value}
    (lk : K.lookup f = some ⟨oc, od, .func (PySem.W.fnOf x qual (defArgs st) (defBody st) (defScope st) .none kV doc pm an cdv ct), osl⟩) (code : PySem.W.codeIn K cdv qual = true) (S : FnScope N ps (defScope st))
    (len : ∀ vs H Q E, sp vs H Q E → vs.length = ps.length)
    (body : ∀ (A : Around) (outer : List Env) (s : Shared) (H : Hp) (vs : List V) (Q : VK) (E : XK),
      A.guards = some [] → Room k (A.deeper (envOfC qual (defScope st) s.heap.objs.size f cdv)) → sp vs H Q E →
      ∃ t, PSs (cxOf CX P w K mg base N qual (defScope st) f cdv A outer s H E) (defBody st) t ∧ t { nx := fun _ H' => Q .non H', rt := Q } (start N vs) H) :
    FnG P w K mg base CX (k + 1) f (PySem.W.fnOf x qual (defArgs st) (defBody st) (defScope st) .none kV doc pm an cdv ct) ps sp :=
  ⟨len, fun A outer s H args us vs Q E hg hr e0 hb r hsp => LamX.run_ofS lk code S hr e0 hb r (len _ _ _ _ hsp) fun hr' => body A outer s H vs Q E hg hr' hsp⟩
end
end My
namespace K03
open PySem PySem.Spec PyProof.Rows L2 Evl My LamX
mutual
theorem dd_extN {K : PySem.W.Frag} {H H' : Hp} (e : ExtN H H') : ∀ (d : PyData) (v : V), Dd K H v d → Dd K H' v d
  | .none, _, g => by
    cases g
    exact .non
  | .bool b, _, g => by
    cases g
    exact .bl b
  | .int i, _, g => by
    cases g
    exact .int i
  | .str x, _, g => by
    cases g
    exact .str x
  | .tuple ds, _, g => by
    cases g with
    | tup hs ha =>
      refine .tup ?_ (dds_extN e ds _ ha)
      rcases hs with (hb | ⟨ob, hb⟩) | hb
      · exact .inl (.inl (e _ _ hb fun _ z => nomatch z))
      · exact .inl (.inr ⟨ob, e _ _ hb fun _ z => nomatch z⟩)
      · exact .inr hb
  | .list ds, _, g => by
    cases g with
    | lst hs n ha =>
      refine .lst ?_ n (dds_extN e ds _ ha)
      rcases hs with (hb | ⟨ob, hb⟩) | hb
      · exact .inl (.inl (e _ _ hb fun _ z => nomatch z))
      · exact .inl (.inr ⟨ob, e _ _ hb fun _ z => nomatch z⟩)
      · exact .inr hb
  | .dict kvs, _, g => by
    cases g with
    | dct hb => exact .dct (e _ _ hb fun _ z => nomatch z)
theorem dds_extN {K : PySem.W.Frag} {H H' : Hp} (e : ExtN H H') : ∀ (ds : List PyData) (vs : List V), Dds K H vs ds → Dds K H' vs ds
  | [], _, g => by
    cases g
    exact .nil
  | d :: ds, _, g => by
    cases g with
    | cons g1 g2 => exact .cons (dd_extN e d _ g1) (dds_extN e ds _ g2)
end
/-- a test that may make lambdas -/
def EtN (T : List (Addr × Str)) (tt : TT) (σ : L2.St) (H : Hp) (b : Bool) : Prop := ∀ H1, ExtN H H1 → Tabs T H1 → ∀ Q : Bool → Hp → Prop, (∀ H2, ExtN H1 H2 → Tabs T H2 → Q b H2) → tt σ H1 Q
section
variable {K : PySem.W.Frag} {T : List (Addr × Str)} {tt tu : TT} {σ : L2.St} {H : Hp} {te : TE} {C : Addr} {q : Str} {t : XK → TE} {d : PyData}
theorem etN_of {b : Bool} (h : ∀ H1, ExtN H H1 → EvT tt σ H1 b) : EtN T tt σ H b := fun H1 e tb Q k => h H1 e H1 (Ex.refl _) Q fun H2 e2 => k H2 (ExtN.of e2) (fun p hp => (tb p hp).ext e2)
theorem etN_or (h1 : EtN T tt σ H false) (h2 : EtN T tu σ H false) : EtN T (tOr tt tu) σ H false := fun H1 e tb Q k => h1 H1 e tb _ fun H2 e2 tb2 => by
  show tu σ H2 Q
  exact h2 H2 (e.trans e2) tb2 Q fun H3 e3 tb3 => k H3 (e2.trans e3) tb3
theorem etN_and (h1 : EtN T tt σ H true) (h2 : EtN T tu σ H false) : EtN T (tAnd tt tu) σ H false := fun H1 e tb Q k => h1 H1 e tb _ fun H2 e2 tb2 => by
  show tu σ H2 Q
  exact h2 H2 (e.trans e2) tb2 Q fun H3 e3 tb3 => k H3 (e2.trans e3) tb3
theorem etN_andF (h1 : EtN T tt σ H false) : EtN T (tAnd tt tu) σ H false := fun H1 e tb Q k => h1 H1 e tb _ fun H2 e2 tb2 => by
  show Q false H2
  exact k H2 e2 tb2
/-- not _law_refused(lambda: .., e), where it is refused -/
theorem etN_door (he : ∀ H1, ExtN H H1 → EvD K te σ H1 d) (sh : d.showable = true) (sz : d.shown.length ≤ 100000) (dp : d.depth ≤ 60)
    (ht : ∀ (E : XK) H1 v, ExtN H H1 → Dd K H1 v d → (∀ dd v' H', Ex H1 H' → H' dd = some (.xd [("value", v')]) → Dd K H' v' d → E (.ref C) (some dd) H') → t E σ H1 fun _ _ => False) :
    EtN T (tNot (tB (tDoor K C T q t te))) σ H false := fun H1 e tb Q k => ⟨tb, fun H2 c' e2 tb2 hc => he H2 (e.trans e2) H2 (Ex.refl _) _ fun v H3 e3 g => ⟨e3 _ _ hc, d,
  ht _ H3 v ((e.trans e2).trans (ExtN.of e3)) g fun dd v' H' e' hx g' => ⟨rfl, dd, v', rfl, hx, ⟨g', sh, sz, dp⟩, ⟨Dd.ext e' _ _ g, sh, sz, dp⟩, fun H4 e4 => ⟨true, rfl, k H4 ((e2.trans (ExtN.of e3)).trans ((ExtN.of e').trans (ExtN.of e4))) fun p hp => ((tb2 p hp).ext e3).ext (fun a o h => e4 a o (e' a o h))⟩⟩⟩⟩
end
end K03
set_option maxHeartbeats 4000000
namespace K03
open PySem PySem.Spec PyProof.Rows L2 Evl My LamX
/-- a def that may raise, as a constant -/
structure DfX (P : Program) (w : World) (K : PySem.W.Frag) (mg : Str → Option Value) (base : Heap) (x : Str) (ps : List Str) (k : Nat) (sp : Sp) : Prop where
  ex : ∃ (f : Addr) (fd : FuncData), mg x = some (.ref f) ∧ PySem.W.keepIn K (.ref f) = true ∧ FnOk P w K mg base (L2.CX P w) k f fd ps sp ∧ Binds K fd ps []
theorem pe_dfX {X : Cx} {x : Str} {ps : List Str} {k : Nat} {sp : Sp} {e : Expr} {es : List Expr} {t : TA} {p pos : Pos} {E : XK} (D : DfX X.prog X.w X.K X.mg X.base x ps k sp) (hr : Room k X.A) (hg : Gl X x) (hx : Passes (L2.CX X.prog X.w) X E) (ha : PA X (e :: es) t)
    (hdb : (x == ("__debug__" : Str)) = false := by decide) (he : starEach (e :: es) X.env = (false, eval e X.env) :: starEach es X.env := by rfl) (hpl : (backTo pos (starEach es X.env)).any (·.1) = false := by rfl) :
    PE X (.Call (.Name x p) (e :: es) [] pos) (tCall sp [] E t) := by
  obtain ⟨f, fd, hm, hk, F, b⟩ := D.ex
  exact pe_call F hr hg hm hk b .nil hx ha hdb he hpl
theorem lamPass {X : Cx} {A : Around} {outer : List Env} {s : Shared} {H : Hp} {E : XK} {scope : Scope} {f c' : Addr} : Passes (L2.CX (lamCx X A outer s H E scope f c').prog (lamCx X A outer s H E scope f c').w) (lamCx X A outer s H E scope f c') E :=
  L2.passes_call (L2.takes_of rfl rfl rfl rfl) fun _ _ _ _ h => h
section
variable {K : PySem.W.Frag} {T : List (Addr × Str)} {σ : L2.St} {H : Hp} {C : Addr} {F : PyData → Option PyData} {d : PyData} {v : V} {i j : Nat} {E E' : XK} {ds : List PyData} {tl : TE} {tb tz : TS} {D : Ends}
/-- the def refuses what stands in a name -/
theorem go_var (slot : σ[i]? = some (some v)) (g : Dd K H v d) (hd : small d = true) (hF : F d = none) (hE : ∀ dd v' H', Ex H H' → H' dd = some (.xd [("value", v')]) → Dd K H' v' d → E (.ref C) (some dd) H') :
    tCall (spRz K C F) [] E (tCons (tVar i) tNil) σ H fun _ _ => False :=
  ⟨v, slot, v, d, rfl, g, hd, (fun r hr => absurd (hF.symm.trans hr) (fun z => by cases z)), fun _ dd H' e hx => hE dd v H' e hx (Dd.ext e _ _ g)⟩
/-- it refuses a tuple of what stands in a name -/
theorem go_tup (slot : σ[i]? = some (some v)) (g : Dd K H v d) (hd : small (.tuple [d]) = true) (hF : F (.tuple [d]) = none) (hE : ∀ dd v' H', Ex H H' → H' dd = some (.xd [("value", v')]) → Dd K H' v' (.tuple [d]) → E (.ref C) (some dd) H') :
    tCall (spRz K C F) [] E (tCons (tTup (tCons (tVar i) tNil)) tNil) σ H fun _ _ => False :=
  ⟨v, slot, (by show 1 ≤ sizeLine; decide), fun p hp => by
    have g2 : Dd K (upd H p (.tup [v])) (.ref p) (.tuple [d]) := .tup (st_of upd_same) (.cons (Dd.ext (Ex.new hp) _ _ g) .nil)
    exact ⟨.ref p, .tuple [d], rfl, g2, hd, (fun r hr => absurd (hF.symm.trans hr) (fun z => by cases z)), fun _ dd H' e hx => hE dd (.ref p) H' ((Ex.new hp).trans e) hx (Dd.ext e _ _ g2)⟩⟩
theorem mono_var : ∀ (E E' : XK) σ H, (∀ cls dd H', E cls dd H' → E' cls dd H') → tCall (spRz K C F) [] E (tCons (tVar i) tNil) σ H (fun _ _ => False) → tCall (spRz K C F) [] E' (tCons (tVar i) tNil) σ H fun _ _ => False := by
  rintro E E' σ H m ⟨v, slot, v', d, e, g, hd, k, kE⟩
  exact ⟨v, slot, v', d, e, g, hd, k, fun z dd H' e' hx => m _ _ _ (kE z dd H' e' hx)⟩
theorem mono_tup : ∀ (E E' : XK) σ H, (∀ cls dd H', E cls dd H' → E' cls dd H') → tCall (spRz K C F) [] E (tCons (tTup (tCons (tVar i) tNil)) tNil) σ H (fun _ _ => False) → tCall (spRz K C F) [] E' (tCons (tTup (tCons (tVar i) tNil)) tNil) σ H fun _ _ => False := by
  rintro E E' σ H m ⟨v, slot, hz, kp⟩
  refine ⟨v, slot, hz, fun p hp => ?_⟩
  obtain ⟨v', d, e, g, hd, k, kE⟩ := kp p hp
  exact ⟨v', d, e, g, hd, k, fun z dd H' e' hx => m _ _ _ (kE z dd H' e' hx)⟩
/-- two written lists, one behind the other -/
theorem edl_cat {ta tb : TE} {es : List PyData} (ha : EvDL K ta σ H ds) (hb : EvDL K tb σ H es) (hz : ds.length + es.length ≤ 100000) : EvDL K (tOp rCat ta tb) σ H (ds ++ es) := fun H1 e Q q =>
  ha H1 e _ fun p xs H2 np e2 hx g => hb H2 (e.trans e2) _ fun r ys H3 nr e3 hy gy => by
    have hl : xs.length + ys.length ≤ 100000 := by
      rw [g.len, gy.len]
      exact hz
    exact ⟨p, r, xs, ys, rfl, rfl, e3 _ _ hx, hy, sz_of hl, fun l hn => q l _ _ (fresh_back (e2.trans e3) hn) ((e2.trans e3).trans (Ex.new hn)) upd_same (Dds.app (Dds.ext (e3.trans (Ex.new hn)) _ _ g) (Dds.ext (Ex.new hn) _ _ gy))⟩
/-- a loop over a new list of data whose turns may make lambdas -/
theorem q_forN (h : EvDL K tl σ H ds) (S : L2.St → Prop) (s0 : S σ) (tb0 : Tabs T H)
    (step : ∀ d, d ∈ ds → ∀ v σ' H' D', S σ' → ExtN H H' → Tabs T H' → Dd K H' v d → (∀ σ'' H'', S σ'' → ExtN H' H'' → Tabs T H'' → D'.nx σ'' H'') → (∀ v'' H'', D'.rt v'' H'' = D.rt v'' H'') → tb D' (σ'.set j (some v)) H')
    (done : ∀ σ' H', S σ' → ExtN H H' → Tabs T H' → tz D σ' H') : tSeq (tFor (iList K tl) (gName j) tb) tz D σ H :=
  h H (Ex.refl H) _ fun p xs H1 np e1 hx g => ⟨p, rfl, ⟨xs, sq_of hx⟩, for_list (fun _ σ' H' => S σ' ∧ ExtN H1 H' ∧ Tabs T H') ⟨s0, ExtN.refl _, fun q hq => (tb0 q hq).ext e1⟩
    (fun i σ' H' _ pv => sq_of (pv.2.1 _ _ hx fun _ z => nomatch z))
    (fun i x σ' H' hi pv => by
      obtain ⟨d, hd, gd⟩ := (dds_extN pv.2.1 _ _ g).get hi
      exact step d (List.mem_of_getElem? hd) x σ' H' _ pv.1 ((ExtN.of e1).trans pv.2.1) pv.2.2 gd (fun σ'' H'' s e t => ⟨s, pv.2.1.trans e, t⟩) fun _ _ => rfl)
    (fun σ' H' pv => done σ' H' pv.1 ((ExtN.of e1).trans pv.2.1) pv.2.2)⟩
end
end K03
set_option maxHeartbeats 4000000
namespace K03
open PySem PySem.Spec PyProof.Rows L2 Evl My LamX
def rMulS : R2 := fun x y H Q => ∃ a n, x = .str a ∧ y = .int n ∧ MulOk a n ∧ Q (.str (Txt.mul a n)) H
theorem op_mulS {X : Cx} : OpR X (binaryOp .Mult) rMulS := by
  intro pins s σ H x y v u Q I rx ry h
  obtain ⟨a, n, rfl, rfl, hz, q⟩ := h
  obtain ⟨t, rfl⟩ := rx
  obtain ⟨t', rfl⟩ := ry
  exact SB.mul hz fun t'' k => ⟨.str _, H, I.tok _, ⟨_, rfl⟩, q⟩
section
variable {K : PySem.W.Frag} {σ : L2.St} {H : Hp} {ta tb te : TE}
theorem ev_mulS {a : Str} {n : Int} (ha : Ev ta σ H (.str a)) (hb : Ev tb σ H (.int n)) (hz : MulOk a n) : Ev (tOp rMulS ta tb) σ H (.str (Txt.mul a n)) := ev_op ha hb (rv_val fun _ _ _ q => ⟨a, n, rfl, rfl, hz, q⟩)
theorem ed_dnew : EvD K tDNewK σ H (.dict []) := fun H1 e Q q => fun p hp => q (.ref p) _ (Ex.new hp) (.dct upd_same)
/-- what a test asks of a Bool: is, is not -/
theorem ev_isB {a b : Bool} (ha : Ev ta σ H (.bl a)) (hb : Ev tb σ H (.bl b)) : Ev (tOp rIsB ta tb) σ H (.bl (decide (a = b))) := ev_op ha hb (rv_val fun _ _ _ q => ⟨a, b, rfl, rfl, q⟩)
theorem ev_notB {a b : Bool} (ha : Ev ta σ H (.bl a)) (hb : Ev tb σ H (.bl b)) : Ev (tOp rNotB ta tb) σ H (.bl (!decide (a = b))) := ev_op ha hb (rv_val fun _ _ _ q => ⟨a, b, rfl, rfl, q⟩)
end
/-! a number of 5000 digits -/
theorem fold_rep (c : Nat) : ∀ (n : Nat) (acc : Array Nat), ((List.replicate n (#[c] : Array Nat)).foldl (· ++ ·) acc).toList = acc.toList ++ List.replicate n c
  | 0, acc => by simp
  | n + 1, acc => by
    rw [List.replicate_succ, List.foldl_cons, fold_rep c n]
    simp [List.replicate_succ]
def ones : Str := Txt.mul "1" 5000
theorem rep_eq (n : Nat) : TL.tl (⟨(List.replicate n (#[49] : Array Nat)).foldl (· ++ ·) #[]⟩ : Str) = List.replicate n 49 := by
  show ((List.replicate n (#[49] : Array Nat)).foldl (· ++ ·) #[]).toList = _
  rw [fold_rep]
  rfl
theorem tl_ones : TL.tl ones = List.replicate 5000 49 := by
  unfold ones Txt.mul
  rw [if_neg (by decide), if_neg (by decide +kernel), show ("1" : Str).cps = #[49] by decide +kernel]
  exact rep_eq (Int.toNat 5000)
theorem ones_len : ones.length = 5000 := by
  rw [← tl_len, tl_ones, List.length_replicate]
def longS : Str := "low." ++ ones
theorem long_join : longS = Txt.join DOT ["low", ones] := by
  rw [TL.join_eq]
  refine TL.ext_tl ?_
  unfold longS
  rw [TL.tl_append, TL.tl_join]
  show TL.tl (Str.ofString "low.") ++ TL.tl ones = TL.tl (Str.ofString "low") ++ (TL.tl DOT ++ TL.tl ones)
  rw [show TL.tl (Str.ofString "low.") = TL.tl (Str.ofString "low") ++ TL.tl DOT by decide +kernel, List.append_assoc]
theorem long_signs : ∀ c ∈ TL.tl longS, c = 46 ∨ (48 ≤ c ∧ c ≤ 57) ∨ (97 ≤ c ∧ c ≤ 122) := by
  unfold longS
  rw [TL.tl_append, tl_ones, show TL.tl (Str.ofString "low.") = [108, 111, 119, 46] by decide +kernel]
  intro c hc
  rcases List.mem_append.mp hc with h | h
  · simp at h
    omega
  · rw [List.eq_of_mem_replicate h]
    exact .inr (.inl ⟨by decide, by decide⟩)
theorem long_len : longS.length = 5004 := by
  unfold longS
  rw [PySem.Str.length_append, ones_len, show Str.length "low." = 4 by decide +kernel]
theorem wm_two {s a b : Str} (h : Txt.split s DOT = [a, b]) : wmD s = mkD a "" (numD b) := by
  unfold wmD
  rw [h]
theorem numD_long {s : Str} (h : 19 < s.length) : numD s = .none := by
  unfold numD
  have e : lenN s = false := by
    unfold lenN
    rw [decide_eq_false (show ¬ s.length ≤ 19 by omega), Bool.and_false]
  rw [e, if_pos (by rw [Bool.not_false, Bool.true_or])]
theorem mkD_none (a b : Str) : mkD a b .none = .none := by
  unfold mkD
  rw [if_neg]
  intro z
  have z2 : (wordD (.str a) && srcD (.str b) && rangeD .none) = true := z
  rw [show rangeD .none = false from rfl, Bool.and_false] at z2
  cases z2
theorem ones_free : 46 ∉ TL.tl ones := fun z => by
  rw [tl_ones] at z
  have := List.eq_of_mem_replicate z
  omega
theorem low_free : 46 ∉ TL.tl (Str.ofString "low") := by decide +kernel
theorem join_split2 {a b : Str} (ha : 46 ∉ TL.tl a) (hb : 46 ∉ TL.tl b) : Txt.split (Txt.join DOT [a, b]) DOT = [a, b] :=
  TL.split_join (s := 46) (S := []) tl_dot (by decide +kernel) (by simp) fun p hp => by
    rcases List.mem_cons.mp hp with rfl | hp
    · exact ha
    · rw [List.mem_singleton.mp hp]
      exact hb
theorem long_wm : wmD longS = .none := by
  have h : Txt.split longS DOT = [Str.ofString "low", ones] := by
    rw [long_join]
    exact join_split2 low_free ones_free
  rw [wm_two h, numD_long (by rw [ones_len]; exact (by decide : 19 < 5000))]
  exact mkD_none _ _
theorem long_none : parseS longS = none := by
  have ns : ¬ longS = "/" := fun z => by
    have h := long_len
    rw [z] at h
    exact absurd h (by decide)
  have e : marksD longS = [.none] := by
    have j : longS = Txt.join PLUS [longS] := by
      rw [TL.join_eq]
      refine TL.ext_tl ?_
      rw [TL.tl_join]
      rfl
    unfold marksD
    rw [j, TL.split_join (s := 43) (S := []) tl_plus (by decide +kernel) (by simp) (fun p hp => by
      rw [List.mem_singleton.mp hp]
      intro z
      have := long_signs 43 z
      omega)]
    show [wmD longS] = _
    rw [long_wm]
  unfold parseS
  rw [if_neg ns, e]
  rfl
theorem long_ok : okS longS = true := by
  unfold okS PyData.strOk
  rw [Bool.and_eq_true, decide_eq_true_eq, ← Array.all_toList, List.all_eq_true]
  refine ⟨by rw [long_len]; exact (by decide : 5004 ≤ 10000), fun c hc => decide_eq_true ?_⟩
  have := long_signs c hc
  omega
end K03
set_option maxHeartbeats 4000000
namespace K03
open PySem PySem.Spec PyProof.Rows L2 Evl My LamX
def toldB (d : PyData) : Bool := d.showable && decide (d.shown.length ≤ 100000) && decide (d.depth ≤ 60)
def ds1 : List PyData := [.tuple [.str "low", .str "", .int 0], .tuple [.str "low", .str "", .int (-1)], .tuple [.str "low", .str "", .bool true], .tuple [.str "low", .str "", .str "1"], .tuple [.str "low", .str "", .int 1000000000000000001]]
def ds2 : List PyData := [.tuple [.str "low", .none, .int 1], .tuple [.str "low", .str "Pad", .int 1], .tuple [.str "", .str "", .int 1], .tuple [.str "Low", .str "", .int 1], .tuple [.str "abcdefghi", .str "", .int 1], .list [.str "low", .str "", .int 1], .tuple [.str "low", .int 1], .tuple [.str "low", .str "", .int 1, .int 1], .none, .int 5, .str "low.1", .tuple [], .tuple [.tuple [.str "low"], .str "", .int 1], .tuple [.list [], .str "", .int 1]]
def ds3 : List PyData := [.none, .int 5, .str "low.1", .list [], .list [.tuple [.str "low", .str "", .int 1]], .dict [], .tuple [.str "low", .str "", .int 1]]
def ds4 : List PyData := [.none, .int 5, .list [], .tuple [], .tuple [.tuple [.str "low", .str "", .int 1]], .dict [], .str "", .str " ", .str "low", .str "low.", .str ".1", .str "low.1+", .str "+low.1", .str "//", .str "low..1", .str "low.1000000000000000001"]
def ds5 : List PyData := [.str "low.01", .str "low.0", .str "low.1.2", .str "low.a.b", .str "low.1 ", .str "low.+1", .str "low.1_0", .str "Low.1", .str "low.a.1.1", .str "low.1+/"]
theorem ds1_ok : (ds1.all fun d => !markD d && small d && (!nameD (.tuple [d]) && small (.tuple [d]))) = true := by decide +kernel
theorem ds2_ok : (ds2.all fun d => !markD d && small d && (small (.tuple [d]) && (nameF (.tuple [d])).isNone && toldB (.tuple [d]))) = true := by decide +kernel
theorem ds3_ok : (ds3.all fun d => !nameD d && small d && ((nameF d).isNone && toldB d)) = true := by decide +kernel
theorem ds4_ok : (ds4.all fun d => small d && (parseF d).isNone && toldB d) = true := by decide +kernel
theorem ds5_ok : (ds5.all fun d => small d && (parseF d).isNone && toldB d) = true := by decide +kernel
end K03
set_option maxHeartbeats 4000000
namespace K03
open PySem PySem.Spec PyProof.Rows L2 Evl My LamX
/-- a text of at most n signs, all of them ASCII -/
def Asc (n : Nat) (s : Str) : Prop := s.length ≤ n ∧ ∀ c ∈ TL.tl s, c < 128
theorem Asc.mono {m n : Nat} {s : Str} (h : Asc m s) (l : m ≤ n) : Asc n s := ⟨Nat.le_trans h.1 l, h.2⟩
theorem Asc.app {m n : Nat} {a b : Str} (ha : Asc m a) (hb : Asc n b) : Asc (m + n) (a ++ b) := ⟨by
  rw [PySem.Str.length_append]
  exact Nat.add_le_add ha.1 hb.1, fun c hc => by
  rw [TL.tl_append] at hc
  rcases List.mem_append.mp hc with z | z
  · exact ha.2 c z
  · exact hb.2 c z⟩
theorem Asc.cut {n : Nat} {z : Str} (h : Asc n z) (lo hi : Option Int) : Asc n (cutS z lo hi) := ⟨Nat.le_trans (cutS_length z lo hi) h.1, fun c hc => h.2 c (List.mem_of_mem_drop (List.mem_of_mem_take (show c ∈ (z.cps.toList.drop _).take _ from hc)))⟩
theorem Asc.ok {n : Nat} {s : Str} (h : Asc n s) (hn : n ≤ 10000) : okS s = true := by
  unfold okS PyData.strOk
  rw [Bool.and_eq_true, decide_eq_true_eq, ← Array.all_toList, List.all_eq_true]
  refine ⟨Nat.le_trans h.1 hn, fun c hc => decide_eq_true ?_⟩
  have := h.2 c hc
  omega
theorem Asc.told {n : Nat} {s : Str} (h : Asc n s) (hn : n ≤ 9000) : (PyData.str s).showable = true ∧ (PyData.str s).shown.length ≤ 100000 ∧ (PyData.str s).depth ≤ 60 := by
  refine ⟨by simp only [PyData.showable], ?_, by simp [PyData.depth]⟩
  simp only [PyData.shown]
  have := PySem.StrLaws.reprText_len s fun c hc => Nat.lt_trans (h.2 c hc) (by decide)
  have := h.1
  omega
theorem long_asc : Asc 5004 longS := ⟨Nat.le_of_eq long_len, fun c hc => by
  have := long_signs c hc
  omega⟩
theorem nameTD_asc {ds : List PyData} (h : ∀ d ∈ ds, markD d = true) (hl : ds.length ≤ 4) : Asc 204 (nameTD (.tuple ds)) := by
  by_cases hne : ds = []
  · subst hne
    exact ⟨by decide +kernel, by decide +kernel⟩
  · refine ⟨?_, fun c hc => by
      have := nameTD_signs h hne c hc
      omega⟩
    rw [← name_text_is h]
    split
    · decide +kernel
    · rw [← tl_len, TL.join_eq, TL.tl_join]
      refine Nat.le_trans (joinL_len _ _) ?_
      have z := sum_le ((((ds.map markTD).map TL.tl)).map List.length) 50 fun x m => by
        rw [List.map_map, List.map_map, List.mem_map] at m
        obtain ⟨y, my, rfl⟩ := m
        show (TL.tl (markTD y)).length ≤ 50
        rw [tl_len]
        exact markT_len (h y my)
      rw [List.length_map, List.length_map, List.length_map] at z
      rw [List.length_map, List.length_map, tl_len, show PLUS.length = 1 from rfl]
      omega
/-! how long a name is when told -/
theorem tupleText_len (ts : List Str) : (tupleText ts).length ≤ piled ts + 3 := by
  unfold tupleText
  rw [strLen_append, strLen_append]
  have e1 : Str.length "(" = 1 := rfl
  have e2 : Str.length (if ts.length == 1 then ",)" else ")" : String) ≤ 2 := by
    split
    · exact Nat.le_refl 2
    · exact Nat.le_succ 1
  by_cases h : ts = []
  · subst h
    have : (Str.join ", " []).length = 0 := rfl
    omega
  · have := join_length_add ts h
    omega
theorem low_asc {s : Str} (h : Low s) : ∀ c ∈ s.cps.toList, c < 16 ^ 8 := fun c hc => by
  have := h c hc
  exact Nat.lt_of_le_of_lt this.2 (by decide)
theorem shown_mark {d : PyData} (h : markD d = true) : d.showable = true ∧ d.shown.length ≤ 200 := by
  obtain ⟨a, b, n, m⟩ := mark_is2 h
  have e := m.eq
  subst e
  refine ⟨?_, ?_⟩
  · simp only [PyData.showable, PyData.showableAll, Bool.true_and, Bool.and_true, decide_eq_true_eq]
    exact num_log m.n1 m.n2
  · simp only [PyData.shown, PyData.shownAll]
    refine Nat.le_trans (tupleText_len _) ?_
    simp only [piled_cons, piled_nil]
    have h1 := PySem.StrLaws.reprText_len a (low_asc m.wa)
    have h2 := PySem.StrLaws.reprText_len b (low_asc m.wb)
    have h3 : Str.length (toString n : String) ≤ 19 := num_len m.n1 m.n2
    have := m.la
    have := m.lb
    omega
theorem shown_marks : ∀ {ds : List PyData}, (∀ d ∈ ds, markD d = true) → PyData.showableAll ds = true ∧ piled (PyData.shownAll ds) ≤ 202 * ds.length
  | [], _ => ⟨rfl, Nat.zero_le _⟩
  | d :: ds, h => by
    obtain ⟨h1, h2⟩ := shown_mark (h d (List.mem_cons_self ..))
    obtain ⟨h3, h4⟩ := shown_marks (ds := ds) fun x m => h x (List.mem_cons_of_mem _ m)
    refine ⟨by simp only [PyData.showableAll, h1, h3, Bool.and_self], ?_⟩
    simp only [PyData.shownAll, piled_cons, List.length_cons]
    omega
theorem shown_name {ds : List PyData} (h : ∀ d ∈ ds, markD d = true) (hl : ds.length ≤ 480) : (PyData.tuple ds).showable = true ∧ (PyData.tuple ds).shown.length ≤ 100000 ∧ (PyData.tuple ds).depth ≤ 60 := by
  obtain ⟨h1, h2⟩ := shown_marks h
  refine ⟨by simp only [PyData.showable]; exact h1, ?_, ?_⟩
  · simp only [PyData.shown]
    have := tupleText_len (PyData.shownAll ds)
    omega
  · have := (lays_of fun d m => mark_lay (h d m)).2
    simp only [PyData.depth]
    omega
/-- what a text of few signs is read as -/
theorem parse_marks {s : Str} {r : PyData} (h : parseS s = some r) : ∃ ds, r = .tuple ds ∧ (∀ d ∈ ds, markD d = true) ∧ ds.length ≤ s.length + 1 := by
  unfold parseS at h
  split at h
  · cases h
    exact ⟨[], rfl, (fun d m => by cases m), Nat.zero_le _⟩
  · split at h
    · cases h
    · rename_i h1 h2
      cases h
      refine ⟨marksD s, rfl, fun d m => ?_, ?_⟩
      · unfold marksD at m
        obtain ⟨p, hp, rfl⟩ := List.mem_map.mp m
        rcases wm_or p with z | z
        · refine absurd ?_ h2
          rw [List.any_eq_true]
          refine ⟨wmD p, List.mem_map.mpr ⟨p, hp, rfl⟩, ?_⟩
          rw [z]
          rfl
        · exact z
      · unfold marksD
        rw [List.length_map]
        exact (plus_small s).2
theorem marks_small {ds : List PyData} (h : ∀ d ∈ ds, markD d = true) (hl : ds.length ≤ 1000) : small (.tuple ds) = true := by
  show (decide (ds.length ≤ 1000) && smalls ds) = true
  rw [decide_eq_true hl, Bool.true_and]
  have z : ∀ {es : List PyData}, (∀ d ∈ es, markD d = true) → smalls es = true := by
    intro es
    induction es with
    | nil => exact fun _ => rfl
    | cons e es ih =>
      intro he
      show (small e && smalls es) = true
      rw [ih fun d m => he d (List.mem_cons_of_mem _ m), Bool.and_true]
      obtain ⟨a, b, n, m⟩ := mark_is2 (he e (List.mem_cons_self ..))
      have q := m.eq
      subst q
      have ok : ∀ {s : Str}, Low s → s.length ≤ 8 → okS s = true := fun {s} hs hl => by
        unfold okS
        rw [low_ok hs, Bool.and_true, decide_eq_true_eq]
        omega
      exact mark_small (ok m.wa m.la) (ok m.wb m.lb) rfl
  exact z h
end K03
set_option maxHeartbeats 16000000
namespace K03
open PySem PySem.Spec PyProof.Rows L2 Evl My LamX
abbrev sRight : Stmt := top 30
theorem scRight : FnScope ["_law_thing", "_law_some"] [] (defScope sRight) := ⟨rfl, rfl, rfl, by decide +kernel, rfl, by decide +kernel, by decide +kernel⟩
theorem noWay {X : Cx} : Passes (L2.CX X.prog X.w) X (fun _ _ _ => False) := L2.passes_call L2.takes0 fun _ _ _ _ z => z
/-- the known values are refused -/
def spRight (T : List (Addr × Str)) : Sp := fun vs H Q _ => vs = [] ∧ Tabs T H ∧ ∀ H', ExtN H H' → Tabs T H' → Q (.bl true) H'
theorem told_of {d : PyData} (h : toldB d = true) : d.showable = true ∧ d.shown.length ≤ 100000 ∧ d.depth ≤ 60 := by
  unfold toldB at h
  rw [Bool.and_eq_true, Bool.and_eq_true, decide_eq_true_eq, decide_eq_true_eq] at h
  exact ⟨h.1.1, h.1.2, h.2⟩
theorem longZ : Str.length "low." + (Txt.mul "1" 5000).length ≤ 100000 := by
  rw [show (Txt.mul "1" 5000).length = 5000 from ones_len, show Str.length "low." = 4 by decide +kernel]
  decide
def ds4a : List PyData := [.none, .int 5, .list [], .tuple [], .tuple [.tuple [.str "low", .str "", .int 1]], .dict [], .str "", .str " ", .str "low", .str "low.", .str ".1", .str "low.1+", .str "+low.1", .str "//"]
def ds4b : List PyData := [.str "low..1", .str "low.1000000000000000001", .str longS]
theorem ds4_split : ds4 = ds4a ++ [.str "low..1", .str "low.1000000000000000001"] := rfl
theorem ds4_all (d : PyData) (hd : d ∈ ds4a ++ ds4b) : small d = true ∧ parseF d = none ∧ (d.showable = true ∧ d.shown.length ≤ 100000 ∧ d.depth ≤ 60) := by
  have old : d ∈ ds4 → small d = true ∧ parseF d = none ∧ (d.showable = true ∧ d.shown.length ≤ 100000 ∧ d.depth ≤ 60) := fun h => by
    have fa := List.all_eq_true.mp ds4_ok d h
    simp only [Bool.and_eq_true, Option.isNone_iff_eq_none] at fa
    exact ⟨fa.1.1, fa.1.2, told_of fa.2⟩
  rcases List.mem_append.mp hd with h | h
  · exact old (by
      rw [ds4_split]
      exact List.mem_append_left _ h)
  · rcases List.mem_cons.mp h with rfl | h
    · exact old (by
        rw [ds4_split]
        exact List.mem_append_right _ (List.mem_cons_self ..))
    rcases List.mem_cons.mp h with rfl | h
    · exact old (by
        rw [ds4_split]
        exact List.mem_append_right _ (List.mem_cons_of_mem _ (List.mem_cons_self ..)))
    rw [List.mem_singleton.mp h]
    exact ⟨long_ok, long_none, long_asc.told (by decide)⟩
theorem parse_slash : parseF (.str "/") = some (.tuple []) := by
  show parseS "/" = _
  unfold parseS
  rw [if_pos rfl]
theorem long_ev {σ : L2.St} {H : Hp} {ta tb tc : TE} (ha : Ev ta σ H (.str "low.")) (hb : Ev tb σ H (.str "1")) (hc : Ev tc σ H (.int 5000)) : Ev (tOp (fun x y H Q => ∃ i j, x = .str i ∧ y = .str j ∧ i.length + j.length ≤ sizeLine ∧ Q (.str (i ++ j)) H) ta (tOp rMulS tb tc)) σ H (.str longS) := by
  unfold longS ones
  exact ev_cat ha (ev_mulS hb hc (mulOk_of 1 5000 (by decide) (by decide) (by decide) (by decide) (by decide))) longZ
section
variable {K : PySem.W.Frag} {T : List (Addr × Str)} {tt : TT} {tu : TS} {σ : L2.St} {H : Hp} {D : Ends} {i : Nat} {p : Addr} {xs : List V} {ds : List PyData}
theorem s_whenN (h : EtN T tt σ H false) (tb : Tabs T H) (k : ∀ H2, ExtN H H2 → Tabs T H2 → D.nx σ H2) : tIfS tt tu tNext D σ H := h H (ExtN.refl H) tb _ fun H2 e2 t2 => by
  show D.nx σ H2
  exact k H2 e2 t2
theorem ed_spRz {C : Addr} {F : PyData → Option PyData} {te : TE} {d r : PyData} {E : XK} (h : EvD K te σ H d) (hd : small d = true) (hF : F d = some r) : EvD K (tCall (spRz K C F) [] E (tCons te tNil)) σ H r := fun H1 e Q q =>
  h H1 e _ fun v H2 e2 g => ⟨v, d, rfl, g, hd, fun r' hr u H3 e3 gu => q u H3 (e2.trans e3) (by
    rw [hF] at hr
    cases hr
    exact gu), fun z => (by
    rw [hF] at z
    cases z)⟩
theorem ev_eqTup {te : TE} (h : EvD K te σ H (.tuple [])) : Ev (tOp (rEqD K) te (tTup tNil)) σ H (.bl true) := fun H1 e Q q =>
  h H1 e _ fun v H2 e2 g => ⟨(by show 0 ≤ sizeLine; exact Nat.zero_le _), fun p hp => ⟨.tuple [], .tuple [], dp_of _ _ rfl (Dd.ext (Ex.new hp) _ _ g), .tup (st_of upd_same) .nil, rfl, rfl, q _ (e2.trans (Ex.new hp))⟩⟩
theorem edl_catV {tb : TE} {es : List PyData} (slot : σ[i]? = some (some (.ref p))) (hp : H p = some (.lst xs)) (g : Dds K H xs ds) (hb : EvDL K tb σ H es) (hz : ds.length + es.length ≤ 100000) : EvDL K (tOp rCat (tVar i) tb) σ H (ds ++ es) := fun H1 e Q q =>
  ⟨_, slot, hb H1 e _ fun r ys H3 nr e3 hy gy => by
    have hl : xs.length + ys.length ≤ 100000 := by
      rw [g.len, gy.len]
      exact hz
    have e13 := e.trans e3
    exact ⟨p, r, xs, ys, rfl, rfl, e13 _ _ hp, hy, sz_of hl, fun l hn => q l _ _ (fresh_back e3 hn) (e3.trans (Ex.new hn)) upd_same (Dds.app (Dds.ext (e13.trans (Ex.new hn)) _ _ g) (Dds.ext (Ex.new hn) _ _ gy))⟩⟩
end
section
variable {P : Program} {w : World} {K : PySem.W.Frag} {mg : Str → Option Value} {base : Heap} {f C c Pt : Addr} {T : List (Addr × Str)} {oc : Value} {od an : Option Addr} {osl : Array (Option Value)} {kV doc pm ct : Value}
theorem ok_right (lk : K.lookup f = some ⟨oc, od, .func (PySem.W.fnOf "_law_marks_right" "_law_marks_right" (defArgs sRight) (defBody sRight) (defScope sRight) .none kV doc pm an (.ref c) ct), osl⟩) (code : PySem.W.codeIn K (.ref c) "_law_marks_right" = true)
    (R : Rf P w K mg base C) (TB : TabB base mg c Pt) (hmT : (Pt, ("_law_marks_right" : Str) ++ ".<locals>." ++ "<lambda>") ∈ T) (hu : ∀ p ∈ T, p.1 = Pt → p.2 = ("_law_marks_right" : Str) ++ ".<locals>." ++ "<lambda>")
    (IM : Df P w K mg base "is_mark" ["thing"] 3 (spB K markD)) (IN : Df P w K mg base "is_name" ["thing"] 4 (spB K nameD)) (NT : DfX P w K mg base "name_text" ["name"] 5 (spRz K C nameF)) (PN : DfX P w K mg base "parse_name" ["text"] 5 (spRz K C parseF)) :
    FnG P w K mg base CX0 8 f (PySem.W.fnOf "_law_marks_right" "_law_marks_right" (defArgs sRight) (defBody sRight) (defScope sRight) .none kV doc pm an (.ref c) ct) [] (spRight T) := by
  refine FnG.byBodyAt lk code scRight (fun vs H Q E h => ?_) (fun A outer s H vs Q E hg hr h => ?_)
  · rw [h.1]
    rfl
  · obtain ⟨rfl, tb, kQ⟩ := h
    have hr2 : Room 7 _ := hr
    have hr3 : Room 3 _ := hr.mono (by decide)
    have hr4 : Room 4 _ := hr.mono (by decide)
    have hr5 : Room 5 _ := hr.mono (by decide)
    refine ⟨_, PSs.nox (pss_cons (ps_for PassesOwn.never rfl (pi_list (pe_lst (pa_cons (pe_tup (pa_cons pe_str (pa_cons pe_str (pa_cons pe_int pa_nil)))) (pa_cons (pe_tup (pa_cons pe_str (pa_cons pe_str (pa_cons (pe_un un_neg pe_int) pa_nil)))) (pa_cons (pe_tup (pa_cons pe_str (pa_cons pe_str (pa_cons pe_bl pa_nil)))) (pa_cons (pe_tup (pa_cons pe_str (pa_cons pe_str (pa_cons pe_str pa_nil)))) (pa_cons (pe_tup (pa_cons pe_str (pa_cons pe_str (pa_cons (pe_op op_add (pe_op op_pow pe_int pe_int) pe_int) pa_nil)))) pa_nil))))))) (pg_name (i := 0) scRight.nd rfl (Or.inr rfl)) (pss_one (ps_if (PW.pt (pw_or (pt_cmpR op_notBl (pe_df IM hr3 rfl (pa_cons (pv 0) pa_nil)) pe_bl (nomark _)) (pw_or1 (pt_cmpR op_notBl (pe_df IN hr4 rfl (pa_cons (pe_tup (pa_cons (pv 0) pa_nil)) pa_nil)) pe_bl (nomark _))))) (pss_one (ps_ret pe_bl)) pss_nil)))
      (pss_cons (ps_set (i := 1) scRight.nd rfl (Or.inl rfl) (pe_lst (pa_cons (pe_tup (pa_cons pe_str (pa_cons pe_non (pa_cons pe_int pa_nil)))) (pa_cons (pe_tup (pa_cons pe_str (pa_cons pe_str (pa_cons pe_int pa_nil)))) (pa_cons (pe_tup (pa_cons pe_str (pa_cons pe_str (pa_cons pe_int pa_nil)))) (pa_cons (pe_tup (pa_cons pe_str (pa_cons pe_str (pa_cons pe_int pa_nil)))) (pa_cons (pe_tup (pa_cons pe_str (pa_cons pe_str (pa_cons pe_int pa_nil)))) (pa_cons (pe_lstB (pa_cons pe_str (pa_cons pe_str (pa_cons pe_int pa_nil)))) pa_nil))))))))
      (pss_cons (ps_for PassesOwn.never rfl (pi_list (pe_op op_cat (pv 1) (pe_lst (pa_cons (pe_tup (pa_cons pe_str (pa_cons pe_int pa_nil))) (pa_cons (pe_tup (pa_cons pe_str (pa_cons pe_str (pa_cons pe_int (pa_cons pe_int pa_nil))))) (pa_cons pe_non (pa_cons pe_int (pa_cons pe_str (pa_cons (pe_tup pa_nil) (pa_cons (pe_tup (pa_cons (pe_tup (pa_cons pe_str pa_nil)) (pa_cons pe_str (pa_cons pe_int pa_nil)))) (pa_cons (pe_tup (pa_cons (pe_lstB pa_nil) (pa_cons pe_str (pa_cons pe_int pa_nil)))) pa_nil))))))))))) (pg_name (i := 0) scRight.nd rfl (Or.inr rfl)) (pss_one (ps_if (PW.pt (pw_or (pt_cmpR op_notBl (pe_df IM hr3 rfl (pa_cons (pv 0) pa_nil)) pe_bl (nomark _)) (pw_or1 (pt_not (pt_val (pe_door (T := T) (te := tTup (tCons (tVar 0) tNil)) (t := fun E => tCall (spRz K C nameF) [] E (tCons (tTup (tCons (tVar 0) tNil)) tNil)) R rfl rfl hg hr2 rfl TB rfl hmT hu (by exact lamS_by (sc := defScope sRight) (by decide +kernel)) rfl (fun _ _ _ _ _ => rfl) (fun A outer s H E f c' r => pe_dfX NT r rfl lamPass (pa_cons (pe_tup (pa_cons (pv 0) pa_nil)) pa_nil)) mono_tup (pe_tup (pa_cons (pv 0) pa_nil)))))))) (pss_one (ps_ret pe_bl)) pss_nil)))
      (pss_cons (ps_for PassesOwn.never rfl (pi_list (pe_lst (pa_cons pe_non (pa_cons pe_int (pa_cons pe_str (pa_cons (pe_lstB pa_nil) (pa_cons (pe_lstB (pa_cons (pe_tup (pa_cons pe_str (pa_cons pe_str (pa_cons pe_int pa_nil)))) pa_nil)) (pa_cons pe_dnewK (pa_cons (pe_tup (pa_cons pe_str (pa_cons pe_str (pa_cons pe_int pa_nil)))) pa_nil))))))))) (pg_name (i := 0) scRight.nd rfl (Or.inr rfl)) (pss_one (ps_if (PW.pt (pw_or (pt_cmpR op_notBl (pe_df IN hr4 rfl (pa_cons (pv 0) pa_nil)) pe_bl (nomark _)) (pw_or1 (pt_not (pt_val (pe_door (T := T) (te := tVar 0) (t := fun E => tCall (spRz K C nameF) [] E (tCons (tVar 0) tNil)) R rfl rfl hg hr2 rfl TB rfl hmT hu (by exact lamS_by (sc := defScope sRight) (by decide +kernel)) rfl (fun _ _ _ _ _ => rfl) (fun A outer s H E f c' r => pe_dfX NT r rfl lamPass (pa_cons (pv 0) pa_nil)) mono_var (pv 0))))))) (pss_one (ps_ret pe_bl)) pss_nil)))
      (pss_cons (ps_set (i := 1) scRight.nd rfl (Or.inl rfl) (pe_lst (pa_cons pe_non (pa_cons pe_int (pa_cons (pe_lstB pa_nil) (pa_cons (pe_tup pa_nil) (pa_cons (pe_tup (pa_cons (pe_tup (pa_cons pe_str (pa_cons pe_str (pa_cons pe_int pa_nil)))) pa_nil)) (pa_cons pe_dnewK (pa_cons pe_str (pa_cons pe_str (pa_cons pe_str (pa_cons pe_str (pa_cons pe_str (pa_cons pe_str (pa_cons pe_str (pa_cons pe_str pa_nil))))))))))))))))
      (pss_cons (ps_for PassesOwn.never rfl (pi_list (pe_op op_cat (pv 1) (pe_lst (pa_cons pe_str (pa_cons pe_str (pa_cons (pe_op op_add_str pe_str (pe_op op_mulS pe_str pe_int)) pa_nil)))))) (pg_name (i := 0) scRight.nd rfl (Or.inr rfl)) (pss_one (ps_if (pt_not (pt_val (pe_door (T := T) (te := tVar 0) (t := fun E => tCall (spRz K C parseF) [] E (tCons (tVar 0) tNil)) R rfl rfl hg hr2 rfl TB rfl hmT hu (by exact lamS_by (sc := defScope sRight) (by decide +kernel)) rfl (fun _ _ _ _ _ => rfl) (fun A outer s H E f c' r => pe_dfX PN r rfl lamPass (pa_cons (pv 0) pa_nil)) mono_var (pv 0)))) (pss_one (ps_ret pe_bl)) pss_nil)))
      (pss_cons (ps_set (i := 1) scRight.nd rfl (Or.inl rfl) (pe_lst (pa_cons pe_str (pa_cons pe_str (pa_cons pe_str (pa_cons pe_str (pa_cons pe_str (pa_cons pe_str (pa_cons pe_str (pa_cons pe_str (pa_cons pe_str pa_nil)))))))))))
      (pss_cons (ps_for PassesOwn.never rfl (pi_list (pe_op op_cat (pv 1) (pe_lst (pa_cons pe_str pa_nil)))) (pg_name (i := 0) scRight.nd rfl (Or.inr rfl)) (pss_one (ps_if (pt_not (pt_val (pe_door (T := T) (te := tVar 0) (t := fun E => tCall (spRz K C parseF) [] E (tCons (tVar 0) tNil)) R rfl rfl hg hr2 rfl TB rfl hmT hu (by exact lamS_by (sc := defScope sRight) (by decide +kernel)) rfl (fun _ _ _ _ _ => rfl) (fun A outer s H E f c' r => pe_dfX PN r rfl lamPass (pa_cons (pv 0) pa_nil)) mono_var (pv 0)))) (pss_one (ps_ret pe_bl)) pss_nil)))
      (pss_one (ps_ret (pe_and (pe_cmpR op_isBl (pe_df IN hr4 rfl (pa_cons (pe_tup pa_nil) pa_nil)) pe_bl (nomark _)) (pe_and (pe_cmpR op_eq (pe_dfX NT hr5 rfl noWay (pa_cons (pe_tup pa_nil) pa_nil)) pe_str (nomark _)) (pe_one (pe_cmpR (op_eqD hr2.units) (pe_dfX PN hr5 rfl noWay (pa_cons pe_str pa_nil)) (pe_tup pa_nil) (nomark _))))))))))))))), ?_⟩
    refine q_forN (K := K) (ds := ds1) (edl_lst (eds_cons (ed_tup (eds_cons (ed_str ev_c) (eds_cons (ed_str ev_c) (eds_cons (ed_int ev_c) eds_nil))) (by simp)) (eds_cons (ed_tup (eds_cons (ed_str ev_c) (eds_cons (ed_str ev_c) (eds_cons (ed_int (ev_un ev_c ru_neg)) eds_nil))) (by simp)) (eds_cons (ed_tup (eds_cons (ed_str ev_c) (eds_cons (ed_str ev_c) (eds_cons (ed_bl ev_c) eds_nil))) (by simp)) (eds_cons (ed_tup (eds_cons (ed_str ev_c) (eds_cons (ed_str ev_c) (eds_cons (ed_str ev_c) eds_nil))) (by simp)) (eds_cons (ed_tup (eds_cons (ed_str ev_c) (eds_cons (ed_str ev_c) (eds_cons (ed_int (ev_is (w := .int 1000000000000000001) (evAdd (evPow ev_c ev_c ⟨by decide, by decide, by decide⟩) ev_c) (by decide))) eds_nil))) (by simp)) eds_nil))))) (by decide +kernel)) (fun σ => ∃ a b, σ = [a, b]) ⟨_, _, rfl⟩ tb (fun d hd v σ' H' D' S e t g nx rt => ?_) (fun σ1 H1 S1 e1 t1 => ?_)
    · obtain ⟨o1, o2, rfl⟩ := S
      have fa := List.all_eq_true.mp ds1_ok d hd
      simp only [Bool.and_eq_true, Bool.not_eq_true', Option.isNone_iff_eq_none] at fa
      obtain ⟨⟨hm, hs⟩, hn, hs2⟩ := fa
      refine s_whenN (etN_or (etN_of fun H2 e2 => et_is (et_test (ev_notB (ev_spB (ed_var rfl (dd_extN e2 _ _ g)) hs) ev_c)) (by rw [hm]; rfl)) (etN_of fun H2 e2 => et_is (et_test (ev_notB (ev_spB (F := nameD) (ed_tup (eds_cons (ed_var rfl (dd_extN e2 _ _ g)) eds_nil) (by simp)) hs2) ev_c)) (by rw [hn]; rfl))) t fun H2 e2 t2 => nx _ H2 ⟨_, _, rfl⟩ e2 t2
    · -- behind loop 1
      obtain ⟨o1_1, o2_1, rfl⟩ := S1
      refine q_asgDL (K := K) (edl_lst (eds_cons (ed_tup (eds_cons (ed_str ev_c) (eds_cons (ed_non ev_c) (eds_cons (ed_int ev_c) eds_nil))) (by simp)) (eds_cons (ed_tup (eds_cons (ed_str ev_c) (eds_cons (ed_str ev_c) (eds_cons (ed_int ev_c) eds_nil))) (by simp)) (eds_cons (ed_tup (eds_cons (ed_str ev_c) (eds_cons (ed_str ev_c) (eds_cons (ed_int ev_c) eds_nil))) (by simp)) (eds_cons (ed_tup (eds_cons (ed_str ev_c) (eds_cons (ed_str ev_c) (eds_cons (ed_int ev_c) eds_nil))) (by simp)) (eds_cons (ed_tup (eds_cons (ed_str ev_c) (eds_cons (ed_str ev_c) (eds_cons (ed_int ev_c) eds_nil))) (by simp)) (eds_cons (ed_lst (eds_cons (ed_str ev_c) (eds_cons (ed_str ev_c) (eds_cons (ed_int ev_c) eds_nil))) (by simp)) eds_nil)))))) (by simp)) fun p1 xs1 G1 np1 f1 hp1 gp1 => ?_
      refine q_forN (K := K) (ds := ds2) (edl_catV rfl hp1 gp1 (edl_lst (eds_cons (ed_tup (eds_cons (ed_str ev_c) (eds_cons (ed_int ev_c) eds_nil)) (by simp)) (eds_cons (ed_tup (eds_cons (ed_str ev_c) (eds_cons (ed_str ev_c) (eds_cons (ed_int ev_c) (eds_cons (ed_int ev_c) eds_nil)))) (by simp)) (eds_cons (ed_non ev_c) (eds_cons (ed_int ev_c) (eds_cons (ed_str ev_c) (eds_cons (ed_tup eds_nil (by simp)) (eds_cons (ed_tup (eds_cons (ed_tup (eds_cons (ed_str ev_c) eds_nil) (by simp)) (eds_cons (ed_str ev_c) (eds_cons (ed_int ev_c) eds_nil))) (by simp)) (eds_cons (ed_tup (eds_cons (ed_lst eds_nil (by simp)) (eds_cons (ed_str ev_c) (eds_cons (ed_int ev_c) eds_nil))) (by simp)) eds_nil)))))))) (by simp)) (by decide)) (fun σ => ∃ a b, σ = [a, b]) ⟨_, _, rfl⟩ (fun q hq => (t1 q hq).ext f1) (fun d hd v σ' H' D' S e t g nx rt => ?_) (fun σ2 H2 S2 e2 t2 => ?_)
      · obtain ⟨o1, o2, rfl⟩ := S
        have fa := List.all_eq_true.mp ds2_ok d hd
        simp only [Bool.and_eq_true, Bool.not_eq_true', Option.isNone_iff_eq_none] at fa
        obtain ⟨⟨hm, hs⟩, ⟨hs2, hn⟩, ht⟩ := fa
        refine s_whenN (etN_or (etN_of fun H2 e2 => et_is (et_test (ev_notB (ev_spB (ed_var rfl (dd_extN e2 _ _ g)) hs) ev_c)) (by rw [hm]; rfl)) (etN_door (d := .tuple [d]) (fun H2 e2 => ed_tup (eds_cons (ed_var rfl (dd_extN e2 _ _ g)) eds_nil) (by simp)) (told_of ht).1 (told_of ht).2.1 (told_of ht).2.2 fun E H2 v2 e2 g2 hE => go_tup rfl (dd_extN e2 _ _ g) hs2 hn hE)) t fun H2 e2 t2 => nx _ H2 ⟨_, _, rfl⟩ e2 t2
      · -- behind loop 2
        refine q_forN (K := K) (ds := ds3) (edl_lst (eds_cons (ed_non ev_c) (eds_cons (ed_int ev_c) (eds_cons (ed_str ev_c) (eds_cons (ed_lst eds_nil (by simp)) (eds_cons (ed_lst (eds_cons (ed_tup (eds_cons (ed_str ev_c) (eds_cons (ed_str ev_c) (eds_cons (ed_int ev_c) eds_nil))) (by simp)) eds_nil) (by simp)) (eds_cons ed_dnew (eds_cons (ed_tup (eds_cons (ed_str ev_c) (eds_cons (ed_str ev_c) (eds_cons (ed_int ev_c) eds_nil))) (by simp)) eds_nil))))))) (by decide +kernel)) (fun σ => ∃ a b, σ = [a, b]) S2 t2 (fun d hd v σ' H' D' S e t g nx rt => ?_) (fun σ3 H3 S3 e3 t3 => ?_)
        · obtain ⟨o1, o2, rfl⟩ := S
          have fa := List.all_eq_true.mp ds3_ok d hd
          simp only [Bool.and_eq_true, Bool.not_eq_true', Option.isNone_iff_eq_none] at fa
          obtain ⟨⟨hm, hs⟩, hn, ht⟩ := fa
          refine s_whenN (etN_or (etN_of fun H2 e2 => et_is (et_test (ev_notB (ev_spB (ed_var rfl (dd_extN e2 _ _ g)) hs) ev_c)) (by rw [hm]; rfl)) (etN_door (d := d) (fun H2 e2 => ed_var rfl (dd_extN e2 _ _ g)) (told_of ht).1 (told_of ht).2.1 (told_of ht).2.2 fun E H2 v2 e2 g2 hE => go_var rfl (dd_extN e2 _ _ g) hs hn hE)) t fun H2 e2 t2 => nx _ H2 ⟨_, _, rfl⟩ e2 t2
        · -- behind loop 3
          obtain ⟨o1_3, o2_3, rfl⟩ := S3
          refine q_asgDL (K := K) (edl_lst (eds_cons (ed_non ev_c) (eds_cons (ed_int ev_c) (eds_cons (ed_lst eds_nil (by simp)) (eds_cons (ed_tup eds_nil (by simp)) (eds_cons (ed_tup (eds_cons (ed_tup (eds_cons (ed_str ev_c) (eds_cons (ed_str ev_c) (eds_cons (ed_int ev_c) eds_nil))) (by simp)) eds_nil) (by simp)) (eds_cons ed_dnew (eds_cons (ed_str ev_c) (eds_cons (ed_str ev_c) (eds_cons (ed_str ev_c) (eds_cons (ed_str ev_c) (eds_cons (ed_str ev_c) (eds_cons (ed_str ev_c) (eds_cons (ed_str ev_c) (eds_cons (ed_str ev_c) eds_nil)))))))))))))) (by simp)) fun p3 xs3 G3 np3 f3 hp3 gp3 => ?_
          refine q_forN (K := K) (ds := ds4a ++ ds4b) (edl_catV rfl hp3 gp3 (edl_lst (eds_cons (ed_str ev_c) (eds_cons (ed_str ev_c) (eds_cons (ed_str (long_ev ev_c ev_c ev_c)) eds_nil))) (by decide)) (by decide)) (fun σ => ∃ a b, σ = [a, b]) ⟨_, _, rfl⟩ (fun q hq => (t3 q hq).ext f3) (fun d hd v σ' H' D' S e t g nx rt => ?_) (fun σ4 H4 S4 e4 t4 => ?_)
          · obtain ⟨o1, o2, rfl⟩ := S
            obtain ⟨hs, hn, ht⟩ := ds4_all d hd
            refine s_whenN ((etN_door (d := d) (fun H2 e2 => ed_var rfl (dd_extN e2 _ _ g)) ht.1 ht.2.1 ht.2.2 fun E H2 v2 e2 g2 hE => go_var rfl (dd_extN e2 _ _ g) hs hn hE)) t fun H2 e2 t2 => nx _ H2 ⟨_, _, rfl⟩ e2 t2
          · -- behind loop 4
            obtain ⟨o1_4, o2_4, rfl⟩ := S4
            refine q_asgDL (K := K) (edl_lst (eds_cons (ed_str ev_c) (eds_cons (ed_str ev_c) (eds_cons (ed_str ev_c) (eds_cons (ed_str ev_c) (eds_cons (ed_str ev_c) (eds_cons (ed_str ev_c) (eds_cons (ed_str ev_c) (eds_cons (ed_str ev_c) (eds_cons (ed_str ev_c) eds_nil))))))))) (by simp)) fun p4 xs4 G4 np4 f4 hp4 gp4 => ?_
            refine q_forN (K := K) (ds := ds5) (edl_catV rfl hp4 gp4 (edl_lst (eds_cons (ed_str ev_c) eds_nil) (by simp)) (by decide)) (fun σ => ∃ a b, σ = [a, b]) ⟨_, _, rfl⟩ (fun q hq => (t4 q hq).ext f4) (fun d hd v σ' H' D' S e t g nx rt => ?_) (fun σ5 H5 S5 e5 t5 => ?_)
            · obtain ⟨o1, o2, rfl⟩ := S
              have fa := List.all_eq_true.mp ds5_ok d hd
              simp only [Bool.and_eq_true, Bool.not_eq_true', Option.isNone_iff_eq_none] at fa
              obtain ⟨⟨hs, hn⟩, ht⟩ := fa
              refine s_whenN ((etN_door (d := d) (fun H2 e2 => ed_var rfl (dd_extN e2 _ _ g)) (told_of ht).1 (told_of ht).2.1 (told_of ht).2.2 fun E H2 v2 e2 g2 hE => go_var rfl (dd_extN e2 _ _ g) hs hn hE)) t fun H2 e2 t2 => nx _ H2 ⟨_, _, rfl⟩ e2 t2
            · -- behind loop 5
              obtain ⟨o1_5, o2_5, rfl⟩ := S5
              refine s_ret (v := .bl true) (ev_is (ev_andV (a := true) (b := true) (ev_is (ev_isB (ev_spB (K := K) (F := nameD) (d := .tuple []) (ed_tup eds_nil (by simp)) rfl) ev_c) rfl) fun _ => ev_is (ev_andV (a := true) (b := true) (ev_is (ev_op (ed_spRz (K := K) (d := .tuple []) (r := .str "/") (ed_tup eds_nil (by simp)) rfl rfl).str ev_c (rv_eq rfl)) (by rw [decStr]; rfl)) fun _ => ev_eqTup (K := K) (ed_spRz (K := K) (d := .str "/") (r := .tuple []) (ed_str ev_c) (by decide +kernel) parse_slash)) rfl) rfl) fun H6 e6 => ?_
              exact kQ H6 (((((e1.trans (ExtN.of f1)).trans e2).trans e3).trans ((ExtN.of f3).trans e4)).trans (((ExtN.of f4).trans e5).trans (ExtN.of e6))) fun q hq => (t5 q hq).ext e6
end
end K03
set_option maxHeartbeats 8000000
namespace My
open PySem PySem.Spec PyProof.Rows L2
/-- a def asked where no guard runs, as a constant -/
structure DfG (P : Program) (w : World) (K : PySem.W.Frag) (mg : Str → Option Value) (base : Heap) (x : Str) (ps : List Str) (k : Nat) (sp : Sp) : Prop where
  ex : ∃ (f : Addr) (fd : FuncData), mg x = some (.ref f) ∧ PySem.W.keepIn K (.ref f) = true ∧ FnG P w K mg base CX0 k f fd ps sp ∧ Binds K fd ps []
theorem pe_dfG0 {X : Cx} {x : Str} {k : Nat} {sp : Sp} {p pos : Pos} (D : DfG X.prog X.w X.K X.mg X.base x [] k sp) (hgd : X.A.guards = some []) (hr : Room k X.A) (hg : Gl X x) (hdb : (x == ("__debug__" : Str)) = false := by decide) :
    PE X (.Call (.Name x p) [] [] pos) (tCall sp [] E0 tNil) := by
  obtain ⟨f, fd, hm, hk, F, b⟩ := D.ex
  refine ⟨fun pins s σ H Q I h => ?_⟩
  refine wpAny_Call_Name_kw (ld_glob I hg hm ?_ hdb)
  refine PySem.W.callWith_K0 I.kIn hk ?_
  refine wpAny_call (codeAny_mono (F.run X.A X.stack s H ⟨[], []⟩ [] [] Q E0 hgd hr I.env0 (b s [] I.kIn rfl) .nil h) fun r s' hq => ?_)
  cases r with
  | error e => exact (show False from hq).elim
  | ok fl =>
    cases fl with
    | ret u => exact I.after hq
    | next => exact False.elim hq
    | brk => exact False.elim hq
    | cont => exact False.elim hq
end My
namespace K03
open PySem PySem.Spec PyProof.Rows L2 Evl My LamX
abbrev sLaw : Stmt := top 31
def NL : List Str := ["_law_script", "_law_k", "_law_pool_here", "_law_turn", "_law_name_here", "_law_text_here", "_law_spot", "_law_sign", "_law_some", "_law_bent", "_law_due"]
theorem scLaw : FnScope NL ["_law_script"] (defScope sLaw) := ⟨rfl, rfl, rfl, by decide +kernel, rfl, by decide +kernel, by decide +kernel⟩
def spLaw (K : PySem.W.Frag) (T : List (Addr × Str)) : Sp := fun vs H Q _ => ∃ (a : Addr) (ns : List Int), vs = [.ref a] ∧ SqL K H a (ns.map V.int) ∧ ns.length ≤ 63 ∧ Tabs T H ∧ ∀ H', Q (.bl true) H'
section
variable {K : PySem.W.Frag} {T : List (Addr × Str)} {tt : TT} {tu : TS} {σ : L2.St} {H H' : Hp} {D : Ends} {te ta tb : TE} {tz : TS} {d : PyData} {i : Nat}
theorem sql_extN {a : Addr} {xs : List V} (e : ExtN H H') (h : SqL K H a xs) : SqL K H' a xs := by
  rcases h with (hb | ⟨ob, hb⟩) | hb
  · exact .inl (.inl (e _ _ hb fun _ z => nomatch z))
  · exact .inl (.inr ⟨ob, e _ _ hb fun _ z => nomatch z⟩)
  · exact .inr hb
theorem pool_extN {p : Addr} (e : ExtN H H') (h : PoolAt H p) : PoolAt H' p := by
  obtain ⟨c, z, h1, h2⟩ := h
  exact ⟨c, z, e _ _ h1 (fun _ z => nomatch z), h2⟩
theorem extN_but {p : Addr} {H0 : Hp} (e : ExtN H0 H) (n : H0 p = none) (b : But p H H') : ExtN H0 H' := fun x o h nt => b x o (ne_of_none h n) (e x o h nt)
theorem tabs_but {p : Addr} (tb : Tabs T H) (hp : PoolAt H p) (b : But p H H') : Tabs T H' := fun q hq => by
  obtain ⟨c, z, h1, _⟩ := hp
  obtain ⟨ps, t1, t2, t3⟩ := tb q hq
  refine ⟨ps, b _ _ (fun z => by
    rw [z, h1] at t1
    cases t1) t1, t2, fun pos cv hc => ?_⟩
  obtain ⟨c1, e1, e2⟩ := t3 pos cv hc
  exact ⟨c1, e1, b _ _ (fun z => by
    rw [z, h1] at e2
    cases e2) e2⟩
theorem s_whenN2 (h : EtN T tt σ H false) (tb : Tabs T H) (k : ∀ H2, ExtN H H2 → Tabs T H2 → D.nx σ H2) : tIfS tt tu tNext D σ H := h H (ExtN.refl H) tb _ fun H2 e2 t2 => by
  show D.nx σ H2
  exact k H2 e2 t2
theorem q_whenN (h : EtN T tt σ H false) (tb : Tabs T H) (k : ∀ H2, ExtN H H2 → Tabs T H2 → tz D σ H2) : tSeq (tIfS tt tu tNext) tz D σ H := s_whenN2 (D := { D with nx := tz D }) h tb k
theorem ev_reprD (h : EvD K te σ H d) (sh : d.showable = true) (sz : d.shown.length ≤ 100000) (dp : d.depth ≤ 60) : Ev (tCB (rRepr K) (tCons te tNil)) σ H (.str d.shown) := fun H1 e Q q =>
  h H1 e _ fun v H2 e2 g => ⟨v, d, rfl, .inr g, sh, sz_of sz, Nat.le_trans dp (by decide), q H2 e2⟩
theorem ev_cutN {z : Str} {j : Int} (ha : Ev ta σ H (.str z)) (hb : Ev tb σ H (.int j)) (hz : z.length ≤ 100000) : Ev (L2.tSl rSlS ta tNoPart (tPart tb)) σ H (.str (cutS z none (some j))) := fun H1 e Q q =>
  ha H1 e _ fun H2 e2 => hb H2 (e.trans e2) _ fun H3 e3 => ⟨j, rfl, z, rfl, sz_of hz, q H3 (e2.trans e3)⟩
theorem ev_cutB {z : Str} {j : Int} (ha : Ev ta σ H (.str z)) (hb : Ev tb σ H (.int j)) (hz : z.length ≤ 100000) : Ev (L2.tSl rSlS ta (tPart tb) tNoPart) σ H (.str (cutS z (some j) none)) := fun H1 e Q q =>
  ha H1 e _ fun H2 e2 => hb H2 (e.trans e2) _ fun H3 e3 => ⟨j, rfl, z, rfl, sz_of hz, q H3 (e2.trans e3)⟩
theorem ev_isN {v : V} (ha : Ev ta σ H v) (hb : Ev tb σ H .non) : Ev (tOp (fun x y H Q => y = .non ∧ Q (.bl (decide (x = .non))) H) ta tb) σ H (.bl (decide (v = .non))) := ev_op ha hb (rv_val fun _ _ _ q => ⟨rfl, q⟩)
theorem ev_notN {v : V} (ha : Ev ta σ H v) (hb : Ev tb σ H .non) : Ev (tOp (fun x y H Q => y = .non ∧ Q (.bl (!decide (x = .non))) H) ta tb) σ H (.bl (!decide (v = .non))) := ev_op ha hb (rv_val fun _ _ _ q => ⟨rfl, q⟩)
theorem sign_asc : ∀ c : Nat, c ∈ ("0019a.+/ Z-" : Str).cps.toList → c < 128 := by decide +kernel
theorem turns6 {j : Int} (h0 : 0 ≤ j) : (let q := if (if (6 : Int) < j then 6 else j) > 1 then (if (6 : Int) < j then 6 else j) else 1; q ≤ 6 ∧ 1 ≤ q) := by
  show (if (if (6 : Int) < j then 6 else j) > 1 then (if (6 : Int) < j then 6 else j) else 1) ≤ 6 ∧ 1 ≤ (if (if (6 : Int) < j then 6 else j) > 1 then (if (6 : Int) < j then 6 else j) else 1)
  split <;> split <;> omega
end
end K03
namespace K03
open PySem PySem.Spec PyProof.Rows L2 Evl My LamX
section
variable {K : PySem.W.Frag} {T : List (Addr × Str)} {tt tu : TT} {σ : L2.St} {H H' : Hp} {D : Ends} {te ta tb tl : TE} {tz ts : TS} {d : PyData} {i j : Nat} {ds : List PyData}
theorem s_forN (h : EvDL K tl σ H ds) (S : L2.St → Prop) (s0 : S σ) (tb0 : Tabs T H)
    (step : ∀ d, d ∈ ds → ∀ v σ' H' D', S σ' → ExtN H H' → Tabs T H' → Dd K H' v d → (∀ σ'' H'', S σ'' → ExtN H' H'' → Tabs T H'' → D'.nx σ'' H'') → (∀ v'' H'', D'.rt v'' H'' = D.rt v'' H'') → ts D' (σ'.set j (some v)) H')
    (done : ∀ σ' H', S σ' → ExtN H H' → Tabs T H' → D.nx σ' H') : tFor (iList K tl) (gName j) ts D σ H :=
  q_forN (tz := fun D σ H => D.nx σ H) (D := D) h S s0 tb0 step done
theorem edl_catS {p : Addr} {xs : List V} {es : List PyData} (slot : σ[i]? = some (some (.ref p))) (hp : H p = some (.lst xs)) (g : Dds K H xs ds) (hb : EvDL K tb σ H es) (hz : ds.length + es.length ≤ 100000) : EvDL K (tOp rCat (tVar i) tb) σ H (ds ++ es) := fun H1 e Q q =>
  ⟨_, slot, hb H1 e _ fun r ys H3 nr e3 hy gy => by
    have hl : xs.length + ys.length ≤ 100000 := by
      rw [g.len, gy.len]
      exact hz
    have e13 := e.trans e3
    exact ⟨p, r, xs, ys, rfl, rfl, e13 _ _ hp, hy, sz_of hl, fun l hn => q l _ _ (fresh_back e3 hn) (e3.trans (Ex.new hn)) upd_same (Dds.app (Dds.ext (e13.trans (Ex.new hn)) _ _ g) (Dds.ext (Ex.new hn) _ _ gy))⟩⟩
theorem ed_spRy {C : Addr} {F : PyData → Option PyData} {d r : PyData} {E : XK} (h : EvD K te σ H d) (hd : small d = true) (hF : F d = some r) : EvD K (tCall (spRz K C F) [] E (tCons te tNil)) σ H r := fun H1 e Q q =>
  h H1 e _ fun v H2 e2 g => ⟨v, d, rfl, g, hd, fun r' hr u H3 e3 gu => q u H3 (e2.trans e3) (by
    rw [hF] at hr
    cases hr
    exact gu), fun z => (by
    rw [hF] at z
    cases z)⟩
end
theorem noWay2 {X : Cx} : Passes (L2.CX X.prog X.w) X (fun _ _ _ => False) := L2.passes_call L2.takes0 fun _ _ _ _ z => z
/-- the three bent texts -/
def bents (z : Str) (n : Int) (c : Nat) : List Str := [(cutS z none (some n) ++ ⟨#[c]⟩) ++ cutS z (some n) none, cutS z none (some n) ++ cutS z (some (n + 1)) none, (cutS z none (some n) ++ ⟨#[c]⟩) ++ cutS z (some (n + 1)) none]
theorem one_asc {c : Nat} (h : c < 128) : Asc 1 (⟨#[c]⟩ : Str) := ⟨Nat.le_refl 1, fun x hx => by
  rw [List.mem_singleton.mp (show x ∈ [c] from hx)]
  exact h⟩
theorem bents_asc {z : Str} {n : Int} {c : Nat} (A : Asc 204 z) (h : c < 128) : ∀ b ∈ bents z n c, Asc 409 b := fun b hb => by
  have h1 := (A.cut none (some n)).app (one_asc h)
  have h2 := A.cut (some n) none
  have h3 := A.cut (some (n + 1)) none
  rcases List.mem_cons.mp hb with rfl | hb
  · exact h1.app h2
  rcases List.mem_cons.mp hb with rfl | hb
  · exact ((A.cut none (some n)).app h3).mono (by decide)
  rw [List.mem_singleton.mp hb]
  exact h1.app h3
theorem sign_at {m : Int} (h0 : 0 ≤ m) (h1 : m < 11) : ∃ c, atI ("0019a.+/ Z-" : Str).cps.toList m = some c ∧ c < 128 := by
  obtain ⟨k, rfl⟩ : ∃ k : Nat, m = k := ⟨m.toNat, by omega⟩
  have hk : k < ("0019a.+/ Z-" : Str).cps.toList.length := by
    rw [show ("0019a.+/ Z-" : Str).cps.toList.length = 11 by decide +kernel]
    omega
  exact ⟨_, atI_nat (List.getElem?_eq_getElem hk), sign_asc _ (List.getElem_mem hk)⟩
end K03
set_option maxHeartbeats 16000000
namespace K03
open PySem PySem.Spec PyProof.Rows L2 Evl My LamX
section
variable {P : Program} {w : World} {K : PySem.W.Frag} {mg : Str → Option Value} {base : Heap} {f C c Pt : Addr} {T : List (Addr × Str)} {oc : Value} {od an : Option Addr} {osl : Array (Option Value)} {kV doc pm ct : Value}
theorem ok_law (lk : K.lookup f = some ⟨oc, od, .func (PySem.W.fnOf "law" "law" (defArgs sLaw) (defBody sLaw) (defScope sLaw) .none kV doc pm an (.ref c) ct), osl⟩) (code : PySem.W.codeIn K (.ref c) "law" = true)
    (R : Rf P w K mg base C) (TB : TabB base mg c Pt) (hmT : (Pt, ("law" : Str) ++ ".<locals>." ++ "<lambda>") ∈ T) (hu : ∀ p ∈ T, p.1 = Pt → p.2 = ("law" : Str) ++ ".<locals>." ++ "<lambda>")
    (TX : Txt mg) (hR : mg "range" = none) (hMx : mg "max" = none) (hMn : mg "min" = none)
    (IN : Df P w K mg base "is_name" ["thing"] 4 (spB K nameD)) (NT : DfX P w K mg base "name_text" ["name"] 5 (spRz K C nameF)) (PN : DfX P w K mg base "parse_name" ["text"] 5 (spRz K C parseF))
    (PL : Df P w K mg base "_law_pool" ["_law_script", "_law_k"] 1 (spPool K)) (TK : Df P w K mg base "_law_take" ["_law_pool_here", "_law_sides"] 1 spTake) (LN : Df P w K mg base "_law_name" ["_law_pool_here"] 3 (spLName K))
    (LT : Df P w K mg base "_law_text" ["_law_name_here"] 1 (spLT K)) (LP : Df P w K mg base "_law_parsed" ["_law_text_here"] 3 (spS K lawS)) (MR : DfG P w K mg base "_law_marks_right" [] 8 (fun vs H Q _ => vs = [] ∧ Tabs T H ∧ ∀ H', ExtN H H' → Tabs T H' → Q (.bl true) H')) :
    FnG P w K mg base CX0 9 f (PySem.W.fnOf "law" "law" (defArgs sLaw) (defBody sLaw) (defScope sLaw) .none kV doc pm an (.ref c) ct) ["_law_script"] (spLaw K T) := by
  refine FnG.byBodyAt lk code scLaw (fun vs H Q E h => ?_) (fun A outer s H vs Q E hg hr h => ?_)
  · obtain ⟨a, ns, rfl, _⟩ := h
    rfl
  · obtain ⟨a, ns, rfl, hS, hlen, tb, kQ⟩ := h
    have hr8 : Room 8 _ := hr
    have hr7 : Room 7 _ := hr.mono (by decide)
    have hr1 : Room 1 _ := hr.mono (by decide)
    have hr3 : Room 3 _ := hr.mono (by decide)
    have hr4 : Room 4 _ := hr.mono (by decide)
    have hr5 : Room 5 _ := hr.mono (by decide)
    have hun : (A.deeper (envOfC "law" (defScope sLaw) s.heap.objs.size f (.ref c))).units + 200 < cLine := by
      have := hr.un
      omega
    refine ⟨_, PSs.nox (pss_cons (ps_if (pt_not (pt_val (pe_dfG0 MR hg hr8 rfl))) (pss_one (ps_ret pe_bl)) pss_nil)
      (pss_cons (ps_for PassesOwn.never rfl (pi_range1 rfl hR (pa_cons (pe_callB (call_max2 rfl) (by rfl) hMx (by decide +kernel) (pa_cons pe_int (pa_cons (pe_callB (call_min2 rfl) (by rfl) hMn (by decide +kernel) (pa_cons (pe_callB call_len_seq (by rfl) TX.len (by decide +kernel) (pa_cons (pv 0) pa_nil)) (pa_cons pe_int pa_nil))) pa_nil))) pa_nil)) (pg_name (i := 1) scLaw.nd rfl (Or.inl rfl))
        (pss_cons (ps_set (i := 2) scLaw.nd rfl (Or.inl rfl) (pe_df PL hr1 rfl (pa_cons (pv 0) (pa_cons (pv 1) pa_nil))))
        (pss_one (ps_for PassesOwn.never rfl (pi_range1 rfl hR (pa_cons pe_int pa_nil)) (pg_name (i := 3) scLaw.nd rfl (Or.inl rfl))
          (pss_cons (ps_set (i := 4) scLaw.nd rfl (Or.inl rfl) (pe_df LN hr3 rfl (pa_cons (pv 2) pa_nil)))
          (pss_cons (ps_set (i := 5) scLaw.nd rfl (Or.inl rfl) (pe_df LT hr1 rfl (pa_cons (pv 4) pa_nil)))
          (pss_cons (ps_if (PW.pt (pw_or (pt_cmpR op_notBl (pe_df IN hr4 rfl (pa_cons (pv 4) pa_nil)) pe_bl (nomark _)) (pw_or (pt_cmpR op_ne (pe_dfX NT hr5 rfl noWay2 (pa_cons (pv 4) pa_nil)) (pv 5) (nomark _)) (pw_or1 (pt_cmpR op_ne (pe_callB (call_reprU hg hun) (by rfl) R.rep (by decide +kernel) (pa_cons (pe_dfX PN hr5 rfl noWay2 (pa_cons (pv 5) pa_nil)) pa_nil)) (pe_callB (call_reprU hg hun) (by rfl) R.rep (by decide +kernel) (pa_cons (pv 4) pa_nil)) (nomark _)))))) (pss_one (ps_ret pe_bl)) pss_nil)
          (pss_cons (ps_par (i := 6) (j := 7) rfl scLaw.nd rfl rfl (by decide) rfl rfl (pa_cons (pe_df TK hr1 rfl (pa_cons (pv 2) (pa_cons (pe_op op_add (pe_callB call_len (by rfl) TX.len (by decide +kernel) (pa_cons (pv 5) pa_nil)) pe_int) pa_nil))) (pa_cons (pe_ix ix_str pe_str (pe_df TK hr1 rfl (pa_cons (pv 2) (pa_cons pe_int pa_nil))) (fun _ _ => rfl)) pa_nil)) (by rfl))
          (pss_cons (ps_set (i := 8) scLaw.nd rfl (Or.inl rfl) (pe_lst (pa_cons (pe_op op_add_str (pe_op op_add_str (pe_slice sl_str (pv 5) po_none (po_some (pv 6))) (pv 7)) (pe_slice sl_str (pv 5) (po_some (pv 6)) po_none)) (pa_cons (pe_op op_add_str (pe_slice sl_str (pv 5) po_none (po_some (pv 6))) (pe_slice sl_str (pv 5) (po_some (pe_op op_add (pv 6) pe_int)) po_none)) pa_nil))))
          (pss_one (ps_for PassesOwn.never rfl (pi_list (pe_op op_cat (pv 8) (pe_lst (pa_cons (pe_op op_add_str (pe_op op_add_str (pe_slice sl_str (pv 5) po_none (po_some (pv 6))) (pv 7)) (pe_slice sl_str (pv 5) (po_some (pe_op op_add (pv 6) pe_int)) po_none)) pa_nil)))) (pg_name (i := 9) scLaw.nd rfl (Or.inr rfl))
            (pss_cons (ps_set (i := 10) scLaw.nd rfl (Or.inl rfl) (pe_df LP hr3 rfl (pa_cons (pv 9) pa_nil)))
            (pss_cons (ps_if (PW.pt (pw_and (pt_cmpR op_isN (pv 10) pe_non (nomark _)) (pw_and1 (pt_not (pt_val (pe_door (T := T) (te := tVar 9) (t := fun E => tCall (spRz K C parseF) [] E (tCons (tVar 9) tNil)) R rfl rfl hg hr7 rfl TB rfl hmT hu (by exact lamS_by (sc := defScope sLaw) (by decide +kernel)) rfl (fun _ _ _ _ _ => rfl) (fun A outer s H E f c' r => pe_dfX PN r rfl lamPass (pa_cons (pv 9) pa_nil)) mono_var (pv 9))))))) (pss_one (ps_ret pe_bl)) pss_nil)
            (pss_one (ps_if (PW.pt (pw_and (pt_cmpR op_notN (pv 10) pe_non (nomark _)) (pw_and1 (pt_cmpR op_ne (pe_callB (call_reprU hg hun) (by rfl) R.rep (by decide +kernel) (pa_cons (pe_dfX PN hr5 rfl noWay2 (pa_cons (pv 9) pa_nil)) pa_nil)) (pe_callB (call_reprU hg hun) (by rfl) R.rep (by decide +kernel) (pa_cons (pv 10) pa_nil)) (nomark _))))) (pss_one (ps_ret pe_bl)) pss_nil)))))))))))))))
      (pss_one (ps_ret pe_bl)))), ?_⟩
    refine q_whenN (fun H1 e1 tb1 Q k => ⟨rfl, tb1, fun H2 e2 t2 => ⟨true, rfl, k H2 e2 t2⟩⟩) tb fun Ha ea ta => ?_
    have six := turns6 (j := ((ns.map V.int).length : Int)) (by omega)
    refine q_forR1 (ea_cons (ev_max2 ev_c (ev_min2 (ev_len (ev_var rfl) (sql_extN ea hS)) ev_c)) ea_nil) ⟨Int.le_trans (by decide) six.2, Int.le_trans six.1 (by decide)⟩
      (fun i σ' H' => ExtN H H' ∧ Tabs T H' ∧ ∃ x1 x2 x3 x4 x5 x6 x7 x8 x9 x10 : Option V, σ' = [some (.ref a), x1, x2, x3, x4, x5, x6, x7, x8, x9, x10]) ?_ ?_ ?_
    · intro H1 e1
      exact ⟨ea.trans (ExtN.of e1), fun q hq => (ta q hq).ext e1, none, none, none, none, none, none, none, none, none, none, rfl⟩
    · rintro i σ' H1 hi ⟨e1, t1, x1, x2, x3, x4, x5, x6, x7, x8, x9, x10, rfl⟩
      have hi6 : (i : Int) < 6 := Int.lt_of_lt_of_le hi six.1
      refine ⟨_, rfl, _, rfl, a, ns, i, rfl, sql_extN e1 hS, hlen, by omega, fun p c0 z0 H2 np e2 h2 cn zn zl => ?_⟩
      refine s_forR1 (n := 8) (ea_cons ev_c ea_nil) ⟨by decide, by decide⟩
        (fun j σ' H' => ExtN H1 H' ∧ Tabs T H' ∧ PoolAt H' p ∧ ∃ y3 y4 y5 y6 y7 y8 y9 y10 : Option V, σ' = [some (.ref a), some (.int (i : Int)), some (.ref p), y3, y4, y5, y6, y7, y8, y9, y10]) ?_ ?_ ?_
      · intro H3 e3
        exact ⟨ExtN.of (fun b o h => e3 b o (e2 b o h)), fun q hq => (t1 q hq).ext (fun b o h => e3 b o (e2 b o h)), ⟨c0, z0, e3 _ _ h2, cn, zn, zl⟩, _, _, _, _, _, _, _, _, rfl⟩
      · rintro j σ' H3 _ ⟨e3, t3, pp, y3, y4, y5, y6, y7, y8, y9, y10, rfl⟩
        -- the name
        refine ⟨_, rfl, p, rfl, pp, fun u ds H4 gu dl dm b4 pp4 => ?_⟩
        have e4 : ExtN H1 H4 := extN_but e3 np b4
        have t4 : Tabs T H4 := tabs_but t3 pp b4
        have hs : small (.tuple ds) = true := marks_small dm (by omega)
        have hn : nameD (.tuple ds) = true := List.all_eq_true.mpr dm
        have A := nameTD_asc dm dl
        have hP := parse_text dm
        have hF : nameF (.tuple ds) = some (.str (nameTD (.tuple ds))) := by
          unfold nameF
          rw [if_pos hn]
        have sn := shown_name dm (by omega)
        have nl : noList (.tuple ds) = true := noLists_of fun d m => mark_noList (dm d m)
        -- its text
        refine q_asgD (K := K) (d := .str (nameTD (.tuple ds))) (ed_call (eds_cons (ed_var rfl gu) eds_nil) (spD_ok ⟨_, rfl, hs, hn⟩ rfl)) fun v5 H5 e5 g5 => ?_
        cases g5
        revert A hP hF
        generalize nameTD (.tuple ds) = z
        intro A hP hF
        have lz : z.length ≤ 100000 := Nat.le_trans A.1 (by decide)
        have gu5 := Dd.ext e5 _ _ gu
        refine q_when (b := false || (false || false)) (et_or (et_is (et_test (ev_notB (ev_spB (F := nameD) (ed_var rfl gu5) hs) ev_c)) (by rw [hn]; rfl)) fun _ =>
          et_or (et_is (et_test (ev_op (ed_spRy (K := K) (C := C) (F := nameF) (ed_var rfl gu5) hs hF).str (ev_var rfl) (rv_ne rfl))) (by simp)) fun _ =>
            et_is (et_test (ev_op (ev_reprD (ed_spRy (K := K) (C := C) (F := parseF) (d := .str z) (r := .tuple ds) (ed_str (ev_var rfl)) (A.ok (by decide)) hP) sn.1 sn.2.1 sn.2.2) (ev_reprD (ed_var rfl gu5) sn.1 sn.2.1 sn.2.2) (rv_ne rfl))) (by simp)) (fun hb => by cases hb) fun _ H6 e6 => ?_
        -- the spot and the sign
        have pp6 : PoolAt H6 p := (pp4.ext e5).ext e6
        have t6 : Tabs T H6 := fun q hq => ((t4 q hq).ext e5).ext e6
        have e16 : ExtN H1 H6 := (e4.trans (ExtN.of e5)).trans (ExtN.of e6)
        refine take_go (i := 2) pp6 rfl (evAdd (ed_lenS (K := K) (ev_var rfl) lz) ev_c) ⟨by omega, by have := A.1; omega⟩ fun n H7 n0 n1 b7 pp7 => ?_
        refine take_go (i := 2) (sides := 11) pp7 rfl ev_c ⟨by decide, by decide⟩ fun m H8 m0 m1 b8 pp8 => ?_
        obtain ⟨c1, hc1, hc2⟩ := sign_at m0 m1
        refine ⟨_, m, c1, rfl, rfl, by decide, hc1, _, _, rfl, ?_⟩
        have e18 : ExtN H1 H8 := extN_but (extN_but e16 np b7) np b8
        have t8 : Tabs T H8 := tabs_but (tabs_but t6 pp6 b7) pp7 b8
        have l1 : Str.length (⟨#[c1]⟩ : Str) = 1 := rfl
        have lc : ∀ lo hi, (cutS z lo hi).length ≤ 204 := fun lo hi => (A.cut lo hi).1
        have B := bents_asc (n := n) A hc2
        refine q_asgDL (K := K) (ds := [.str ((cutS z none (some n) ++ ⟨#[c1]⟩) ++ cutS z (some n) none), .str (cutS z none (some n) ++ cutS z (some (n + 1)) none)])
          (edl_lst (eds_cons (ed_str (ev_cat (ev_cat (ev_cutN (ev_var rfl) (ev_var rfl) lz) (ev_var rfl) (by have := lc none (some n); omega)) (ev_cutB (ev_var rfl) (ev_var rfl) lz) (by rw [PySem.Str.length_append]; have := lc none (some n); have := lc (some n) none; omega)))
            (eds_cons (ed_str (ev_cat (ev_cutN (ev_var rfl) (ev_var rfl) lz) (ev_cutB (ev_var rfl) (evAdd (ev_var rfl) ev_c) lz) (by have := lc none (some n); have := lc (some (n + 1)) none; omega))) eds_nil)) (by show 2 ≤ 100000; decide)) fun p8 xs8 H9 n9 e9 h9 g9 => ?_
        refine s_forN (K := K) (T := T) (ds := [.str ((cutS z none (some n) ++ ⟨#[c1]⟩) ++ cutS z (some n) none), .str (cutS z none (some n) ++ cutS z (some (n + 1)) none)] ++ [.str ((cutS z none (some n) ++ ⟨#[c1]⟩) ++ cutS z (some (n + 1)) none)])
          (edl_catS rfl h9 g9 (edl_lst (eds_cons (ed_str (ev_cat (ev_cat (ev_cutN (ev_var rfl) (ev_var rfl) lz) (ev_var rfl) (by have := lc none (some n); omega)) (ev_cutB (ev_var rfl) (evAdd (ev_var rfl) ev_c) lz) (by rw [PySem.Str.length_append]; have := lc none (some n); have := lc (some (n + 1)) none; omega))) eds_nil) (by show 1 ≤ 100000; decide)) (by show 3 ≤ 100000; decide))
          (fun σ => ∃ o9 o10 : Option V, σ = [some (.ref a), some (.int (i : Int)), some (.ref p), some (.int (j : Int)), some u, some (.str z), some (.int n), some (.str ⟨#[c1]⟩), some (.ref p8), o9, o10]) ⟨_, _, rfl⟩ (fun q hq => (t8 q hq).ext e9) (fun d hd v σ' H' D' S e t g nx rt => ?_) (fun σ1 Hz S1 ez tz => ?_)
        · obtain ⟨o9, o10, rfl⟩ := S
          obtain ⟨b, rfl, hb⟩ : ∃ b, d = .str b ∧ b ∈ bents z n c1 := by
            rcases List.mem_cons.mp hd with rfl | hd
            · exact ⟨_, rfl, List.mem_cons_self ..⟩
            rcases List.mem_cons.mp hd with rfl | hd
            · exact ⟨_, rfl, List.mem_cons_of_mem _ (List.mem_cons_self ..)⟩
            rw [List.mem_singleton.mp hd]
            exact ⟨_, rfl, List.mem_cons_of_mem _ (List.mem_cons_of_mem _ (List.mem_cons_self ..))⟩
          have Bb := B b hb
          have okb : okS b = true := Bb.ok (by decide)
          have told := Bb.told (by decide)
          cases g
          refine q_asgD (K := K) (d := lawS b) (ed_spS (ev_var rfl) okb) fun v2 H'' e'' g'' => ?_
          have t'' : Tabs T H'' := fun q hq => (t q hq).ext e''
          have lis := law_is b
          cases hp : parseS b with
          | none =>
            rw [hp] at lis
            have lis2 : lawS b = .none := lis
            rw [lis2] at g''
            cases g''
            refine q_whenN (etN_and (etN_of fun H2 e2 => et_is (et_test (ev_isN (ev_var rfl) ev_c)) rfl) (etN_door (C := C) (d := .str b) (fun H2 e2 => ed_str (ev_var rfl)) told.1 told.2.1 told.2.2 fun E H2 v2 e2 g2 hE => go_var rfl (.str b) okb hp hE)) t'' fun H2 e2 t2 => ?_
            refine s_whenN2 (etN_andF (etN_of fun H3 e3 => et_is (et_test (ev_notN (ev_var rfl) ev_c)) rfl)) t2 fun H3 e3 t3 => ?_
            exact nx _ H3 ⟨_, _, rfl⟩ ((ExtN.of e'').trans (e2.trans e3)) t3
          | some r =>
            obtain ⟨ms, rfl, hm, hml⟩ := parse_marks hp
            rw [hp] at lis
            have lis2 : lawS b = .tuple ms := lis
            rw [lis2] at g''
            have sm := shown_name hm (by have := Bb.1; omega)
            obtain ⟨ad, rfl⟩ : ∃ ad, v2 = .ref ad := by
              cases g''
              exact ⟨_, rfl⟩
            refine q_whenN (etN_andF (etN_of fun H2 e2 => et_is (et_test (ev_isN (ev_var rfl) ev_c)) rfl)) t'' fun H2 e2 t2 => ?_
            have g2 := dd_extN e2 _ _ g''
            refine s_whenN2 (etN_of fun H3 e3 => et_and (a := true) (b := false) (et_is (et_test (ev_notN (ev_var rfl) ev_c)) rfl) fun _ =>
              et_is (et_test (ev_op (ev_reprD (ed_spRy (K := K) (C := C) (F := parseF) (d := .str b) (r := .tuple ms) (ed_str (ev_var rfl)) okb hp) sm.1 sm.2.1 sm.2.2) (ev_reprD (ed_var rfl (dd_extN e3 _ _ g2)) sm.1 sm.2.1 sm.2.2) (rv_ne rfl))) (by simp)) t2 fun H3 e3 t3 => ?_
            exact nx _ H3 ⟨_, _, rfl⟩ ((ExtN.of e'').trans (e2.trans e3)) t3
        · obtain ⟨o9, o10, rfl⟩ := S1
          exact ⟨(e18.trans (ExtN.of e9)).trans ez, tz, pool_extN ez (pp8.ext e9), _, _, _, _, _, _, _, _, rfl⟩
      · rintro σ' H' ⟨e3, t3, pp, y3, y4, y5, y6, y7, y8, y9, y10, rfl⟩
        exact ⟨e1.trans e3, t3, _, _, _, _, _, _, _, _, _, _, rfl⟩
    · rintro σ' H' ⟨e1, t1, x1, x2, x3, x4, x5, x6, x7, x8, x9, x10, rfl⟩
      exact s_ret (v := .bl true) ev_c fun H2 e2 => kQ H2
end
end K03
set_option maxHeartbeats 8000000
/-! the head's facts, gathered -/
namespace K03
open PySem PySem.Spec PyProof.Rows L2 Evl My LamX
structure HasDef (K : PySem.W.Frag) (x : Str) (st : Stmt) (f : Addr) : Prop where
  g : PySem.W.nsIn K mainGlobals x = some (some (.ref f))
  k : PySem.W.keepIn K (.ref f) = true
  F : ∃ fd, Fun K x x st f fd
theorem hasDef {K : PySem.W.Frag} {x : Str} {st : Stmt} {f : Addr} {oc : Value} {od an : Option Addr} {osl : Array (Option Value)} {kV doc pm cdv ct : Value}
    (g : PySem.W.nsIn K mainGlobals x = some (some (.ref f)))
    (lf : K.lookup f = some ⟨oc, od, .func (PySem.W.fnOf x x (defArgs st) (defBody st) (defScope st) .none kV doc pm an cdv ct), osl⟩) (cf : PySem.W.codeIn K cdv x = true) (kf : PySem.W.keepIn K (.ref f) = true) : HasDef K x st f :=
  ⟨g, kf, _, fun_mk lf cf kf⟩
/-- a def whose code object is known -/
structure HasDefC (K : PySem.W.Frag) (x : Str) (st : Stmt) (f c : Addr) : Prop where
  g : PySem.W.nsIn K mainGlobals x = some (some (.ref f))
  k : PySem.W.keepIn K (.ref f) = true
  cd : PySem.W.codeIn K (.ref c) x = true
  l : ∃ oc od kV doc pm an ct osl, K.lookup f = some ⟨oc, od, .func (PySem.W.fnOf x x (defArgs st) (defBody st) (defScope st) .none kV doc pm an (.ref c) ct), osl⟩
theorem hasDefC {K : PySem.W.Frag} {x : Str} {st : Stmt} {f c : Addr} {oc : Value} {od an : Option Addr} {osl : Array (Option Value)} {kV doc pm ct : Value}
    (g : PySem.W.nsIn K mainGlobals x = some (some (.ref f)))
    (lf : K.lookup f = some ⟨oc, od, .func (PySem.W.fnOf x x (defArgs st) (defBody st) (defScope st) .none kV doc pm an (.ref c) ct), osl⟩) (cf : PySem.W.codeIn K (.ref c) x = true) (kf : PySem.W.keepIn K (.ref f) = true) : HasDefC K x st f c :=
  ⟨g, kf, cf, _, _, _, _, _, _, _, _, lf⟩
/-- an own class right under an own class right under ValueError -/
def errB (K : PySem.W.Frag) (C : Addr) : Bool :=
  (PySem.W.findIn K (.ref C) "__setattr__" == some (some (.builtin "object.__setattr__"))) && PySem.W.keepIn K (.ref C) && xfB K C && (PySem.W.typeIn K (.ref C) == some (.type "type")) && (PySem.W.exmOne K (.ref C) (.ref C) == some true) && (PySem.W.findIn K (.ref C) "value" == some none)
structure ErrB (K : PySem.W.Frag) (C : Addr) : Prop where
  sa : PySem.W.findIn K (.ref C) "__setattr__" = some (some (.builtin "object.__setattr__"))
  kC : PySem.W.keepIn K (.ref C) = true
  xf : XfC K C
  ty : PySem.W.typeIn K (.ref C) = some (.type "type")
  ex : PySem.W.exmOne K (.ref C) (.ref C) = some true
  nv : PySem.W.findIn K (.ref C) "value" = some none
theorem errB_of {K : PySem.W.Frag} {C : Addr} (h : errB K C = true) : ErrB K C := by
  unfold errB at h
  simp only [Bool.and_eq_true, beq_iff_eq] at h
  obtain ⟨⟨⟨⟨⟨h1, h2⟩, h3⟩, h4⟩, h5⟩, h6⟩ := h
  exact ⟨h1, h2, xfB_ok h3, h4, h5, h6⟩
abbrev sInit : Stmt := match top 2 with
  | .ClassDef _ _ _ body .. => body.getD 0 (.Pass ⟨0, 0, 0, 0⟩)
  | _ => .Pass ⟨0, 0, 0, 0⟩
structure HasErr (K : PySem.W.Frag) (C cM fI : Addr) : Prop where
  g : PySem.W.nsIn K mainGlobals "InvalidName" = some (some (.ref C))
  l : ∃ nm q N bs sn sub ab col dd k0 k1 k2 k3 k5, K.lookup C = some (excClassObj nm q C N bs (.ref cM :: [.type "ValueError", .type "Exception", .type "BaseException", .type "object"]) true sn sub ab col dd k0 k1 k2 k3 k5 "ValueError.__new__")
  i : PySem.W.findIn K (.ref C) "__init__" = some (some (.ref fI))
  t : PySem.W.typeIn K (.ref fI) = some (.type "function")
  F : ∃ fd, Fun K "__init__" "InvalidName.__init__" sInit fI fd
  b : ErrB K C
theorem hasErr {K : PySem.W.Frag} {C cM fI : Addr} {nm q N bs sn sub ab col dd k0 k1 k2 k3 k5} {oc : Value} {od an : Option Addr} {osl : Array (Option Value)} {kV doc pm cdv ct : Value}
    (g : PySem.W.nsIn K mainGlobals "InvalidName" = some (some (.ref C))) (l : K.lookup C = some (excClassObj nm q C N bs (.ref cM :: [.type "ValueError", .type "Exception", .type "BaseException", .type "object"]) true sn sub ab col dd k0 k1 k2 k3 k5 "ValueError.__new__"))
    (i : PySem.W.findIn K (.ref C) "__init__" = some (some (.ref fI))) (t : PySem.W.typeIn K (.ref fI) = some (.type "function"))
    (lf : K.lookup fI = some ⟨oc, od, .func (PySem.W.fnOf "__init__" "InvalidName.__init__" (defArgs sInit) (defBody sInit) (defScope sInit) .none kV doc pm an cdv ct), osl⟩) (cf : PySem.W.codeIn K cdv "InvalidName.__init__" = true) (kf : PySem.W.keepIn K (.ref fI) = true) (hb : errB K C = true) : HasErr K C cM fI :=
  ⟨g, ⟨_, _, _, _, _, _, _, _, _, _, _, _, _, _, l⟩, i, t, ⟨_, fun_mk lf cf kf⟩, errB_of hb⟩
section
variable {P : Program} {w : World} {K : PySem.W.Frag} {mg : Str → Option Value} {base : Heap} {C cM fI : Addr}
theorem HasErr.exG (h : HasErr K C cM fI) : ExG K C := by
  obtain ⟨nm, q, N, bs, sn, sub, ab, col, dd, k0, k1, k2, k3, k5, l⟩ := h.l
  exact ⟨⟨nm, q, N, bs, _, sn, sub, ab, col, dd, k0, k1, k2, k3, k5, "ValueError", "ValueError.__new__", _, _, l, PySem.F.excBase_ValueError, ⟨rfl, rfl, rfl⟩, mroValue.cons⟩, h.b.sa, h.b.kC⟩
theorem HasErr.oex (h : HasErr K C cM fI) : OexC K C := by
  obtain ⟨nm, q, N, bs, sn, sub, ab, col, dd, k0, k1, k2, k3, k5, l⟩ := h.l
  exact ⟨⟨nm, q, N, bs, _, sn, sub, ab, col, dd, k0, k1, k2, k3, k5, l, rfl⟩, h.b.sa, h.b.xf.exC, h.b.ty, h.b.kC⟩
theorem HasErr.inv (h : HasErr K C cM fI) (gC : mg "InvalidName" = some (.ref C)) : InvN P w K mg base C := by
  obtain ⟨fd, F⟩ := h.F
  exact ⟨⟨fI, fd, h.oex, h.i, h.t, ok_one F ⟨rfl, rfl, rfl, by decide +kernel, rfl, by decide +kernel, by decide +kernel⟩ ⟨_, _, _, _, rfl⟩ (by decide +kernel) (by decide +kernel) h.exG h.b.nv, F.binds fun _ _ _ _ _ _ us hl => match us, hl with | [_, _], _ => rfl⟩, gC⟩
end
theorem tabs_of {H : Hp} {T : List (Addr × Str)} (h : ∀ p ∈ T, H p.1 = some (.tbl #[])) : Tabs T H := fun p hp => ⟨#[], h p hp, trivial, fun pos cv hc => by
  cases hc⟩
def QR : Str := ("_law_marks_right" : Str) ++ ".<locals>." ++ "<lambda>"
def QL : Str := ("law" : Str) ++ ".<locals>." ++ "<lambda>"

section
variable {l : PySem.W.OpenLaw} {w : World} {K : PySem.W.Frag} {mg : Str → Option Value} {h : Heap} {fa C cM fI PA PB cR cL fR fL d0 d1 d2 d3 d4 d5 d6 d7 d8 d9 d10 d11 d12 d13 d14 d15 d16 d17 d18 : Addr} {uL uW uD uG uM : Value}
theorem all_mk (X : K.In h) (G : h.Ns mainGlobals mg) (hfa : mg "law" = some (.ref fa)) (tabs : ∀ P ∈ [PA, PB], h.get? P = some (PySem.W.tabObj #[]))
    (E : HasErr K C cM fI)
    (e0 : HasDef K "is_word" sWord d0)
    (e1 : HasDef K "is_integer" sInteger d1)
    (e2 : HasDef K "is_source" sSource d2)
    (e3 : HasDef K "is_mark" sMark d3)
    (e4 : HasDef K "is_name" sName d4)
    (e5 : HasDef K "mark_text" sMText d5)
    (e6 : HasDef K "name_text" sNText d6)
    (e7 : HasDef K "written_number" sNumber d7)
    (e8 : HasDef K "written_mark" sWMark d8)
    (e9 : HasDef K "parse_name" sParse d9)
    (e10 : HasDef K "_law_pool" sPool d10)
    (e11 : HasDef K "_law_take" sTake d11)
    (e12 : HasDef K "_law_word" sLawWord d12)
    (e13 : HasDef K "_law_name" sLawName d13)
    (e14 : HasDef K "_law_text" sLText d14)
    (e15 : HasDef K "_law_is_word" sLWord d15)
    (e16 : HasDef K "_law_is_mark" sLMark d16)
    (e17 : HasDef K "_law_parsed" sParsed d17)
    (e18 : HasDef K "_law_refused" sRefused d18)
    (eR : HasDefC K "_law_marks_right" sRight fR cR) (eL : HasDefC K "law" sLaw fL cL)
    (hR : PySem.W.codeHdIn K cR PA = true) (hL : PySem.W.codeHdIn K cL PB = true) (nA : K.lookup PA = none) (nB : K.lookup PB = none) (hne : PA ≠ PB)
    (z0 : PySem.W.nsIn K mainGlobals "len" = some none)
    (z1 : PySem.W.nsIn K mainGlobals "all" = some none)
    (z2 : PySem.W.nsIn K mainGlobals "isinstance" = some none)
    (z3 : PySem.W.nsIn K mainGlobals "str" = some none)
    (z4 : PySem.W.nsIn K mainGlobals "int" = some none)
    (z5 : PySem.W.nsIn K mainGlobals "bool" = some none)
    (z6 : PySem.W.nsIn K mainGlobals "tuple" = some none)
    (z7 : PySem.W.nsIn K mainGlobals "range" = some none)
    (z8 : PySem.W.nsIn K mainGlobals "max" = some none)
    (z9 : PySem.W.nsIn K mainGlobals "min" = some none)
    (z10 : PySem.W.nsIn K mainGlobals "repr" = some none)
    (gL : PySem.W.nsIn K mainGlobals "LETTERS" = some (some uL)) (gW : PySem.W.nsIn K mainGlobals "LONGEST_WORD" = some (some uW)) (gD : PySem.W.nsIn K mainGlobals "DIGITS" = some (some uD)) (gG : PySem.W.nsIn K mainGlobals "GREATEST_NUMBER" = some (some uG)) (gM : PySem.W.nsIn K mainGlobals "MOST_DIGITS" = some (some uM))
    (rL : RelV (.str LET) uL) (rW : RelV (.int 8) uW) (rD : RelV (.str DIG) uD) (rG : RelV (.int 1000000000000000000) uG) (rM : RelV (.int 19) uM) :
    ∃ (fd : FuncData) (cs : List (Addr × Addr)), (∀ p ∈ cs, h.get? p.2 = some { cls := .none, data := .fields #[] }) ∧ (∀ p ∈ cs, K.lookup p.2 = none) ∧ (∀ p ∈ cs, PySem.W.CodeHd h p.1 p.2) ∧
      (∀ (s : Shared) (u : Value), BindsTo s fd ⟨[u], []⟩ [("_law_script", u)]) ∧
      (∀ (H : Hp) (a : Addr) (ns : List Int), ns.length ≤ 63 → (∀ p ∈ cs, H p.2 = some (.tbl #[])) → SqL K H a (ns.map V.int) → spLaw K [(PA, QR), (PB, QL)] [.ref a] H (fun v _ => v = .bl true) fun _ _ _ => False) ∧
      ∀ base : Heap, K.In base → base.Ns mainGlobals mg → (∀ p ∈ cs, LamX.TabB base mg p.1 p.2) → FnG l.prog w K mg base CX0 9 fa fd ["_law_script"] (spLaw K [(PA, QR), (PB, QL)]) := by
  have e := hfa.symm.trans (PySem.W.mg_of X G eL.g)
  cases e
  have TX : Txt mg := ⟨PySem.W.mg_none_of X G z0, PySem.W.mg_none_of X G z1, PySem.W.mg_none_of X G z2, PySem.W.mg_none_of X G z3, PySem.W.mg_none_of X G z4, PySem.W.mg_none_of X G z5, PySem.W.mg_none_of X G z6, ⟨_, PySem.W.mg_of X G gL, rL⟩, ⟨_, PySem.W.mg_of X G gW, rW⟩, ⟨_, PySem.W.mg_of X G gD, rD⟩, ⟨_, PySem.W.mg_of X G gG, rG⟩, ⟨_, PySem.W.mg_of X G gM, rM⟩⟩
  have nR : mg "range" = none := PySem.W.mg_none_of X G z7
  have nMx : mg "max" = none := PySem.W.mg_none_of X G z8
  have nMn : mg "min" = none := PySem.W.mg_none_of X G z9
  have nRp : mg "repr" = none := PySem.W.mg_none_of X G z10
  have gC : mg "InvalidName" = some (.ref C) := PySem.W.mg_of X G E.g
  obtain ⟨g0, k0, fd0, F0⟩ := e0
  have b0 := F0.binds (ps := ["thing"]) fun _ _ _ _ _ _ us hl => match us, hl with | [_], _ => rfl
  have m0 := PySem.W.mg_of X G g0
  obtain ⟨g1, k1, fd1, F1⟩ := e1
  have b1 := F1.binds (ps := ["thing"]) fun _ _ _ _ _ _ us hl => match us, hl with | [_], _ => rfl
  have m1 := PySem.W.mg_of X G g1
  obtain ⟨g2, k2, fd2, F2⟩ := e2
  have b2 := F2.binds (ps := ["thing"]) fun _ _ _ _ _ _ us hl => match us, hl with | [_], _ => rfl
  have m2 := PySem.W.mg_of X G g2
  obtain ⟨g3, k3, fd3, F3⟩ := e3
  have b3 := F3.binds (ps := ["thing"]) fun _ _ _ _ _ _ us hl => match us, hl with | [_], _ => rfl
  have m3 := PySem.W.mg_of X G g3
  obtain ⟨g4, k4, fd4, F4⟩ := e4
  have b4 := F4.binds (ps := ["thing"]) fun _ _ _ _ _ _ us hl => match us, hl with | [_], _ => rfl
  have m4 := PySem.W.mg_of X G g4
  obtain ⟨g5, k5, fd5, F5⟩ := e5
  have b5 := F5.binds (ps := ["mark"]) fun _ _ _ _ _ _ us hl => match us, hl with | [_], _ => rfl
  have m5 := PySem.W.mg_of X G g5
  obtain ⟨g6, k6, fd6, F6⟩ := e6
  have b6 := F6.binds (ps := ["name"]) fun _ _ _ _ _ _ us hl => match us, hl with | [_], _ => rfl
  have m6 := PySem.W.mg_of X G g6
  obtain ⟨g7, k7, fd7, F7⟩ := e7
  have b7 := F7.binds (ps := ["text"]) fun _ _ _ _ _ _ us hl => match us, hl with | [_], _ => rfl
  have m7 := PySem.W.mg_of X G g7
  obtain ⟨g8, k8, fd8, F8⟩ := e8
  have b8 := F8.binds (ps := ["text"]) fun _ _ _ _ _ _ us hl => match us, hl with | [_], _ => rfl
  have m8 := PySem.W.mg_of X G g8
  obtain ⟨g9, k9, fd9, F9⟩ := e9
  have b9 := F9.binds (ps := ["text"]) fun _ _ _ _ _ _ us hl => match us, hl with | [_], _ => rfl
  have m9 := PySem.W.mg_of X G g9
  obtain ⟨g10, k10, fd10, F10⟩ := e10
  have b10 := F10.binds (ps := ["_law_script", "_law_k"]) fun _ _ _ _ _ _ us hl => match us, hl with | [_, _], _ => rfl
  have m10 := PySem.W.mg_of X G g10
  obtain ⟨g11, k11, fd11, F11⟩ := e11
  have b11 := F11.binds (ps := ["_law_pool_here", "_law_sides"]) fun _ _ _ _ _ _ us hl => match us, hl with | [_, _], _ => rfl
  have m11 := PySem.W.mg_of X G g11
  obtain ⟨g12, k12, fd12, F12⟩ := e12
  have b12 := F12.binds (ps := ["_law_pool_here"]) fun _ _ _ _ _ _ us hl => match us, hl with | [_], _ => rfl
  have m12 := PySem.W.mg_of X G g12
  obtain ⟨g13, k13, fd13, F13⟩ := e13
  have b13 := F13.binds (ps := ["_law_pool_here"]) fun _ _ _ _ _ _ us hl => match us, hl with | [_], _ => rfl
  have m13 := PySem.W.mg_of X G g13
  obtain ⟨g14, k14, fd14, F14⟩ := e14
  have b14 := F14.binds (ps := ["_law_name_here"]) fun _ _ _ _ _ _ us hl => match us, hl with | [_], _ => rfl
  have m14 := PySem.W.mg_of X G g14
  obtain ⟨g15, k15, fd15, F15⟩ := e15
  have b15 := F15.binds (ps := ["_law_thing"]) fun _ _ _ _ _ _ us hl => match us, hl with | [_], _ => rfl
  have m15 := PySem.W.mg_of X G g15
  obtain ⟨g16, k16, fd16, F16⟩ := e16
  have b16 := F16.binds (ps := ["_law_thing"]) fun _ _ _ _ _ _ us hl => match us, hl with | [_], _ => rfl
  have m16 := PySem.W.mg_of X G g16
  obtain ⟨g17, k17, fd17, F17⟩ := e17
  have b17 := F17.binds (ps := ["_law_text_here"]) fun _ _ _ _ _ _ us hl => match us, hl with | [_], _ => rfl
  have m17 := PySem.W.mg_of X G g17
  obtain ⟨g18, k18, fd18, F18⟩ := e18
  have b18 := F18.binds (ps := ["_law_door", "_law_thing"]) fun _ _ _ _ _ _ us hl => match us, hl with | [_, _], _ => rfl
  have m18 := PySem.W.mg_of X G g18
  obtain ⟨gR, kR, ccR, ocR, odR, kVR, docR, pmR, anR, ctR, oslR, lR⟩ := eR
  obtain ⟨gLw, kL, ccL, ocL, odL, kVL, docL, pmL, anL, ctL, oslL, lL⟩ := eL
  refine ⟨_, [(cR, PA), (cL, PB)], ?_, ?_, ?_, fun s v => .of_eq (fd := PySem.W.fnOf "law" "law" (defArgs sLaw) (defBody sLaw) (defScope sLaw) .none kVL docL pmL anL (.ref cL) ctL) rfl, ?_, fun base IB NB TB => ?_⟩
  · intro p hp
    rcases List.mem_cons.mp hp with rfl | hp
    · exact tabs _ (List.mem_cons_self ..)
    · rw [List.mem_singleton.mp hp]
      exact tabs _ (List.mem_cons_of_mem _ (List.mem_cons_self ..))
  · intro p hp
    rcases List.mem_cons.mp hp with rfl | hp
    · exact nA
    · rw [List.mem_singleton.mp hp]
      exact nB
  · intro p hp
    rcases List.mem_cons.mp hp with rfl | hp
    · exact PySem.W.codeHd_of_K X hR
    · rw [List.mem_singleton.mp hp]
      exact PySem.W.codeHd_of_K X hL
  · intro H a ns hl hH hS
    exact ⟨a, ns, rfl, hS, hl, tabs_of fun p hp => by
      rcases List.mem_cons.mp hp with rfl | hp
      · exact hH (cR, PA) (List.mem_cons_self ..)
      · rw [List.mem_singleton.mp hp]
        exact hH (cL, PB) (List.mem_cons_of_mem _ (List.mem_cons_self ..)), fun _ => rfl⟩
  have VN : InvN l.prog w K mg base C := E.inv gC
  have WD : Df l.prog w K mg base "is_word" ["thing"] 1 (spB K wordD) := ⟨_, _, m0, k0, ok_word F0 TX, b0⟩
  have IT : Df l.prog w K mg base "is_integer" ["thing"] 1 (spB K intD) := ⟨_, _, m1, k1, ok_integer F1 TX, b1⟩
  have SR : Df l.prog w K mg base "is_source" ["thing"] 2 (spB K srcD) := ⟨_, _, m2, k2, ok_source F2 TX WD, b2⟩
  have IM : Df l.prog w K mg base "is_mark" ["thing"] 3 (spB K markD) := ⟨_, _, m3, k3, ok_mark F3 TX WD SR IT, b3⟩
  have IN : Df l.prog w K mg base "is_name" ["thing"] 4 (spB K nameD) := ⟨_, _, m4, k4, ok_isname F4 TX IM, b4⟩
  have MT : Df l.prog w K mg base "mark_text" ["mark"] 1 (spMT K) := ⟨_, _, m5, k5, ok_mtext F5, b5⟩
  have NT : DfX l.prog w K mg base "name_text" ["name"] 5 (spRz K C nameF) := ⟨_, _, m6, k6, ok_ntext F6 VN IN MT, b6⟩
  have WN : Df l.prog w K mg base "written_number" ["text"] 1 (spS K numD) := ⟨_, _, m7, k7, ok_number F7 TX, b7⟩
  have WM : Df l.prog w K mg base "written_mark" ["text"] 4 (spS K wmD) := ⟨_, _, m8, k8, ok_wmark F8 TX WN IM, b8⟩
  have PN : DfX l.prog w K mg base "parse_name" ["text"] 5 (spRz K C parseF) := ⟨_, _, m9, k9, ok_parse F9 TX VN WM, b9⟩
  have PL : Df l.prog w K mg base "_law_pool" ["_law_script", "_law_k"] 1 (spPool K) := ⟨_, _, m10, k10, ok_pool F10 TX.len, b10⟩
  have TK : Df l.prog w K mg base "_law_take" ["_law_pool_here", "_law_sides"] 1 spTake := ⟨_, _, m11, k11, ok_take F11 TX.len, b11⟩
  have LW : Df l.prog w K mg base "_law_word" ["_law_pool_here"] 2 spWord := ⟨_, _, m12, k12, ok_lawword F12 nR TK, b12⟩
  have LN : Df l.prog w K mg base "_law_name" ["_law_pool_here"] 3 (spLName K) := ⟨_, _, m13, k13, ok_lawname F13 nR TX.tuple TK LW, b13⟩
  have LT : Df l.prog w K mg base "_law_text" ["_law_name_here"] 1 (spLT K) := ⟨_, _, m14, k14, ok_ltext F14 TX, b14⟩
  have LIW : Df l.prog w K mg base "_law_is_word" ["_law_thing"] 1 (spB K wordD) := ⟨_, _, m15, k15, ok_lword F15 TX, b15⟩
  have LIM : Df l.prog w K mg base "_law_is_mark" ["_law_thing"] 2 (spB K markD) := ⟨_, _, m16, k16, ok_lmark F16 TX LIW, b16⟩
  have LP : Df l.prog w K mg base "_law_parsed" ["_law_text_here"] 3 (spS K lawS) := ⟨_, _, m17, k17, ok_parsed F17 TX LIM, b17⟩
  have RF : Rf l.prog w K mg base C := ⟨⟨_, _, m18, k18, F18, b18⟩, E.b.xf, E.b.ex, E.b.nv, gC, nRp⟩
  have huA : ∀ p ∈ [(PA, QR), (PB, QL)], p.1 = PA → p.2 = QR := fun p hp q => by
    rcases List.mem_cons.mp hp with rfl | hp
    · rfl
    · rw [List.mem_singleton.mp hp] at q
      exact absurd q.symm hne
  have huB : ∀ p ∈ [(PA, QR), (PB, QL)], p.1 = PB → p.2 = QL := fun p hp q => by
    rcases List.mem_cons.mp hp with rfl | hp
    · exact absurd q hne
    · rw [List.mem_singleton.mp hp]
  have MR : DfG l.prog w K mg base "_law_marks_right" [] 8 (spRight [(PA, QR), (PB, QL)]) := ⟨_, _, PySem.W.mg_of X G gR, kR, ok_right lR ccR RF (TB (cR, PA) (List.mem_cons_self ..)) (List.mem_cons_self ..) huA IM IN NT PN, (fun s us inK hl => match us, hl with | [], _ => .of_eq (fd := PySem.W.fnOf "_law_marks_right" "_law_marks_right" (defArgs sRight) (defBody sRight) (defScope sRight) .none kVR docR pmR anR (.ref cR) ctR) rfl)⟩
  exact ok_law lL ccL RF (TB (cL, PB) (List.mem_cons_of_mem _ (List.mem_cons_self ..))) (List.mem_cons_of_mem _ (List.mem_cons_self ..)) huB TX nR nMx nMn IN NT PN PL TK LN LT LP MR
end
theorem walk {l : PySem.W.OpenLaw} {q : Program} {loose : List Str} {XP : (Str → Option Value) → Heap → Prop} {YP : World → Heap → Prop} {d : DefRec} {K : Params → PySem.W.Frag} {T : List (Addr × Str)} (hn : l.most = some 63) (hdf : d.params.defaults = [])
    (hY : ∀ (w : World) (h : Heap), YP w h → (K w.params).In h)
    (F : ∀ (w : World) (mg : Str → Option Value) (fa : Addr) (h : Heap), YP w h → (K w.params).In h → h.Ns mainGlobals mg → mg d.name = some (.ref fa) →
      ∃ (fd : FuncData) (cs : List (Addr × Addr)), (∀ p ∈ cs, h.get? p.2 = some { cls := .none, data := .fields #[] }) ∧ (∀ p ∈ cs, (K w.params).lookup p.2 = none) ∧ (∀ p ∈ cs, PySem.W.CodeHd h p.1 p.2) ∧
        (∀ (s : Shared) (u : Value), BindsTo s fd ⟨[u], []⟩ [("_law_script", u)]) ∧
        (∀ (H : Hp) (a : Addr) (ns : List Int), ns.length ≤ 63 → (∀ p ∈ cs, H p.2 = some (.tbl #[])) → SqL (K w.params) H a (ns.map V.int) → spLaw (K w.params) T [.ref a] H (fun v _ => v = .bl true) fun _ _ _ => False) ∧
        ∀ base : Heap, (K w.params).In base → base.Ns mainGlobals mg → (∀ p ∈ cs, LamX.TabB base mg p.1 p.2) → FnG l.prog w (K w.params) mg base CX0 9 fa fd ["_law_script"] (spLaw (K w.params) T)) :
    PySem.W.WalkO q loose XP YP l.row.toRowW d [] (fun f vs => PySem.call f vs) :=
  My.walkGT (n := 63) (k := 9) (x := "_law_script") (sp := fun w => spLaw (K w.params) T) hn (by decide) hdf ⟨rfl, by decide, by decide⟩ hY F
end K03
open PySem PySem.W PyProof.Rows in
set_option maxRecDepth 100000 in
set_option maxHeartbeats 0 in
theorem PySem.Challenge.cw_maskededits_k03_marks_and_names_holds : PySem.Challenge.rw_maskededits_k03_marks_and_names.Holds := by
  w_on; o_law; k_head; (case hw => w_witness2)
  k_fill
  refine' K03.walk (l := PySem.Challenge.rw_maskededits_k03_marks_and_names) (T := ?T) rfl rfl (fun w h Y => PySem.W.km_in_of Y) ?F
  case F =>
    intro w mg fa h Y KX G hmg
    have tabs := PySem.W.km_tabs_of Y
    refine' K03.all_mk KX G hmg tabs ?E ?e0 ?e1 ?e2 ?e3 ?e4 ?e5 ?e6 ?e7 ?e8 ?e9 ?e10 ?e11 ?e12 ?e13 ?e14 ?e15 ?e16 ?e17 ?e18 ?eR ?eL ?hR ?hL ?nA ?nB ?hne ?z0 ?z1 ?z2 ?z3 ?z4 ?z5 ?z6 ?z7 ?z8 ?z9 ?z10 ?gL ?gW ?gD ?gG ?gM ?rL ?rW ?rD ?rG ?rM
    (case E => refine' K03.hasErr ?g ?l ?i ?t ?lf ?cf ?kf ?hb; (case g => k_is); (case l => k_is); (case i => k_is); (case t => k_is); (case lf => k_is); (case cf => k_is); (case kf => k_is); (case hb => first | kernel_rfl | k_is))
    (case e0 => refine' K03.hasDef ?g ?lf ?cf ?kf; (case g => k_is); (case lf => k_is); (case cf => k_is); (case kf => k_is))
    (case e1 => refine' K03.hasDef ?g ?lf ?cf ?kf; (case g => k_is); (case lf => k_is); (case cf => k_is); (case kf => k_is))
    (case e2 => refine' K03.hasDef ?g ?lf ?cf ?kf; (case g => k_is); (case lf => k_is); (case cf => k_is); (case kf => k_is))
    (case e3 => refine' K03.hasDef ?g ?lf ?cf ?kf; (case g => k_is); (case lf => k_is); (case cf => k_is); (case kf => k_is))
    (case e4 => refine' K03.hasDef ?g ?lf ?cf ?kf; (case g => k_is); (case lf => k_is); (case cf => k_is); (case kf => k_is))
    (case e5 => refine' K03.hasDef ?g ?lf ?cf ?kf; (case g => k_is); (case lf => k_is); (case cf => k_is); (case kf => k_is))
    (case e6 => refine' K03.hasDef ?g ?lf ?cf ?kf; (case g => k_is); (case lf => k_is); (case cf => k_is); (case kf => k_is))
    (case e7 => refine' K03.hasDef ?g ?lf ?cf ?kf; (case g => k_is); (case lf => k_is); (case cf => k_is); (case kf => k_is))
    (case e8 => refine' K03.hasDef ?g ?lf ?cf ?kf; (case g => k_is); (case lf => k_is); (case cf => k_is); (case kf => k_is))
    (case e9 => refine' K03.hasDef ?g ?lf ?cf ?kf; (case g => k_is); (case lf => k_is); (case cf => k_is); (case kf => k_is))
    (case e10 => refine' K03.hasDef ?g ?lf ?cf ?kf; (case g => k_is); (case lf => k_is); (case cf => k_is); (case kf => k_is))
    (case e11 => refine' K03.hasDef ?g ?lf ?cf ?kf; (case g => k_is); (case lf => k_is); (case cf => k_is); (case kf => k_is))
    (case e12 => refine' K03.hasDef ?g ?lf ?cf ?kf; (case g => k_is); (case lf => k_is); (case cf => k_is); (case kf => k_is))
    (case e13 => refine' K03.hasDef ?g ?lf ?cf ?kf; (case g => k_is); (case lf => k_is); (case cf => k_is); (case kf => k_is))
    (case e14 => refine' K03.hasDef ?g ?lf ?cf ?kf; (case g => k_is); (case lf => k_is); (case cf => k_is); (case kf => k_is))
    (case e15 => refine' K03.hasDef ?g ?lf ?cf ?kf; (case g => k_is); (case lf => k_is); (case cf => k_is); (case kf => k_is))
    (case e16 => refine' K03.hasDef ?g ?lf ?cf ?kf; (case g => k_is); (case lf => k_is); (case cf => k_is); (case kf => k_is))
    (case e17 => refine' K03.hasDef ?g ?lf ?cf ?kf; (case g => k_is); (case lf => k_is); (case cf => k_is); (case kf => k_is))
    (case e18 => refine' K03.hasDef ?g ?lf ?cf ?kf; (case g => k_is); (case lf => k_is); (case cf => k_is); (case kf => k_is))
    (case eR => refine' K03.hasDefC ?g ?lf ?cf ?kf; (case g => k_is); (case lf => k_is); (case cf => k_is); (case kf => k_is))
    (case eL => refine' K03.hasDefC ?g ?lf ?cf ?kf; (case g => k_is); (case lf => k_is); (case cf => k_is); (case kf => k_is))
    (case z0 => k_is)
    (case z1 => k_is)
    (case z2 => k_is)
    (case z3 => k_is)
    (case z4 => k_is)
    (case z5 => k_is)
    (case z6 => k_is)
    (case z7 => k_is)
    (case z8 => k_is)
    (case z9 => k_is)
    (case z10 => k_is)
    (case gL => k_is)
    (case gW => k_is)
    (case gD => k_is)
    (case gG => k_is)
    (case gM => k_is)
    (case rL => exact ⟨_, rfl⟩)
    (case rW => exact ⟨_, rfl⟩)
    (case rD => exact ⟨_, rfl⟩)
    (case rG => exact ⟨_, rfl⟩)
    (case rM => exact ⟨_, rfl⟩)
    (case hR => kernel_rfl)
    (case hL => kernel_rfl)
    (case nA => kernel_rfl)
    (case nB => kernel_rfl)
    (case hne => decide)
