import PyProof.Rows.All
import Wide.All
import OpenK.AllK
import Wide.FinOn
import HandS.Base
import HandS.Call
import HandS.List
import HandS.Ends
import HandS.Words
import PyProof.ReprRoads
import HandS.Dict
import HandS.Comp
import HandS.Text
import HandS.Iter
import PyProof.ReprLen
import PyProof.CallStr
import PyProof.CallFns
import HandS.Set
import HandS.SetFor
import HandS.SetTxt0
import HandS.Strs
import HandS.TupSets
import HandS.Style
import HandS.TupAny
import HandS.IsInst
import HandS.More
import HandS.Wide
import PyProof.Rows.RuleB_pow
import PyProof.NeKinds
import HandS.ForMost
import HandS.Walk
import HandS.DictTup
import HandS.Exc
import HandS.Deep
import PyProof.ListStr
import HandS.ForExc
import HandS.ExcInit
import HandS.ExcField
import HandS.ExcIs
import PyProof.P3Eq
import HandS.TupMul
import HandS.DictComp
import HandS.MakeKwOnly
import HandS.TryOnly
import KE.GoesMore
import PyProof.StrOps2
import HandS.ExcOwn
import KE.KEqDict
import HandS.OwnEq
import PyProof.InstNe
import PyProof.SeqInW
import PyProof.EqKinds
import HandS.FStr
import HandS.Records
import HandS.RaiseMore
import HandS.Zip
import KE.KDictZip
import HandS.SortInts
import PySem.Challenge.RW_tongueyard_k41_tables_as_texts
set_option Elab.async false
set_option linter.all false
set_option maxRecDepth 100000
/-! The yard's own layer, part 1: promises of defs at places where nothing is being shown (no repr under way). -/
namespace Yard
open PySem PySem.Spec PyProof.Rows L2

/-- as the layer's promise, but only where no repr is under way -/
structure FnG (P : Program) (w : World) (K : PySem.W.Frag)
    (mg : Str → Option Value) (base : Heap) (CX : CXT) (k : Nat) (f : Addr)
    (fd : FuncData) (ps : List Str) (sp : Sp) : Prop where
  cnt : ∀ vs H Q E, sp vs H Q E → vs.length = ps.length
  go : ∀ (A : Around) (fr : List Env) (s : Shared) (H : Hp) (ar : Args)
    (us : List Value) (vs : List V) (Q : VK) (E : XK),
    A.guards = some [] → Room k A → Env0 P w K mg base A fr s H →
    BindsTo s fd ar (ps.zip us) → Vals vs us → sp vs H Q E →
    codeAny (model P w) A (.call (.ref f) ar) (CR CX fr P w H s Q E) s

variable {P : Program} {w : World} {K : PySem.W.Frag}
  {mg : Str → Option Value} {base : Heap}

theorem Fun.okG {x qual : Str} {st : Stmt} {f : Addr} {fd : FuncData}
    {N ps : List Str} {k : Nat} {sp : Sp} (F : Fun K x qual st f fd)
    (S : FnScope N ps (defScope st))
    (cnt : ∀ vs H Q E, sp vs H Q E → vs.length = ps.length)
    (bod : ∀ (cdv : Value) (A : Around) (fr : List Env) (s : Shared) (H : Hp)
      (vs : List V) (Q : VK) (E : XK), A.guards = some [] →
      Room k (A.deeper (envOfC qual (defScope st) s.heap.objs.size f cdv)) →
      sp vs H Q E → ∃ t,
        PSs (cxOf CX0 P w K mg base N qual (defScope st) f cdv A fr s H E).nox
          (defBody st) t ∧
        t { nx := fun _ H' => Q .non H', rt := Q } (start N vs) H) :
    FnG P w K mg base CX0 (k + 1) f fd ps sp := by
  obtain ⟨oc, od, kV, doc, pm, an, cdv, ct, osl, rfl, lk, hcd⟩ := F.ex
  refine ⟨cnt, fun A fr s H ar us vs Q E hg hr e0 hb r hsp => ?_⟩
  have inK : K.In s.heap := e0.mod.kin.keeps fun b o e => (e0.bs b o e).1
  have nol := e0.mod.nolimit.keeps fun b o e => (e0.bs b o e).1
  refine codeAny_call_function hr.depth (inK _ _ lk) rfl S.co S.gen rfl
    (PySem.W.codeRec_of inK hcd) (hb _ _ _ _ ?_)
  refine wpAny_newFunctionEnv_cells S.kind (fun ⟨n, v⟩ hy => ?_)
    fun env he s1 x => ?_
  · exact (S.par n (List.of_mem_zip hy).1).imp id
      fun q => ⟨q, PySem.W.cellsFrom_some _ _ _ (.inl q)⟩
  · subst he
    refine ⟨nol.keeps x.toInCall.keep, codeAny_func ?_⟩
    obtain ⟨t, ht, hq⟩ := bod cdv A fr s H vs Q E hg (hr.deeper _) hsp
    have I := inv_start (CX := CX0) (E := E) S hr.hd e0 (cnt _ _ _ _ hsp) r x
    refine wpAny_mono (ht.nox.run [] s1 (start N vs) H _ I hq)
      (fun fl s' hs => ?_) fun e s' hs => hs
    cases fl with
    | ret u =>
      obtain ⟨v, _, H', J, rv, q⟩ := hs
      exact ⟨v, H', J.os, J.bare, J.base, J.hok, rv, q⟩
    | next =>
      obtain ⟨_, H', J, q⟩ := hs
      exact ⟨.non, H', J.os, J.bare, J.base, J.hok, rfl, q⟩
    | brk => exact hs.elim fun _ h => h.elim fun _ h => h.2.elim
    | cont => exact hs.elim fun _ h => h.elim fun _ h => h.2.elim

/-! ### the law's own call -/
/-- a heap of one tracked thing -/
def lone (a : Addr) (o : HO) : Hp := fun b => if b = a then some o else none
/-- at the claim's own place nothing is being shown -/
theorem caller_guards : callerA.guards = some [] := rfl

theorem law_run {CX : CXT} {k : Nat} {fa a : Addr} {fd : FuncData} {x : Str}
    {sp : Sp} {s₁ : Shared} {vs : List Value} {ns : List Int} {mb : Str → Option Value}
    (KX : K.In s₁.heap) (g1 : s₁.heap.Ns mainGlobals mg) (g2 : s₁.heap.Ns builtinsNs mb)
    (g3 : ∀ x : Str, x ≠ "__name__" → mb x = bootBuiltins x) (g4 : s₁.heap.NoLimit)
    (g5 : s₁.gens = #[])
    (ha : s₁.heap.get? a = some { cls := .type "list", data := .seq vs.toArray })
    (hi : IntsAre vs ns) (hl : ns.length ≤ sizeLine) (hr : Room k callerA)
    (g6 : ∃ m, s₁.heap.Ns sysModules m)
    (F : ∀ base : Heap, K.In base → base.Ns mainGlobals mg →
      (∃ m, base.Ns sysModules m) → FnG P w K mg base CX k fa fd [x] sp)
    (hb : ∀ (s : Shared) (u : Value), BindsTo s fd ⟨[u], []⟩ [(x, u)])
    (hsp : ∀ H : Hp, Only H → SqL K H a (ns.map V.int) →
      sp [.ref a] H (fun v _ => v = .bl true) fun _ _ _ => False)
    (hX : ∀ H e s', CX [] H s₁ (fun _ _ _ => False) e s' → False) :
    codeAny (model P w) callerA (.call (.ref fa) ⟨[.ref a], []⟩)
      (fun r s' => r = .ok (.ret (.bool true)) ∧ OldK s₁.heap s'.heap ∧
        s'.os = s₁.os ∧ AllBare s'.gens) s₁ := by
  have rv := vals_ints hi
  -- H: nothing but the script may be tracked
  have main : ∀ H : Hp, Only H → SqL K H a (ns.map V.int) → HOk P w H s₁.heap →
      (∀ b, H b ≠ none → b = a) → (H a ≠ none → K.lookup a = none) →
      codeAny (model P w) callerA (.call (.ref fa) ⟨[.ref a], []⟩)
        (fun r s' => r = .ok (.ret (.bool true)) ∧ OldK s₁.heap s'.heap ∧
          s'.os = s₁.os ∧ AllBare s'.gens) s₁ := by
    intro H hO hS ok onlyA notK
    have freeOf : ∀ {b : Addr}, b ≠ a → H b = none := fun {b} ne =>
      Classical.byContradiction fun z => ne (onlyA b z)
    have dictFree : ∀ {b : Addr} {o : Obj} {es : Array DictEntry} {ep : Nat},
        s₁.heap.get? b = some o → o.data = .dict es ep → H b = none :=
      fun {b o es ep} e d => freeOf fun z => by
        subst z
        have q : some o = some _ := e.symm.trans ha
        cases q
        exact nomatch d
    have nsKeep : ∀ {b : Addr} {m : Str → Option Value}, s₁.heap.Ns b m →
        (hidT s₁.heap H).Ns b m := fun ⟨o, es, ep, e, d, r⟩ =>
      ⟨o, es, ep, hidT_get e (dictFree e d), d, r⟩
    have kKeep : K.In (hidT s₁.heap H) := fun b o e => hidT_get (KX b o e)
      (Classical.byContradiction fun z => by
        have z2 := onlyA b z
        subst z2
        have n := notK z
        rw [e] at n
        cases n)
    have md : Mod K mg (hidT s₁.heap H) := ⟨kKeep, nsKeep g1, ⟨mb, nsKeep g2, g3⟩,
      g4.elim fun mc h => ⟨mc, nsKeep h.1, h.2⟩⟩
    have env : Env0 P w K mg (hidT s₁.heap H) callerA [] s₁ H :=
      ⟨rfl, md, fun _ _ e => of_hidT e, Nat.le_of_eq (hidT_size _ _), trivial,
        fun _ z => (List.not_mem_nil z).elim, ok, .of_eq g5⟩
    refine codeAny_mono ((F _ kKeep (nsKeep g1) (g6.imp fun _ => nsKeep)).go callerA [] s₁ H _ [.ref a]
      [.ref a] _ _ caller_guards hr env (hb s₁ _) (.cons rfl .nil) (hsp H hO hS))
      fun r s' h => ?_
    cases r with
    | error e => exact (hX H e s' h).elim
    | ok fl =>
      cases fl with
      | ret u =>
        obtain ⟨v, H', os, bare, un, ok', r', q⟩ := h
        cases (show v = .bl true from q)
        cases (show u = Value.bool true from r')
        refine ⟨rfl, OldK.of_keep fun b o e => ?_, os, bare⟩
        rcases hO b with z | ⟨ob, xs, z⟩
        · exact un.keep b o e z (fun q => (List.not_mem_nil q).elim)
            fun q => (List.not_mem_nil q).elim
        · have e1 := (ok b _ z).1
          have e2 := (ok' b _ (un.frzs b ob _ z)).1
          rw [e2, ← e1, e]
      | _ => exact False.elim h
  cases hk : K.lookup a with
  | some o =>
    cases (KX a o hk).symm.trans ha
    exact main (fun _ => none) (fun _ => .inl rfl)
      (.inr ⟨_, vs.toArray, _, hk, rfl, rfl, rfl,
        by rw [List.size_toArray, hi.length]; exact hl, by simpa using rv⟩)
      (fun b u z => nomatch (show (none : Option HO) = some u from z))
      (fun _ z => (z rfl).elim) fun z => (z rfl).elim
  | none =>
    have at_ : ∀ {o : HO} {b : Addr} {u : HO}, lone a o b = some u → b = a ∧ u = o :=
      fun {o b u} z => by
      by_cases hb : b = a
      · exact ⟨hb, (Option.some.inj ((if_pos hb).symm.trans z)).symm⟩
      · exact nomatch (if_neg hb).symm.trans z
    refine main (lone a (HO.frz { cls := .type "list", data := .seq vs.toArray }
      (.lst (ns.map V.int)))) (fun b => ?_) (.inl (.inr ⟨_, if_pos rfl⟩))
      (fun b u z => ?_) (fun b z => ?_) fun _ => hk
    · by_cases hb : b = a
      · exact .inr ⟨_, _, if_pos hb⟩
      · exact .inl (if_neg hb)
    · obtain ⟨rfl, rfl⟩ := at_ z
      exact ⟨ha, by rw [List.length_map]; exact hl, vs, _, rv, ha⟩
    · exact Classical.byContradiction fun hb => z (if_neg hb)

/-- the row's end, from the law's promise -/
theorem walk_G {l : PySem.W.OpenLaw} {n k : Nat} {q : Program} {loose : List Str}
    {XP : (Str → Option Value) → Heap → Prop} {YP : World → Heap → Prop} {d : DefRec}
    {K : Params → PySem.W.Frag} {sp : PySem.W.Frag → Sp} {x : Str}
    (hn : l.most = some n) (hn2 : n ≤ sizeLine) (hdf : d.params.defaults = [])
    (hr : Room k callerA) (him : importsNone q = true)
    (hY : ∀ (w : World) (h : Heap), YP w h → (K w.params).In h)
    (F : ∀ (w : World) (mg : Str → Option Value) (fa : Addr) (h : Heap),
      (K w.params).In h → h.Ns mainGlobals mg → mg d.name = some (.ref fa) →
      ∃ fd : FuncData, (∀ (s : Shared) (u : Value), BindsTo s fd ⟨[u], []⟩ [(x, u)]) ∧
        ∀ base : Heap, (K w.params).In base → base.Ns mainGlobals mg →
          (∃ m, base.Ns sysModules m) → FnG l.prog w (K w.params) mg base CX0 k fa fd [x] (sp (K w.params)))
    (hsp : ∀ (K : PySem.W.Frag) (H : Hp) (a : Addr) (ns : List Int), ns.length ≤ n →
      Only H → SqL K H a (ns.map V.int) →
      sp K [.ref a] H (fun v _ => v = .bl true) fun _ _ _ => False) :
    PySem.W.WalkO q loose XP YP l.row.toRowW d [] (fun f vs => PySem.call f vs) := by
  refine Att.attach_call hn hdf fun w s₀ s₁ mg mb fa o pm cd doc a vs ns G Y ho hd hcd
    hmg hobj hints hlen hg => ?_
  obtain ⟨fd, hb, hF⟩ := F w mg fa _ (hY w _ Y) G.T.g hmg
  exact law_run (hY w _ Y) G.T.g G.T.b G.T.builtins G.T.nolimit hg hobj hints
    (Nat.le_trans hlen hn2) hr ((G.T.seer him).mods.imp fun _ h => h.1) hF hb (fun H hO hS => hsp _ H a ns hlen hO hS)
    fun _ _ _ z => z
end Yard
set_option maxRecDepth 100000
/-! The yard's own layer, part 2: data that the calls have made, at any depth; what they are shown as. -/
namespace Yard
open PySem PySem.Spec PyProof.Rows L2

mutual
/-- at the value stands the datum; all its parts are tracked -/
inductive Dq (H : Hp) : V → PyData → Prop
  | non : Dq H .non .none
  | bl (b : Bool) : Dq H (.bl b) (.bool b)
  | int (i : Int) : Dq H (.int i) (.int i)
  | str (x : Str) : Dq H (.str x) (.str x)
  | lst {a : Addr} {xs : List V} {ds : List PyData} : H a = some (.lst xs) → DqL H xs ds → Dq H (.ref a) (.list ds)
  | tup {a : Addr} {xs : List V} {ds : List PyData} : H a = some (.tup xs) → DqL H xs ds → Dq H (.ref a) (.tuple ds)
  | dic {a : Addr} : H a = some (.dK []) → Dq H (.ref a) (.dict [])
inductive DqL (H : Hp) : List V → List PyData → Prop
  | nil : DqL H [] []
  | cons {v : V} {vs : List V} {d : PyData} {ds : List PyData} : Dq H v d → DqL H vs ds → DqL H (v :: vs) (d :: ds)
end

mutual
theorem Dq.mono {H H' : Hp} (s : Same H H') : ∀ {v : V} {d : PyData}, Dq H v d → Dq H' v d
  | _, _, .non => .non
  | _, _, .bl b => .bl b
  | _, _, .int i => .int i
  | _, _, .str x => .str x
  | _, _, .lst h t => .lst (s _ _ h) (t.mono s)
  | _, _, .tup h t => .tup (s _ _ h) (t.mono s)
  | _, _, .dic h => .dic (s _ _ h)
theorem DqL.mono {H H' : Hp} (s : Same H H') : ∀ {vs : List V} {ds : List PyData}, DqL H vs ds → DqL H' vs ds
  | _, _, .nil => .nil
  | _, _, .cons h t => .cons (h.mono s) (t.mono s)
end
theorem DqL.len {H : Hp} : ∀ {vs : List V} {ds : List PyData}, DqL H vs ds → vs.length = ds.length
  | _, _, .nil => rfl
  | _, _, .cons _ t => congrArg (· + 1) t.len
theorem DqL.get {H : Hp} : ∀ {vs : List V} {ds : List PyData} {i : Nat} {v : V}, DqL H vs ds → vs[i]? = some v → ∃ d, ds[i]? = some d ∧ Dq H v d
  | _, _, 0, _, .cons h _, e => by cases e; exact ⟨_, rfl, h⟩
  | _, _, i + 1, _, .cons _ t, e => DqL.get (i := i) t e
theorem DqL.take {H : Hp} : ∀ {vs : List V} {ds : List PyData} (n : Nat), DqL H vs ds → DqL H (vs.take n) (ds.take n)
  | _, _, 0, _ => .nil
  | _, _, _ + 1, .nil => .nil
  | _, _, n + 1, .cons h t => .cons h (t.take n)
theorem DqL.drop {H : Hp} : ∀ {vs : List V} {ds : List PyData} (n : Nat), DqL H vs ds → DqL H (vs.drop n) (ds.drop n)
  | _, _, 0, h => h
  | _, _, _ + 1, .nil => .nil
  | _, _, n + 1, .cons _ t => t.drop n
theorem DqL.app {H : Hp} : ∀ {vs ws : List V} {ds es : List PyData}, DqL H vs ds → DqL H ws es → DqL H (vs ++ ws) (ds ++ es)
  | _, _, _, _, .nil, k => k
  | _, _, _, _, .cons h t, k => .cons h (t.app k)
theorem DqL.rev {H : Hp} : ∀ {vs : List V} {ds : List PyData}, DqL H vs ds → DqL H vs.reverse ds.reverse
  | _, _, .nil => .nil
  | _, _, .cons h t => by
    rw [List.reverse_cons, List.reverse_cons]
    exact t.rev.app (.cons h .nil)

section
variable {X : Cx} {pins : List (Addr × Obj)} {σ : L2.St} {H : Hp} {s : Shared}
mutual
theorem Dq.reads (I : Inv X pins σ H s) : ∀ {v : V} {d : PyData} {u : Value}, Dq H v d → RelV v u → ∃ as, Reads s.heap u d as ∧ ∀ b ∈ as, H b ≠ none
  | _, _, _, .non, r => by cases r; exact ⟨_, .none, fun _ h => nomatch h⟩
  | _, _, _, .bl b, r => by cases r; exact ⟨_, .bool b, fun _ h => nomatch h⟩
  | _, _, _, .int i, r => by obtain ⟨t, rfl⟩ := r; exact ⟨_, .int i t, fun _ h => nomatch h⟩
  | _, _, _, .str x, r => by obtain ⟨t, rfl⟩ := r; exact ⟨_, .str x t, fun _ h => nomatch h⟩
  | _, _, _, .lst h t, r => by
    cases r
    obtain ⟨_, its, n, rv, ho⟩ := I.hok _ _ h
    obtain ⟨as, k, q⟩ := DqL.reads I t rv
    refine ⟨_, .list (vs := its.toArray) ho rfl rfl (by simpa using k), fun b hb => ?_⟩
    rcases List.mem_cons.mp hb with z | z
    · rw [z, h]; exact fun y => nomatch y
    · exact q b z
  | _, _, _, .tup h t, r => by
    cases r
    obtain ⟨_, its, rv, o, ho, hc, n, hd⟩ := I.hok _ _ h
    obtain ⟨as, k, q⟩ := DqL.reads I t rv
    exact ⟨_, .tuple ho hc hd (by simpa using k), q⟩
  | _, _, _, .dic h, r => by
    cases r
    obtain ⟨_, _, vs, rv, o, es, ep, ho, hx, hd, _, hp, _⟩ := I.hok _ _ h
    cases rv
    have e0 : es.toList = [] := by
      generalize es.toList = l at hp
      cases hp
      rfl
    refine ⟨_, .dict (kvs := []) ho hx.1 hd (by rw [e0]; exact .nil) (by rw [e0]; exact .nil), fun b hb => ?_⟩
    have hb' : b ∈ [_] := hb
    rw [List.mem_singleton.mp hb', h]; exact fun y => nomatch y
theorem DqL.reads (I : Inv X pins σ H s) : ∀ {vs : List V} {ds : List PyData} {us : List Value}, DqL H vs ds → Vals vs us → ∃ as, ReadsAll s.heap us ds as ∧ ∀ b ∈ as, H b ≠ none
  | _, _, _, .nil, r => by cases r; exact ⟨_, .nil, fun _ h => nomatch h⟩
  | _, _, _, .cons h t, r => by
    cases r with
    | cons r1 r2 =>
      obtain ⟨as, k, q⟩ := Dq.reads I h r1
      obtain ⟨bs, k2, q2⟩ := DqL.reads I t r2
      exact ⟨_, .cons k k2, fun b hb => (List.mem_append.mp hb).elim (q b) (q2 b)⟩
end
end
end Yard
set_option maxRecDepth 100000
/-! The yard's own layer, part 3: str(x), repr(x) of data. -/
namespace Yard
open PySem PySem.Spec PyProof.Rows L2

/-- what str says of a datum -/
def strText : PyData → Str
  | .str x => x
  | d => d.shown

/-- str or repr of a datum, f the text -/
def rShow (f : PyData → Str) : List V → Hp → VK → Prop := fun xs H Q =>
  ∃ v d, xs = [v] ∧ Dq H v d ∧ d.showable = true ∧ d.depth ≤ 64 ∧
    d.shown.length ≤ sizeLine ∧ Q (.str (f d)) H

section
variable {X : Cx} {pins : List (Addr × Obj)} {σ : L2.St} {H : Hp} {s : Shared}
/-- no tracked thing is the table of modules -/
theorem no_sys (I : Inv X pins σ H s) (hs : ∃ m, X.base.Ns sysModules m)
    {as : List Addr} (h : ∀ b ∈ as, H b ≠ none) : sysModules ∉ as := fun hm => by
  obtain ⟨m, o, es, ep, e, _⟩ := hs
  exact h _ hm (I.bs _ _ e).2

theorem call_strQ (hg : X.A.guards = some []) (hs : ∃ m, X.base.Ns sysModules m)
    (hu : X.A.units + 80 < cLine) : CallR X (.type "str") (rShow strText) := by
  intro pins s σ H xs us Q I r h
  obtain ⟨v, d, rfl, hd, sh, dp, sz, q⟩ := h
  obtain ⟨u, rfl, rv⟩ := vals1 r
  have fin : ∀ (h' : Heap) (t : Nat) (x : Str) (tk : Tok), x = strText d →
      (∀ b o, s.heap.get? b = some o → h'.get? b = some o) →
      EP X pins σ Q (.str x tk) { s with heap := h', toks := t } :=
    fun h' t x tk e k => ⟨.str x, H, I.kept (t' := t) k, ⟨_, rfl⟩, by rw [e]; exact q⟩
  obtain ⟨as, rd, ha⟩ := hd.reads I rv
  have ref_ : ∀ a, u = .ref a → strText d = d.shown →
      wpAny (model X.prog X.w) X.A (PySem.call (.type "str") [u]) (EP X pins σ Q) X.xe s := by
    intro a e e2
    subst e
    refine str_of_reads rd sh (fun _ => no_sys I hs ha) hg (by omega)
      (fun _ _ z => z) (fun h' u tk k => fin h' tk _ u e2.symm k) sz
  cases hd with
  | non =>
    cases rv
    exact P.str_of_none (fin s.heap _ _ _ (by simp only [strText, PyData.shown]) fun _ _ z => z)
  | bl b =>
    cases rv
    refine P.str_of_bool (fin s.heap _ _ _ ?_ fun _ _ z => z)
    cases b <;> simp only [strText, PyData.shown] <;> rfl
  | int i =>
    obtain ⟨t, rfl⟩ := rv
    refine P.str_of_int (by simpa [PyData.showable] using sh)
      (fin s.heap _ _ _ ?_ fun _ _ z => z)
    simp only [strText, PyData.shown]
  | str x =>
    obtain ⟨t, rfl⟩ := rv
    exact P.str_of_str (fin s.heap _ _ _ rfl fun _ _ z => z)
  | lst h t => exact ref_ _ rv rfl
  | tup h t => exact ref_ _ rv rfl
  | dic h => exact ref_ _ rv rfl

theorem call_reprQ (hg : X.A.guards = some []) (hs : ∃ m, X.base.Ns sysModules m)
    (hu : X.A.units + 80 < cLine) : CallR X (.builtin "repr") (rShow PyData.shown) := by
  intro pins s σ H xs us Q I r h
  obtain ⟨v, d, rfl, hd, sh, dp, sz, q⟩ := h
  obtain ⟨u, rfl, rv⟩ := vals1 r
  have fin : ∀ (h' : Heap) (t : Nat) (x : Str) (tk : Tok), x = d.shown →
      (∀ b o, s.heap.get? b = some o → h'.get? b = some o) →
      EP X pins σ Q (.str x tk) { s with heap := h', toks := t } :=
    fun h' t x tk e k => ⟨.str x, H, I.kept (t' := t) k, ⟨_, rfl⟩, by rw [e]; exact q⟩
  obtain ⟨as, rd, ha⟩ := hd.reads I rv
  have ref_ : ∀ a, u = .ref a →
      wpAny (model X.prog X.w) X.A (PySem.call (.builtin "repr") [u]) (EP X pins σ Q) X.xe s := by
    intro a e
    subst e
    exact repr_of_reads' rd sh (fun _ => no_sys I hs ha) hg (by omega)
      (fun _ _ z => z) (fun h' u tk k => fin h' tk _ u rfl k) sz
  cases hd with
  | non =>
    cases rv
    exact P.repr_of_none (fin s.heap _ _ _ (by simp only [PyData.shown]) fun _ _ z => z)
  | bl b =>
    cases rv
    refine P.repr_of_bool (fin s.heap _ _ _ ?_ fun _ _ z => z)
    cases b <;> simp only [PyData.shown] <;> rfl
  | int i =>
    obtain ⟨t, rfl⟩ := rv
    refine P.repr_of_int (by simpa [PyData.showable] using sh)
      (fin s.heap _ _ _ ?_ fun _ _ z => z)
    simp only [PyData.shown]
  | str x =>
    obtain ⟨t, rfl⟩ := rv
    refine P.repr_of_str (fin s.heap _ _ _ ?_ fun _ _ z => z)
      (by simpa only [PyData.shown] using sz)
    simp only [PyData.shown]
  | lst h t => exact ref_ _ rv
  | tup h t => exact ref_ _ rv
  | dic h => exact ref_ _ rv
end
end Yard
set_option maxRecDepth 100000
/-! The yard's own layer, part 4: sorted(set(texts)). -/
namespace Yard
open PySem PySem.Spec PyProof.Rows L2 PySem.Froz

/-- a set's payload of texts that can be walked in any way of the world's -/
structure Walky (P : Program) (w : World) (D : SD) (l : List Str) : Prop where
  tx : TxOk P w D l
  ris : Ris D.2.2.place.toList
  led : w.params.followText "set-order" = true ∨ D.2.2.led = true
  nd : l.Nodup

theorem walky_new (P : Program) (w : World) :
    Walky P w (#[], 0, .fresh 0 0 (!w.params.followText "set-order")) [] where
  tx := TxOk.nil rfl
  ris := List.Pairwise.nil
  led := by
    cases h : w.params.followText "set-order"
    · exact .inr rfl
    · exact .inl rfl
  nd := List.nodup_nil

/-- what a new member makes of the table -/
theorem add_table (h : Int) (v : Value) (D : SD) (r : Ris D.2.2.place.toList) :
    Ris (addTx h v D).2.2.place.toList ∧ (addTx h v D).2.2.led = D.2.2.led := by
  obtain ⟨es, ep, t⟩ := D
  have r1 := layNew_ris t es h v r
  have l1 := layNew_led t es h v
  have tail : ∀ (t2 : SetTable) (b : Bool) (es1 : Array (Int × Value)),
      Ris t2.place.toList → t2.led = t.led →
      Ris (tailTx ep es1 t2 b).2.2.place.toList ∧ (tailTx ep es1 t2 b).2.2.led = t.led := by
    intro t2 b es1 a c
    unfold tailTx
    split
    · exact ⟨relayAll_ris _ _ _, (relayAll_led _ _ _).trans c⟩
    · exact ⟨a, c⟩
  unfold addTx
  refine tail _ _ _ ?_ ?_
  · split
    · exact r1
    · exact r1
  · split
    · exact l1
    · exact l1

theorem walky_add {P : Program} {w : World} {D : SD} {l : List Str} {k : Str} (u : Tok)
    (W : Walky P w D l) (hk : k ∉ l) : Walky P w (addTx (hashStr w k) (.str k u) D) (k :: l) where
  tx := add_ok u W.tx
  ris := (add_table _ _ D W.ris).1
  led := W.led.imp id fun h => (add_table _ _ D W.ris).2.trans h
  nd := List.nodup_cons.mpr ⟨hk, W.nd⟩

section
variable {P : Program} {w : World} {A : Around} {E : Value → Shared → Prop} {s : Shared}

/-- s.add(k) of a member that is there -/
theorem add_same {a : Addr} {T : String} {D : SD} {l : List Str} {k : Str} {u : Tok}
    {Q : Bool → Shared → Prop} (ho : s.heap.get? a = some (sObj T D)) (F : TxOk P w D l)
    (hk : k ∈ l) (hb : l.length < scanBound) (h : Q false s) :
    wpAny (model P w) A (setAddHashed a (.str k u) (hashStr w k)) Q E s := by
  obtain ⟨es, ep, t⟩ := D
  have fd : (sObj T (es, ep, t)).data = .set es ep t := rfl
  have key := is_str (P := P) (w := w) k u
  unfold setAddHashed setAddHashedIn
  refine wpAny_holding (wpAny_bind (wpAny_setState_of ho fd F.fit ?_))
  dsimp only
  rw [byScan_of (knd := strKind P w) rfl (by rw [show es.size = _ from F.sz]; exact hb) F.el]
  simp only [↓reduceIte]
  unfold setAddByScan
  refine wpAny_bind (wpAny_bind (wpAny_rule (wpAny_bind
    (wpAny_setScan_of (knd := strKind P w) (k := k) key ho fd F.fit F.el ?_))))
  cases hr : List.findIdx? (fun e => (strKind P w).is k e.2) es.toList with
  | some j => exact wpAny_pure (wpAny_pure h)
  | none =>
    obtain ⟨e, he, q⟩ := (F.mem k).mp hk
    have z := List.findIdx?_eq_none_iff.mp hr e he
    rw [q] at z
    cases z

/-- what stands at a set of texts -/
def TSet (P : Program) (w : World) (h : Heap) (a : Addr) (l : List Str) : Prop :=
  ∃ D, h.get? a = some (sObj "set" D) ∧ Walky P w D l

theorem tset_keep {h h' : Heap} {a : Addr} {l : List Str} (T : TSet P w h a l)
    (k : ∀ o, h.get? a = some o → h'.get? a = some o) : TSet P w h' a l :=
  let ⟨D, e, W⟩ := T; ⟨D, k _ e, W⟩

/-- s.add(k): what is in then -/
theorem add_text {a : Addr} {l : List Str} {k : Str} {u : Tok} {Q : Bool → Shared → Prop}
    (T : TSet P w s.heap a l) (hb : l.length + 1 < scanBound)
    (h : ∀ (b : Bool) (h' : Heap) (l' : List Str), Heap.SameBut a s.heap h' → TSet P w h' a l' →
      l'.length ≤ l.length + 1 → (∀ x, x ∈ l' ↔ x = k ∨ x ∈ l) → Q b { s with heap := h' }) :
    wpAny (model P w) A (setAddHashed a (.str k u) (hashStr w k)) Q E s := by
  obtain ⟨D, ho, W⟩ := T
  by_cases hk : k ∈ l
  · refine add_same ho W.tx hk (by omega) ?_
    exact h false s.heap l (Heap.SameBut.refl a s.heap) ⟨D, ho, W⟩ (Nat.le_succ _) fun x =>
      ⟨.inr, fun z => z.elim (fun e => e ▸ hk) id⟩
  · refine add_x ho W.tx hk hb ?_
    exact h true _ (k :: l) (Heap.SameBut.update s.heap a _) ⟨_, get_upd _ ho rfl, walky_add u W hk⟩
      (Nat.le_refl _) fun x => List.mem_cons

/-- the loop of set(..): all texts of a walk -/
theorem fill_texts {I : Addr} {fp wr : List Addr} {G : Array GenState → Array GenState → Prop}
    {n : Nat} {Pv : Nat → Value → Prop} {St : Nat → Shared → Prop} {R : Result → Shared → Prop}
    (W : WalksS P w A.in1 I fp wr G n Pv St) (S : Addr) (apart : S ∉ fp) (xs : List Str)
    (hn : n = xs.length) (small : xs.length + 1 < scanBound)
    (val : ∀ i v, Pv i v → ∃ x t, xs[i]? = some x ∧ v = .str x t)
    (fin : ∀ s0 s' l, Moved (S :: wr) G s0 s' → TSet P w s'.heap S l → l.length ≤ n →
      (∀ x, x ∈ l ↔ x ∈ xs) → s0 = s → R (.ok (.ret .none)) s') :
    ∀ (k i : Nat) (s1 : Shared), n - i = k → i ≤ n → St i s1 →
      (i = 0 ∧ s1 = s ∨ Moved (S :: wr) G s s1) →
      (∃ l, TSet P w s1.heap S l ∧ l.length ≤ i ∧ ∀ x, x ∈ l ↔ x ∈ xs.take i) →
      codeAny (model P w) A (.builtin "set.update.loop" ⟨[.ref S, .ref I], []⟩) R s1 := by
  have offW : S ∉ wr := fun z => apart (W.sub _ z)
  have wide : ∀ b ∈ wr, b ∈ S :: wr := fun b hb => List.mem_cons_of_mem _ hb
  have on : ∀ {s1 s2 : Shared} {i : Nat}, (i = 0 ∧ s1 = s ∨ Moved (S :: wr) G s s1) →
      Moved (S :: wr) G s1 s2 → Moved (S :: wr) G s s2 := fun {s1 s2 i} a b => by
    rcases a with ⟨_, e⟩ | a
    · rw [← e]; exact b
    · exact Moved.trans W.gtrans a b
  intro k
  induction k with
  | zero =>
    intro i s1 hk hi hst way ⟨l, hT, hl, hm⟩
    obtain rfl : i = n := by omega
    refine codeAny_builtin F.entry_set_update_loop ?_
    rw [Around.under_plainId F.plain_set_update_loop _]
    show wpAny _ A.in1 (pyNext (.ref I) >>= _) _ _ s1
    refine wpAny_bind (W.done s1 _ _ hst fun s' mv => ?_)
    have e : xs.take i = xs := List.take_of_length_le (by omega)
    rw [e] at hm
    exact wpAny_pure (fin s s' l (on way (mv.mono wide))
      (tset_keep hT fun o q => mv.heap S o offW q) hl hm rfl)
  | succ k ih =>
    intro i s1 hk hi hst way ⟨l, hT, hl, hm⟩
    have lt : i < n := by omega
    refine codeAny_builtin F.entry_set_update_loop ?_
    rw [Around.under_plainId F.plain_set_update_loop _]
    show wpAny _ A.in1 (pyNext (.ref I) >>= _) _ _ s1
    refine wpAny_bind (W.item i s1 _ _ lt hst fun v s' hP st2 mv => ?_)
    obtain ⟨x, t, hx, rfl⟩ := val i v hP
    show wpAny _ A.in1 (holding [Value.str x t] (setAdd S (.str x t)) >>= _) _ _ s'
    refine wpAny_bind (wpAny_holding ?_)
    unfold setAdd
    refine wpAny_holding (wpAny_bind ((strKind P w).pyHash (is_str x t) ?_))
    refine add_text (s := { s' with toks := s'.toks + 1 })
      (tset_keep hT fun o q => mv.heap S o offW q) (by omega) fun b h' l' sb hT' hl' hm' => ?_
    have here : ∀ b o, b ∉ S :: wr → s'.heap.get? b = some o → h'.get? b = some o :=
      fun b o nb e => (sb.2 b fun z => nb (by rw [z]; exact List.mem_cons_self)).trans e
    refine wpAny_pure ⟨plainId_quiet F.plain_set_update_loop _, ?_⟩
    refine ih (i + 1) _ (by omega) lt (W.frame _ s' _ _ st2 (Nat.le_succ _) fun b hb o e => ?_)
      (.inr (on way ((mv.mono wide).then_heap (Nat.le_succ _) fun b o nb e => here b o nb e)))
      ⟨l', hT', by omega, fun y => ?_⟩
    · exact (sb.2 b fun z => apart (by rw [← z]; exact hb)).trans e
    · rw [hm', List.take_add_one, hx, List.mem_append, hm]
      simp only [Option.toList_some, List.mem_singleton]
      exact or_comm
end
end Yard
set_option maxRecDepth 100000
namespace Yard
open PySem PySem.Spec PyProof.Rows L2 PySem.Froz

/-- the object that set(..) begins with -/
abbrev set0 (w : World) : Obj :=
  { cls := .type "set", dict := none, data := .set #[] 0 (.fresh 0 0 (!w.params.followText "set-order")) }

/-- how the set stands behind set(xs) -/
structure SetMade (P : Program) (w : World) (s s2 : Shared) (xs : List Str) : Prop where
  ex : ∃ h' tk m, s2 = { s with heap := h', toks := tk } ∧
    TSet P w h' s.heap.objs.size m ∧ m.length ≤ xs.length ∧ (∀ x, x ∈ m ↔ x ∈ xs) ∧
    ∀ b o, s.heap.get? b = some o → h'.get? b = some o

section
variable {P : Program} {w : World} {A : Around} {E : Value → Shared → Prop} {s : Shared}

set_option maxHeartbeats 3200000 in
/-- set(xs) of a list of texts -/
theorem call_set_texts {l : Addr} {items : Array Value} {xs : List Str} {Q : Value → Shared → Prop}
    (calm : A.handled = none) (hl : s.heap.IsList l items) (hit : StrsAre items.toList xs)
    (small : xs.length + 1 < scanBound)
    (hQ : ∀ s2, SetMade P w s s2 xs → Q (.ref s.heap.objs.size) s2) :
    wpAny (model P w) A (call (.type "set") [.ref l]) Q E s := by
  have len : items.size = xs.length := by
    have q := hit.length
    rwa [Array.length_toList] at q
  obtain ⟨_, _, mro⟩ := F.called_set.mro
  have a1 := F.called_set.made
  have a2 := F.called_set.sub
  have a3 := F.called_set.notType
  have a4 := F.called_set.canCreate
  have a5 := F.typeCall_set_1 (.ref l)
  refine wpAny_call (codeAny_of_tree ?_)
  show wpAny _ _ (callAny (.type "set") _) _ _ _
  refine wpAny_pure ⟨Code.quiet_builtin _ (by decide +kernel), ?_⟩
  refine codeAny_builtin F.entry_type_call ?_
  rw [Around.under_plain (weight_type_call_type "set" [.ref l] []) rfl]
  repeat (any_goals (first | assumption | wp_step))
  refine codeAny_mono (L2.code_set_led1 (.ref l) (E := E)
    (Q₁ := fun o s1 => o = .ref s.heap.objs.size ∧ s1 = { s with heap := s.heap.push (set0 w) })
    ⟨rfl, rfl⟩) fun r s1 hr => ?_
  match r, hr with
  | .error e, hr => exact hr
  | .ok (.ret _), hr =>
    obtain ⟨rfl, rfl⟩ := hr
    have new : (s.heap.push (set0 w)).get? s.heap.objs.size = some (set0 w) :=
      Heap.get?_push_size _ rfl
    have isSet : Shared.TypeIs { s with heap := s.heap.push (set0 w) }
      (.ref s.heap.objs.size) "set" := ⟨_, new, rfl⟩
    have b1 := F.called_set.init.lookup
    have b2 := F.called_set.init.bind (.ref s.heap.objs.size)
    repeat (any_goals (first | assumption | wp_step))
    refine codeAny_mono (codeAny_call_builtin
      (R := wants (fun r s2 => r = .none ∧ SetMade P w s s2 xs) E) F.called_set.init.plain
      F.entry_set_init (check_set_init_1 isSet ?_)) fun r2 s2 hr2 => ?_
    · obtain ⟨⟨c, od, da, sl⟩, ol, e1, nl, e2⟩ := id hl
      simp only at e1 e2
      subst e1 e2
      have ol2 : (s.heap.push (set0 w)).get? l = some ⟨.type "list", od, .seq items nl, sl⟩ :=
        Heap.get?_push_of_some _ ol
      have isl : (s.heap.push (set0 w)).IsList l items := ⟨_, ol2, rfl, nl, rfl⟩
      have q1 := F.sub_list_set
      have q2 := F.sub_list_frozenset
      have q3 : (Value.type "list" == Value.type "dict") = false := by decide
      unfold Builtin.«set.__init__» noKeywords Builtin.Frozenset.updateFrom
      generalize hPI : pyIter = PI
      wp_walk
      subst hPI
      refine wpAny_pyIter_list isl (wpAny_bind (wpAny_runValue ?_))
      have lS : l < s.heap.objs.size := Heap.lt_size ol
      have z1 : (s.heap.push (set0 w)).objs.size = s.heap.objs.size + 1 := Heap.size_push ..
      have lI : l ≠ (s.heap.push (set0 w)).objs.size := by
        rw [z1]; exact Nat.ne_of_lt (Nat.lt_succ_of_lt lS)
      have apart : s.heap.objs.size ∉ [(s.heap.push (set0 w)).objs.size, l] := by
        rw [z1]
        intro z
        rcases List.mem_cons.mp z with z | z
        · exact Nat.ne_of_lt (Nat.lt_succ_self _) z
        · exact Nat.ne_of_gt lS (List.mem_singleton.mp z)
      have val : ∀ (i : Nat) (v : Value), items[i]? = some v →
          ∃ x t, xs[i]? = some x ∧ v = .str x t := fun i v hv => by
        have hi : i < xs.length := by rw [← len]; exact (Array.getElem?_eq_some_iff.mp hv).1
        obtain ⟨t, e⟩ := SS.strs_at hit i v (by rw [Array.getElem?_toList]; exact hv)
        refine ⟨xs[i], t, List.getElem?_eq_getElem hi, ?_⟩
        rw [e, List.getD_eq_getElem?_getD, List.getElem?_eq_getElem hi] <;> rfl
      refine fill_texts (P := P) (w := w) ((Walks.list (by simp [calm]) _ l lI items).toS)
        s.heap.objs.size apart xs len small val ?fin (items.size - 0) 0 _ (by omega)
        (Nat.zero_le _) ⟨⟨_, Heap.get?_push_size _ rfl, rfl, rfl⟩, isl.push _⟩ (.inl ⟨rfl, rfl⟩)
        ⟨[], ⟨(#[], 0, .fresh 0 0 (!w.params.followText "set-order")),
          Heap.get?_push_of_some _ new, walky_new P w⟩, Nat.le_refl _, fun x => by simp⟩
      intro s0 s' m mv hT hm hx e0
      subst e0
      obtain ⟨h', g2, d2, t2, o2⟩ := s'
      obtain rfl : g2 = s.gens := mv.gens
      obtain rfl : d2 = s.drawn := mv.drawn
      obtain rfl : o2 = s.os := mv.os
      show wpAny _ _ _ _ _ _
      refine wpAny_pure ?_
      show wpAny _ _ (ret Value.none) _ _ _
      refine wpAny_pure ⟨rfl, h', t2, m, rfl, hT, by rw [← len]; exact hm, hx, fun b o e => ?_⟩
      have b0 : b < s.heap.objs.size := Heap.lt_size e
      refine mv.heap b o (fun z => ?_) (Heap.get?_push_of_some _ (Heap.get?_push_of_some _ e))
      rcases List.mem_cons.mp z with z | z
      · exact Nat.ne_of_lt b0 z
      · have z' := List.mem_singleton.mp z
        rw [z1] at z'
        exact Nat.ne_of_lt (Nat.lt_succ_of_lt b0) z'
    · match r2, hr2 with
      | .error e, hr2 => exact hr2
      | .ok (.ret _), hr2 =>
        obtain ⟨rfl, M⟩ := hr2
        obtain ⟨h', tk, m, rfl, k⟩ := id M.ex
        repeat (any_goals (first | assumption | wp_step))
        exact hQ _ M
      | .ok .next, hr2 => exact hr2.elim
      | .ok .brk, hr2 => exact hr2.elim
      | .ok .cont, hr2 => exact hr2.elim
  | .ok .next, hr => exact hr.elim
  | .ok .brk, hr => exact hr.elim
  | .ok .cont, hr => exact hr.elim
end
end Yard
set_option maxRecDepth 100000
set_option maxHeartbeats 4000000
namespace Yard
open PySem PySem.Spec PyProof.Rows L2 PySem.Froz
section
variable {P : Program} {w : World} {A : Around} {E : Value → Shared → Prop} {s : Shared}

theorem perm_of_sub {α : Type} [BEq α] [LawfulBEq α] : ∀ (l m : List α), l.Nodup →
    (∀ x ∈ l, x ∈ m) → m.length ≤ l.length → m.Perm l
  | [], m, _, _, h => by
    have : m = [] := List.eq_nil_of_length_eq_zero (by simpa using h)
    rw [this]
  | x :: l, m, nd, sub, h => by
    obtain ⟨n1, n2⟩ := List.nodup_cons.mp nd
    have hx : x ∈ m := sub x List.mem_cons_self
    have len := List.length_erase_of_mem hx
    have h' : m.length ≤ l.length + 1 := h
    refine (List.perm_cons_erase hx).trans (List.Perm.cons x (perm_of_sub l (m.erase x) n2 (fun y hy => ?_) ?_))
    · have ne : y ≠ x := fun e => n1 (e ▸ hy)
      exact (List.mem_erase_of_ne ne).mpr (sub y (List.mem_cons_of_mem _ hy))
    · rw [len]; omega

/-- members of a payload are texts, and they are just the listed ones -/
theorem walky_texts {D : SD} {l : List Str} (W : Walky P w D l) (vs : List Value)
    (pm : vs.Perm (D.1.toList.map (·.2))) : ∃ ys, StrsAre vs ys ∧ ys.Perm l := by
  have tx : ∀ v ∈ vs, ∃ x t, v = Value.str x t := fun v hv => by
    obtain ⟨e, he, q⟩ := List.mem_map.mp (pm.mem_iff.mp hv)
    obtain ⟨⟨k, hk, _⟩, _⟩ := W.tx.el e he
    obtain ⟨t, z⟩ := Value.isStrOf_shape (x := k) (v := e.2) hk
    exact ⟨k, t, q.symm.trans z⟩
  have sa := strsAre_map vs tx
  refine ⟨_, sa, ?_⟩
  have cnt : (vs.map strOf).length = l.length := by
    rw [List.length_map, pm.length_eq, List.length_map, Array.length_toList]
    exact W.tx.sz
  have sub : ∀ x ∈ l, x ∈ vs.map strOf := fun x hx => by
    obtain ⟨e, he, q⟩ := (W.tx.mem x).mp hx
    obtain ⟨t, z⟩ := Value.isStrOf_shape (x := x) (v := e.2) q
    exact List.mem_map.mpr ⟨e.2, pm.mem_iff.mpr (List.mem_map.mpr ⟨e, he, rfl⟩), by rw [z]; rfl⟩
  exact perm_of_sub l _ W.nd sub (Nat.le_of_eq cnt)

/-- sorted(s), s a set of fewer than 64 texts -/
theorem sorted_texts {a : Addr} {l : List Str} {Q : Value → Shared → Prop} (T : TSet P w s.heap a l)
    (calm : A.handled = none) (few : l.length < 64)
    (hQ : ∀ s' p (out : Array Value) (c : Nat) (ys : List Str),
      (∀ b o, s.heap.get? b = some o → s'.heap.get? b = some o) → s'.gens = s.gens →
      s'.os = s.os → s.heap.objs.size ≤ p → s'.heap.get? p = some (seqObj "list" out c) →
      StrsAre out.toList ys → ys.Perm l → sortedS ys = true → Q (.ref p) s') :
    wpAny (model P w) A (call (.builtin "sorted") [.ref a]) Q E s := by
  obtain ⟨D, ho, W⟩ := T
  have sz : D.1.size = l.length := W.tx.sz
  refine Calls.call_function_entry kind_sorted plain_sorted entry_sorted (args_sorted1 _) ?_
  unfold Builtin.«sorted»
  refine wpAny_bind (m := checkCount "sorted" 1 1 _) (wpAny_pure ?_)
  refine wpAny_bind (collect_set (es := D.1) (ep := D.2.1) (t := D.2.2) (A := A.in1) calm
    ⟨_, ho, rfl, rfl⟩ W.tx.fit (by unfold scanBound; omega) W.ris W.led
    fun s1 vs k1 hz g1 o1 pm => ?_)
  obtain ⟨ys, sa, py⟩ := walky_texts W vs pm
  have n : vs.length = l.length := by rw [sa.length, py.length_eq]
  refine wpAny_bind (wpAny_newList ?_ (by rw [n, sizeLine_eq]; omega))
  have new : (s1.heap.push (seqObj "list" vs.toArray 0)).get? s1.heap.objs.size =
    some (seqObj "list" vs.toArray 0) := Heap.get?_push_size _ rfl
  refine wpAny_bind (wpAny_holding (wpAny_call_entry slot_list_sort ⟨_, new, rfl⟩ entry_list_sort
    (list_sort_treeK (κ := PyProof.Rows.strKind) strKind_oneLt new sa.keysOf
      (fun _ _ _ e => keyKind_strs (by rw [← e]; exact sa)) (by rw [n]; exact few)
      fun st hp hs => ⟨_, rfl, ?_⟩) (args_list_sort _)))
  obtain ⟨zs, b1, b2, b3⟩ := sorted_out_str sa hp hs
  generalize (arrOf st).map (·.2) = out at b1
  obtain ⟨c, hc⟩ := sortedHeap_at (vs := vs) (out := out) new
  refine wpAny_pure ⟨_, rfl, hQ _ s1.heap.objs.size out c zs (fun b u e => ?_) g1 o1 hz hc b1
    (b2.trans py) b3⟩
  have lt := Heap.lt_size (k1 b u e)
  refine (sortedHeap_old (Nat.ne_of_lt lt) ?_).trans (Heap.get?_push_of_some _ (k1 b u e))
  rw [size_push']
  exact Nat.lt_succ_of_lt lt
end

/-- the set of texts at a, in the layer's heap -/
def TxO (P : Program) (w : World) (a : Addr) (l : List Str) : HO := .ext fun h => TSet P w h a l
theorem txO_ok {P : Program} {w : World} {H : Hp} {h : Heap} {a : Addr} {l : List Str}
    (T : TSet P w h a l) : ObjOk P w H h a (TxO P w a l) :=
  ⟨T, T.elim fun _ q => ⟨_, q.1⟩, fun _ _ p k => tset_keep p k⟩

section
variable {X : Cx}
def rSetTx (K : PySem.W.Frag) (P : Program) (w : World) : List V → Hp → VK → Prop := fun xs H Q =>
  ∃ (l : Addr) (ts : List Str), xs = [.ref l] ∧ SqL K H l (ts.map V.str) ∧ ts.length ≤ 1000 ∧
    ∀ a m, H a = none → m.length ≤ ts.length → (∀ x, x ∈ m ↔ x ∈ ts) →
      Q (.ref a) (upd H a (TxO P w a m))
theorem cr_setTx (hc : X.calm = true) : CallR X (.type "set") (rSetTx X.K X.prog X.w) := by
  intro pins s σ H xs us Q I r h
  obtain ⟨l, ts, rfl, hl, few, q⟩ := h
  rw [Vals.ref1 r]
  obtain ⟨its, rv, pl, hz⟩ := I.list hl
  refine call_set_texts (P := X.prog) (w := X.w) (I.ok.hd hc) pl.isList (by simpa using rv.strs)
    (by unfold scanBound; omega) fun s2 M => ?_
  obtain ⟨h', tk, m, rfl, T, n, mem, k⟩ := M.ex
  exact ⟨.ref s.heap.objs.size, _, I.laid (t' := tk) k (Nat.le_refl _) (txO_ok T), rfl,
    q _ m (I.hok.fresh (Nat.le_refl _)) n mem⟩
def rSortedTx (P : Program) (w : World) : List V → Hp → VK → Prop := fun xs H Q =>
  ∃ (a : Addr) (m : List Str), xs = [.ref a] ∧ H a = some (TxO P w a m) ∧ m.length < 64 ∧
    ∀ ys p, ys.Perm m → sortedS ys = true → H p = none → Q (.ref p) (upd H p (.lst (ys.map V.str)))
theorem cr_sortedTx (hc : X.calm = true) : CallR X (.builtin "sorted") (rSortedTx X.prog X.w) := by
  intro pins s σ H xs us Q I r h
  obtain ⟨a, m, rfl, ha, few, q⟩ := h
  have T : TSet X.prog X.w s.heap a m := (I.hok a _ ha).1
  rw [Vals.ref1 r]
  refine sorted_texts T (I.ok.hd hc) few fun s' p out c ys k g o hp hg sa pm so => ?_
  have fr : H p = none := I.hok.fresh hp
  have ln : (ys.map V.str).length ≤ sizeLine := by
    rw [List.length_map, pm.length_eq, sizeLine_eq]; omega
  have J : Inv X pins σ (upd H p (.lst (ys.map V.str)))
      { s with heap := s'.heap, gens := s'.gens, drawn := s'.drawn, toks := s'.toks } :=
    I.call (ch := []) (Un.laid k hp fr)
      (I.hok.laid k hp ⟨ln, out.toList, c, vals_of_strs sa, hg⟩) (by rw [g]; exact I.bare)
      fun _ z => nomatch z
  have same : s' = { s with heap := s'.heap, gens := s'.gens, drawn := s'.drawn, toks := s'.toks } := by
    cases s'; cases s; cases o; rfl
  rw [same]
  exact ⟨.ref p, _, J, rfl, q ys p pm so fr⟩
end
end Yard
set_option maxRecDepth 100000
set_option maxHeartbeats 2000000
/-! The yard's own layer, part 5: powers of great numbers, texts and tuples turned round, a tuple held against (). -/
namespace Yard
open PySem PySem.Spec PyProof.Rows L2

/-! ### i ** j, of any size that fits -/
def CPowW (i j : Int) : Prop := 0 ≤ j ∧ ∃ b : Nat, i.natAbs < 2 ^ b ∧ 0 < b ∧ (b : Int) * j ≤ 2 ^ 27
theorem bits_le {i : Int} {b : Nat} (h : i.natAbs < 2 ^ b) (h0 : 0 < b) : Builtin.Int.intBits i ≤ b := by
  have h1 := PySem.Flt.log2_lt_of h0 h
  unfold Builtin.Int.intBits
  split <;> omega
theorem op_powW {X : Cx} : OpR X (binaryOp .Pow) (rI CPowW fun i j => .int (i ^ j.toNat)) :=
  opI fun i j _ _ _ _ _ hc q => by
    obtain ⟨h0, b, h1, h2, h3⟩ := hc
    refine pow_int h0 (Int.le_trans (Int.mul_le_mul_of_nonneg_right ?_ h0) h3) q
    exact Int.ofNat_le.mpr (bits_le h1 h2)

/-! ### s[::-1], t[::-1] -/
/-- the slice of all, backwards -/
abbrev backE (e : Expr) (k : Nat) (p1 p2 p3 pos : Pos) : Expr :=
  .Subscript e (.Slice none none (some (.UnaryOp .USub (.Constant (.int 1) k p1) p2)) p3) pos
def tBackS (te : TE) : TE := fun σ H Q => te σ H fun x H1 => ∃ z : Str, x = .str z ∧ z.length ≤ sizeLine ∧
  ∀ y : Str, y.length ≤ z.length → (∀ c ∈ y.cps.toList, c ∈ z.cps.toList) → Q (.str y) H1
def tBackT (K : PySem.W.Frag) (te : TE) : TE := fun σ H Q => te σ H fun x H1 => ∃ a xs, x = .ref a ∧
  SqT K H1 a xs ∧ ∀ p, H1 p = none → Q (.ref p) (upd H1 p (.tup xs.reverse))

theorem picked_le {α : Type} (f : Nat → Option α) : ∀ l : List Nat, (l.filterMap f).length ≤ l.length
  | [] => Nat.le_refl _
  | x :: l => by
    have h := picked_le f l
    cases e : f x <;> simp [e] <;> omega

section
variable {X : Cx} {e : Expr} {te : TE} {k : Nat} {p1 p2 p3 pos : Pos}
/-- behind the value, the slice's object -/
theorem back_of {R : V → Hp → VK → Prop} (he : PE X e te)
    (step : ∀ (pins : List (Addr × Obj)) (σ : L2.St) (H : Hp) (Q : VK) (s : Shared) (v : Value) (x : V) (vl vu vs : Value),
      Inv X pins σ H { s with heap := s.heap.push { cls := .type "slice", data := .fields #[vl, vu, vs] } } →
      RelV x v → IsPart vl none → IsPart vu none → IsPart vs (some (-1)) → R x H Q →
      ∃ T id, (∃ name, True ∧ name = ()) ∧ ({ s with heap := s.heap.push { cls := .type "slice", data := .fields #[vl, vu, vs] } } : Shared).TypeIs v T ∧
        Slot T "__getitem__" id ∧
        wpAny (model X.prog X.w) X.A (getItem v (.ref s.heap.objs.size)) (EP X pins σ Q) X.xe
          { s with heap := s.heap.push { cls := .type "slice", data := .fields #[vl, vu, vs] } }) :
    PE X (backE e k p1 p2 p3 pos) (fun σ H Q => te σ H fun x H1 => R x H1 Q) := by
  refine ⟨fun pins s σ H Q I h => Subscript_ (thn (he.run pins s σ H _ I h) fun v s1 ⟨x, H1, I1, r1, q1⟩ => ?_)⟩
  have neg1 : PO X (some (.UnaryOp .USub (.Constant (.int 1) k p1) p2))
    (tPart (tUn (rU fun i => .int (-i)) (tC (.int 1)))) := po_some (pe_un un_neg pe_int)
  refine wpAny_Slice (thn (po_none.run pins s1 σ H1 (fun o H' => o = none ∧ H' = H1) I1 ⟨rfl, rfl⟩)
    fun vl s2 ⟨_, _, I2, pl, el, e2⟩ => ?_)
  subst el e2
  refine thn (po_none.run pins s2 σ _ (fun o H' => o = none ∧ H' = _) I2 ⟨rfl, rfl⟩)
    fun vu s3 ⟨_, _, I3, pu, eu, e3⟩ => ?_
  subst eu e3
  refine thn (neg1.run pins s3 σ _ (fun o H' => o = some (-1) ∧ H' = _) I3 ⟨1, rfl, -1, rfl, rfl, rfl⟩)
    fun vs s4 ⟨_, _, I4, ps, eo, e4⟩ => ?_
  subst eo e4
  have J := I4.kept (t' := s4.toks) (h' := s4.heap.push { cls := .type "slice", data := .fields #[vl, vu, vs] })
    fun b o q => Heap.get?_push_of_some _ q
  obtain ⟨T, id, _, ht, sl, g⟩ := step pins σ _ Q s4 v x vl vu vs J r1 pl pu ps q1
  show wpAny (model X.prog X.w) X.A (subscriptTail e _ v (.ref s4.heap.objs.size)) _ _
    { s4 with heap := s4.heap.push { cls := .type "slice", data := .fields #[vl, vu, vs] } }
  exact tail_any (ops := [v, .ref s4.heap.objs.size]) ht sl.lookup g (by with_unfolding_all rfl)
end
end Yard
namespace Yard
open PySem PySem.Spec PyProof.Rows L2
section
variable {X : Cx} {e : Expr} {te : TE} {k : Nat} {p1 p2 p3 pos : Pos}
theorem strIdx_le (n : Nat) : (Builtin.Str.strSliceIndices none none (-1) n).length ≤ n := by
  show (sliceRange ((n : Int) - 1) (-1) (-1)).length ≤ n
  rw [PySem.W.krv_sliceRange, List.length_map, List.length_range]
  exact Nat.le_refl _
/-- s[::-1]: some text of its signs, no longer -/
theorem pe_revS (he : PE X e te) : PE X (backE e k p1 p2 p3 pos) (tBackS te) := by
  refine back_of (R := fun x H Q => ∃ z : Str, x = .str z ∧ z.length ≤ sizeLine ∧
    ∀ y : Str, y.length ≤ z.length → (∀ c ∈ y.cps.toList, c ∈ z.cps.toList) → Q (.str y) H) he ?_
  intro pins σ H Q s v x vl vu vs J rx pl pu ps h
  obtain ⟨z, rfl, hz, q⟩ := h
  obtain ⟨t, rfl⟩ := rx
  obtain ⟨l, rfl, hl⟩ := IsPart.raw pl
  obtain ⟨u, rfl, hu⟩ := IsPart.raw pu
  obtain ⟨m, rfl, hm⟩ := IsPart.raw ps
  obtain rfl : l = none := by cases l <;> first | rfl | cases hl
  obtain rfl : u = none := by cases u <;> first | rfl | cases hu
  obtain ⟨tk, rfl⟩ : ∃ tk, m = some (-1, tk) := by
    match m, hm with
    | some (i, tk), hm =>
      have e : i = -1 := Option.some.inj hm
      exact ⟨tk, by rw [e]⟩
  refine ⟨"str", _, ⟨(), trivial, rfl⟩, typeIs_str _ _ _, F.slot_str_getitem, ?_⟩
  refine wpAny_getItem_str_slice (l := none) (u := none) (st := some (-1, tk))
    ⟨_, Heap.get?_push_size _ rfl, rfl, rfl⟩ (by show ((-1 : Int) == 0) = false; decide) ?_
  have pick : ∀ l : List Nat, ∀ c ∈ l.filterMap (z.cps[·]?), c ∈ z.cps.toList := fun l c hc => by
    obtain ⟨i, _, hi⟩ := List.mem_filterMap.mp hc
    exact Array.mem_toList_iff.mpr (Array.mem_of_getElem? hi)
  have len : ((⟨((Builtin.Str.strSliceIndices none none (-1) z.length).filterMap (z.cps[·]?)).toArray⟩ : Str)).length ≤ z.length := by
    show (List.toArray _).size ≤ _
    rw [List.size_toArray]
    exact Nat.le_trans (picked_le _ _) (strIdx_le _)
  show Made.post (if ((-1 : Int) == 1 && (Builtin.Str.strSliceIndices none none (-1) z.length).length == z.length) = true then Made.val (.str z t)
    else Made.str ⟨((Builtin.Str.strSliceIndices none none (-1) z.length).filterMap (z.cps[·]?)).toArray⟩) _ _
  rw [if_neg (by simp)]
  exact ⟨Nat.le_trans len hz, .str _, H, J.tok _, ⟨_, rfl⟩, q _ len (fun c hc => pick _ c (by simpa using hc))⟩
end
end Yard

namespace Yard
open PySem PySem.Spec PyProof.Rows L2
theorem adjust_back (n : Nat) : Builtin.Slice.sliceAdjust none none (-1) (n : Int) = ((n : Int) - 1, -1) := by
  unfold Builtin.Slice.sliceAdjust
  simp
theorem places_back (n : Nat) : Builtin.Slice.slicePlaces ((n : Int) - 1) (-1) (-1) = n := by
  unfold Builtin.Slice.slicePlaces
  rw [if_neg (by decide)]
  split
  all_goals first | omega | (simp; done) | (simp; omega)
theorem congr_filterMap {α β : Type} {f g : α → Option β} : ∀ {l : List α}, (∀ x ∈ l, f x = g x) →
    l.filterMap f = l.filterMap g
  | [], _ => rfl
  | x :: l, h => by
    rw [List.filterMap_cons, List.filterMap_cons, h x List.mem_cons_self,
      congr_filterMap fun y hy => h y (List.mem_cons_of_mem _ hy)]
theorem pick_back (xs : Array Value) : ((List.range xs.size).filterMap fun (m : Nat) =>
    xs[(((xs.size : Int) - 1) + (m : Int) * (-1)).toNat]?).toArray = xs.toList.reverse.toArray := by
  have e : ∀ m ∈ List.range xs.size, xs[(((xs.size : Int) - 1) + (m : Int) * (-1)).toNat]? =
      xs.toList.reverse[m]? := fun m hm => by
    have hm' := List.mem_range.mp hm
    have q : (((xs.size : Int) - 1) + (m : Int) * (-1)).toNat = xs.size - 1 - m := by omega
    rw [q, List.getElem?_reverse (by simpa using hm'), ← Array.getElem?_toList]
    simp
  rw [congr_filterMap e]
  have z := PySem.W.krv_all xs.toList.reverse.toArray
  have n : xs.toList.reverse.toArray.size = xs.size := by simp
  rw [n] at z
  have z2 : ((List.range xs.size).filterMap fun m => xs.toList.reverse[m]?) = xs.toList.reverse := by
    simpa using z
  rw [z2]
section
variable {P : Program} {w : World} {A : Around} {E : Value → Shared → Prop} {s : Shared}
/-- t[::-1] -/
theorem getItem_back {t sl : Addr} {items : Array Value} {vl vu vs : Value} {Q : Value → Shared → Prop}
    (ht : IsTup s.heap t items) (hs : s.heap.IsSliceOf sl vl vu vs) (pl : IsPart vl none)
    (pu : IsPart vu none) (ps : IsPart vs (some (-1))) (hz : items.size ≤ sizeLine)
    (h : Q (.ref s.heap.objs.size) { s with heap := (s.heap.push
      ({ cls := .type "tuple", data := .seq items.toList.reverse.toArray } : Obj)) }) :
    wpAny (model P w) A (getItem (.ref t) (.ref sl)) Q E s := by
  have small : sizeOk (.seq items.toList.reverse.toArray) := by
    show items.toList.reverse.toArray.size ≤ sizeLine
    simpa using hz
  obtain ⟨so, at_, sc, sd⟩ := id hs
  have isSl : s.TypeIs (.ref sl) "slice" := ⟨so, at_, sc⟩
  unfold getItem
  try with_reducible refine wpAny_holding ?_
  try refine wpAny_bind (wpAny_pure ?_)
  refine wpAny_bind (wpAny_sequenceKey ht.typeIs (by decide) ?_)
  refine wpAny_bind (wpAny_callSpecial?_slot (name := Str.ofString "__getitem__") ht.typeIs
    PyProof.Rows.slot_tuple_getitem (wpAny_call_entry PyProof.Rows.slot_tuple_getitem ht.typeIs
      entry_tuple_getitem ?_ (args_tuple_getitem _ _)))
  show wpAny _ _ (Builtin.Tuple.tupleItemsOf (.ref t) >>= _) _ _ s
  refine wpAny_bind (PyProof.Rows.tupleItemsOf_ ht (wpAny_bind (wpAny_typeOf isSl ?_)))
  rw [if_pos (by decide)]
  have applied : ∀ {R : Int × Int × Nat → Shared → Prop}, R ((items.size : Int) - 1, -1, items.size) s →
      wpAny (model P w) A.in1 (Builtin.Slice.sliceApplied (.ref sl) (pure (items.size : Int))) R
        (fun e s' => E e s') s := by
    intro R hR
    unfold Builtin.Slice.sliceApplied Builtin.Slice.sliceFields
    refine wpAny_bind (wpAny_bind (wpAny_field at_ sd (x := vl) rfl (wpAny_bind (wpAny_field at_ sd
      (x := vu) rfl (wpAny_bind (wpAny_field at_ sd (x := vs) rfl (wpAny_pure ?_)))))))
    refine wpAny_bind (HT.slicePart_ ps ?_)
    show wpAny _ _ (if ((-1 : Int) == 0) = true then _ else _) _ _ s
    rw [if_neg (by decide)]
    refine wpAny_bind (HT.slicePart_ pl (wpAny_bind (HT.slicePart_ pu (wpAny_bind (wpAny_pure ?_)))))
    show wpAny _ _ (match Builtin.Slice.sliceAdjust none none (-1) (items.size : Int) with
      | (lo, hi) => pure (lo, (-1 : Int), Builtin.Slice.slicePlaces lo hi (-1))) _ _ s
    rw [adjust_back]
    show wpAny _ _ (pure ((items.size : Int) - 1, (-1 : Int),
      Builtin.Slice.slicePlaces ((items.size : Int) - 1) (-1) (-1))) _ _ s
    rw [places_back]
    exact wpAny_pure hR
  refine wpAny_bind (applied ?_)
  show wpAny _ _ (if (((items.size : Int) - 1) == 0 && (-1 : Int) == 1 && items.size == items.size) = true
    then _ else _) _ _ s
  rw [if_neg (by simp), pick_back]
  first
    | exact wpAny_bind (m := Builtin.Tuple.tupleExact _)
        (wpAny_newObj_type (wpAny_pure ⟨_, rfl, wpAny_pure h⟩) small)
    | exact wpAny_bind (m := Builtin.Tuple.tupleExact _)
        (wpAny_newObj_type (wpAny_bind (wpAny_pure (wpAny_pure ⟨_, rfl, wpAny_pure h⟩))) small)
    | exact wpAny_bind (wpAny_bind (m := Builtin.Tuple.tupleExact _)
        (wpAny_newObj_type (wpAny_pure (wpAny_pure ⟨_, rfl, wpAny_pure h⟩)) small))
    | exact wpAny_bind (wpAny_bind (m := Builtin.Tuple.tupleExact _)
        (wpAny_newObj_type (wpAny_pure ⟨_, rfl, wpAny_pure h⟩) small))
end
section
variable {X : Cx} {e : Expr} {te : TE} {k : Nat} {p1 p2 p3 pos : Pos}
theorem pe_revT (he : PE X e te) : PE X (backE e k p1 p2 p3 pos) (tBackT X.K te) := by
  refine back_of (R := fun x H Q => ∃ a xs, x = .ref a ∧ SqT X.K H a xs ∧
    ∀ p, H p = none → Q (.ref p) (upd H p (.tup xs.reverse))) he ?_
  intro pins σ H Q s v x vl vu vs J rx pl pu ps h
  obtain ⟨a, xs, rfl, hx, q⟩ := h
  cases rx
  obtain ⟨its, r, ht, hz⟩ := J.tuple hx
  refine ⟨"tuple", _, ⟨(), trivial, rfl⟩, ht.typeIs, PyProof.Rows.slot_tuple_getitem, ?_⟩
  refine getItem_back ht (Heap.IsSliceOf.new _ vl vu vs) pl pu ps
    (by rw [List.size_toArray, ← r.length]; exact hz) ?_
  have fr := J.hok.fresh (Nat.le_refl _)
  refine ⟨.ref _, _, J.laid (t' := s.toks) (o := .tup xs.reverse)
    (fun b o q => Heap.get?_push_of_some _ q) (Nat.le_refl _) ?_, rfl, q _ fr⟩
  exact ⟨by rw [List.length_reverse]; exact hz, its.reverse, r.reverse,
    ⟨_, Heap.get?_push_size _ rfl, rfl, _, rfl⟩⟩
end
end Yard
set_option maxRecDepth 100000
/-! The yard's own layer, part 6: a tuple held against (). -/
namespace Yard
open PySem PySem.Spec PyProof.Rows L2
def rEqE (K : PySem.W.Frag) (neg : Bool) : R2 := fun x y H Q => ∃ a b xs, x = .ref a ∧ y = .ref b ∧
  SqT K H a xs ∧ SqT K H b [] ∧ Q (.bl (if neg then !xs.isEmpty else xs.isEmpty)) H
section
variable {X : Cx}
theorem size_empty {xs : List V} {us : List Value} (r : Vals xs us) :
    ((List.range (min us.toArray.size (#[] : Array Value).size)).all (fun _ => true) &&
      us.toArray.size == (#[] : Array Value).size) = xs.isEmpty := by
  cases r <;> simp
theorem op_eqE {k : Nat} (hr : Room k X.A) : OpR X (compareOp .Eq) (rEqE X.K false) := by
  intro pins s σ H x y v u Q I rx ry h
  obtain ⟨a, b, xs, rfl, rfl, ha, hb, q⟩ := h
  cases rx
  cases ry
  obtain ⟨us, r, ⟨o1, p1, p2, p3⟩, _⟩ := I.tuple ha
  obtain ⟨ws, r2, ⟨o2, q1, q2, q3⟩, _⟩ := I.tuple hb
  cases r2
  refine SeqAt.eq_tupleAt (e := fun _ => true) ⟨o1, p1, p2, p3⟩ ⟨o2, q1, q2, q3⟩ hr.units0
    (fun j _ h2 => absurd h2 (by simp)) ?_
  rw [size_empty r]
  exact ⟨.bl xs.isEmpty, H, I, rfl, q⟩
theorem op_neE {k : Nat} (hr : Room k X.A) : OpR X (compareOp .NotEq) (rEqE X.K true) := by
  intro pins s σ H x y v u Q I rx ry h
  obtain ⟨a, b, xs, rfl, rfl, ha, hb, q⟩ := h
  cases rx
  cases ry
  obtain ⟨us, r, ⟨o1, p1, p2, p3⟩, _⟩ := I.tuple ha
  obtain ⟨ws, r2, ⟨o2, q1, q2, q3⟩, _⟩ := I.tuple hb
  cases r2
  refine SeqAt.RcNeAt.tuples (e := fun _ => true) ⟨o1, p1, p2, p3⟩ ⟨o2, q1, q2, q3⟩ hr.units0
    (fun j _ h2 => absurd h2 (by simp)) _ _ _ _ ?_
  rw [size_empty r]
  exact ⟨.bl (!xs.isEmpty), H, I, rfl, q⟩
end
end Yard
set_option maxRecDepth 100000
/-! The yard's own layer, part 7: defs of the text, the jar of draws. -/
namespace Yard
open PySem PySem.Spec PyProof.Rows L2

/-- a def of the text as the top has left it -/
structure Df (K : PySem.W.Frag) (mg : Str → Option Value) (x : Str) (st : Stmt) (ps : List Str) (f : Addr) (fd : FuncData) : Prop where
  fn : Fun K x x st f fd
  bd : Binds K fd ps []
  at_ : mg x = some (.ref f)
theorem Df.kp {K : PySem.W.Frag} {mg : Str → Option Value} {x : Str} {st : Stmt} {ps : List Str} {f : Addr} {fd : FuncData} (D : Df K mg x st ps f fd) : PySem.W.keepIn K (.ref f) = true := D.fn.kp

/-- all but what stands at a is as before -/
def Off (a : Addr) (H H' : Hp) : Prop := ∀ b o, b ≠ a → H b = some o → H' b = some o
theorem Off.refl (a : Addr) (H : Hp) : Off a H H := fun _ _ _ h => h
theorem Off.trans {a : Addr} {H H1 H2 : Hp} (h : Off a H H1) (k : Off a H1 H2) : Off a H H2 := fun b o n e => k b o n (h b o n e)
theorem Off.of_same {a : Addr} {H H' : Hp} (h : Same H H') : Off a H H' := fun b o _ e => h b o e
theorem Off.new {a p : Addr} {H : Hp} {o : HO} (h : H p = none) : Off a H (upd H p o) := fun b u _ e => by rw [upd_ne (ne_of_none e h)]; exact e
theorem Off.at_ {a : Addr} {H : Hp} {o : HO} : Off a H (upd H a o) := fun b u n e => by rw [upd_ne n]; exact e
theorem same_new {H : Hp} {p : Addr} {o : HO} (h : H p = none) : Same H (upd H p o) := fun b u e => by rw [upd_ne (ne_of_none e h)]; exact e
/-- the heap but for a -/
def wo (a : Addr) (H : Hp) : Hp := fun b => if b = a then none else H b
theorem wo_le (a : Addr) (H : Hp) : Same (wo a H) H := fun b o e => by
  unfold wo at e
  split at e
  · cases e
  · exact e
theorem wo_off {a : Addr} {H H' : Hp} (h : Off a H H') : Same (wo a H) (wo a H') := fun b o e => by
  unfold wo at e ⊢
  by_cases n : b = a
  · rw [if_pos n] at e; cases e
  · rw [if_neg n] at e ⊢; exact h b o n e
theorem wo_get {a b : Addr} {H : Hp} {o : HO} (n : b ≠ a) (h : H b = some o) : wo a H b = some o := by
  unfold wo; rw [if_neg n]; exact h

/-! ### the jar: what is left of a cell's digits, the cell mixed, how many draws were mixed -/
def JarAt (H : Hp) (a : Addr) (c : Nat) : Prop := ∃ x y z : Int, H a = some (.lst [.int x, .int y, .int z]) ∧ 0 ≤ x ∧ 0 ≤ y ∧ y < 2 ^ 100 ∧ 0 ≤ z ∧ z ≤ c
theorem JarAt.same {H H' : Hp} {a : Addr} {c : Nat} (h : JarAt H a c) (s : Same H H') : JarAt H' a c :=
  let ⟨x, y, z, e, r⟩ := h; ⟨x, y, z, s _ _ e, r⟩
theorem JarAt.ne {H : Hp} {a p : Addr} {c : Nat} (h : JarAt H a c) (n : H p = none) : p ≠ a := fun e => by
  obtain ⟨x, y, z, q, _⟩ := h
  rw [e, q] at n; cases n
theorem JarAt.mono {H : Hp} {a : Addr} {c c' : Nat} (h : JarAt H a c) (n : c ≤ c') : JarAt H a c' :=
  let ⟨x, y, z, e, r1, r2, r3, r4, r5⟩ := h; ⟨x, y, z, e, r1, r2, r3, r4, by omega⟩
end Yard
set_option maxRecDepth 100000
/-! The yard's own layer, part 8: comprehensions whose turns keep what stands; types of data. -/
namespace Yard
open PySem PySem.Spec PyProof.Rows L2

theorem same_mut {H H4 : Hp} {D : Addr} {o : HO} (s : Same H H4) (n : H D = none) : Same H (upd H4 D o) := fun b u e => by
  rw [upd_ne (ne_of_none e n)]; exact s b u e
theorem range_snoc {α : Type} (f : Nat → α) (i : Nat) : (List.range (i + 1)).map f = (List.range i).map f ++ [f i] := by
  rw [List.range_succ, List.map_append]; rfl

section
variable {J : It} {n : Nat} {G : Hp → Prop} {Y : Nat → Hp → V → Hp → Prop}
/-- [e for x in ..], e keeps the heap: the list of the values ys -/
theorem lc_pure (w : Walk J n G Y) (ys : Nat → V) {g : TG} {te : TE} {vs : List Nat} {σ : L2.St} {H1 : Hp} {D : Addr} {Qd : Hp → Prop} (hD : H1 D = none) (hn : n ≤ sizeLine)
    (hG : ∀ H, Same H1 H → G H)
    (hs : ∀ i x H H' (N : VK), i < n → Same H1 H → Y i H x H' → (∀ H4, Same H H4 → N (ys i) H4) → g x (wipe σ vs) H' fun σ2 H2 => wipe σ2 vs = wipe σ vs ∧ te σ2 H2 N)
    (hd : ∀ H, Same H1 H → H D = some (.lst ((List.range n).map ys)) → Qd H)
    (mono : ∀ x σ H (N N' : L2.St → Hp → Prop), (∀ σ2 H2, N σ2 H2 → N' σ2 H2) → g x σ H N → g x σ H N' := by exact fun _ _ _ _ _ h q => h _ _ q) :
    ∃ W : Nat → Nat → Hp → Prop, (∃ m, W 0 m (upd H1 D (.lst []))) ∧ ∀ i m H, W i m H →
      (J.stop i H ∧ Qd H) ∨ (J.go i H ∧ ∃ Nx : Hp → Prop, (∀ H', Nx H' → ∃ m', m' < m ∧ W (i + 1) m' H') ∧ ∀ x H', J.yld i H x H' → g x (wipe σ vs) H' fun σ2 H2 => wipe σ2 vs = wipe σ vs ∧ tYes σ2 H2 fun b H3 =>
        if b = true then te σ2 H3 fun y H4 => ∃ acc, H4 D = some (.lst acc) ∧ acc.length < sizeLine ∧ Nx (upd H4 D (.lst (acc ++ [y]))) else Nx H3) := by
  refine lc_it w (fun i H => Same H1 H ∧ H D = some (.lst ((List.range i).map ys))) ⟨same_new hD, upd_same⟩ (fun i H _ p => hG H p.1) ?_ (fun H p => hd H p.1 p.2)
  rintro i x H H' hi ⟨sm, e⟩ y
  refine mono _ _ _ _ _ ?_ (hs i x H H' (fun y H4 => ∃ acc, H4 D = some (.lst acc) ∧ acc.length < sizeLine ∧ Same H1 (upd H4 D (.lst (acc ++ [y]))) ∧
    upd H4 D (.lst (acc ++ [y])) D = some (.lst ((List.range (i + 1)).map ys))) hi sm y fun H4 s4 =>
      ⟨_, s4 _ _ e, by rw [List.length_map, List.length_range]; omega, same_mut (fun b o q => s4 b o (sm b o q)) hD, by rw [upd_same, range_snoc]⟩)
  rintro σ2 H2 ⟨z1, z2⟩
  exact ⟨z1, z2⟩

/-- [x for x in .. if t], the test keeps the heap: those of the values ys whose test bs is true -/
theorem lc_filt (w : Walk J n G Y) (ys : Nat → V) (bs : Nat → Bool) {g : TG} {tt : TT} {te : TE} {vs : List Nat} {σ : L2.St} {H1 : Hp} {D : Addr} {Qd : Hp → Prop} (hD : H1 D = none) (hn : n ≤ sizeLine)
    (hG : ∀ H, Same H1 H → G H)
    (hs : ∀ i x H H' (N : Bool → Hp → Prop), i < n → Same H1 H → Y i H x H' → (∀ H3, Same H H3 → N (bs i) H3) → g x (wipe σ vs) H' fun σ2 H2 => wipe σ2 vs = wipe σ vs ∧ tt σ2 H2 N ∧ ∀ H3 (M : VK), M (ys i) H3 → te σ2 H3 M)
    (hd : ∀ H, Same H1 H → H D = some (.lst (((List.range n).filter bs).map ys)) → Qd H)
    (mono : ∀ x σ H (N N' : L2.St → Hp → Prop), (∀ σ2 H2, N σ2 H2 → N' σ2 H2) → g x σ H N → g x σ H N' := by exact fun _ _ _ _ _ h q => h _ _ q)
    (mono2 : ∀ σ H (N N' : Bool → Hp → Prop), (∀ b H2, N b H2 → N' b H2) → tt σ H N → tt σ H N') :
    ∃ W : Nat → Nat → Hp → Prop, (∃ m, W 0 m (upd H1 D (.lst []))) ∧ ∀ i m H, W i m H →
      (J.stop i H ∧ Qd H) ∨ (J.go i H ∧ ∃ Nx : Hp → Prop, (∀ H', Nx H' → ∃ m', m' < m ∧ W (i + 1) m' H') ∧ ∀ x H', J.yld i H x H' → g x (wipe σ vs) H' fun σ2 H2 => wipe σ2 vs = wipe σ vs ∧ tt σ2 H2 fun b H3 =>
        if b = true then te σ2 H3 fun y H4 => ∃ acc, H4 D = some (.lst acc) ∧ acc.length < sizeLine ∧ Nx (upd H4 D (.lst (acc ++ [y]))) else Nx H3) := by
  refine lc_it w (fun i H => Same H1 H ∧ H D = some (.lst (((List.range i).filter bs).map ys))) ⟨same_new hD, upd_same⟩ (fun i H _ p => hG H p.1) ?_ (fun H p => hd H p.1 p.2)
  rintro i x H H' hi ⟨sm, e⟩ y
  have snoc : (List.range (i + 1)).filter bs = (List.range i).filter bs ++ (if bs i = true then [i] else []) := by
    rw [List.range_succ, List.filter_append]
    cases q : bs i <;> simp [q]
  refine mono _ _ _ _ _ ?_ (hs i x H H' (fun b H3 => b = bs i ∧ Same H H3) hi sm y fun H3 s3 => ⟨rfl, s3⟩)
  rintro σ2 H2 ⟨z1, z2, z3⟩
  refine ⟨z1, mono2 _ _ _ _ ?_ z2⟩
  rintro b H3 ⟨rfl, s3⟩
  have s1 : Same H1 H3 := fun c o q => s3 c o (sm c o q)
  have e3 := s3 _ _ e
  by_cases hb : bs i = true
  · rw [if_pos hb]
    refine z3 H3 _ ⟨_, e3, ?_, same_mut s1 hD, ?_⟩
    · rw [List.length_map]
      exact Nat.lt_of_le_of_lt (List.length_filter_le _ _) (by rw [List.length_range]; omega)
    · rw [upd_same, snoc, if_pos hb, List.map_append]; rfl
  · rw [if_neg hb]
    refine ⟨s1, ?_⟩
    rw [e3, snoc, if_neg hb, List.append_nil]

/-- [e for x in ..]: any turns, by a word over the list made so far -/
theorem lc_acc (w : Walk J n G Y) (Pv : Nat → List V → Hp → Prop) {g : TG} {te : TE} {vs : List Nat} {σ : L2.St} {H1 : Hp} {D : Addr} {Qd : Hp → Prop} (hn : n ≤ sizeLine)
    (h0 : Pv 0 [] (upd H1 D (.lst []))) (hG : ∀ i acc H, i ≤ n → Pv i acc H → G H)
    (hs : ∀ i x H H' acc (N : VK), i < n → Pv i acc H → H D = some (.lst acc) → acc.length = i → Y i H x H' →
      (∀ y H4, H4 D = some (.lst acc) → Pv (i + 1) (acc ++ [y]) (upd H4 D (.lst (acc ++ [y]))) → N y H4) → g x (wipe σ vs) H' fun σ2 H2 => wipe σ2 vs = wipe σ vs ∧ te σ2 H2 N)
    (hd : ∀ H acc, Pv n acc H → H D = some (.lst acc) → acc.length = n → Qd H)
    (mono : ∀ x σ H (N N' : L2.St → Hp → Prop), (∀ σ2 H2, N σ2 H2 → N' σ2 H2) → g x σ H N → g x σ H N' := by exact fun _ _ _ _ _ h q => h _ _ q) :
    ∃ W : Nat → Nat → Hp → Prop, (∃ m, W 0 m (upd H1 D (.lst []))) ∧ ∀ i m H, W i m H →
      (J.stop i H ∧ Qd H) ∨ (J.go i H ∧ ∃ Nx : Hp → Prop, (∀ H', Nx H' → ∃ m', m' < m ∧ W (i + 1) m' H') ∧ ∀ x H', J.yld i H x H' → g x (wipe σ vs) H' fun σ2 H2 => wipe σ2 vs = wipe σ vs ∧ tYes σ2 H2 fun b H3 =>
        if b = true then te σ2 H3 fun y H4 => ∃ acc, H4 D = some (.lst acc) ∧ acc.length < sizeLine ∧ Nx (upd H4 D (.lst (acc ++ [y]))) else Nx H3) := by
  refine lc_it w (fun i H => ∃ acc, Pv i acc H ∧ H D = some (.lst acc) ∧ acc.length = i) ⟨[], h0, upd_same, rfl⟩ (fun i H hi ⟨acc, p, _⟩ => hG i acc H hi p) ?_ (fun H ⟨acc, p, e, l⟩ => hd H acc p e l)
  rintro i x H H' hi ⟨acc, p, e, l⟩ y
  refine mono _ _ _ _ _ ?_ (hs i x H H' acc (fun y H4 => ∃ acc, H4 D = some (.lst acc) ∧ acc.length < sizeLine ∧ ∃ acc', Pv (i + 1) acc' (upd H4 D (.lst (acc ++ [y]))) ∧
    upd H4 D (.lst (acc ++ [y])) D = some (.lst acc') ∧ acc'.length = i + 1) hi p e l y fun y H4 e4 p4 =>
      ⟨acc, e4, by omega, acc ++ [y], p4, upd_same, by rw [List.length_append, l]; rfl⟩)
  rintro σ2 H2 ⟨z1, z2⟩
  exact ⟨z1, z2⟩
end

/-! ### isinstance of data -/
def tyName : PyData → String
  | .none => "NoneType"
  | .bool _ => "bool"
  | .int _ => "int"
  | .str _ => "str"
  | .list _ => "list"
  | .tuple _ => "tuple"
  | .dict _ => "dict"
theorem Dq.ty {K : PySem.W.Frag} {H : Hp} {v : V} {d : PyData} (h : Dq H v d) : TyX K H v (.type (tyName d)) := by
  cases h with
  | non => exact .base .non
  | bl b => exact .base (.bl b)
  | int i => exact .base (.int i)
  | str x => exact .base (.str x)
  | lst e _ => exact .base (.lst e)
  | tup e _ => exact .base (.tup e)
  | dic e => exact .base (.dK e)
theorem isi_data {K : PySem.W.Frag} {H : Hp} {v : V} {d : PyData} {c : String} {b : Bool} {Q : VK} (h : Dq H v d) (hb : kitB (tyName d) c = some b) (q : Q (.bl b) H) : rIsi K [v, .ty c] H Q :=
  ⟨v, .ty c, _, _, b, rfl, .ty c, h.ty, kit_ty hb, q⟩
def isTup : PyData → Bool
  | .tuple _ => true
  | _ => false
def isStr : PyData → Bool
  | .str _ => true
  | _ => false
theorem kit_tup (d : PyData) : kitB (tyName d) "tuple" = some (isTup d) := by
  have k0 : kitB "NoneType" "tuple" = some false := by decide +kernel
  have k1 : kitB "bool" "tuple" = some false := by decide +kernel
  have k2 : kitB "int" "tuple" = some false := by decide +kernel
  have k3 : kitB "str" "tuple" = some false := by decide +kernel
  have k4 : kitB "list" "tuple" = some false := by decide +kernel
  have k5 : kitB "tuple" "tuple" = some true := by decide +kernel
  have k6 : kitB "dict" "tuple" = some false := by decide +kernel
  cases d <;> first | exact k0 | exact k1 | exact k2 | exact k3 | exact k4 | exact k5 | exact k6
theorem kit_str (d : PyData) : kitB (tyName d) "str" = some (isStr d) := by
  have k0 : kitB "NoneType" "str" = some false := by decide +kernel
  have k1 : kitB "bool" "str" = some false := by decide +kernel
  have k2 : kitB "int" "str" = some false := by decide +kernel
  have k3 : kitB "str" "str" = some true := by decide +kernel
  have k4 : kitB "list" "str" = some false := by decide +kernel
  have k5 : kitB "tuple" "str" = some false := by decide +kernel
  have k6 : kitB "dict" "str" = some false := by decide +kernel
  cases d <;> first | exact k0 | exact k1 | exact k2 | exact k3 | exact k4 | exact k5 | exact k6
end Yard
set_option maxRecDepth 100000
/-! The yard's own layer, part 9: readings that make data beside the jar. -/
namespace Yard
open PySem PySem.Spec PyProof.Rows L2

theorem atI_at {α : Type} {l : List α} {r : Int} (h0 : 0 ≤ r) (h : r.toNat < l.length) : atI l r = some l[r.toNat] := by
  have e : r = ((r.toNat : Nat) : Int) := by omega
  have g : atI l ((r.toNat : Nat) : Int) = some l[r.toNat] := atI_nat (List.getElem?_eq_getElem h)
  rw [← e] at g
  exact g
theorem JarAt.upd {H : Hp} {a p : Addr} {c : Nat} {o : HO} (j : JarAt H a c) (n : p ≠ a) : JarAt (L2.upd H p o) a c :=
  let ⟨x, y, z, e, r⟩ := j
  ⟨x, y, z, by rw [upd_ne (Ne.symm n)]; exact e, r⟩
theorem Off.upd {H H' : Hp} {a p : Addr} {o : HO} (h : Off a H H') (n : H p = none) : Off a H (L2.upd H' p o) := fun b u nb e => by
  rw [upd_ne (ne_of_none e n)]; exact h b u nb e
/-- a[lo:hi] of any list -/
def cutL {α : Type} (xs : List α) (lo hi : Option Int) : List α := (xs.drop (HT.sIx xs.length 0 lo)).take (HT.sIx xs.length xs.length hi - HT.sIx xs.length 0 lo)
theorem DqL.cut {H : Hp} {vs : List V} {ds : List PyData} (h : DqL H vs ds) (lo hi : Option Int) : DqL H (cutV vs lo hi) (cutL ds lo hi) := by
  unfold cutV cutL
  rw [h.len]
  exact (h.drop _).take _
theorem cutL_whole {α : Type} {xs : List α} {lo hi : Option Int} (h : HT.sIx xs.length 0 lo = 0 ∧ HT.sIx xs.length xs.length hi = xs.length) : cutL xs lo hi = xs := by
  unfold cutL
  rw [h.1, h.2]
  show List.take (xs.length - 0) xs = xs
  rw [Nat.sub_zero]
  exact List.take_length
theorem DqL.nil_of {H : Hp} {ds : List PyData} (h : DqL H [] ds) : ds = [] := by
  cases h; rfl

/-- what is known of data in a heap -/
def Knows (a : Addr) (H : Hp) (G : List (V × PyData)) : Prop := ∀ x ∈ G, Dq (wo a H) x.1 x.2
theorem Knows.mono {a : Addr} {H H' : Hp} {G : List (V × PyData)} (k : Knows a H G) (o : Off a H H') : Knows a H' G := fun x hx => (k x hx).mono (wo_off o)
theorem Knows.cons {a : Addr} {H : Hp} {G : List (V × PyData)} {v : V} {d : PyData} (k : Knows a H G) (h : Dq (wo a H) v d) : Knows a H ((v, d) :: G) := fun x hx => by
  rcases List.mem_cons.mp hx with e | e
  · rw [e]; exact h
  · exact k x e
/-- the reading makes a datum of the kind; c, c': draws before and behind -/
def Made (a : Addr) (c c' : Nat) (σ : L2.St) (G : List (V × PyData)) (t : TE) (Pd : PyData → Prop) : Prop :=
  ∀ H Q, JarAt H a c → Knows a H G → (∀ v d H', Off a H H' → JarAt H' a c' → Dq (wo a H') v d → Pd d → Q v H') → t σ H Q
def MadeL (a : Addr) (c c' : Nat) (σ : L2.St) (G : List (V × PyData)) (t : TA) (Pd : List PyData → Prop) : Prop :=
  ∀ H Q, JarAt H a c → Knows a H G → (∀ vs ds H', Off a H H' → JarAt H' a c' → DqL (wo a H') vs ds → Pd ds → Q vs H') → t σ H Q
/-- a part of a slice, known -/
def MadeO (σ : L2.St) (t : TO) (o : Option Int) : Prop := ∀ H Q, Q o H → t σ H Q
section
variable {a : Addr} {c c' c'' : Nat} {σ : L2.St} {G : List (V × PyData)} {t t1 t2 : TE} {ta : TA}
theorem Made.imp {P P' : PyData → Prop} (h : Made a c c' σ G t P) (i : ∀ d, P d → P' d) : Made a c c' σ G t P' := fun H Q j k q =>
  h H Q j k fun v d H' o j' dq p => q v d H' o j' dq (i d p)
theorem MadeL.imp {P P' : List PyData → Prop} (h : MadeL a c c' σ G ta P) (i : ∀ d, P d → P' d) : MadeL a c c' σ G ta P' := fun H Q j k q =>
  h H Q j k fun v d H' o j' dq p => q v d H' o j' dq (i d p)
theorem made_c {v : V} {d : PyData} (h : ∀ H, Dq H v d) : Made a c c σ G (tC v) (· = d) := fun H Q j _ q => q v d H (Off.refl _ _) j (h _) rfl
theorem made_non : Made a c c σ G (tC .non) (· = .none) := made_c fun _ => .non
theorem made_bl (b : Bool) : Made a c c σ G (tC (.bl b)) (· = .bool b) := made_c fun _ => .bl b
theorem made_int (i : Int) : Made a c c σ G (tC (.int i)) (· = .int i) := made_c fun _ => .int i
theorem made_str (x : Str) : Made a c c σ G (tC (.str x)) (· = .str x) := made_c fun _ => .str x
theorem made_var {i : Nat} {v : V} {d : PyData} (hs : σ[i]? = some (some v)) (hg : (v, d) ∈ G) : Made a c c σ G (tVar i) (· = d) := fun H Q j k q =>
  ⟨v, hs, q v d H (Off.refl _ _) j (k _ hg) rfl⟩
theorem madeL_nil : MadeL a c c σ G tNil (· = []) := fun H Q j _ q => q [] [] H (Off.refl _ _) j .nil rfl
theorem madeL_cons {Pd : PyData → Prop} {Ps Pn : List PyData → Prop} (h : Made a c c' σ G t Pd) (h2 : MadeL a c' c'' σ G ta Ps) (i : ∀ d ds, Pd d → Ps ds → Pn (d :: ds)) : MadeL a c c'' σ G (tCons t ta) Pn := fun H Q j k q =>
  h H _ j k fun v d H1 o1 j1 dq1 p1 => h2 H1 _ j1 (k.mono o1) fun vs ds H2 o2 j2 dq2 p2 => q _ (d :: ds) H2 (o1.trans o2) j2 (.cons (dq1.mono (wo_off o2)) dq2) (i d ds p1 p2)
theorem madeL_e {d : PyData} {ds : List PyData} (h : Made a c c' σ G t (· = d)) (h2 : MadeL a c' c'' σ G ta (· = ds)) : MadeL a c c'' σ G (tCons t ta) (· = d :: ds) :=
  madeL_cons h h2 fun _ _ e1 e2 => by rw [e1, e2]
/-- n data of one kind -/
def Alls (Pd : PyData → Prop) (n : Nat) (ds : List PyData) : Prop := ds.length = n ∧ ∀ d ∈ ds, Pd d
theorem madeL_a {Pd : PyData → Prop} {n : Nat} (h : Made a c c' σ G t Pd) (h2 : MadeL a c' c'' σ G ta (Alls Pd n)) : MadeL a c c'' σ G (tCons t ta) (Alls Pd (n + 1)) :=
  madeL_cons h h2 fun d ds e1 e2 => ⟨congrArg (· + 1) e2.1, fun x hx => by
    rcases List.mem_cons.mp hx with e | e
    · rw [e]; exact e1
    · exact e2.2 x e⟩
theorem madeL_0 {Pd : PyData → Prop} : MadeL a c c σ G tNil (Alls Pd 0) := madeL_nil.imp fun _ e => by rw [e]; exact ⟨rfl, fun _ h => nomatch h⟩
theorem made_tup {Ps : List PyData → Prop} {Pd : PyData → Prop} (h : MadeL a c c' σ G ta Ps) (l : ∀ ds, Ps ds → ds.length ≤ sizeLine) (i : ∀ ds, Ps ds → Pd (.tuple ds)) : Made a c c' σ G (tTup ta) Pd := fun H Q j k q =>
  h H _ j k fun vs ds H1 o1 j1 dq p => ⟨by rw [dq.len]; exact l ds p, fun r nr => by
    have nra := j1.ne nr
    have w1 : Same (wo a H1) (wo a (L2.upd H1 r (.tup vs))) := wo_off (Off.new nr)
    exact q _ (.tuple ds) _ (o1.trans (Off.new nr)) (j1.upd nra) (.tup (wo_get nra upd_same) (dq.mono w1)) (i ds p)⟩
theorem made_tupE {ds : List PyData} (h : MadeL a c c' σ G ta (· = ds)) (l : ds.length ≤ 100) : Made a c c' σ G (tTup ta) (· = .tuple ds) :=
  made_tup h (fun _ e => by rw [e, sizeLine_eq]; omega) fun _ e => by rw [e]
theorem made_lst {Ps : List PyData → Prop} {Pd : PyData → Prop} (h : MadeL a c c' σ G ta Ps) (l : ∀ ds, Ps ds → ds.length ≤ sizeLine) (i : ∀ ds, Ps ds → Pd (.list ds)) : Made a c c' σ G (tLst ta) Pd := fun H Q j k q =>
  h H _ j k fun vs ds H1 o1 j1 dq p => ⟨by rw [dq.len]; exact l ds p, fun r nr => by
    have nra := j1.ne nr
    have w1 : Same (wo a H1) (wo a (L2.upd H1 r (.lst vs))) := wo_off (Off.new nr)
    exact q _ (.list ds) _ (o1.trans (Off.new nr)) (j1.upd nra) (.lst (wo_get nra upd_same) (dq.mono w1)) (i ds p)⟩
theorem made_lstE {ds : List PyData} (h : MadeL a c c' σ G ta (· = ds)) (l : ds.length ≤ 100) : Made a c c' σ G (tLst ta) (· = .list ds) :=
  made_lst h (fun _ e => by rw [e, sizeLine_eq]; omega) fun _ e => by rw [e]
/-- a list of n data of one kind -/
def ListOf (Pd : PyData → Prop) (n : Nat) (d : PyData) : Prop := ∃ ds, d = .list ds ∧ Alls Pd n ds
theorem made_lstA {Pd : PyData → Prop} {n : Nat} (h : MadeL a c c' σ G ta (Alls Pd n)) (l : n ≤ 100) : Made a c c' σ G (tLst ta) (ListOf Pd n) :=
  made_lst h (fun _ e => by rw [e.1, sizeLine_eq]; omega) fun ds e => ⟨ds, rfl, e⟩
theorem made_dic : Made a c c σ G tDNewK (· = .dict []) := fun H Q j k q r nr => by
  have nra := j.ne nr
  exact q _ (.dict []) _ (Off.new nr) (j.upd nra) (.dic (wo_get nra upd_same)) rfl
theorem made_set {i : Nat} {u : TS} {D : Ends} {H : Hp} {Pd : PyData → Prop} (h : Made a c c' σ G t Pd) (j : JarAt H a c) (k : Knows a H G)
    (q : ∀ v d H', Off a H H' → JarAt H' a c' → Dq (wo a H') v d → Pd d → u D (σ.set i (some v)) H') : tSeq (tAsg t (gName i)) u D σ H := h H _ j k q
theorem madeL_alls {Pd : PyData → Prop} {ds : List PyData} (h : MadeL a c c' σ G ta (· = ds)) (p : ∀ d ∈ ds, Pd d) : MadeL a c c' σ G ta (Alls Pd ds.length) := h.imp fun _ e => by rw [e]; exact ⟨rfl, p⟩
/-- two lists, one behind the other -/
theorem made_cat {Pd : PyData → Prop} {n m : Nat} (h : Made a c c' σ G t1 (ListOf Pd n)) (h2 : Made a c' c'' σ G t2 (ListOf Pd m)) (l : n + m ≤ 100) : Made a c c'' σ G (tOp rCat t1 t2) (ListOf Pd (n + m)) := fun H Q j k q =>
  h H _ j k fun v d H1 o1 j1 dq1 ⟨ds, e1, p1⟩ => h2 H1 _ j1 (k.mono o1) fun u e H2 o2 j2 dq2 ⟨es, e2, p2⟩ => by
    subst e1 e2
    have dq1' := dq1.mono (wo_off o2)
    cases dq1' with
    | @lst p xs _ ep hl1 =>
    cases dq2 with
    | @lst r ys _ er hl2 =>
      refine ⟨p, r, xs, ys, rfl, rfl, wo_le _ _ _ _ ep, wo_le _ _ _ _ er, by rw [hl1.len, hl2.len, p1.1, p2.1, sizeLine_eq]; omega, fun z nz => ?_⟩
      have nza := j2.ne nz
      have w1 : Same (wo a H2) (wo a (L2.upd H2 z (.lst (xs ++ ys)))) := wo_off (Off.new nz)
      refine q _ (.list (ds ++ es)) _ (o1.trans (o2.trans (Off.new nz))) (j2.upd nza) (.lst (wo_get nza upd_same) ((hl1.mono w1).app (hl2.mono w1))) ⟨_, rfl, by rw [List.length_append, p1.1, p2.1], fun x hx => ?_⟩
      rcases List.mem_append.mp hx with e | e
      · exact p1.2 x e
      · exact p2.2 x e
/-- two tuples, one behind the other -/
theorem made_catT {K : PySem.W.Frag} {Ps Qs : List PyData → Prop} {Pd : PyData → Prop} (h : Made a c c' σ G t1 (fun d => ∃ ds, d = .tuple ds ∧ Ps ds)) (h2 : Made a c' c'' σ G t2 (fun d => ∃ ds, d = .tuple ds ∧ Qs ds))
    (l : ∀ ds es, Ps ds → Qs es → ds.length + es.length ≤ sizeLine) (i : ∀ ds es, Ps ds → Qs es → Pd (.tuple (ds ++ es))) : Made a c c'' σ G (tOp (rCatA K) t1 t2) Pd := fun H Q j k q =>
  h H _ j k fun v d H1 o1 j1 dq1 ⟨ds, e1, p1⟩ => h2 H1 _ j1 (k.mono o1) fun u e H2 o2 j2 dq2 ⟨es, e2, p2⟩ => by
    subst e1 e2
    have dq1' := dq1.mono (wo_off o2)
    cases dq1' with
    | @tup p xs _ ep hl1 =>
    cases dq2 with
    | @tup r ys _ er hl2 =>
      have gp := i ds es p1 p2
      refine ⟨p, r, xs, ys, rfl, rfl, SqT.of (wo_le _ _ _ _ ep), SqT.of (wo_le _ _ _ _ er), by rw [hl1.len, hl2.len]; exact l _ _ p1 p2, fun e => ?_, fun _ e => ?_, fun _ _ z nz => ?_⟩
      · subst e
        have := hl1.nil_of
        subst this
        exact q _ (.tuple es) H2 (o1.trans o2) j2 (.tup er hl2) gp
      · subst e
        have := hl2.nil_of
        subst this
        rw [List.append_nil] at gp
        exact q _ (.tuple ds) H2 (o1.trans o2) j2 (.tup ep hl1) gp
      · have nza := j2.ne nz
        have w1 : Same (wo a H2) (wo a (L2.upd H2 z (.tup (xs ++ ys)))) := wo_off (Off.new nz)
        exact q _ (.tuple (ds ++ es)) _ (o1.trans (o2.trans (Off.new nz))) (j2.upd nza) (.tup (wo_get nza upd_same) ((hl1.mono w1).app (hl2.mono w1))) gp
theorem made_sl {K : PySem.W.Frag} {ds : List PyData} {tl th : TO} {lo hi : Option Int} (h : Made a c c' σ G t (· = .tuple ds)) (hl : MadeO σ tl lo) (hh : MadeO σ th hi) : Made a c c' σ G (tSl (rSlA K) t tl th) (· = .tuple (cutL ds lo hi)) := fun H Q j k q =>
  h H _ j k fun v d H1 o1 j1 dq1 e1 => hl _ _ (hh _ _ (by
    subst e1
    have q' := fun v d H' o j' dq e => q v d H' (o1.trans o) j' dq e
    cases dq1 with
    | @tup p xs _ ep hl1 =>
      refine ⟨p, xs, rfl, SqT.of (wo_le _ _ _ _ ep), fun e => ?_, fun _ z nz => ?_⟩
      · refine q' _ _ H1 (Off.refl _ _) j1 (.tup ep hl1) ?_
        rw [cutL_whole (by rw [← hl1.len]; exact e)]
      · have nza := j1.ne nz
        have w1 : Same (wo a H1) (wo a (L2.upd H1 z (.tup (cutV xs lo hi)))) := wo_off (Off.new nz)
        exact q' _ _ _ (Off.new nz) (j1.upd nza) (.tup (wo_get nza upd_same) ((hl1.cut lo hi).mono w1)) rfl))
theorem madeO_none : MadeO σ tNoPart none := fun _ _ q => q
theorem madeO_int {i : Int} : MadeO σ (tPart (tC (.int i))) (some i) := fun _ _ q => ⟨i, rfl, q⟩
theorem madeO_var {n : Nat} {i : Int} (h : σ[n]? = some (some (.int i))) : MadeO σ (tPart (tVar n)) (some i) := fun _ _ q => ⟨_, h, i, rfl, q⟩
theorem madeO_add {n : Nat} {i j : Int} (h : σ[n]? = some (some (.int i))) : MadeO σ (tPart (tOp (rI0 fun i j => .int (i + j)) (tVar n) (tC (.int j)))) (some (i + j)) := fun _ _ q => ⟨_, h, i, j, rfl, rfl, _, rfl, q⟩
end
end Yard
set_option maxRecDepth 100000
/-! The yard's own layer, part 10: the order of tuples of texts and numbers, told place by place. -/
namespace Yard
open PySem PySem.Spec PyProof.Rows L2
def EqAll (v w : Value) (e : Bool) : Prop := ∀ A s, SeqAt.EqAt A s v w e
def LtAll (v w : Value) (r : Bool) : Prop :=
  ∀ (A : Around) (s : Shared) (prog : Program) (wd : World) (E : Value → Shared → Prop)
    (Q : Value → Shared → Prop), Q (.bool r) s →
    wpAny (model prog wd) A (richCompare .Lt v w) Q E s
/-- the first places at which they differ decide -/
inductive Lex : List Value → List Value → Bool → Prop
  | nn : Lex [] [] false
  | nc {w : Value} {ws : List Value} : Lex [] (w :: ws) true
  | cn {v : Value} {vs : List Value} : Lex (v :: vs) [] false
  | same {v w : Value} {vs ws : List Value} {r : Bool} : EqAll v w true → Lex vs ws r →
      Lex (v :: vs) (w :: ws) r
  | unlike {v w : Value} {vs ws : List Value} {r : Bool} : EqAll v w false → LtAll v w r →
      Lex (v :: vs) (w :: ws) r
theorem Lex.ends {vs ws : List Value} {r : Bool} (h : Lex vs ws r) (n m : Nat)
    (k : vs.length + m = ws.length + n) (z : vs.zip ws = []) : r = decide (n < m) := by
  cases h with
  | nn => exact (decide_eq_false (by simp at k; omega)).symm
  | nc => exact (decide_eq_true (by simp at k; omega)).symm
  | cn => exact (decide_eq_false (by simp at k; omega)).symm
  | same _ _ => cases z
  | unlike _ _ => cases z
section
open PySem.SeqAt
open PySem.AutoSeq1 (wpAny_loadPart')
open PySem.MeetsSeq PySem.MeetsSeq2 PySem.MeetsSeq3
theorem tuple_lt_lex (l b : Addr) (xs ys : Array Value) (n m : Nat) (d1 d2 : Option Addr)
    (s1 s2 : Array (Option Value)) (r : Bool) (hx : Lex xs.toList ys.toList r) :
    Meets (Builtin.«tuple.__lt__» ⟨[.ref l, .ref b], []⟩) fun _ R s =>
      s.heap.get? l = some { cls := .type "tuple", dict := d1, data := .seq xs n, slots := s1 } ∧
      s.heap.get? b = some { cls := .type "tuple", dict := d2, data := .seq ys m, slots := s2 } ∧
      R (.ok (.ret (.bool r))) s :=
  .of_wp fun prog w A R s h => by
    obtain ⟨hp, g, d, tk, os⟩ := s
    obtain ⟨hl, hb, h⟩ := h
    have f2 := AutoSeq1.sub_tuple_tuple
    wp_walk using wpAny_loadPart' hl, wpAny_loadPart' hb,
      wpAny_forIn_list _ (fun rest c s' => c.1 = none ∧ s' = ⟨hp, g, d, tk, os⟩ ∧
        ∃ (us vs : List Value) (q : Bool), rest = us.zip vs ∧ Lex us vs q ∧
          us.length + ys.size = vs.length + xs.size ∧
          R (.ok (.ret (.bool q))) ⟨hp, g, d, tk, os⟩) _
    case turn =>
      rintro ⟨y, x⟩ rest c s' ⟨hc, rfl, us, vs, q, hz, hL, hlen, hR⟩
      cases hL with
      | nn => cases hz
      | nc => rw [List.zip_nil_left] at hz; cases hz
      | cn => rw [List.zip_nil_right] at hz; cases hz
      | @same v v2 us vs _ he t =>
        rw [List.zip_cons_cons] at hz
        injection hz with hyx hrest
        injection hyx with hy hx2
        subst hy hx2
        refine wpAny_bind (he A.in1 _ prog w _ _ ?_)
        wp_walk
        simp only [List.length_cons] at hlen
        exact ⟨rfl, rfl, us, vs, q, hrest, t, by omega, hR⟩
      | @unlike v v2 us vs _ he lt =>
        rw [List.zip_cons_cons] at hz
        injection hz with hyx hrest
        injection hyx with hy hx2
        subst hy hx2
        refine wpAny_bind (he A.in1 _ prog w _ _ ?_)
        have hri := lt A.in1 ⟨hp, g, d, tk, os⟩ prog w
        wp_walk using hri
        exact ⟨_, rfl, by simpa using hR⟩
    case fin =>
      rintro ⟨c1, c2⟩ s' ⟨hc, rfl, us, vs, q, hz, hL, hlen, hR⟩
      simp only at hc
      subst hc
      rw [hL.ends xs.size ys.size hlen hz.symm] at hR
      wp_walk
      exact ⟨_, rfl, by simpa [Builtin.Tuple.tupleCompareSizes] using hR⟩
    case h => exact ⟨rfl, rfl, _, _, r, rfl, hx, by simp; omega, h⟩
end
section
variable {prog : Program} {w : World} {A : Around} {E : Value → Shared → Prop} {s : Shared}
theorem lt_lex {l b : Addr} {xs ys : Array Value} {r : Bool} {Q : Value → Shared → Prop}
    (hl : IsTup s.heap l xs) (hb : IsTup s.heap b ys) (hx : Lex xs.toList ys.toList r)
    (hu : A.units < cLine) (h : Q (.bool r) s) :
    wpAny (model prog w) A (compareOp .Lt (.ref l) (.ref b)) Q E s := by
  obtain ⟨⟨c1, d1, t1, s1⟩, ho, hc, n, hd⟩ := id hl
  obtain ⟨⟨c2, d2, t2, s2⟩, ho2, hc2, m, hd2⟩ := id hb
  simp only at hc hd hc2 hd2
  subst hc hd hc2 hd2
  refine richCompare_meets_room (op := .Lt) ⟨_, ho, rfl⟩ ⟨_, ho2, rfl⟩ PySem.F.slot_tuple_lt
    PySem.F.entry_tuple_lt (PySem.F.args_tuple_lt_2 _ _)
    (tuple_lt_lex l b xs ys n m d1 d2 s1 s2 r hx) ⟨ho, ho2, ?_⟩ hu
  exact ⟨(fun x => nomatch x), h⟩
end
/-- (i, x) < (j, y) -/
def rLtIS (K : PySem.W.Frag) : R2 := fun x y H Q => ∃ (a b : Addr) (i j : Int) (u v : Str),
  x = .ref a ∧ y = .ref b ∧ SqT K H a [.int i, .str u] ∧ SqT K H b [.int j, .str v] ∧
  Q (.bl (if i = j then decide (u.cps.toList < v.cps.toList) else decide (i < j))) H
theorem op_ltIS {X : Cx} (hu : X.A.units < cLine) : OpR X (compareOp .Lt) (rLtIS X.K) := by
  intro pins s σ H x y vx vy Q I rx ry h
  obtain ⟨a, b, i, j, u, v, rfl, rfl, ha, hb, q⟩ := h
  cases rx
  cases ry
  obtain ⟨xs, r1, p1, _⟩ := I.tuple ha
  obtain ⟨ys, r2, p2, _⟩ := I.tuple hb
  cases r1 with
  | cons e1 r1 =>
  cases r1 with
  | cons e2 r1 =>
  cases r1
  cases r2 with
  | cons f1 r2 =>
  cases r2 with
  | cons f2 r2 =>
  cases r2
  obtain ⟨t1, rfl⟩ := e1
  obtain ⟨t2, rfl⟩ := e2
  obtain ⟨t3, rfl⟩ := f1
  obtain ⟨t4, rfl⟩ := f2
  have ei : EqAll (.int i t1) (.int j t3) (i == j) := fun A s => SeqAt.EqAt.int_int i t1 j t3
  have es : EqAll (.str u t2) (.str v t4) (u == v) := fun A s => SeqAt.EqAt.str_str u t2 v t4
  have li : LtAll (.int i t1) (.int j t3) (decide (i < j)) := fun A s prog wd E Q h => HT.rcLt_int A s i t1 j t3 prog wd E Q h
  refine lt_lex p1 p2 (r := if i = j then decide (u.cps.toList < v.cps.toList) else decide (i < j)) ?_ hu ⟨.bl _, H, I, rfl, q⟩
  show Lex [.int i t1, .str u t2] [.int j t3, .str v t4] _
  by_cases c : i = j
  · rw [if_pos c]
    refine .same (by rw [← beq_iff_eq.mpr c]; exact ei) ?_
    by_cases k : u = v
    · have z : decide (u.cps.toList < v.cps.toList) = false := by
        rw [k]
        exact decide_eq_false (List.lt_irrefl _)
      rw [z]
      exact .same (by rw [← beq_iff_eq.mpr k]; exact es) .nn
    · refine .unlike (by rw [← beq_eq_false_iff_ne.mpr k]; exact es) fun A s prog wd E Q h => ?_
      exact (PyProof.Rows.lt_str h : wpAny (model prog wd) A (compareOp .Lt (.str u t2) (.str v t4)) Q E s)
  · rw [if_neg c]
    exact .unlike (by rw [← beq_eq_false_iff_ne.mpr c]; exact ei) li
end Yard
set_option maxRecDepth 100000
/-! The yard's own layer, part 11: data beside some lists that change. -/
namespace Yard
open PySem PySem.Spec PyProof.Rows L2
/-- the heap but for what stands at S -/
def wox (S : List Addr) (H : Hp) : Hp := fun b => if b ∈ S then none else H b
/-- all but what stands at S is as before -/
def OffS (S : List Addr) (H H' : Hp) : Prop := ∀ b o, b ∉ S → H b = some o → H' b = some o
theorem OffS.refl (S : List Addr) (H : Hp) : OffS S H H := fun _ _ _ h => h
theorem OffS.trans {S : List Addr} {H H1 H2 : Hp} (h : OffS S H H1) (k : OffS S H1 H2) : OffS S H H2 := fun b o n e => k b o n (h b o n e)
theorem OffS.of_same {S : List Addr} {H H' : Hp} (h : Same H H') : OffS S H H' := fun b o _ e => h b o e
theorem OffS.at_ {S : List Addr} {H : Hp} {a : Addr} {o : HO} (h : a ∈ S) : OffS S H (upd H a o) := fun b u n e => by
  rw [upd_ne (fun z : b = a => n (by rw [z]; exact h))]; exact e
theorem wox_le (S : List Addr) (H : Hp) : Same (wox S H) H := fun b o e => by
  unfold wox at e
  split at e
  · cases e
  · exact e
theorem wox_off {S : List Addr} {H H' : Hp} (h : OffS S H H') : Same (wox S H) (wox S H') := fun b o e => by
  unfold wox at e ⊢
  by_cases n : b ∈ S
  · rw [if_pos n] at e; cases e
  · rw [if_neg n] at e ⊢; exact h b o n e
theorem wox_get {S : List Addr} {b : Addr} {H : Hp} {o : HO} (n : b ∉ S) (h : H b = some o) : wox S H b = some o := by
  unfold wox; rw [if_neg n]; exact h
/-- more lists that change: data that stood ahead of them stay data -/
theorem wox_more {S S' : List Addr} {H : Hp} (h : ∀ b ∈ S', b ∉ S → H b = none) : Same (wox S H) (wox S' H) := fun b o e => by
  unfold wox at e ⊢
  by_cases n : b ∈ S
  · rw [if_pos n] at e; cases e
  · rw [if_neg n] at e
    by_cases k : b ∈ S'
    · rw [h b k n] at e; cases e
    · rw [if_neg k]; exact e
theorem DqL.snoc {H : Hp} {vs : List V} {ds : List PyData} {v : V} {d : PyData} (h : DqL H vs ds) (k : Dq H v d) : DqL H (vs ++ [v]) (ds ++ [d]) := h.app (.cons k .nil)
/-- the last of a list taken off -/
theorem DqL.last {H : Hp} {vs : List V} {ds : List PyData} (h : DqL H vs ds) (n : ds ≠ []) : ∃ us v es d, vs = us ++ [v] ∧ ds = es ++ [d] ∧ DqL H us es ∧ Dq H v d := by
  have l := h.len
  have nv : vs ≠ [] := fun e => by
    rw [e] at l
    exact n (List.eq_nil_of_length_eq_zero l.symm)
  have k1 : vs = vs.take (vs.length - 1) ++ [vs.getLast nv] := by
    rw [← List.dropLast_eq_take]; exact (List.dropLast_concat_getLast nv).symm
  have k2 : ds = ds.take (ds.length - 1) ++ [ds.getLast n] := by
    rw [← List.dropLast_eq_take]; exact (List.dropLast_concat_getLast n).symm
  refine ⟨_, _, _, _, k1, k2, by rw [l]; exact h.take _, ?_⟩
  have g : vs[vs.length - 1]? = some (vs.getLast nv) := by rw [List.getLast_eq_getElem, List.getElem?_eq_getElem]
  obtain ⟨d, hd, q⟩ := h.get g
  have g2 : ds[ds.length - 1]? = some (ds.getLast n) := by rw [List.getLast_eq_getElem, List.getElem?_eq_getElem]
  rw [l, g2] at hd
  cases hd
  exact q
end Yard
set_option maxRecDepth 100000
/-! The yard's pure layer, part 1: data as trees, slots, what is one's own and what stays. -/
namespace YP
open PySem PySem.Spec PyProof.Rows L2

/-- data as trees -/
inductive D where
  | non | bl (b : Bool) | int (i : Int) | str (x : Str) | lst (l : List D) | tup (l : List D) | dic (l : List (Key × D))
  | obj (C : Addr) (fs : List (Str × D)) | ref (a : Addr) | ty (n : String) | exc (a dd C : Addr) (fs : List (Str × D)) | scr (ns : List Int) | exk (a dd C : Addr) (fs : List (Str × D))

/-- a caught exception that is kept -/
def ExK (C dd a : Addr) : HO := .ext fun h => ∃ (oe : Obj) (vs : Array Value), h.get? a = some oe ∧ Zc (.ref C) (some dd) oe ∧ oe.data = .fields vs
mutual
/-- a value that stays: all its parts stand in F, which nobody changes -/
inductive RD (K : PySem.W.Frag) (F : Hp) : V → D → Prop
  | non : RD K F .non .non
  | bl (b : Bool) : RD K F (.bl b) (.bl b)
  | int (i : Int) : RD K F (.int i) (.int i)
  | str (x : Str) : RD K F (.str x) (.str x)
  | ty (n : String) : RD K F (.ty n) (.ty n)
  | ref (a : Addr) : RD K F (.ref a) (.ref a)
  | lst {a : Addr} {vs : List V} {ds : List D} : F a = some (.lst vs) → RL K F vs ds → RD K F (.ref a) (.lst ds)
  | tup {a : Addr} {vs : List V} {ds : List D} : SqT K F a vs → RL K F vs ds → RD K F (.ref a) (.tup ds)
  | dic {a : Addr} {kvs : List (Key × V)} {ds : List (Key × D)} : Rd F a (.dK kvs) → RK K F kvs ds → RD K F (.ref a) (.dic ds)
  | obj {a C dx : Addr} {fs : List (Str × V)} {ds : List (Str × D)} : F a = some (.ins C dx fs) → RF K F fs ds → RD K F (.ref a) (.obj C ds)
  | exc {a dd C : Addr} {fs : List (Str × V)} {ds : List (Str × D)} : F dd = some (.xd fs) → RF K F fs ds → RD K F (.ref a) (.exc a dd C ds)
  | scr {a : Addr} {ns : List Int} : SqL K F a (ns.map V.int) → RD K F (.ref a) (.scr ns)
  | exk {a dd C : Addr} {fs : List (Str × V)} {ds : List (Str × D)} : F a = some (ExK C dd a) → F dd = some (.xd fs) → RF K F fs ds → RD K F (.ref a) (.exk a dd C ds)
inductive RL (K : PySem.W.Frag) (F : Hp) : List V → List D → Prop
  | nil : RL K F [] []
  | cons {v : V} {vs : List V} {d : D} {ds : List D} : RD K F v d → RL K F vs ds → RL K F (v :: vs) (d :: ds)
inductive RK (K : PySem.W.Frag) (F : Hp) : List (Key × V) → List (Key × D) → Prop
  | nil : RK K F [] []
  | cons {k : Key} {v : V} {vs : List (Key × V)} {d : D} {ds : List (Key × D)} : RD K F v d → RK K F vs ds → RK K F ((k, v) :: vs) ((k, d) :: ds)
inductive RF (K : PySem.W.Frag) (F : Hp) : List (Str × V) → List (Str × D) → Prop
  | nil : RF K F [] []
  | cons {k : Str} {v : V} {vs : List (Str × V)} {d : D} {ds : List (Str × D)} : RD K F v d → RF K F vs ds → RF K F ((k, v) :: vs) ((k, d) :: ds)
end
section
variable {K : PySem.W.Frag} {F F' H H' : Hp}
theorem rd_mono {a : Addr} {u : HO} (s : Same F F') (h : Rd F a u) : Rd F' a u := h.imp (s _ _) fun ⟨o, e⟩ => ⟨o, s _ _ e⟩
theorem sqT_mono {a : Addr} {xs : List V} (s : Same F F') (h : SqT K F a xs) : SqT K F' a xs := h.imp (rd_mono s) fun h => h
mutual
theorem RD.mono (s : Same F F') : ∀ {v : V} {d : D}, RD K F v d → RD K F' v d
  | _, _, .non => .non
  | _, _, .bl b => .bl b
  | _, _, .int i => .int i
  | _, _, .str x => .str x
  | _, _, .ty n => .ty n
  | _, _, .ref a => .ref a
  | _, _, .lst h t => .lst (s _ _ h) (t.mono s)
  | _, _, .tup h t => .tup (sqT_mono s h) (t.mono s)
  | _, _, .dic h t => .dic (rd_mono s h) (t.mono s)
  | _, _, .obj h t => .obj (s _ _ h) (t.mono s)
  | _, _, .exc h t => .exc (s _ _ h) (t.mono s)
  | _, _, .scr h => .scr (Same.seq s h)
  | _, _, .exk g h t => .exk (s _ _ g) (s _ _ h) (t.mono s)
theorem RL.mono (s : Same F F') : ∀ {vs : List V} {ds : List D}, RL K F vs ds → RL K F' vs ds
  | _, _, .nil => .nil
  | _, _, .cons h t => .cons (h.mono s) (t.mono s)
theorem RK.mono (s : Same F F') : ∀ {vs : List (Key × V)} {ds : List (Key × D)}, RK K F vs ds → RK K F' vs ds
  | _, _, .nil => .nil
  | _, _, .cons h t => .cons (h.mono s) (t.mono s)
theorem RF.mono (s : Same F F') : ∀ {vs : List (Str × V)} {ds : List (Str × D)}, RF K F vs ds → RF K F' vs ds
  | _, _, .nil => .nil
  | _, _, .cons h t => .cons (h.mono s) (t.mono s)
end
theorem RL.len : ∀ {vs : List V} {ds : List D}, RL K F vs ds → vs.length = ds.length
  | _, _, .nil => rfl
  | _, _, .cons _ t => congrArg (· + 1) t.len
theorem RL.get : ∀ {vs : List V} {ds : List D} {i : Nat} {v : V}, RL K F vs ds → vs[i]? = some v → ∃ d, ds[i]? = some d ∧ RD K F v d
  | _, _, 0, _, .cons h _, e => by cases e; exact ⟨_, rfl, h⟩
  | _, _, i + 1, _, .cons _ t, e => RL.get (i := i) t e
theorem RL.got : ∀ {vs : List V} {ds : List D} {i : Nat} {d : D}, RL K F vs ds → ds[i]? = some d → ∃ v, vs[i]? = some v ∧ RD K F v d
  | _, _, 0, _, .cons h _, e => by cases e; exact ⟨_, rfl, h⟩
  | _, _, i + 1, _, .cons _ t, e => RL.got (i := i) t e
theorem RL.take : ∀ {vs : List V} {ds : List D} (n : Nat), RL K F vs ds → RL K F (vs.take n) (ds.take n)
  | _, _, 0, _ => .nil
  | _, _, _ + 1, .nil => .nil
  | _, _, n + 1, .cons h t => .cons h (t.take n)
theorem RL.drop : ∀ {vs : List V} {ds : List D} (n : Nat), RL K F vs ds → RL K F (vs.drop n) (ds.drop n)
  | _, _, 0, h => h
  | _, _, _ + 1, .nil => .nil
  | _, _, n + 1, .cons _ t => t.drop n
theorem RL.app : ∀ {vs ws : List V} {ds es : List D}, RL K F vs ds → RL K F ws es → RL K F (vs ++ ws) (ds ++ es)
  | _, _, _, _, .nil, k => k
  | _, _, _, _, .cons h t, k => .cons h (t.app k)
theorem RL.rev : ∀ {vs : List V} {ds : List D}, RL K F vs ds → RL K F vs.reverse ds.reverse
  | _, _, .nil => .nil
  | _, _, .cons h t => by
    rw [List.reverse_cons, List.reverse_cons]
    exact t.rev.app (.cons h .nil)
theorem RL.snoc {vs : List V} {ds : List D} {v : V} {d : D} (h : RL K F vs ds) (k : RD K F v d) : RL K F (vs ++ [v]) (ds ++ [d]) := h.app (.cons k .nil)
theorem RL.set : ∀ {vs : List V} {ds : List D} {v : V} {d : D} (i : Nat), RL K F vs ds → RD K F v d → RL K F (vs.set i v) (ds.set i d)
  | _, _, _, _, _, .nil, _ => .nil
  | _, _, _, _, 0, .cons _ t, k => .cons k t
  | _, _, _, _, i + 1, .cons h t, k => .cons h (t.set i k)
theorem RL.last {vs : List V} {ds : List D} (h : RL K F vs ds) (n : ds ≠ []) : ∃ us v es d, vs = us ++ [v] ∧ ds = es ++ [d] ∧ RL K F us es ∧ RD K F v d := by
  have r := h.rev
  have nr : ds.reverse ≠ [] := fun e => n (List.reverse_eq_nil_iff.mp e)
  generalize e1 : vs.reverse = vr at r
  generalize e2 : ds.reverse = dr at r nr
  cases r with
  | nil => exact absurd rfl nr
  | @cons v us d es h1 h2 =>
    refine ⟨us.reverse, v, es.reverse, d, ?_, ?_, h2.rev, h1⟩
    · rw [← List.reverse_reverse vs, e1, List.reverse_cons]
    · rw [← List.reverse_reverse ds, e2, List.reverse_cons]
theorem RK.len : ∀ {vs : List (Key × V)} {ds : List (Key × D)}, RK K F vs ds → vs.length = ds.length
  | _, _, .nil => rfl
  | _, _, .cons _ t => congrArg (· + 1) t.len

/-- a value that is one's own: its object may be changed, its parts stay -/
inductive RO (K : PySem.W.Frag) (F H : Hp) : V → D → Prop
  | lst {a : Addr} {vs : List V} {ds : List D} : H a = some (.lst vs) → RL K F vs ds → RO K F H (.ref a) (.lst ds)
  | dic {a : Addr} {kvs : List (Key × V)} {ds : List (Key × D)} : H a = some (.dK kvs) → RK K F kvs ds → RO K F H (.ref a) (.dic ds)
  | obj {a C dx : Addr} {fs : List (Str × V)} {ds : List (Str × D)} : H a = some (.ins C dx fs) → RF K F fs ds → RO K F H (.ref a) (.obj C ds)
theorem RO.there {v : V} {d : D} (h : RO K F H v d) : ∃ a o, v = .ref a ∧ H a = some o := by
  cases h with
  | lst h _ => exact ⟨_, _, rfl, h⟩
  | dic h _ => exact ⟨_, _, rfl, h⟩
  | obj h _ => exact ⟨_, _, rfl, h⟩
theorem RO.keep {a : Addr} {d : D} (s : Same F F') (e : H' a = H a) (h : RO K F H (.ref a) d) : RO K F' H' (.ref a) d := by
  cases h with
  | lst h t => exact .lst (e.trans h) (t.mono s)
  | dic h t => exact .dic (e.trans h) (t.mono s)
  | obj h t => exact .obj (e.trans h) (t.mono s)
/-- one's own, from now on not changed -/
theorem RO.froze {a : Addr} {d : D} {o : HO} (n : F a = none) (e : H a = some o) (h : RO K F H (.ref a) d) : RD K (upd F a o) (.ref a) d := by
  have s : Same F (upd F a o) := fun b u q => by rw [upd_ne (ne_of_none q n)]; exact q
  cases h with
  | lst h t => rw [e] at h; cases h; exact .lst upd_same (t.mono s)
  | dic h t => rw [e] at h; cases h; exact .dic (.of upd_same) (t.mono s)
  | obj h t => rw [e] at h; cases h; exact .obj upd_same (t.mono s)
/-- either -/
def RW (K : PySem.W.Frag) (F H : Hp) (v : V) (d : D) : Prop := RD K F v d ∨ RO K F H v d
theorem RW.non {v : V} (h : RW K F H v .non) : v = .non := by rcases h with h | h <;> cases h; rfl
theorem RW.bl {v : V} {b : Bool} (h : RW K F H v (.bl b)) : v = .bl b := by rcases h with h | h <;> cases h; rfl
theorem RW.int {v : V} {i : Int} (h : RW K F H v (.int i)) : v = .int i := by rcases h with h | h <;> cases h; rfl
theorem RW.str {v : V} {i : Str} (h : RW K F H v (.str i)) : v = .str i := by rcases h with h | h <;> cases h; rfl
theorem RW.ty {v : V} {i : String} (h : RW K F H v (.ty i)) : v = .ty i := by rcases h with h | h <;> cases h; rfl
theorem RW.exc {v : V} {a dd C : Addr} {fs : List (Str × D)} (h : RW K F H v (.exc a dd C fs)) : v = .ref a ∧ ∃ vfs, F dd = some (.xd vfs) ∧ RF K F vfs fs := by rcases h with h | h <;> cases h; exact ⟨rfl, _, ‹_›, ‹_›⟩
theorem RW.exk {v : V} {a dd C : Addr} {fs : List (Str × D)} (h : RW K F H v (.exk a dd C fs)) : v = .ref a ∧ F a = some (ExK C dd a) ∧ ∃ vfs, F dd = some (.xd vfs) ∧ RF K F vfs fs := by rcases h with h | h <;> cases h; exact ⟨rfl, ‹_›, _, ‹_›, ‹_›⟩
theorem RW.scr {v : V} {ns : List Int} (s : Same F H) (h : RW K F H v (.scr ns)) : ∃ a, v = .ref a ∧ SqL K H a (ns.map V.int) := by rcases h with h | h <;> cases h; exact ⟨_, rfl, Same.seq s ‹_›⟩
theorem RW.ref {v : V} {a : Addr} (h : RW K F H v (.ref a)) : v = .ref a := by rcases h with h | h <;> cases h; rfl
theorem RW.lst {v : V} {ds : List D} (s : Same F H) (h : RW K F H v (.lst ds)) : ∃ a vs, v = .ref a ∧ H a = some (.lst vs) ∧ RL K F vs ds := by
  rcases h with h | h <;> cases h
  · exact ⟨_, _, rfl, s _ _ ‹_›, ‹_›⟩
  · exact ⟨_, _, rfl, ‹_›, ‹_›⟩
theorem RW.tup {v : V} {ds : List D} (s : Same F H) (h : RW K F H v (.tup ds)) : ∃ a vs, v = .ref a ∧ SqT K H a vs ∧ RL K F vs ds := by
  rcases h with h | h <;> cases h
  exact ⟨_, _, rfl, sqT_mono s ‹_›, ‹_›⟩
theorem RW.dic {v : V} {ds : List (Key × D)} (s : Same F H) (h : RW K F H v (.dic ds)) : ∃ a kvs, v = .ref a ∧ Rd H a (.dK kvs) ∧ RK K F kvs ds := by
  rcases h with h | h <;> cases h
  · exact ⟨_, _, rfl, rd_mono s ‹_›, ‹_›⟩
  · exact ⟨_, _, rfl, .of ‹_›, ‹_›⟩
theorem RW.obj {v : V} {C : Addr} {ds : List (Str × D)} (s : Same F H) (h : RW K F H v (.obj C ds)) : ∃ a dx fs, v = .ref a ∧ H a = some (.ins C dx fs) ∧ RF K F fs ds := by
  rcases h with h | h <;> cases h
  · exact ⟨_, _, _, rfl, s _ _ ‹_›, ‹_›⟩
  · exact ⟨_, _, _, rfl, ‹_›, ‹_›⟩
end

/-- a slot: empty, or a datum: one's own or not, still what was handed in or not -/
inductive Sl where
  | un | sl (o p : Bool) (d : D)
/-- what an expression gives: a datum that stays, one of one's own that nobody holds, what the slot i holds -/
inductive Rv where
  | val (d : D) | own (d : D) | at (i : Nat)
/-- the datum as it stands -/
def wv (ρ : List Sl) (r : Rv) (k : D → Prop) : Prop := match r with
  | .val d => k d
  | .own d => k d
  | .at i => match ρ[i]? with
    | some (.sl _ _ d) => k d
    | _ => False
/-- the slots behind it where it stays from now on -/
def frz (ρ : List Sl) (r : Rv) : List Sl := match r with
  | .at i => match ρ[i]? with
    | some (.sl _ p d) => ρ.set i (Sl.sl false p d)
    | _ => ρ
  | _ => ρ

structure ER (K : PySem.W.Frag) (F H : Hp) (σ0 : L2.St) (ρ : List Sl) (σ : L2.St) (B : Addr → Prop) : Prop where
  len : ρ.length = σ.length
  sub : Same F H
  fz : ∀ (i : Nat) p d, ρ[i]? = some (Sl.sl false p d) → ∃ v, σ[i]? = some (some v) ∧ RD K F v d
  ow : ∀ (i : Nat) p d, ρ[i]? = some (Sl.sl true p d) → ∃ a, σ[i]? = some (some (V.ref a)) ∧ RO K F H (.ref a) d ∧ F a = none ∧ ¬ B a
  inj : ∀ (i j : Nat) a p q d e, ρ[i]? = some (Sl.sl true p d) → ρ[j]? = some (Sl.sl true q e) → σ[i]? = some (some (V.ref a)) → σ[j]? = some (some (V.ref a)) → i = j
  par : ∀ (i : Nat) o d, ρ[i]? = some (Sl.sl o true d) → σ[i]? = σ0[i]?
  out : ∀ a, B a → H a ≠ none ∧ F a = none
structure Nx (F H F' H' : Hp) (B : Addr → Prop) : Prop where
  fz : Same F F'
  out : ∀ a, B a → H' a = H a
theorem Nx.refl (F H : Hp) (B : Addr → Prop) : Nx F H F H B := ⟨Same.refl _, fun _ _ => rfl⟩
theorem Nx.trans {F H F1 H1 F2 H2 : Hp} {B : Addr → Prop} (a : Nx F H F1 H1 B) (b : Nx F1 H1 F2 H2 B) : Nx F H F2 H2 B := ⟨a.fz.trans b.fz, fun c h => (b.out c h).trans (a.out c h)⟩
theorem Nx.mono {F H F' H' : Hp} {B B' : Addr → Prop} (a : Nx F H F' H' B') (h : ∀ c, B c → B' c) : Nx F H F' H' B := ⟨a.fz, fun c z => a.out c (h c z)⟩
def RR (K : PySem.W.Frag) (F H : Hp) (ρ : List Sl) (σ : L2.St) (B : Addr → Prop) (r : Rv) (v : V) : Prop := match r with
  | .val d => RD K F v d
  | .own d => ∃ a, v = .ref a ∧ RO K F H v d ∧ F a = none ∧ ¬ B a ∧ ∀ (i : Nat) p e, ρ[i]? = some (Sl.sl true p e) → σ[i]? ≠ some (some (V.ref a))
  | .at i => σ[i]? = some (some v)
def hB (B : Addr → Prop) (r : Rv) (v : V) : Addr → Prop := match r with
  | .own _ => fun a => B a ∨ v = .ref a
  | _ => B
section
variable {K : PySem.W.Frag} {F F' H H' : Hp} {σ0 σ : L2.St} {ρ ρ' : List Sl} {B : Addr → Prop} {r : Rv} {v : V} {d : D}
theorem hB_sub : ∀ c, B c → hB B r v c := fun c h => by cases r <;> first | exact h | exact .inl h
/-- the datum as it stands, of a result -/
theorem ER.seen (E : ER K F H σ0 ρ σ B) (h : RR K F H ρ σ B r v) {k : D → Prop} (w : wv ρ r k) : ∃ d, RW K F H v d ∧ k d := by
  cases r with
  | val d => exact ⟨d, .inl h, w⟩
  | own d => obtain ⟨a, _, ro, _⟩ := h; exact ⟨d, .inr ro, w⟩
  | «at» i =>
    unfold wv at w
    dsimp only at w
    cases q : ρ[i]? with
    | none => rw [q] at w; exact w.elim
    | some s =>
      cases s with
      | un => rw [q] at w; exact w.elim
      | sl o p d =>
        rw [q] at w
        have h' : σ[i]? = some (some v) := h
        cases o with
        | false =>
          obtain ⟨u, e, rd⟩ := E.fz i p d q
          rw [h'] at e; cases e
          exact ⟨d, .inl rd, w⟩
        | true =>
          obtain ⟨a, e, ro, _⟩ := E.ow i p d q
          rw [h'] at e; cases e
          exact ⟨d, .inr ro, w⟩
/-- a result is held while others are reckoned -/
theorem ER.hold (E : ER K F H σ0 ρ σ B) (h : RR K F H ρ σ B r v) : ER K F H σ0 ρ σ (hB B r v) := by
  cases r with
  | val d => exact E
  | «at» i => exact E
  | own d =>
    obtain ⟨a, rfl, ro, n, nb, ns⟩ := h
    refine ⟨E.len, E.sub, E.fz, fun i p d q => ?_, E.inj, E.par, fun b hb => ?_⟩
    · obtain ⟨b, e, z⟩ := E.ow i p d q
      refine ⟨b, e, z.1, z.2.1, fun hb => ?_⟩
      rcases hb with hb | hb
      · exact z.2.2 hb
      · cases hb; exact ns i p d q e
    · rcases hb with hb | hb
      · exact E.out b hb
      · cases hb
        obtain ⟨_, o, e, z⟩ := ro.there
        cases e
        exact ⟨by rw [z]; exact fun y => (nomatch y), n⟩
theorem ER.unhold (E : ER K F' H' σ0 ρ' σ (hB B r v)) : ER K F' H' σ0 ρ' σ B :=
  ⟨E.len, E.sub, E.fz, fun i p d q => let ⟨a, e, x, y, z⟩ := E.ow i p d q; ⟨a, e, x, y, fun hb => z (hB_sub _ hb)⟩, E.inj, E.par, fun a h => E.out a (hB_sub _ h)⟩
theorem RR.held (E : ER K F H σ0 ρ σ B) (E' : ER K F' H' σ0 ρ' σ (hB B r v)) (h : RR K F H ρ σ B r v) (n : Nx F H F' H' (hB B r v)) : RR K F' H' ρ' σ B r v := by
  cases r with
  | val d => exact RD.mono n.fz h
  | «at» i => exact h
  | own d =>
    obtain ⟨a, rfl, ro, n1, nb, ns⟩ := h
    refine ⟨a, rfl, ro.keep n.fz (n.out a (.inr rfl)), (E'.out a (.inr rfl)).2, nb, fun i p e q z => ?_⟩
    obtain ⟨b, e2, _, _, nb2⟩ := E'.ow i p e q
    rw [z] at e2; cases e2
    exact nb2 (.inr rfl)
/-- a result stays from now on -/
theorem ER.freeze (E : ER K F H σ0 ρ σ B) (h : RR K F H ρ σ B r v) {k : D → Prop} (w : wv ρ r k) : ∃ F' d, Nx F H F' H B ∧ ER K F' H σ0 (frz ρ r) σ B ∧ RD K F' v d ∧ k d := by
  cases r with
  | val d => exact ⟨F, d, .refl _ _ _, E, h, w⟩
  | own d =>
    obtain ⟨a, rfl, ro, n, nb, ns⟩ := h
    obtain ⟨_, o, e, z⟩ := ro.there
    cases e
    have s : Same F (upd F a o) := fun b u q => by rw [upd_ne (ne_of_none q n)]; exact q
    refine ⟨upd F a o, d, ⟨s, fun _ _ => rfl⟩, ⟨E.len, fun b u q => ?_, fun i p d q => ?_, fun i p d q => ?_, E.inj, E.par, fun b hb => ?_⟩, ro.froze n z, w⟩
    · by_cases hb : b = a
      · subst hb; rw [upd_same] at q; cases q; exact z
      · rw [upd_ne hb] at q; exact E.sub b u q
    · obtain ⟨v, e, rd⟩ := E.fz i p d q
      exact ⟨v, e, rd.mono s⟩
    · obtain ⟨b, e, ro2, n2, nb2⟩ := E.ow i p d q
      have hb : b ≠ a := fun y => by subst y; exact ns i p d q e
      exact ⟨b, e, ro2.keep s rfl, by rw [upd_ne hb]; exact n2, nb2⟩
    · have hb' : b ≠ a := fun y => by subst y; exact nb hb
      rw [upd_ne hb']; exact E.out b hb
  | «at» i =>
    have h' : σ[i]? = some (some v) := h
    unfold wv at w
    dsimp only at w
    cases q : ρ[i]? with
    | none => rw [q] at w; exact w.elim
    | some s =>
      cases s with
      | un => rw [q] at w; exact w.elim
      | sl o p d =>
        rw [q] at w
        have fe : frz ρ (.at i) = ρ.set i (Sl.sl false p d) := by simp only [frz, q]
        have hi : i < ρ.length := (List.getElem?_eq_some_iff.mp q).1
        have at_ : ∀ (j : Nat) s, (ρ.set i (Sl.sl false p d))[j]? = some s → (j = i ∧ s = .sl false p d) ∨ (j ≠ i ∧ ρ[j]? = some s) := fun j s e => by
          by_cases hj : j = i
          · subst hj; rw [List.getElem?_set_self hi] at e; cases e; exact .inl ⟨rfl, rfl⟩
          · rw [List.getElem?_set_ne (Ne.symm hj)] at e; exact .inr ⟨hj, e⟩
        cases o with
        | false =>
          obtain ⟨u, e, rd⟩ := E.fz i p d q
          rw [h'] at e; cases e
          refine ⟨F, d, .refl _ _ _, ?_, rd, w⟩
          rw [fe]
          have : ρ.set i (Sl.sl false p d) = ρ := by
            refine List.ext_getElem? fun j => ?_
            by_cases hj : j = i
            · subst hj; rw [List.getElem?_set_self hi, q]
            · rw [List.getElem?_set_ne (Ne.symm hj)]
          rw [this]; exact E
        | true =>
          obtain ⟨a, e, ro, n, nb⟩ := E.ow i p d q
          rw [h'] at e; cases e
          obtain ⟨_, o, e, z⟩ := ro.there
          cases e
          have s : Same F (upd F a o) := fun b u q => by rw [upd_ne (ne_of_none q n)]; exact q
          refine ⟨upd F a o, d, ⟨s, fun _ _ => rfl⟩, ?_, ro.froze n z, w⟩
          rw [fe]
          refine ⟨by rw [List.length_set]; exact E.len, fun b u q => ?_, fun j p' d' q' => ?_, fun j p' d' q' => ?_, fun j k b p1 p2 d1 d2 q1 q2 => ?_, fun j o' d' q' => ?_, fun b hb => ?_⟩
          · by_cases hb : b = a
            · subst hb; rw [upd_same] at q; cases q; exact z
            · rw [upd_ne hb] at q; exact E.sub b u q
          · rcases at_ _ _ q' with ⟨rfl, y⟩ | ⟨_, y⟩
            · cases y
              exact ⟨_, h', ro.froze n z⟩
            · obtain ⟨v, e, rd⟩ := E.fz j p' d' y
              exact ⟨v, e, rd.mono s⟩
          · rcases at_ _ _ q' with ⟨rfl, y⟩ | ⟨hj, y⟩
            · cases y
            · obtain ⟨b, e, ro2, n2, nb2⟩ := E.ow j p' d' y
              have hb : b ≠ a := fun w => by subst w; exact hj (E.inj j i b _ _ _ _ y q e h')
              exact ⟨b, e, ro2.keep s rfl, by rw [upd_ne hb]; exact n2, nb2⟩
          · rcases at_ _ _ q1 with ⟨rfl, y⟩ | ⟨_, y⟩
            · cases y
            · rcases at_ _ _ q2 with ⟨rfl, y2⟩ | ⟨_, y2⟩
              · cases y2
              · exact E.inj j k b _ _ _ _ y y2
          · rcases at_ _ _ q' with ⟨rfl, y⟩ | ⟨_, y⟩
            · cases y; exact E.par j true d q
            · exact E.par j o' d' y
          · have hb' : b ≠ a := fun y => by subst y; exact nb hb
            rw [upd_ne hb']; exact E.out b hb
/-! ### new objects -/
theorem ER.free (E : ER K F H σ0 ρ σ B) {p : Addr} (h : H p = none) : F p = none := E.sub.free h
theorem ER.nB (E : ER K F H σ0 ρ σ B) {p : Addr} (h : H p = none) : ¬ B p := fun b => (E.out p b).1 h
theorem ER.nS (E : ER K F H σ0 ρ σ B) {p : Addr} (h : H p = none) : ∀ (i : Nat) q e, ρ[i]? = some (Sl.sl true q e) → σ[i]? ≠ some (some (V.ref p)) := fun i q e z y => by
  obtain ⟨b, e1, ro, _⟩ := E.ow i q e z
  rw [y] at e1; cases e1
  obtain ⟨_, o, e2, w⟩ := ro.there
  cases e2
  rw [h] at w; cases w
theorem nx_new {p : Addr} {o : HO} (E : ER K F H σ0 ρ σ B) (h : H p = none) : Nx F H F (upd H p o) B := ⟨Same.refl _, fun a b => upd_ne fun e => by subst e; exact E.nB h b⟩
/-- a new object, one's own -/
theorem ER.laid {p : Addr} {o : HO} (E : ER K F H σ0 ρ σ B) (h : H p = none) : ER K F (upd H p o) σ0 ρ σ B := by
  have keep : ∀ b u, H b = some u → upd H p o b = some u := fun b u e => by rw [upd_ne (ne_of_none e h)]; exact e
  refine ⟨E.len, fun b u e => keep b u (E.sub b u e), E.fz, fun i q d z => ?_, E.inj, E.par, fun a b => ⟨?_, (E.out a b).2⟩⟩
  · obtain ⟨b, e, ro, n, nb⟩ := E.ow i q d z
    obtain ⟨_, u, e2, w⟩ := ro.there
    cases e2
    exact ⟨b, e, ro.keep (Same.refl _) (by rw [keep b u w, w]), n, nb⟩
  · rw [upd_ne fun e => by subst e; exact E.nB h b]; exact (E.out a b).1
theorem ER.laid_own {p : Addr} {o : HO} {d : D} (E : ER K F H σ0 ρ σ B) (h : H p = none) (ro : RO K F (upd H p o) (.ref p) d) : RR K F (upd H p o) ρ σ B (.own d) (.ref p) :=
  ⟨p, rfl, ro, E.free h, E.nB h, E.nS h⟩
/-- a new object that stays -/
theorem ER.laid_val {p : Addr} {o : HO} (E : ER K F H σ0 ρ σ B) (h : H p = none) : ER K (upd F p o) (upd H p o) σ0 ρ σ B ∧ Nx F H (upd F p o) (upd H p o) B := by
  have nF := E.free h
  have s : Same F (upd F p o) := fun b u q => by rw [upd_ne (ne_of_none q nF)]; exact q
  have E1 := E.laid (o := o) h
  refine ⟨⟨E.len, fun b u e => ?_, fun i q d z => ?_, fun i q d z => ?_, E.inj, E.par, fun a b => ⟨(E1.out a b).1, ?_⟩⟩, s, (nx_new E h).out⟩
  · by_cases hb : b = p
    · subst hb; rw [upd_same] at e ⊢; exact e
    · rw [upd_ne hb] at e ⊢; exact E.sub b u e
  · obtain ⟨v, e, rd⟩ := E.fz i q d z
    exact ⟨v, e, rd.mono s⟩
  · obtain ⟨b, e, ro, n, nb⟩ := E1.ow i q d z
    have hb : b ≠ p := fun y => by subst y; exact E.nS h i q d z e
    exact ⟨b, e, ro.keep s rfl, by rw [upd_ne hb]; exact n, nb⟩
  · rw [upd_ne fun e => by subst e; exact E.nB h b]; exact (E.out a b).2
/-- one's own object is written -/
theorem ER.wrote {i : Nat} {q : Bool} {a : Addr} {d e : D} {o : HO} (E : ER K F H σ0 ρ σ B) (hi : ρ[i]? = some (Sl.sl true q d)) (ha : σ[i]? = some (some (V.ref a))) (ro : RO K F (upd H a o) (.ref a) e) :
    ER K F (upd H a o) σ0 (ρ.set i (Sl.sl true q e)) σ B ∧ Nx F H F (upd H a o) B := by
  have hl : i < ρ.length := (List.getElem?_eq_some_iff.mp hi).1
  obtain ⟨a', e1, ro1, n1, nb1⟩ := E.ow i q d hi
  rw [ha] at e1; cases e1
  have at_ : ∀ (j : Nat) s, (ρ.set i (Sl.sl true q e))[j]? = some s → (j = i ∧ s = .sl true q e) ∨ (j ≠ i ∧ ρ[j]? = some s) := fun j s z => by
    by_cases hj : j = i
    · subst hj; rw [List.getElem?_set_self hl] at z; cases z; exact .inl ⟨rfl, rfl⟩
    · rw [List.getElem?_set_ne (Ne.symm hj)] at z; exact .inr ⟨hj, z⟩
  refine ⟨⟨by rw [List.length_set]; exact E.len, fun b u z => ?_, fun j p f z => ?_, fun j p f z => ?_, fun j k b p1 p2 d1 d2 q1 q2 h1 h2 => ?_, fun j o' f z => ?_, fun b hb => ⟨?_, (E.out b hb).2⟩⟩, Same.refl _, fun b hb => upd_ne fun y => by subst y; exact nb1 hb⟩
  · rw [upd_ne (ne_of_none z n1)]; exact E.sub b u z
  · rcases at_ _ _ z with ⟨_, y⟩ | ⟨_, y⟩
    · cases y
    · exact E.fz j p f y
  · rcases at_ _ _ z with ⟨rfl, y⟩ | ⟨hj, y⟩
    · cases y; exact ⟨a, ha, ro, n1, nb1⟩
    · obtain ⟨b, e2, ro2, n2, nb2⟩ := E.ow j p f y
      have hb : b ≠ a := fun w => by subst w; exact hj (E.inj j i b _ _ _ _ y hi e2 ha)
      exact ⟨b, e2, ro2.keep (Same.refl _) (upd_ne hb), n2, nb2⟩
  · have g : ∀ (j : Nat) p (d1 : D), (ρ.set i (Sl.sl true q e))[j]? = some (Sl.sl true p d1) → ∃ p' d', ρ[j]? = some (Sl.sl true p' d') := fun j p d1 z => by
      rcases at_ _ _ z with ⟨rfl, _⟩ | ⟨_, y⟩
      · exact ⟨_, _, hi⟩
      · exact ⟨_, _, y⟩
    obtain ⟨_, _, y1⟩ := g _ _ _ q1
    obtain ⟨_, _, y2⟩ := g _ _ _ q2
    exact E.inj j k b _ _ _ _ y1 y2 h1 h2
  · rcases at_ _ _ z with ⟨rfl, y⟩ | ⟨_, y⟩
    · cases y; exact E.par j true d hi
    · exact E.par j o' f y
  · rw [upd_ne fun y => by subst y; exact nb1 hb]; exact (E.out b hb).1
/-- a name is stored -/
def put (ρ : List Sl) (i : Nat) (r : Rv) (k : List Sl → Prop) : Prop := match r with
  | .val d => k (ρ.set i (Sl.sl false false d))
  | .own d => k (ρ.set i (Sl.sl true false d))
  | .at j => match ρ[j]? with
    | some (.sl _ p d) => k ((ρ.set j (Sl.sl false p d)).set i (Sl.sl false false d))
    | _ => False
theorem ER.set_val {i : Nat} (E : ER K F H σ0 ρ σ B) (h : RD K F v d) : ER K F H σ0 (ρ.set i (Sl.sl false false d)) (σ.set i (some v)) B := by
  by_cases hl : i < ρ.length
  · have hs : i < σ.length := by rw [← E.len]; exact hl
    have at_ : ∀ (j : Nat) s, (ρ.set i (Sl.sl false false d))[j]? = some s → (j = i ∧ s = .sl false false d) ∨ (j ≠ i ∧ ρ[j]? = some s) := fun j s z => by
      by_cases hj : j = i
      · subst hj; rw [List.getElem?_set_self hl] at z; cases z; exact .inl ⟨rfl, rfl⟩
      · rw [List.getElem?_set_ne (Ne.symm hj)] at z; exact .inr ⟨hj, z⟩
    have sn : ∀ (j : Nat), j ≠ i → (σ.set i (some v))[j]? = σ[j]? := fun j hj => List.getElem?_set_ne (Ne.symm hj)
    refine ⟨by rw [List.length_set, List.length_set]; exact E.len, E.sub, fun j p f z => ?_, fun j p f z => ?_, fun j k b p1 p2 d1 d2 q1 q2 h1 h2 => ?_, fun j o' f z => ?_, E.out⟩
    · rcases at_ _ _ z with ⟨rfl, y⟩ | ⟨hj, y⟩
      · cases y; exact ⟨v, List.getElem?_set_self hs, h⟩
      · rw [sn j hj]; exact E.fz j p f y
    · rcases at_ _ _ z with ⟨rfl, y⟩ | ⟨hj, y⟩
      · cases y
      · rw [sn j hj]; exact E.ow j p f y
    · rcases at_ _ _ q1 with ⟨rfl, y⟩ | ⟨hj, y⟩
      · cases y
      · rcases at_ _ _ q2 with ⟨rfl, y2⟩ | ⟨hk, y2⟩
        · cases y2
        · rw [sn j hj] at h1; rw [sn k hk] at h2
          exact E.inj j k b _ _ _ _ y y2 h1 h2
    · rcases at_ _ _ z with ⟨rfl, y⟩ | ⟨hj, y⟩
      · cases y
      · rw [sn j hj]; exact E.par j o' f y
  · have e1 : ρ.set i (Sl.sl false false d) = ρ := List.set_eq_of_length_le (by omega)
    have e2 : σ.set i (some v) = σ := List.set_eq_of_length_le (by have := E.len; omega)
    rw [e1, e2]; exact E
theorem ER.set_own {i : Nat} (E : ER K F H σ0 ρ σ B) (h : RR K F H ρ σ B (.own d) v) : ER K F H σ0 (ρ.set i (Sl.sl true false d)) (σ.set i (some v)) B := by
  obtain ⟨a, rfl, ro, n, nb, ns⟩ := h
  by_cases hl : i < ρ.length
  · have hs : i < σ.length := by rw [← E.len]; exact hl
    have at_ : ∀ (j : Nat) s, (ρ.set i (Sl.sl true false d))[j]? = some s → (j = i ∧ s = .sl true false d) ∨ (j ≠ i ∧ ρ[j]? = some s) := fun j s z => by
      by_cases hj : j = i
      · subst hj; rw [List.getElem?_set_self hl] at z; cases z; exact .inl ⟨rfl, rfl⟩
      · rw [List.getElem?_set_ne (Ne.symm hj)] at z; exact .inr ⟨hj, z⟩
    have sn : ∀ (j : Nat), j ≠ i → (σ.set i (some (V.ref a)))[j]? = σ[j]? := fun j hj => List.getElem?_set_ne (Ne.symm hj)
    have si : (σ.set i (some (V.ref a)))[i]? = some (some (V.ref a)) := List.getElem?_set_self hs
    refine ⟨by rw [List.length_set, List.length_set]; exact E.len, E.sub, fun j p f z => ?_, fun j p f z => ?_, fun j k b p1 p2 d1 d2 q1 q2 h1 h2 => ?_, fun j o' f z => ?_, E.out⟩
    · rcases at_ _ _ z with ⟨rfl, y⟩ | ⟨hj, y⟩
      · cases y
      · rw [sn j hj]; exact E.fz j p f y
    · rcases at_ _ _ z with ⟨rfl, y⟩ | ⟨hj, y⟩
      · cases y; exact ⟨a, si, ro, n, nb⟩
      · rw [sn j hj]; exact E.ow j p f y
    · rcases at_ _ _ q1 with ⟨rfl, y⟩ | ⟨hj, y⟩
      · rcases at_ _ _ q2 with ⟨rfl, y2⟩ | ⟨hk, y2⟩
        · rfl
        · rw [si] at h1; cases h1
          rw [sn k hk] at h2
          exact absurd h2 (ns k _ _ y2)
      · rw [sn j hj] at h1
        rcases at_ _ _ q2 with ⟨rfl, y2⟩ | ⟨hk, y2⟩
        · rw [si] at h2; cases h2
          exact absurd h1 (ns j _ _ y)
        · rw [sn k hk] at h2
          exact E.inj j k b _ _ _ _ y y2 h1 h2
    · rcases at_ _ _ z with ⟨rfl, y⟩ | ⟨hj, y⟩
      · cases y
      · rw [sn j hj]; exact E.par j o' f y
  · have e1 : ρ.set i (Sl.sl true false d) = ρ := List.set_eq_of_length_le (by omega)
    have e2 : σ.set i (some (V.ref a)) = σ := List.set_eq_of_length_le (by have := E.len; omega)
    rw [e1, e2]; exact E
theorem ER.put {i : Nat} {k : List Sl → Prop} (E : ER K F H σ0 ρ σ B) (h : RR K F H ρ σ B r v) (p : put ρ i r k) : ∃ F' ρ', Nx F H F' H B ∧ ER K F' H σ0 ρ' (σ.set i (some v)) B ∧ k ρ' := by
  cases r with
  | val d => exact ⟨F, _, .refl _ _ _, E.set_val h, p⟩
  | own d => exact ⟨F, _, .refl _ _ _, E.set_own h, p⟩
  | «at» j =>
    unfold YP.put at p
    dsimp only at p
    cases q : ρ[j]? with
    | none => rw [q] at p; exact p.elim
    | some s =>
      cases s with
      | un => rw [q] at p; exact p.elim
      | sl o pp d =>
        rw [q] at p
        have w : wv ρ (.at j) (fun e => e = d) := by simp only [wv, q]
        obtain ⟨F', d', nx, E', rd, rfl⟩ := E.freeze h w
        refine ⟨F', _, nx, ?_, p⟩
        have fe : frz ρ (.at j) = ρ.set j (Sl.sl false pp d') := by simp only [frz, q]
        rw [fe] at E'
        exact E'.set_val rd
end
end YP
set_option maxRecDepth 100000
/-! The yard's pure layer, part 2: expressions. -/
namespace YP
open PySem PySem.Spec PyProof.Rows L2

abbrev UE := List Sl → (Rv → List Sl → Prop) → Prop
abbrev UT := List Sl → (Bool → List Sl → Prop) → Prop
def tS (X : Cx) (e : Expr) : TE := fun σ H Q => ∀ pins s, Inv X pins σ H s → wpAny (model X.prog X.w) X.A (eval e X.env) (EP X pins σ Q) X.xe s
def tST (X : Cx) (e : Expr) : TT := fun σ H Q => ∀ pins s, Inv X pins σ H s → wpAny (model X.prog X.w) X.A (isTrue e X.env (eval e X.env)) (TP X pins σ Q) X.xe s
def tSW (X : Cx) (e : Expr) : TT := fun σ H Q => ∀ whole pins s, Inv X pins σ H s → wpAny (model X.prog X.w) X.A (isTrue e X.env whole) (TP X pins σ Q) X.xe s
theorem pe_S {X : Cx} {e : Expr} : PE X e (tS X e) := ⟨fun pins s σ H Q I h => h pins s I⟩
theorem pt_S {X : Cx} {e : Expr} : PT X e (tST X e) := ⟨fun pins s σ H Q I h => h pins s I⟩
theorem pw_S {X : Cx} {e : Expr} : PW X e (tSW X e) := ⟨fun whole pins s σ H Q I h => h whole pins s I⟩
/-- a state that was come to -/
structure Gd (K : PySem.W.Frag) (F H F' H' : Hp) (σ0 : L2.St) (ρ : List Sl) (σ : L2.St) (B : Addr → Prop) : Prop where
  nx : Nx F H F' H' B
  er : ER K F' H' σ0 ρ σ B
structure Gt (K : PySem.W.Frag) (F H F' H' : Hp) (σ0 : L2.St) (ρ : List Sl) (σ : L2.St) (B : Addr → Prop) (r : Rv) (v : V) : Prop where
  nx : Nx F H F' H' B
  er : ER K F' H' σ0 ρ σ B
  rr : RR K F' H' ρ σ B r v
structure FE (X : Cx) (e : Expr) (u : UE) : Prop where
  run : ∀ (ρ : List Sl) (R : Rv → List Sl → Prop), u ρ R → ∀ (F H : Hp) (σ0 σ : L2.St) (B : Addr → Prop) (Q : VK), ER X.K F H σ0 ρ σ B →
    (∀ r ρ' v F' H', R r ρ' → Gt X.K F H F' H' σ0 ρ' σ B r v → Q v H') → tS X e σ H Q
instance {X : Cx} {e : Expr} {u : UE} : CoeFun (FE X e u) (fun _ => ∀ (ρ : List Sl) (R : Rv → List Sl → Prop), u ρ R → ∀ (F H : Hp) (σ0 σ : L2.St) (B : Addr → Prop) (Q : VK), ER X.K F H σ0 ρ σ B →
  (∀ r ρ' v F' H', R r ρ' → Gt X.K F H F' H' σ0 ρ' σ B r v → Q v H') → tS X e σ H Q) := ⟨FE.run⟩
structure FT (X : Cx) (e : Expr) (u : UT) : Prop where
  run : ∀ (ρ : List Sl) (R : Bool → List Sl → Prop), u ρ R → ∀ (F H : Hp) (σ0 σ : L2.St) (B : Addr → Prop) (Q : Bool → Hp → Prop), ER X.K F H σ0 ρ σ B →
    (∀ b ρ' F' H', R b ρ' → Gd X.K F H F' H' σ0 ρ' σ B → Q b H') → tST X e σ H Q
instance {X : Cx} {e : Expr} {u : UT} : CoeFun (FT X e u) (fun _ => ∀ (ρ : List Sl) (R : Bool → List Sl → Prop), u ρ R → ∀ (F H : Hp) (σ0 σ : L2.St) (B : Addr → Prop) (Q : Bool → Hp → Prop), ER X.K F H σ0 ρ σ B →
  (∀ b ρ' F' H', R b ρ' → Gd X.K F H F' H' σ0 ρ' σ B → Q b H') → tST X e σ H Q) := ⟨FT.run⟩
structure FW (X : Cx) (e : Expr) (u : UT) : Prop where
  run : ∀ (ρ : List Sl) (R : Bool → List Sl → Prop), u ρ R → ∀ (F H : Hp) (σ0 σ : L2.St) (B : Addr → Prop) (Q : Bool → Hp → Prop), ER X.K F H σ0 ρ σ B →
    (∀ b ρ' F' H', R b ρ' → Gd X.K F H F' H' σ0 ρ' σ B → Q b H') → tSW X e σ H Q
instance {X : Cx} {e : Expr} {u : UT} : CoeFun (FW X e u) (fun _ => ∀ (ρ : List Sl) (R : Bool → List Sl → Prop), u ρ R → ∀ (F H : Hp) (σ0 σ : L2.St) (B : Addr → Prop) (Q : Bool → Hp → Prop), ER X.K F H σ0 ρ σ B →
  (∀ b ρ' F' H', R b ρ' → Gd X.K F H F' H' σ0 ρ' σ B → Q b H') → tSW X e σ H Q) := ⟨FW.run⟩
section
variable {X : Cx} {e a b : Expr} {ua ub : UE} {F H : Hp} {σ0 σ : L2.St} {ρ : List Sl} {B : Addr → Prop}
theorem to_S {t : TE} {Q : VK} (h : PE X e t) (q : t σ H Q) : tS X e σ H Q := fun pins s I => h.run pins s σ H Q I q
theorem to_ST {t : TT} {Q : Bool → Hp → Prop} (h : PT X e t) (q : t σ H Q) : tST X e σ H Q := fun pins s I => h.run pins s σ H Q I q
theorem to_SW {t : TT} {Q : Bool → Hp → Prop} (h : PW X e t) (q : t σ H Q) : tSW X e σ H Q := fun wh pins s I => h.run wh pins s σ H Q I q
theorem FW.ft {u : UT} (h : FW X e u) : FT X e u := ⟨fun ρ R q F H σ0 σ B Q E g pins s I => h ρ R q F H σ0 σ B Q E g _ pins s I⟩
/-- two in a row -/
theorem FE.two (ha : FE X a ua) (hb : FE X b ub) {T : Rv → Rv → List Sl → Prop} (h : ua ρ fun r ρ1 => ub ρ1 fun q ρ2 => T r q ρ2) (E : ER X.K F H σ0 ρ σ B) (S : V → V → Hp → Prop)
    (g : ∀ r q ρ2 x y F2 H2, T r q ρ2 → Nx F H F2 H2 B → ER X.K F2 H2 σ0 ρ2 σ B → RR X.K F2 H2 ρ2 σ B r x → RR X.K F2 H2 ρ2 σ (hB B r x) q y → S x y H2) : tS X a σ H fun x H1 => tS X b σ H1 fun y H2 => S x y H2 :=
  ha ρ _ h F H σ0 σ B _ E fun r ρ1 x F1 H1 h1 A1 => hb ρ1 _ h1 F1 H1 σ0 σ (hB B r x) _ (A1.er.hold A1.rr) fun q ρ2 y F2 H2 h2 A2 =>
    g r q ρ2 x y F2 H2 h2 (A1.nx.trans (A2.nx.mono hB_sub)) A2.er.unhold (A1.rr.held A1.er A2.er A2.nx) A2.rr
theorem RR.weak {K : PySem.W.Frag} {B' : Addr → Prop} {r : Rv} {v : V} (h : RR K F H ρ σ B' r v) (s : ∀ c, B c → B' c) : RR K F H ρ σ B r v := by
  cases r with
  | val d => exact h
  | «at» i => exact h
  | own d => obtain ⟨a, x, y, z, n, w⟩ := h; exact ⟨a, x, y, z, fun b => n (s _ b), w⟩

/-! ### names and constants -/
def uVar (i : Nat) : UE := fun ρ R => match ρ[i]? with
  | some (.sl false _ d) => R (.val d) ρ
  | some (.sl true _ _) => R (.at i) ρ
  | _ => False
theorem fe_pv {i : Nat} (h : PE X e (tVar i)) : FE X e (uVar i) := ⟨fun ρ R q F H σ0 σ B Q E g => by
  refine to_S h ?_
  unfold uVar at q
  cases z : ρ[i]? with
  | none => rw [z] at q; exact q.elim
  | some s =>
    cases s with
    | un => rw [z] at q; exact q.elim
    | sl o p d =>
      rw [z] at q
      cases o with
      | false =>
        obtain ⟨v, e1, rd⟩ := E.fz i p d z
        exact ⟨v, e1, g _ _ _ _ _ q ⟨.refl _ _ _, E, rd⟩⟩
      | true =>
        obtain ⟨a, e1, _⟩ := E.ow i p d z
        exact ⟨_, e1, g _ _ _ _ _ q ⟨.refl _ _ _, E, e1⟩⟩⟩
theorem fv (i : Nat) {x : Str} {pos : Pos} (hN : X.N[i]? = some x := by rfl) (hv : Vis X.env.scope x := by first | exact Or.inl rfl | exact Or.inr (Or.inl rfl) | exact Or.inr (Or.inr rfl)) (hd : (x == ("__debug__" : Str)) = false := by decide)
    (hcd : (x == ("__classdict__" : Str)) = false := by decide) : FE X (.Name x pos) (uVar i) := fe_pv (pe_var hN hv hd hcd)
def uC (d : D) : UE := fun ρ R => R (.val d) ρ
theorem fe_c {v : V} {d : D} (h : PE X e (tC v)) (rd : ∀ F, RD X.K F v d) : FE X e (uC d) := ⟨fun ρ R q F H σ0 σ B Q E g =>
  to_S h (g _ _ _ _ _ q ⟨.refl _ _ _, E, rd F⟩)⟩
theorem fe_int {i : Int} {j pos} : FE X (.Constant (.int i) j pos) (uC (.int i)) := fe_c pe_int fun _ => .int i
theorem fe_bl {b : Bool} {j pos} : FE X (.Constant (.bool b) j pos) (uC (.bl b)) := fe_c pe_bl fun _ => .bl b
theorem fe_non {j pos} : FE X (.Constant .none j pos) (uC .non) := fe_c pe_non fun _ => .non
theorem fe_str {x : Str} {j pos} : FE X (.Constant (.str x) j pos) (uC (.str x)) := fe_c pe_str fun _ => .str x
theorem fe_glob {x : Str} {v : V} {d : D} {u : Value} {pos : Pos} (hg : Gl X x) (hm : X.mg x = some u) (r : RelV v u) (rd : ∀ F, RD X.K F v d) (hd : (x == ("__debug__" : Str)) = false := by decide) : FE X (.Name x pos) (uC d) := fe_c (pe_glob hg hm r hd) rd
theorem fe_ty {x : Str} {n : String} {pos : Pos} (hg : Gl X x) (hm : X.mg x = none) (hv : bootBuiltins x = some (.type n)) (hn : x ≠ "__name__" := by decide) (hd : (x == ("__debug__" : Str)) = false := by decide) : FE X (.Name x pos) (uC (.ty n)) :=
  fe_c (pe_bltn (v := .ty n) hg hm hv rfl hn hd) fun _ => .ty n

/-! ### operations of two -/
structure OpS (X : Cx) (f : Value → Value → Sem Value) (o : D → D → (Rv → Prop) → Prop) : Prop where
  ex : ∃ r : R2, OpR X f r ∧ ∀ {F H : Hp} {σ0 σ : L2.St} {ρ : List Sl} {B : Addr → Prop} {x y : V} {d e : D} {T : Rv → Prop} {Q : VK}, ER X.K F H σ0 ρ σ B → RW X.K F H x d → RW X.K F H y e → o d e T →
    (∀ z v F' H', T z → Gt X.K F H F' H' σ0 ρ σ B z v → Q v H') → r x y H Q
def uBin (o : D → D → (Rv → Prop) → Prop) (ua ub : UE) : UE := fun ρ R => ua ρ fun r ρ1 => ub ρ1 fun q ρ2 => wv ρ2 r fun d => wv ρ2 q fun e => o d e fun z => R z ρ2
theorem FE.binR {o : D → D → (Rv → Prop) → Prop} {f : Value → Value → Sem Value} (ho : OpS X f o) (ha : FE X a ua) (hb : FE X b ub) {R : Rv → List Sl → Prop} {Q : VK} (h : uBin o ua ub ρ R) (E : ER X.K F H σ0 ρ σ B)
    (g : ∀ r ρ' v F' H', R r ρ' → Gt X.K F H F' H' σ0 ρ' σ B r v → Q v H') : ∃ r : R2, OpR X f r ∧ tS X a σ H fun x H1 => tS X b σ H1 fun y H2 => r x y H2 Q := by
  obtain ⟨r, hr, k⟩ := ho.ex
  refine ⟨r, hr, FE.two ha hb h E (fun x y H2 => r x y H2 Q) fun p q ρ2 x y F2 H2 t n2 E2 r1 r2 => ?_⟩
  obtain ⟨d, w1, t⟩ := E2.seen r1 t
  obtain ⟨e, w2, t⟩ := E2.seen (r2.weak hB_sub) t
  exact k E2 w1 w2 t fun z v F' H' tz G => g z ρ2 v F' H' tz ⟨n2.trans G.nx, G.er, G.rr⟩
theorem fe_op {op : Operator} {o : D → D → (Rv → Prop) → Prop} {pos : Pos} (ho : OpS X (binaryOp op) o) (ha : FE X a ua) (hb : FE X b ub) : FE X (.BinOp a op b pos) (uBin o ua ub) := ⟨fun ρ R q F H σ0 σ B Q E g => by
  obtain ⟨r, hr, t⟩ := FE.binR ho ha hb q E g
  exact to_S (pe_op hr pe_S pe_S) t⟩
theorem fe_cmp {op : CmpOp} {o : D → D → (Rv → Prop) → Prop} {pos : Pos} (ho : OpS X (compareOp op) o) (ha : FE X a ua) (hb : FE X b ub) (hm : behindInMarks op b = false := by rfl) : FE X (.Compare a [op] [b] pos) (uBin o ua ub) := ⟨fun ρ R q F H σ0 σ B Q E g => by
  obtain ⟨r, hr, t⟩ := FE.binR ho ha hb q E g
  exact to_S (pe_cmpR hr pe_S pe_S hm) t⟩
/-- a test: of a value that is a truth -/
def isB (R : Bool → List Sl → Prop) : Rv → List Sl → Prop := fun r ρ => match r with
  | .val (.bl c) => R c ρ
  | _ => False
theorem ft_cmp {op : CmpOp} {o : D → D → (Rv → Prop) → Prop} {pos : Pos} (ho : OpS X (compareOp op) o) (ha : FE X a ua) (hb : FE X b ub) (hm : behindInMarks op b = false := by rfl) : FT X (.Compare a [op] [b] pos) (fun ρ R => uBin o ua ub ρ (isB R)) := ⟨fun ρ R q F H σ0 σ B Q E g => by
  obtain ⟨r, hr, t⟩ := FE.binR (Q := fun x H' => ∃ k, x = .bl k ∧ Q k H') ho ha hb q E fun r ρ' v F' H' h G => by
    unfold isB at h
    split at h
    · rename_i c
      have rr : RD X.K F' v (.bl c) := G.rr
      cases rr
      exact ⟨c, rfl, g c ρ' F' H' h ⟨G.nx, G.er⟩⟩
    · exact h.elim
  exact to_ST (pt_cmpR hr pe_S pe_S hm) t⟩
/-- the truth of a datum -/
def tru : D → (Bool → Prop) → Prop
  | .non, k => k false
  | .bl b, k => k b
  | .int i, k => k (i != 0)
  | .str y, k => y.length ≤ sizeLine ∧ k ((y.length : Int) != 0)
  | .lst l, k => k (!l.isEmpty)
  | .tup l, k => k (!l.isEmpty)
  | _, _ => False
theorem tru_ex {K : PySem.W.Frag} {v : V} {d : D} {k : Bool → Prop} (E : ER K F H σ0 ρ σ B) (h : RW K F H v d) (t : tru d k) : ∃ c, TruV K v H c ∧ k c := by
  cases d with
  | non => cases h.non; exact ⟨_, rfl, t⟩
  | bl b => cases h.bl; exact ⟨_, rfl, t⟩
  | int b => cases h.int; exact ⟨_, rfl, t⟩
  | str b => cases h.str; exact ⟨_, ⟨t.1, rfl⟩, t.2⟩
  | lst l =>
    obtain ⟨a, vs, rfl, h1, h2⟩ := h.lst E.sub
    have e : vs.isEmpty = l.isEmpty := by cases h2 <;> rfl
    exact ⟨_, .inl ⟨vs, .of h1, rfl⟩, by rw [e]; exact t⟩
  | tup l =>
    obtain ⟨a, vs, rfl, h1, h2⟩ := h.tup E.sub
    have e : vs.isEmpty = l.isEmpty := by cases h2 <;> rfl
    exact ⟨_, .inr (.inl ⟨vs, h1, rfl⟩), by rw [e]; exact t⟩
  | _ => exact t.elim
def uTru (u : UE) : UT := fun ρ R => u ρ fun r ρ1 => wv ρ1 r fun d => tru d fun c => R c ρ1
theorem ft_tru (ha : FE X a ua) (he : ∀ whole, isTrue a X.env whole = (do let v ← whole; standAt a.pos; holding [v] (truthy v)) := by intro _; rfl) : FT X a (uTru ua) := ⟨fun ρ R q F H σ0 σ B Q E g => by
  refine to_ST (pt_truth pe_S he) (ha ρ _ q F H σ0 σ B _ E fun r ρ1 v F1 H1 h G => ?_)
  obtain ⟨d, w, h⟩ := G.er.seen G.rr h
  obtain ⟨c, w, h⟩ := tru_ex G.er w h
  exact ⟨c, w, g c ρ1 F1 H1 h ⟨G.nx, G.er⟩⟩⟩

/-! ### and, or, not -/
section
variable {rest : List Expr} {t1 t2 : UT} {pos : Pos}
def uAnd (t u : UT) : UT := fun ρ R => t ρ fun c ρ1 => if c = true then u ρ1 R else R false ρ1
def uOr (t u : UT) : UT := fun ρ R => t ρ fun c ρ1 => if c = true then R true ρ1 else u ρ1 R
def uNot (t : UT) : UT := fun ρ R => t ρ fun c ρ1 => R (!c) ρ1
theorem fw_and1 (h : FT X a t1) : FW X (.BoolOp .And [a] pos) t1 := ⟨fun ρ R q F H σ0 σ B Q E g => to_SW (pw_and1 pt_S) (h ρ R q F H σ0 σ B Q E g)⟩
theorem fw_or1 (h : FT X a t1) : FW X (.BoolOp .Or [a] pos) t1 := ⟨fun ρ R q F H σ0 σ B Q E g => to_SW (pw_or1 pt_S) (h ρ R q F H σ0 σ B Q E g)⟩
theorem fw_and (h : FT X a t1) (k : FW X (.BoolOp .And (b :: rest) pos) t2) : FW X (.BoolOp .And (a :: b :: rest) pos) (uAnd t1 t2) := ⟨fun ρ R q F H σ0 σ B Q E g => by
  refine to_SW (pw_and pt_S pw_S) (h ρ _ q F H σ0 σ B _ E fun c ρ1 F1 H1 z G => ?_)
  cases c with
  | true => exact k ρ1 R z F1 H1 σ0 σ B Q G.er fun b ρ' F' H' r G' => g b ρ' F' H' r ⟨G.nx.trans G'.nx, G'.er⟩
  | false => exact g false ρ1 F1 H1 z G⟩
theorem fw_or (h : FT X a t1) (k : FW X (.BoolOp .Or (b :: rest) pos) t2) : FW X (.BoolOp .Or (a :: b :: rest) pos) (uOr t1 t2) := ⟨fun ρ R q F H σ0 σ B Q E g => by
  refine to_SW (pw_or pt_S pw_S) (h ρ _ q F H σ0 σ B _ E fun c ρ1 F1 H1 z G => ?_)
  cases c with
  | false => exact k ρ1 R z F1 H1 σ0 σ B Q G.er fun b ρ' F' H' r G' => g b ρ' F' H' r ⟨G.nx.trans G'.nx, G'.er⟩
  | true => exact g true ρ1 F1 H1 z G⟩
theorem ft_not (h : FT X a t1) : FT X (.UnaryOp .Not a pos) (uNot t1) := ⟨fun ρ R q F H σ0 σ B Q E g => to_ST (pt_not pt_S) (h ρ _ q F H σ0 σ B _ E fun c ρ1 F1 H1 z G => g (!c) ρ1 F1 H1 z G)⟩
/-- .. as values, where they are truths -/
def uAndV (ua ub : UE) : UE := fun ρ R => ua ρ fun r ρ1 => match r with
  | .val (.bl c) => if c = true then ub ρ1 R else R (.val (.bl false)) ρ1
  | _ => False
def uOrV (ua ub : UE) : UE := fun ρ R => ua ρ fun r ρ1 => match r with
  | .val (.bl c) => if c = true then R (.val (.bl true)) ρ1 else ub ρ1 R
  | _ => False
def uNotV (ua : UE) : UE := fun ρ R => ua ρ fun r ρ1 => match r with
  | .val (.bl c) => R (.val (.bl (!c))) ρ1
  | _ => False
theorem fe_one {op} (h : FE X a ua) : FE X (.BoolOp op [a] pos) ua := ⟨fun ρ R q F H σ0 σ B Q E g => to_S (pe_one pe_S) (h ρ R q F H σ0 σ B Q E g)⟩
theorem fe_and (h : FE X a ua) (k : FE X (.BoolOp .And (b :: rest) pos) ub) : FE X (.BoolOp .And (a :: b :: rest) pos) (uAndV ua ub) := ⟨fun ρ R q F H σ0 σ B Q E g => by
  refine to_S (pe_and pe_S pe_S) (h ρ _ q F H σ0 σ B _ E fun r ρ1 v F1 H1 z G => ?_)
  split at z
  · rename_i c
    have rr : RD X.K F1 v (.bl c) := G.rr
    cases rr
    refine ⟨c, rfl, ?_⟩
    cases c with
    | true => exact k ρ1 R z F1 H1 σ0 σ B Q G.er fun r ρ' v F' H' y G' => g r ρ' v F' H' y ⟨G.nx.trans G'.nx, G'.er, G'.rr⟩
    | false => exact g _ _ _ _ _ z G
  · exact z.elim⟩
theorem fe_or (h : FE X a ua) (k : FE X (.BoolOp .Or (b :: rest) pos) ub) : FE X (.BoolOp .Or (a :: b :: rest) pos) (uOrV ua ub) := ⟨fun ρ R q F H σ0 σ B Q E g => by
  refine to_S (pe_or pe_S pe_S) (h ρ _ q F H σ0 σ B _ E fun r ρ1 v F1 H1 z G => ?_)
  split at z
  · rename_i c
    have rr : RD X.K F1 v (.bl c) := G.rr
    cases rr
    refine ⟨c, rfl, ?_⟩
    cases c with
    | false => exact k ρ1 R z F1 H1 σ0 σ B Q G.er fun r ρ' v F' H' y G' => g r ρ' v F' H' y ⟨G.nx.trans G'.nx, G'.er, G'.rr⟩
    | true => exact g _ _ _ _ _ z G
  · exact z.elim⟩
theorem fe_not (h : FE X a ua) : FE X (.UnaryOp .Not a pos) (uNotV ua) := ⟨fun ρ R q F H σ0 σ B Q E g => by
  refine to_S (pe_not pe_S) (h ρ _ q F H σ0 σ B _ E fun r ρ1 v F1 H1 z G => ?_)
  split at z
  · rename_i c
    have rr : RD X.K F1 v (.bl c) := G.rr
    cases rr
    exact ⟨c, rfl, g _ _ _ _ _ z ⟨G.nx, G.er, .bl _⟩⟩
  · exact z.elim⟩
def uIf (t : UT) (ua ub : UE) : UE := fun ρ R => t ρ fun c ρ1 => if c = true then ua ρ1 R else ub ρ1 R
theorem fe_if {c : Expr} (hc : FT X c t1) (ha : FE X a ua) (hb : FE X b ub) : FE X (.IfExp c a b pos) (uIf t1 ua ub) := ⟨fun ρ R q F H σ0 σ B Q E g => by
  refine to_S (pe_ifExp pt_S pe_S pe_S) (hc ρ _ q F H σ0 σ B _ E fun c ρ1 F1 H1 z G => ?_)
  cases c with
  | true => exact ha ρ1 R z F1 H1 σ0 σ B Q G.er fun r ρ' v F' H' y G' => g r ρ' v F' H' y ⟨G.nx.trans G'.nx, G'.er, G'.rr⟩
  | false => exact hb ρ1 R z F1 H1 σ0 σ B Q G.er fun r ρ' v F' H' y G' => g r ρ' v F' H' y ⟨G.nx.trans G'.nx, G'.er, G'.rr⟩⟩
end

/-! ### lists of expressions whose values stay -/
abbrev UA := List Sl → (List D → List Sl → Prop) → Prop
def tA (X : Cx) (es : List Expr) : TA := fun σ H Q => ∀ pos pins s, Inv X pins σ H s → wpAny (model X.prog X.w) X.A (spliced (backTo pos (starEach es X.env))) (AP X pins σ Q) X.xe s
theorem pa_S {es : List Expr} : PA X es (tA X es) := ⟨fun pos pins s σ H Q I h => h pos pins s I⟩
theorem to_A {es : List Expr} {t : TA} {Q : List V → Hp → Prop} (h : PA X es t) (q : t σ H Q) : tA X es σ H Q := fun pos pins s I => h.run pos pins s σ H Q I q
structure FA (X : Cx) (es : List Expr) (u : UA) : Prop where
  run : ∀ (ρ : List Sl) (R : List D → List Sl → Prop), u ρ R → ∀ (F H : Hp) (σ0 σ : L2.St) (B : Addr → Prop) (Q : List V → Hp → Prop), ER X.K F H σ0 ρ σ B →
    (∀ ds ρ' vs F' H', R ds ρ' → Gd X.K F H F' H' σ0 ρ' σ B → RL X.K F' vs ds → Q vs H') → tA X es σ H Q
instance {X : Cx} {es : List Expr} {u : UA} : CoeFun (FA X es u) (fun _ => ∀ (ρ : List Sl) (R : List D → List Sl → Prop), u ρ R → ∀ (F H : Hp) (σ0 σ : L2.St) (B : Addr → Prop) (Q : List V → Hp → Prop), ER X.K F H σ0 ρ σ B →
  (∀ ds ρ' vs F' H', R ds ρ' → Gd X.K F H F' H' σ0 ρ' σ B → RL X.K F' vs ds → Q vs H') → tA X es σ H Q) := ⟨FA.run⟩
def uNil : UA := fun ρ R => R [] ρ
def uCons (ue : UE) (u : UA) : UA := fun ρ R => ue ρ fun r ρ1 => wv ρ1 r fun d => u (frz ρ1 r) fun ds ρ2 => R (d :: ds) ρ2
theorem fa_nil : FA X [] uNil := ⟨fun ρ R q F H σ0 σ B Q E g => to_A pa_nil (g [] ρ [] F H q ⟨.refl _ _ _, E⟩ .nil)⟩
theorem fa_cons {es : List Expr} {u : UA} (ha : FE X a ua) (hr : FA X es u) (hs : starEach (a :: es) X.env = (false, eval a X.env) :: starEach es X.env := by rfl) : FA X (a :: es) (uCons ua u) := ⟨fun ρ R q F H σ0 σ B Q E g => by
  refine to_A (pa_cons pe_S pa_S hs) (ha ρ _ q F H σ0 σ B _ E fun r ρ1 v F1 H1 z G => ?_)
  obtain ⟨F2, d, n2, E2, rd, z⟩ := G.er.freeze G.rr z
  exact hr _ _ z F2 H1 σ0 σ B _ E2 fun ds ρ' vs F' H' y G' l => g (d :: ds) ρ' (v :: vs) F' H' y ⟨G.nx.trans (n2.trans G'.nx), G'.er⟩ (.cons (rd.mono G'.nx.fz) l)⟩
def uTup (u : UA) : UE := fun ρ R => u ρ fun ds ρ1 => ds.length ≤ sizeLine ∧ R (.val (.tup ds)) ρ1
def uLst (u : UA) : UE := fun ρ R => u ρ fun ds ρ1 => ds.length ≤ sizeLine ∧ R (.own (.lst ds)) ρ1
theorem fe_tup {es : List Expr} {u : UA} {k pos} (h : FA X es u) : FE X (.Tuple es k pos) (uTup u) := ⟨fun ρ R q F H σ0 σ B Q E g => by
  refine to_S (pe_tup pa_S) (h ρ _ q F H σ0 σ B _ E fun ds ρ1 vs F1 H1 ⟨y, z⟩ G l => ⟨by rw [l.len]; exact y, fun p np => ?_⟩)
  obtain ⟨E2, n2⟩ := G.er.laid_val (o := .tup vs) np
  exact g _ _ _ _ _ z ⟨G.nx.trans n2, E2, .tup (.of upd_same) (l.mono n2.fz)⟩⟩
theorem fe_lst {es : List Expr} {u : UA} {pos} (h : FA X es u) : FE X (.List es pos) (uLst u) := ⟨fun ρ R q F H σ0 σ B Q E g => by
  refine to_S (pe_lst pa_S) (h ρ _ q F H σ0 σ B _ E fun ds ρ1 vs F1 H1 ⟨y, z⟩ G l => ⟨by rw [l.len]; exact y, fun p np => ?_⟩)
  exact g _ _ _ _ _ z ⟨G.nx.trans (nx_new G.er np), G.er.laid np, G.er.laid_own np (.lst upd_same l)⟩⟩
end
end YP
set_option maxRecDepth 100000
/-! The yard's pure layer, part 3: targets, statements, loops, comprehensions. -/
namespace YP
open PySem PySem.Spec PyProof.Rows L2

/-! ### targets, what is stored stays -/
abbrev UG := D → List Sl → (List Sl → Prop) → Prop
abbrev UGs := List D → List Sl → (List Sl → Prop) → Prop
def tG (X : Cx) (tg : Expr) : TG := fun v σ H Q => ∀ pins s u, Inv X pins σ H s → RelV v u → wpAny (model X.prog X.w) X.A (assign tg X.env u) (fun _ s' => ∃ σ' H', Inv X pins σ' H' s' ∧ Q σ' H') X.xe s
def tGs (X : Cx) (ts : List Expr) : TGs := fun vs σ H Q => ∀ pins s us, Inv X pins σ H s → Vals vs us → wpAny (model X.prog X.w) X.A (assignInOrder ((assignEach ts X.env).map (·.2)) us) (fun _ s' => ∃ σ' H', Inv X pins σ' H' s' ∧ Q σ' H') X.xe s
theorem pg_S {X : Cx} {tg : Expr} : PG X tg (tG X tg) := ⟨fun pins s σ H v u Q I r h => h pins s u I r⟩
theorem pgs_S {X : Cx} {ts : List Expr} : PGs X ts (tGs X ts) := ⟨fun pins s σ H v u Q I r h => h pins s u I r⟩
theorem to_G {X : Cx} {tg : Expr} {t : TG} {v : V} {σ : L2.St} {H : Hp} {Q : L2.St → Hp → Prop} (h : PG X tg t) (q : t v σ H Q) : tG X tg v σ H Q := fun pins s u I r => h.run pins s σ H v u Q I r q
theorem to_Gs {X : Cx} {ts : List Expr} {t : TGs} {v : List V} {σ : L2.St} {H : Hp} {Q : L2.St → Hp → Prop} (h : PGs X ts t) (q : t v σ H Q) : tGs X ts v σ H Q := fun pins s u I r => h.run pins s σ H v u Q I r q
/-- only own slots are stored: what a comprehension's target keeps -/
def Keeps (vs : Option (List Nat)) (σ σ' : L2.St) : Prop := match vs with
  | none => True
  | some vs => wipe σ' vs = wipe σ vs
structure FG (X : Cx) (vs : Option (List Nat)) (tg : Expr) (w : UG) : Prop where
  run : ∀ (d : D) (ρ : List Sl) (R : List Sl → Prop), w d ρ R → ∀ (F H : Hp) (σ0 σ : L2.St) (B : Addr → Prop) (v : V) (Q : L2.St → Hp → Prop), ER X.K F H σ0 ρ σ B → RD X.K F v d →
    (∀ ρ' σ' F' H', R ρ' → Gd X.K F H F' H' σ0 ρ' σ' B → Keeps vs σ σ' → Q σ' H') → tG X tg v σ H Q
instance (X : Cx) (vs : Option (List Nat)) (tg : Expr) (w : UG) : CoeFun (FG X vs tg w) (fun _ => ∀ (d : D) (ρ : List Sl) (R : List Sl → Prop), w d ρ R → ∀ (F H : Hp) (σ0 σ : L2.St) (B : Addr → Prop) (v : V) (Q : L2.St → Hp → Prop), ER X.K F H σ0 ρ σ B → RD X.K F v d →
  (∀ ρ' σ' F' H', R ρ' → Gd X.K F H F' H' σ0 ρ' σ' B → Keeps vs σ σ' → Q σ' H') → tG X tg v σ H Q) := ⟨FG.run⟩
structure FGs (X : Cx) (vs : Option (List Nat)) (ts : List Expr) (w : UGs) : Prop where
  run : ∀ (ds : List D) (ρ : List Sl) (R : List Sl → Prop), w ds ρ R → ∀ (F H : Hp) (σ0 σ : L2.St) (B : Addr → Prop) (l : List V) (Q : L2.St → Hp → Prop), ER X.K F H σ0 ρ σ B → RL X.K F l ds →
    (∀ ρ' σ' F' H', R ρ' → Gd X.K F H F' H' σ0 ρ' σ' B → Keeps vs σ σ' → Q σ' H') → tGs X ts l σ H Q
instance (X : Cx) (vs : Option (List Nat)) (ts : List Expr) (w : UGs) : CoeFun (FGs X vs ts w) (fun _ => ∀ (ds : List D) (ρ : List Sl) (R : List Sl → Prop), w ds ρ R → ∀ (F H : Hp) (σ0 σ : L2.St) (B : Addr → Prop) (l : List V) (Q : L2.St → Hp → Prop), ER X.K F H σ0 ρ σ B → RL X.K F l ds →
  (∀ ρ' σ' F' H', R ρ' → Gd X.K F H F' H' σ0 ρ' σ' B → Keeps vs σ σ' → Q σ' H') → tGs X ts l σ H Q) := ⟨FGs.run⟩
theorem Keeps.refl {vs : Option (List Nat)} {σ : L2.St} : Keeps vs σ σ := by cases vs <;> first | trivial | rfl
theorem Keeps.trans {vs : Option (List Nat)} {σ σ1 σ2 : L2.St} (h : Keeps vs σ σ1) (k : Keeps vs σ1 σ2) : Keeps vs σ σ2 := by
  cases vs with
  | none => trivial
  | some vs => exact (show wipe σ2 vs = wipe σ1 vs from k).trans h
def uName (i : Nat) : UG := fun d ρ R => R (ρ.set i (.sl false false d))
theorem wipe_set {i : Nat} {x : Option V} : ∀ {vs : List Nat} {σ : L2.St}, i ∈ vs → wipe (σ.set i x) vs = wipe σ vs
  | [], _, h => nomatch h
  | v :: vs, σ, h => by
    show (wipe (σ.set i x) vs).set v none = (wipe σ vs).set v none
    by_cases e : i ∈ vs
    · rw [wipe_set e]
    · have ei : i = v := by
        rcases List.mem_cons.mp h with z | z
        · exact z
        · exact absurd z e
      subst ei
      have c : ∀ (l : List Nat) (σ : L2.St), i ∉ l → wipe (σ.set i x) l = (wipe σ l).set i x := by
        intro l
        induction l with
        | nil => intro σ _; rfl
        | cons a l ih =>
          intro σ h
          show (wipe (σ.set i x) l).set a none = ((wipe σ l).set a none).set i x
          rw [ih σ (fun z => h (List.mem_cons_of_mem _ z)), List.set_comm _ _ (fun z => h (by rw [z]; exact List.mem_cons_self))]
      rw [c vs σ e, List.set_set]
theorem fg_name {X : Cx} {tg : Expr} {i : Nat} {vs : Option (List Nat)} (h : PG X tg (gName i)) (k : ∀ l, vs = some l → i ∈ l := by first | exact fun _ e => by cases e | (intro l e; cases e; decide)) : FG X vs tg (uName i) := ⟨fun d ρ R w F H σ0 σ B v Q E rd g =>
  to_G h (g _ _ F H w ⟨.refl _ _ _, E.set_val rd⟩ (by
    cases vs with
    | none => trivial
    | some l => exact wipe_set (k l rfl)))⟩
def uGNil : UGs := fun ds ρ R => match ds with
  | [] => R ρ
  | _ => False
def uGCons (t : UG) (u : UGs) : UGs := fun ds ρ R => match ds with
  | d :: r => t d ρ fun ρ1 => u r ρ1 R
  | _ => False
theorem fgs_nil {X : Cx} {vs : Option (List Nat)} : FGs X vs [] uGNil := ⟨fun ds ρ R w F H σ0 σ B l Q E rl g => by
  cases rl with
  | nil => exact to_Gs pgs_nil ⟨rfl, g _ _ F H w ⟨.refl _ _ _, E⟩ .refl⟩
  | cons _ _ => exact w.elim⟩
theorem fgs_cons {X : Cx} {vs : Option (List Nat)} {e : Expr} {es : List Expr} {t : UG} {u : UGs} (h1 : FG X vs e t) (h2 : FGs X vs es u)
    (hs : (assignEach (e :: es) X.env).map (·.2) = assign e X.env :: (assignEach es X.env).map (·.2) := by rfl) : FGs X vs (e :: es) (uGCons t u) := ⟨fun ds ρ R w F H σ0 σ B l Q E rl g => by
  cases rl with
  | nil => exact w.elim
  | @cons v l d ds rd rl =>
    exact to_Gs (pgs_cons pg_S pgs_S hs) ⟨v, l, rfl, h1 d ρ _ w F H σ0 σ B v _ E rd fun ρ1 σ1 F1 H1 w1 G1 k1 =>
      h2 ds ρ1 R w1 F1 H1 σ0 σ1 B l Q G1.er (rl.mono G1.nx.fz) fun ρ2 σ2 F2 H2 w2 G2 k2 => g ρ2 σ2 F2 H2 w2 ⟨G1.nx.trans G2.nx, G2.er⟩ (k1.trans k2)⟩⟩
def uGTup (n : Nat) (u : UGs) : UG := fun d ρ R => match d with
  | .tup ds => ds.length = n ∧ u ds ρ R
  | _ => False
theorem fg_tup {X : Cx} {vs : Option (List Nat)} {es : List Expr} {k : Nat} {u : UGs} {n : Nat} {pos : Pos} (hc : X.calm = true) (h : FGs X vs es u)
    (hn : (assignEach es X.env).length = n := by rfl) (hst : (assignEach es X.env).findIdx? (·.1) = none := by rfl) : FG X vs (.Tuple es k pos) (uGTup n u) := ⟨fun d ρ R w F H σ0 σ B v Q E rd g => by
  cases rd with
  | tup h1 h2 => exact to_G (pg_tup hc pgs_S hn hst) ⟨_, _, rfl, sqT_mono E.sub h1, by rw [h2.len]; exact w.1, h _ ρ R w.2 F H σ0 σ B _ Q E h2 g⟩
  | _ => exact w.elim⟩

/-! ### statements -/
structure En where
  nx : List Sl → Prop
  rt : Rv → List Sl → Prop
  bk : List Sl → Prop := fun _ => False
  ct : List Sl → Prop := fun _ => False
abbrev US := En → List Sl → Prop
def tSS (X : Cx) (st : Stmt) : TS := fun D σ H => ∀ pins s, Inv X pins σ H s → wpAny (model X.prog X.w) X.A (exec st X.env) (SP X pins D) X.xe s
def tBs (X : Cx) (sts : List Stmt) : TS := fun D σ H => ∀ pins s, Inv X pins σ H s → wpAny (model X.prog X.w) X.A (execs sts X.env) (SP X pins D) X.xe s
theorem ps_S {X : Cx} {st : Stmt} : PS X st (tSS X st) := ⟨fun pins s σ H D I h => h pins s I⟩
theorem pss_S {X : Cx} {sts : List Stmt} : PSs X sts (tBs X sts) := ⟨fun pins s σ H D I h => h pins s I⟩
theorem to_SS {X : Cx} {st : Stmt} {t : TS} {D : Ends} {σ : L2.St} {H : Hp} (h : PS X st t) (q : t D σ H) : tSS X st D σ H := fun pins s I => h.run pins s σ H D I q
theorem to_Bs {X : Cx} {sts : List Stmt} {t : TS} {D : Ends} {σ : L2.St} {H : Hp} (h : PSs X sts t) (q : t D σ H) : tBs X sts D σ H := fun pins s I => h.run pins s σ H D I q
structure Fol (K : PySem.W.Frag) (F H : Hp) (σ0 : L2.St) (B : Addr → Prop) (E : En) (D : Ends) : Prop where
  nx : ∀ ρ' σ' F' H', E.nx ρ' → Gd K F H F' H' σ0 ρ' σ' B → D.nx σ' H'
  rt : ∀ r ρ' v σ' F' H', E.rt r ρ' → Gt K F H F' H' σ0 ρ' σ' B r v → D.rt v H'
  bk : ∀ ρ' σ' F' H', E.bk ρ' → Gd K F H F' H' σ0 ρ' σ' B → D.bk σ' H'
  ct : ∀ ρ' σ' F' H', E.ct ρ' → Gd K F H F' H' σ0 ρ' σ' B → D.ct σ' H'
theorem Fol.on {K : PySem.W.Frag} {F H F1 H1 : Hp} {σ0 : L2.St} {B : Addr → Prop} {E : En} {D : Ends} (f : Fol K F H σ0 B E D) (n : Nx F H F1 H1 B) : Fol K F1 H1 σ0 B E D :=
  ⟨fun ρ' σ' F' H' e G => f.nx ρ' σ' F' H' e ⟨n.trans G.nx, G.er⟩, fun r ρ' v σ' F' H' e G => f.rt r ρ' v σ' F' H' e ⟨n.trans G.nx, G.er, G.rr⟩,
    fun ρ' σ' F' H' e G => f.bk ρ' σ' F' H' e ⟨n.trans G.nx, G.er⟩, fun ρ' σ' F' H' e G => f.ct ρ' σ' F' H' e ⟨n.trans G.nx, G.er⟩⟩
structure FS (X : Cx) (st : Stmt) (u : US) : Prop where
  run : ∀ (E : En) (ρ : List Sl), u E ρ → ∀ (F H : Hp) (σ0 σ : L2.St) (B : Addr → Prop) (D : Ends), ER X.K F H σ0 ρ σ B → Fol X.K F H σ0 B E D → tSS X st D σ H
instance {X : Cx} {st : Stmt} {u : US} : CoeFun (FS X st u) (fun _ => ∀ (E : En) (ρ : List Sl), u E ρ → ∀ (F H : Hp) (σ0 σ : L2.St) (B : Addr → Prop) (D : Ends), ER X.K F H σ0 ρ σ B → Fol X.K F H σ0 B E D → tSS X st D σ H) := ⟨FS.run⟩
structure FB (X : Cx) (sts : List Stmt) (u : US) : Prop where
  run : ∀ (E : En) (ρ : List Sl), u E ρ → ∀ (F H : Hp) (σ0 σ : L2.St) (B : Addr → Prop) (D : Ends), ER X.K F H σ0 ρ σ B → Fol X.K F H σ0 B E D → tBs X sts D σ H
instance {X : Cx} {sts : List Stmt} {u : US} : CoeFun (FB X sts u) (fun _ => ∀ (E : En) (ρ : List Sl), u E ρ → ∀ (F H : Hp) (σ0 σ : L2.St) (B : Addr → Prop) (D : Ends), ER X.K F H σ0 ρ σ B → Fol X.K F H σ0 B E D → tBs X sts D σ H) := ⟨FB.run⟩
section
variable {X : Cx} {st : Stmt} {rest body : List Stmt} {t u : US} {e : Expr} {ue : UE} {pos : Pos}
def uNext : US := fun E ρ => E.nx ρ
def uSeq (t u : US) : US := fun E ρ => t { E with nx := u E } ρ
theorem fb_nil : FB X [] uNext := ⟨fun E ρ q F H σ0 σ B D er f => to_Bs pss_nil (f.nx ρ σ F H q ⟨.refl _ _ _, er⟩)⟩
theorem fb_cons (h1 : FS X st t) (h2 : FB X rest u) : FB X (st :: rest) (uSeq t u) := ⟨fun E ρ q F H σ0 σ B D er f =>
  to_Bs (pss_cons ps_S pss_S) (h1 _ ρ q F H σ0 σ B _ er ⟨fun ρ' σ' F' H' z G => h2 E ρ' z F' H' σ0 σ' B D G.er (f.on G.nx), f.rt, f.bk, f.ct⟩)⟩
theorem fb_one (h1 : FS X st t) : FB X [st] t := ⟨fun E ρ q F H σ0 σ B D er f => to_Bs (pss_one ps_S) (h1 E ρ q F H σ0 σ B D er f)⟩
def uBreak : US := fun E ρ => E.bk ρ
def uCont : US := fun E ρ => E.ct ρ
theorem fs_pass : FS X (.Pass pos) uNext := ⟨fun E ρ q F H σ0 σ B D er f => to_SS ps_pass (f.nx ρ σ F H q ⟨.refl _ _ _, er⟩)⟩
theorem fs_break : FS X (.Break pos) uBreak := ⟨fun E ρ q F H σ0 σ B D er f => to_SS ps_break (f.bk ρ σ F H q ⟨.refl _ _ _, er⟩)⟩
theorem fs_continue : FS X (.Continue pos) uCont := ⟨fun E ρ q F H σ0 σ B D er f => to_SS ps_continue (f.ct ρ σ F H q ⟨.refl _ _ _, er⟩)⟩
def uDrop (ue : UE) : US := fun E ρ => ue ρ fun _ ρ1 => E.nx ρ1
theorem fs_expr (he : FE X e ue) (hs : swapsWith e none pos.line X.env = pure false := by rfl) : FS X (.Expr e pos) (uDrop ue) := ⟨fun E ρ q F H σ0 σ B D er f =>
  to_SS (ps_expr pe_S hs) (he ρ _ q F H σ0 σ B _ er fun r ρ1 v F1 H1 z G => f.nx ρ1 σ F1 H1 z ⟨G.nx, G.er⟩)⟩
def uRet (ue : UE) : US := fun E ρ => ue ρ E.rt
theorem fs_ret (he : FE X e ue) : FS X (.Return (some e) pos) (uRet ue) := ⟨fun E ρ q F H σ0 σ B D er f =>
  to_SS (ps_ret pe_S) (he ρ _ q F H σ0 σ B _ er fun r ρ1 v F1 H1 z G => f.rt r ρ1 v σ F1 H1 z G)⟩
def uRetN : US := fun E ρ => E.rt (.val .non) ρ
theorem fs_retN : FS X (.Return none pos) uRetN := ⟨fun E ρ q F H σ0 σ B D er f => to_SS ps_retN (f.rt _ ρ _ σ F H q ⟨.refl _ _ _, er, .non⟩)⟩
def uIfS (c : UT) (t u : US) : US := fun E ρ => c ρ fun b ρ1 => if b = true then t E ρ1 else u E ρ1
theorem fs_if {c : Expr} {a b : List Stmt} {tc : UT} (hc : FT X c tc) (ha : FB X a t) (hb : FB X b u) : FS X (.If c a b pos) (uIfS tc t u) := ⟨fun E ρ q F H σ0 σ B D er f => by
  refine to_SS (ps_if pt_S pss_S pss_S) (hc ρ _ q F H σ0 σ B _ er fun c ρ1 F1 H1 z G => ?_)
  cases c with
  | true => exact ha E ρ1 z F1 H1 σ0 σ B D G.er (f.on G.nx)
  | false => exact hb E ρ1 z F1 H1 σ0 σ B D G.er (f.on G.nx)⟩
/-- name = value: the statement's rule, with tS for the value -/
def uSet (i : Nat) (ue : UE) : US := fun E ρ => ue ρ fun r ρ1 => put ρ1 i r E.nx
theorem fs_set {i : Nat} (h : PS X st (tAsg (tS X e) (gName i))) (he : FE X e ue) : FS X st (uSet i ue) := ⟨fun E ρ q F H σ0 σ B D er f =>
  to_SS h (he ρ _ q F H σ0 σ B _ er fun r ρ1 v F1 H1 z G => by
    obtain ⟨F2, ρ2, n2, er2, z⟩ := G.er.put G.rr z
    exact f.nx ρ2 _ F2 H1 z ⟨G.nx.trans n2, er2⟩)⟩
/-- target = value, the value stays -/
def uAsg (ue : UE) (g : UG) : US := fun E ρ => ue ρ fun r ρ1 => wv ρ1 r fun d => g d (frz ρ1 r) E.nx
theorem fs_asg {tg : Expr} {g : UG} (h : PS X st (tAsg (tS X e) (tG X tg))) (he : FE X e ue) (hg : FG X none tg g) : FS X st (uAsg ue g) := ⟨fun E ρ q F H σ0 σ B D er f =>
  to_SS h (he ρ _ q F H σ0 σ B _ er fun r ρ1 v F1 H1 z G => by
    obtain ⟨F2, d, n2, E2, rd, z⟩ := G.er.freeze G.rr z
    exact hg d _ _ z F2 H1 σ0 σ B v _ E2 rd fun ρ' σ' F' H' y G' _ => f.nx ρ' σ' F' H' y ⟨G.nx.trans (n2.trans G'.nx), G'.er⟩)⟩
/-- name op= value -/
def uAug (i : Nat) (o : D → D → (Rv → Prop) → Prop) (ue : UE) : US := fun E ρ => match ρ[i]? with
  | some (.sl false _ d) => ue ρ fun r ρ1 => wv ρ1 r fun e => o d e fun z => put ρ1 i z E.nx
  | _ => False
theorem fs_aug {i : Nat} {op : Operator} {o : D → D → (Rv → Prop) → Prop} (ho : OpS X (inplaceOp op) o) (h : ∀ ti, PIp X op ti → PS X st (tAug i (tS X e) ti)) (he : FE X e ue) : FS X st (uAug i o ue) := ⟨fun E ρ q F H σ0 σ B D er f => by
  obtain ⟨r, hr, k⟩ := ho.ex
  unfold uAug at q
  cases z : ρ[i]? with
  | none => rw [z] at q; exact q.elim
  | some s =>
    cases s with
    | un => rw [z] at q; exact q.elim
    | sl o' p d =>
      rw [z] at q
      cases o' with
      | true => exact q.elim
      | false =>
        obtain ⟨x, e1, rd⟩ := er.fz i p d z
        refine to_SS (h r fun pins s σ H x y v u Q I rx ry t => hr pins s σ H x y v u Q I rx ry t) ⟨x, e1, he ρ _ q F H σ0 σ B _ er fun r1 ρ1 v F1 H1 z G => ?_⟩
        obtain ⟨e, w, z⟩ := G.er.seen G.rr z
        refine k G.er (.inl (rd.mono G.nx.fz)) w z fun r2 v2 F2 H2 z2 G2 => ?_
        obtain ⟨F3, ρ3, n3, er3, z3⟩ := G2.er.put G2.rr z2
        exact f.nx ρ3 _ F3 H2 z3 ⟨G.nx.trans (G2.nx.trans n3), er3⟩⟩

/-! ### while -/
def uWhile (c : UT) (tb : US) : US := fun E ρ => ∃ W : Nat → List Sl → Prop, (∃ m, W m ρ) ∧ ∀ m ρ, W m ρ →
  c ρ fun b ρ1 => if b = true then tb { E with nx := fun ρ2 => ∃ m', m' < m ∧ W m' ρ2, ct := fun ρ2 => ∃ m', m' < m ∧ W m' ρ2, bk := E.nx } ρ1 else E.nx ρ1
theorem fs_while {c : Expr} {tc : UT} (hp : PassesOwn (model X.prog X.w) X.A X.env X.xe) (hc : FT X c tc) (hb : FB X body t) : FS X (.While c body [] pos) (uWhile tc t) := ⟨fun E ρ q F H σ0 σ B D er f => by
  obtain ⟨W, ⟨m0, w0⟩, turn⟩ := q
  refine to_SS (ps_while hp pt_S pss_S) ⟨fun m σ' H' => ∃ ρ' F', W m ρ' ∧ Gd X.K F H F' H' σ0 ρ' σ' B, ⟨m0, ρ, F, w0, .refl _ _ _, er⟩, ?_⟩
  rintro m σ1 H1 ⟨ρ1, F1, w1, G1⟩
  refine hc ρ1 _ (turn m ρ1 w1) F1 H1 σ0 σ1 B _ G1.er fun b ρ2 F2 H2 z G2 => ?_
  cases b with
  | false => exact f.nx ρ2 σ1 F2 H2 z ⟨G1.nx.trans G2.nx, G2.er⟩
  | true =>
    refine ⟨fun σ' H' => ∃ m', m' < m ∧ ∃ ρ' F', W m' ρ' ∧ Gd X.K F H F' H' σ0 ρ' σ' B, fun σ' H' h => h, ?_⟩
    have n2 := G1.nx.trans G2.nx
    have f2 := f.on n2
    exact hb _ ρ2 z F2 H2 σ0 σ1 B _ G2.er ⟨fun ρ' σ' F' H' ⟨m', l, w⟩ G => ⟨m', l, ρ', F', w, n2.trans G.nx, G.er⟩, f2.rt, f2.nx, fun ρ' σ' F' H' ⟨m', l, w⟩ G => ⟨m', l, ρ', F', w, n2.trans G.nx, G.er⟩⟩⟩

/-! ### what is walked -/
abbrev UI := List Sl → (List D → List Sl → Prop) → Prop
def tI (X : Cx) (tg iter : Expr) : TI := fun σ H R => ∀ pins s, Inv X pins σ H s → wpAny (model X.prog X.w) X.A (eval iter X.env) (fun v s1 => wpAny (model X.prog X.w) X.A (pyIter v) (PIE X pins σ tg R) X.xe s1) X.xe s
theorem pi_S {tg iter : Expr} : PI X tg iter (tI X tg iter) := ⟨fun pins s σ H R I h => h pins s I⟩
theorem to_I {tg iter : Expr} {w : TI} {σ : L2.St} {H : Hp} {R : It → Hp → Prop} (h : PI X tg iter w) (q : w σ H R) : tI X tg iter σ H R := fun pins s I => h.run pins s σ H R I q
/-- at a turn it gives the i-th datum: one that stays, or a new one -/
def YD (K : PySem.W.Frag) (F : Hp) (ds : List D) : Nat → Hp → V → Hp → Prop := fun i H x H' => ∃ d, ds[i]? = some d ∧
  ((H' = H ∧ RD K F x d) ∨ ∃ p o, H' = upd H p o ∧ H p = none ∧ ∀ F', Same F F' → F' p = none → RD K (upd F' p o) x d)
abbrev WD (K : PySem.W.Frag) (F : Hp) (J : It) (ds : List D) : Prop := Walk J ds.length (fun H => Same F H) (YD K F ds)
structure FI (X : Cx) (tg iter : Expr) (w : UI) : Prop where
  run : ∀ (ρ : List Sl) (R : List D → List Sl → Prop), w ρ R → ∀ (F H : Hp) (σ0 σ : L2.St) (B : Addr → Prop) (Q : It → Hp → Prop), ER X.K F H σ0 ρ σ B →
    (∀ ds ρ' J F' H', R ds ρ' → Gd X.K F H F' H' σ0 ρ' σ B → WD X.K F' J ds → Q J H') → tI X tg iter σ H Q
instance {X : Cx} {tg iter : Expr} {w : UI} : CoeFun (FI X tg iter w) (fun _ => ∀ (ρ : List Sl) (R : List D → List Sl → Prop), w ρ R → ∀ (F H : Hp) (σ0 σ : L2.St) (B : Addr → Prop) (Q : It → Hp → Prop), ER X.K F H σ0 ρ σ B →
  (∀ ds ρ' J F' H', R ds ρ' → Gd X.K F H F' H' σ0 ρ' σ B → WD X.K F' J ds → Q J H') → tI X tg iter σ H Q) := ⟨FI.run⟩
/-- what it gives, in the state behind -/
theorem yd_er {K : PySem.W.Frag} {F0 F H H' : Hp} {σ0 σ : L2.St} {ρ : List Sl} {B : Addr → Prop} {ds : List D} {i : Nat} {x : V} (E : ER K F H σ0 ρ σ B) (s : Same F0 F) (y : YD K F0 ds i H x H') :
    ∃ d F', ds[i]? = some d ∧ Gd K F H F' H' σ0 ρ σ B ∧ RD K F' x d := by
  obtain ⟨d, e, ⟨rfl, rd⟩ | ⟨p, o, rfl, np, rd⟩⟩ := y
  · exact ⟨d, F, e, ⟨.refl _ _ _, E⟩, rd.mono s⟩
  · obtain ⟨E2, n2⟩ := E.laid_val (o := o) np
    exact ⟨d, _, e, ⟨n2, E2⟩, rd F s (E.free np)⟩
def uFor (w : UI) (g : UG) (tb : US) : US := fun E ρ => w ρ fun ds ρ1 => ∃ W : Nat → List Sl → Prop, W 0 ρ1 ∧ (∀ i d ρ, ds[i]? = some d → W i ρ →
  g d ρ fun ρ2 => tb { E with nx := W (i + 1), ct := W (i + 1), bk := E.nx } ρ2) ∧ ∀ ρ, W ds.length ρ → E.nx ρ
theorem fs_for {tg iter : Expr} {w : UI} {g : UG} (hp : PassesOwn (model X.prog X.w) X.A X.env X.xe) (hc : X.calm = true) (hi : FI X tg iter w) (hg : FG X none tg g) (hb : FB X body t)
    (hs : ∀ x, foldedSetIterable iter X.env x = pure x := by intro _; rfl) : FS X (.For tg iter body [] pos) (uFor w g t) := ⟨fun E ρ q F H σ0 σ B D er f => by
  refine to_SS (ps_for hp hc pi_S pg_S pss_S hs) (hi ρ _ q F H σ0 σ B _ er fun ds ρ1 J F1 H1 ⟨W, w0, turn, done⟩ G1 wd => ?_)
  refine for_it wd (fun i σ' H' => ∃ ρ' F', W i ρ' ∧ Gd X.K F1 H1 F' H' σ0 ρ' σ' B) ⟨ρ1, F1, w0, .refl _ _ _, G1.er⟩ (fun i σ' H' _ ⟨ρ', F', _, G⟩ => G.nx.fz.trans G.er.sub) ?_ (fun σ' H' ⟨ρ', F', w', G⟩ => f.nx ρ' σ' F' H' (done ρ' w') ⟨G1.nx.trans G.nx, G.er⟩)
  rintro i x σ2 H2 H3 hi ⟨ρ2, F2, w2, G2⟩ y
  obtain ⟨d, F3, e, G3, rd⟩ := yd_er G2.er G2.nx.fz y
  refine hg d ρ2 _ (turn i d ρ2 e w2) F3 H3 σ0 σ2 B x _ G3.er rd fun ρ4 σ4 F4 H4 z G4 _ => ?_
  have n4 := G2.nx.trans (G3.nx.trans G4.nx)
  have f4 := f.on (G1.nx.trans n4)
  exact hb _ ρ4 z F4 H4 σ0 σ4 B _ G4.er ⟨fun ρ' σ' F' H' w' G => ⟨ρ', F', w', n4.trans G.nx, G.er⟩, f4.rt, f4.nx, fun ρ' σ' F' H' w' G => ⟨ρ', F', w', n4.trans G.nx, G.er⟩⟩⟩

/-! ### comprehensions -/
def wipeS (ρ : List Sl) : List Nat → List Sl
  | [] => ρ
  | v :: vs => (wipeS ρ vs).set v .un
theorem ER.forget {K : PySem.W.Frag} {F H : Hp} {σ0 σ : L2.St} {ρ : List Sl} {B : Addr → Prop} (E : ER K F H σ0 ρ σ B) (v : Nat) : ER K F H σ0 (ρ.set v .un) σ B := by
  have at_ : ∀ (j : Nat) o p d, (ρ.set v .un)[j]? = some (Sl.sl o p d) → ρ[j]? = some (Sl.sl o p d) ∧ j ≠ v := fun j o p d e => by
    by_cases hj : j = v
    · subst hj
      by_cases hl : j < ρ.length
      · rw [List.getElem?_set_self hl] at e; cases e
      · rw [List.getElem?_eq_none (by rw [List.length_set]; omega)] at e; cases e
    · rw [List.getElem?_set_ne (Ne.symm hj)] at e; exact ⟨e, hj⟩
  exact ⟨by rw [List.length_set]; exact E.len, E.sub, fun i p d h => E.fz i p d (at_ _ _ _ _ h).1, fun i p d h => E.ow i p d (at_ _ _ _ _ h).1, fun i j a p q d e h k => E.inj i j a p q d e (at_ _ _ _ _ h).1 (at_ _ _ _ _ k).1, fun i o d h => E.par i o d (at_ _ _ _ _ h).1, E.out⟩
theorem ER.unset {K : PySem.W.Frag} {F H : Hp} {σ0 σ : L2.St} {ρ : List Sl} {B : Addr → Prop} {v : Nat} {x : Option V} (E : ER K F H σ0 ρ σ B) : ER K F H σ0 (ρ.set v .un) (σ.set v x) B := by
  have E1 := E.forget v
  have at_ : ∀ (j : Nat) o p d, (ρ.set v .un)[j]? = some (Sl.sl o p d) → (σ.set v x)[j]? = σ[j]? := fun j o p d e => by
    by_cases hj : j = v
    · subst hj
      by_cases hl : j < ρ.length
      · rw [List.getElem?_set_self hl] at e; cases e
      · rw [List.getElem?_eq_none (by rw [List.length_set]; omega)] at e; cases e
    · exact List.getElem?_set_ne (Ne.symm hj)
  exact ⟨by rw [List.length_set, List.length_set]; exact E.len, E.sub, fun i p d h => by rw [at_ _ _ _ _ h]; exact E1.fz i p d h, fun i p d h => by rw [at_ _ _ _ _ h]; exact E1.ow i p d h,
    fun i j a p q d e h k hi hj => by rw [at_ _ _ _ _ h] at hi; rw [at_ _ _ _ _ k] at hj; exact E1.inj i j a p q d e h k hi hj, fun i o d h => by rw [at_ _ _ _ _ h]; exact E1.par i o d h, E.out⟩
theorem ER.wipe {K : PySem.W.Frag} {F H : Hp} {σ0 σ : L2.St} {ρ : List Sl} {B : Addr → Prop} (E : ER K F H σ0 ρ σ B) : ∀ vs : List Nat, ER K F H σ0 (wipeS ρ vs) (L2.wipe σ vs) B
  | [] => E
  | v :: vs => (E.wipe vs).unset
theorem wipeS_get {ρ : List Sl} {j : Nat} {o p : Bool} {d : D} : ∀ {vs : List Nat}, (wipeS ρ vs)[j]? = some (Sl.sl o p d) → j ∉ vs
  | [], _ => fun h => nomatch h
  | v :: vs, e => by
    have e' : ((wipeS ρ vs).set v .un)[j]? = some (Sl.sl o p d) := e
    by_cases hj : j = v
    · subst hj
      by_cases hl : j < (wipeS ρ vs).length
      · rw [List.getElem?_set_self hl] at e'; cases e'
      · rw [List.getElem?_eq_none (by rw [List.length_set]; omega)] at e'; cases e'
    · rw [List.getElem?_set_ne (Ne.symm hj)] at e'
      exact fun h => (List.mem_cons.mp h).elim hj (wipeS_get e')
theorem wipe_get {σ : L2.St} {j : Nat} : ∀ {vs : List Nat}, j ∉ vs → (L2.wipe σ vs)[j]? = σ[j]?
  | [], _ => rfl
  | v :: vs, h => by
    show ((L2.wipe σ vs).set v none)[j]? = _
    rw [List.getElem?_set_ne (fun z => h (by rw [z]; exact List.mem_cons_self)), wipe_get fun z => h (List.mem_cons_of_mem _ z)]
/-- the slots within a comprehension's block are forgotten behind it -/
theorem ER.unwipe {K : PySem.W.Frag} {F H : Hp} {σ0 σ : L2.St} {ρ : List Sl} {B : Addr → Prop} {vs : List Nat} (E : ER K F H σ0 (wipeS ρ vs) (L2.wipe σ vs) B) : ER K F H σ0 (wipeS ρ vs) σ B := by
  have at_ : ∀ (j : Nat) o p d, (wipeS ρ vs)[j]? = some (Sl.sl o p d) → (L2.wipe σ vs)[j]? = σ[j]? := fun j o p d e => wipe_get (wipeS_get e)
  exact ⟨by rw [E.len, wipe_length], E.sub, fun i p d h => by rw [← at_ _ _ _ _ h]; exact E.fz i p d h, fun i p d h => by rw [← at_ _ _ _ _ h]; exact E.ow i p d h,
    fun i j a p q d e h k hi hj => by rw [← at_ _ _ _ _ h] at hi; rw [← at_ _ _ _ _ k] at hj; exact E.inj i j a p q d e h k hi hj, fun i o d h => by rw [← at_ _ _ _ _ h]; exact E.par i o d h, E.out⟩
/-- W: by the turn, what is made so far, the slots -/
def uLc (w : UI) (g : UG) (tt : UT) (te : UE) (vs : List Nat) : UE := fun ρ R => w ρ fun ds ρ1 => ∃ W : Nat → List D → List Sl → Prop, W 0 [] (wipeS ρ1 vs) ∧ (∀ i d acc ρ, ds[i]? = some d → W i acc ρ →
  g d ρ fun ρ2 => tt ρ2 fun b ρ3 => if b = true then te ρ3 fun r ρ4 => wv ρ4 r fun e => acc.length < sizeLine ∧ W (i + 1) (acc ++ [e]) (wipeS (frz ρ4 r) vs) else W (i + 1) acc (wipeS ρ3 vs)) ∧
  (∀ i acc ρ, W i acc ρ → ∃ ρ', ρ = wipeS ρ' vs) ∧ ∀ acc ρ, W ds.length acc ρ → R (.own (.lst acc)) ρ
structure FTs (X : Cx) (ifs : List Expr) (u : UT) : Prop where
  run : ∀ (ρ : List Sl) (R : Bool → List Sl → Prop), u ρ R → ∀ (F H : Hp) (σ0 σ : L2.St) (B : Addr → Prop) (Q : Bool → Hp → Prop), ER X.K F H σ0 ρ σ B →
    (∀ b ρ' F' H', R b ρ' → Gd X.K F H F' H' σ0 ρ' σ B → Q b H') → ∀ pins s, Inv X pins σ H s → wpAny (model X.prog X.w) X.A (forIn ifs true fun c r => if r = true then do let ok ← isTrue c X.env (eval c X.env); pure (ForInStep.yield ok) else pure (ForInStep.yield r)) (TP X pins σ Q) X.xe s
instance {X : Cx} {ifs : List Expr} {u : UT} : CoeFun (FTs X ifs u) (fun _ => ∀ (ρ : List Sl) (R : Bool → List Sl → Prop), u ρ R → ∀ (F H : Hp) (σ0 σ : L2.St) (B : Addr → Prop) (Q : Bool → Hp → Prop), ER X.K F H σ0 ρ σ B →
  (∀ b ρ' F' H', R b ρ' → Gd X.K F H F' H' σ0 ρ' σ B → Q b H') → ∀ pins s, Inv X pins σ H s → wpAny (model X.prog X.w) X.A (forIn ifs true fun c r => if r = true then do let ok ← isTrue c X.env (eval c X.env); pure (ForInStep.yield ok) else pure (ForInStep.yield r)) (TP X pins σ Q) X.xe s) := ⟨FTs.run⟩
def uYes : UT := fun ρ R => R true ρ
theorem fts_nil : FTs X [] uYes := ⟨fun ρ R q F H σ0 σ B Q E g pins s I => pts_nil.run pins s σ H Q I (g true ρ F H q ⟨.refl _ _ _, E⟩)⟩
theorem fts_one {c : Expr} {u : UT} (h : FT X c u) : FTs X [c] u := ⟨fun ρ R q F H σ0 σ B Q E g pins s I => (pts_one pt_S).run pins s σ H Q I (h ρ R q F H σ0 σ B Q E g)⟩
def bG (X : Cx) (scope : Scope) (tg : Expr) : TG := fun v σ H Q => ∀ s H0 C cl fp, tG (X.blk s H0 scope (compEnvC scope cl C X.env) fp) tg v σ H Q
def bT (X : Cx) (scope : Scope) (ifs : List Expr) : TT := fun σ H Q => ∀ s0 H0 C cl fp pins s, Inv (X.blk s0 H0 scope (compEnvC scope cl C X.env) fp) pins σ H s → wpAny (model X.prog X.w) (X.blk s0 H0 scope (compEnvC scope cl C X.env) fp).A (forIn ifs true fun c r => if r = true then do let ok ← isTrue c (X.blk s0 H0 scope (compEnvC scope cl C X.env) fp).env (eval c (X.blk s0 H0 scope (compEnvC scope cl C X.env) fp).env); pure (ForInStep.yield ok) else pure (ForInStep.yield r)) (TP (X.blk s0 H0 scope (compEnvC scope cl C X.env) fp) pins σ Q) (X.blk s0 H0 scope (compEnvC scope cl C X.env) fp).xe s
def bE (X : Cx) (scope : Scope) (elt : Expr) : TE := fun σ H Q => ∀ s H0 C cl fp, tS (X.blk s H0 scope (compEnvC scope cl C X.env) fp) elt σ H Q
theorem pg_bS {scope : Scope} {tg : Expr} (s : Shared) (H : Hp) (C : Addr) (cl : List (Str × Addr)) (fp : List Addr) : PG (X.blk s H scope (compEnvC scope cl C X.env) fp) tg (bG X scope tg) := ⟨fun pins s' σ _ v u Q I r h => h s H C cl fp pins s' u I r⟩
theorem pts_bS {scope : Scope} {ifs : List Expr} (s : Shared) (H : Hp) (C : Addr) (cl : List (Str × Addr)) (fp : List Addr) : PTs (X.blk s H scope (compEnvC scope cl C X.env) fp) ifs (bT X scope ifs) := ⟨fun pins s' σ _ Q I h => h s H C cl fp pins s' I⟩
theorem pe_bS {scope : Scope} {elt : Expr} (s : Shared) (H : Hp) (C : Addr) (cl : List (Str × Addr)) (fp : List Addr) : PE (X.blk s H scope (compEnvC scope cl C X.env) fp) elt (bE X scope elt) := ⟨fun pins s' σ _ Q I h => h s H C cl fp pins s' I⟩
theorem lc_tl {elt tg iter : Expr} {ifs : List Expr} {scope : Scope} {own : List (Str × Nat)} {w : UI} {g : UG} {tt : UT} {te : UE}
    (hi : FI X tg iter w) (hK : ∀ (s : Shared) (H : Hp) (C : Addr) (cl : List (Str × Addr)) (fp : List Addr), (X.blk s H scope (compEnvC scope cl C X.env) fp).K = X.K)
    (hg : ∀ (s : Shared) (H : Hp) (C : Addr) (cl : List (Str × Addr)) (fp : List Addr), FG (X.blk s H scope (compEnvC scope cl C X.env) fp) (some (own.map (·.2))) tg g)
    (ht : ∀ (s : Shared) (H : Hp) (C : Addr) (cl : List (Str × Addr)) (fp : List Addr), FTs (X.blk s H scope (compEnvC scope cl C X.env) fp) ifs tt)
    (he : ∀ (s : Shared) (H : Hp) (C : Addr) (cl : List (Str × Addr)) (fp : List Addr), FE (X.blk s H scope (compEnvC scope cl C X.env) fp) elt te)
    {ρ : List Sl} {R : Rv → List Sl → Prop} (q : uLc w g tt te (own.map (·.2)) ρ R) {F H : Hp} {σ0 σ : L2.St} {B : Addr → Prop} {Q : VK} (E : ER X.K F H σ0 ρ σ B)
    (k : ∀ r ρ' v F' H', R r ρ' → Gt X.K F H F' H' σ0 ρ' σ B r v → Q v H') : tLc (tI X tg iter) (bG X scope tg) (bT X scope ifs) (bE X scope elt) (own.map (·.2)) σ H Q := by
  refine hi ρ _ q F H σ0 σ B _ E fun ds ρ1 J F1 H1 ⟨W, w0, turn, form, done⟩ G1 wd D nD => ?_
  have hD : ¬ B D := G1.er.nB nD
  have keepB : ∀ {H : Hp} {o : HO} (c : Addr), B c → upd H D o c = H c := fun c b => upd_ne fun z => by subst z; exact hD b
  refine lc_it wd (fun i H' => ∃ acc vacc ρ' F', W i acc ρ' ∧ ER X.K F' H' σ0 ρ' (L2.wipe σ (own.map (·.2))) (fun c => B c ∨ c = D) ∧ Nx F1 H1 F' H' B ∧ H' D = some (.lst vacc) ∧ RL X.K F' vacc acc) ?_ (fun i H' _ ⟨_, _, _, _, _, E', n', _⟩ => n'.fz.trans E'.sub) ?_ ?_
  · refine ⟨[], [], _, F1, w0, ?_, ?_, upd_same, .nil⟩
    · have E2 := (G1.er.laid (o := .lst []) nD).wipe (own.map (·.2))
      refine ⟨E2.len, E2.sub, E2.fz, fun i p d h => ?_, E2.inj, E2.par, fun c hc => ?_⟩
      · obtain ⟨a, e, ro, n, nb⟩ := E2.ow i p d h
        refine ⟨a, e, ro, n, fun hb => hb.elim nb fun z => ?_⟩
        subst z
        have hs : (L2.wipe σ (own.map (·.2)))[i]? = σ[i]? := wipe_get (wipeS_get h)
        have hj := wipeS_get h
        rw [hs] at e
        -- the slot holds an address that was free
        have gq : ∀ {ρ : List Sl} {vs : List Nat}, i ∉ vs → (wipeS ρ vs)[i]? = ρ[i]? := by
          intro ρ vs
          induction vs with
          | nil => intro _; rfl
          | cons v vs ih =>
            intro hv
            show ((wipeS ρ vs).set v .un)[i]? = _
            rw [List.getElem?_set_ne (fun z => hv (by rw [z]; exact List.mem_cons_self)), ih fun z => hv (List.mem_cons_of_mem _ z)]
        rw [gq hj] at h
        exact G1.er.nS nD i p d h e
      · rcases hc with hc | rfl
        · exact E2.out c hc
        · exact ⟨by rw [upd_same]; exact fun z => (nomatch z), G1.er.free nD⟩
    · exact ⟨Same.refl _, fun c b => keepB c b⟩
  · rintro i x H2 H3 hi ⟨acc, vacc, ρ2, F2, w2, E2, n2, eD, rl⟩ y
    obtain ⟨d, F3, ed, G3, rd⟩ := yd_er E2 n2.fz y
    intro s0 H0 C cl fp
    refine hg s0 H0 C cl fp d ρ2 _ (turn i d acc ρ2 ed w2) F3 H3 σ0 _ _ x _ (by rw [hK]; exact G3.er) (by rw [hK]; exact rd) fun ρ4 σ4 F4 H4 z G4 kp => ?_
    rw [hK] at G4
    have kp' : L2.wipe σ4 (own.map (·.2)) = L2.wipe (L2.wipe σ (own.map (·.2))) (own.map (·.2)) := kp
    have ww : ∀ (l : List Nat) (σ : L2.St), (∀ v ∈ l, v < σ.length → σ[v]? = some none) → L2.wipe σ l = σ := by
      intro l
      induction l with
      | nil => intro σ _; rfl
      | cons v l ih =>
        intro σ h
        show (L2.wipe σ l).set v none = σ
        rw [ih σ fun u hu => h u (List.mem_cons_of_mem _ hu)]
        refine List.ext_getElem? fun j => ?_
        by_cases hj : j = v
        · subst hj
          by_cases hl : j < σ.length
          · rw [List.getElem?_set_self hl, h j List.mem_cons_self hl]
          · rw [List.getElem?_eq_none (by rw [List.length_set]; omega), List.getElem?_eq_none (by omega)]
        · rw [List.getElem?_set_ne (Ne.symm hj)]
    have wn : ∀ (l : List Nat) (σ : L2.St) (v : Nat), v ∈ l → v < σ.length → (L2.wipe σ l)[v]? = some none := by
      intro l
      induction l with
      | nil => intro σ v h; exact nomatch h
      | cons u l ih =>
        intro σ v h hl
        show ((L2.wipe σ l).set u none)[v]? = _
        by_cases e : v = u
        · subst e; exact List.getElem?_set_self (by rw [wipe_length]; exact hl)
        · rw [List.getElem?_set_ne (Ne.symm e)]
          rcases List.mem_cons.mp h with z | z
          · exact absurd z e
          · exact ih σ v z hl
    have w4 : L2.wipe σ4 (own.map (·.2)) = L2.wipe σ (own.map (·.2)) := by
      rw [kp']
      exact ww _ _ fun v hv hl => wn _ _ v hv (by rw [wipe_length] at hl; exact hl)
    refine ⟨w4, ?_⟩
    intro s1 H01 C1 cl1 fp1 pins s' I'
    refine ht s1 H01 C1 cl1 fp1 ρ4 _ z F4 H4 σ0 σ4 _ _ (by rw [hK]; exact G4.er) (fun b ρ5 F5 H5 z5 G5 => ?_) pins s' I'
    rw [hK] at G5
    have n5 : Nx F2 H2 F5 H5 (fun c => B c ∨ c = D) := G3.nx.trans (G4.nx.trans G5.nx)
    have fin : ∀ {ρ6 : List Sl} {F6 H6 : Hp}, ER X.K F6 H6 σ0 ρ6 σ4 (fun c => B c ∨ c = D) → ER X.K F6 H6 σ0 (wipeS ρ6 (own.map (·.2))) (L2.wipe σ (own.map (·.2))) (fun c => B c ∨ c = D) := fun {ρ6 F6 H6} er => by
      have := er.wipe (own.map (·.2))
      rw [w4] at this
      exact this
    have sub5 : ∀ c, B c → B c ∨ c = D := fun c => .inl
    cases b with
    | false =>
      simp only [Bool.false_eq_true, if_false] at z5 ⊢
      exact ⟨acc, vacc, _, F5, z5, fin G5.er, n2.trans (n5.mono sub5), by rw [n5.out D (.inr rfl)]; exact eD, rl.mono n5.fz⟩
    | true =>
      simp only [if_true] at z5 ⊢
      intro s2 H02 C2 cl2 fp2
      refine he s2 H02 C2 cl2 fp2 ρ5 _ z5 F5 H5 σ0 σ4 _ _ (by rw [hK]; exact G5.er) fun r ρ6 yv F6 H6 z6 G6 => ?_
      rw [hK] at G6
      obtain ⟨F7, e7, nn7, E7, rd7, lt7, w7⟩ := G6.er.freeze G6.rr z6
      have n7 : Nx F2 H2 F7 H6 (fun c => B c ∨ c = D) := n5.trans (G6.nx.trans nn7)
      have e6 : H6 D = some (.lst vacc) := by rw [n7.out D (.inr rfl)]; exact eD
      have rl7 := rl.mono n7.fz
      refine ⟨vacc, e6, by rw [rl7.len]; exact lt7, acc ++ [e7], vacc ++ [yv], _, F7, w7, ?_, ?_, upd_same, rl7.snoc rd7⟩
      · have E8 := fin E7
        have fD : F7 D = none := (E7.out D (.inr rfl)).2
        refine ⟨E8.len, fun b u q => by rw [upd_ne (ne_of_none q fD)]; exact E8.sub b u q, E8.fz, fun i p d h => ?_, E8.inj, E8.par, fun c hc => ⟨?_, (E8.out c hc).2⟩⟩
        · obtain ⟨a, ea, ro, n, nb⟩ := E8.ow i p d h
          exact ⟨a, ea, ro.keep (Same.refl _) (upd_ne fun z => nb (.inr z)), n, nb⟩
        · by_cases hc' : c = D
          · subst hc'; rw [upd_same]; exact fun z => (nomatch z)
          · rw [upd_ne hc']; exact (E8.out c hc).1
      · exact ⟨n2.fz.trans n7.fz, fun c b => by rw [keepB c b]; exact (n7.out c (.inl b)).trans (n2.out c b)⟩
  · rintro H' ⟨acc, vacc, ρ', F', w', E', n', eD, rl⟩
    obtain ⟨ρ'', rfl⟩ := form _ _ _ w'
    have E3 := E'.unwipe
    refine k _ _ _ F' H' (done acc _ w') ⟨G1.nx.trans n', ⟨E3.len, E3.sub, E3.fz, fun i p d h => let ⟨a, e, x, y, z⟩ := E3.ow i p d h; ⟨a, e, x, y, fun b => z (.inl b)⟩, E3.inj, E3.par, fun c b => E3.out c (.inl b)⟩, D, rfl, .lst eD rl, (E3.out D (.inr rfl)).2, hD, fun i p e h z => ?_⟩
    obtain ⟨a, e2, _, _, nb⟩ := E3.ow i p e h
    rw [z] at e2; cases e2
    exact nb (.inr rfl)
theorem fe_lc {elt tg iter : Expr} {ifs : List Expr} {scope : Scope} {own : List (Str × Nat)} {pos : Pos} {w : UI} {g : UG} {tt : UT} {te : UE} (hc : X.calm = true) (hN : X.N.Nodup) (hi : FI X tg iter w) (ok : BlkOk X.N X.env.scope scope own)
    (hg : ∀ (s : Shared) (H : Hp) (C : Addr) (cl : List (Str × Addr)) (fp : List Addr), FG (X.blk s H scope (compEnvC scope cl C X.env) fp) (some (own.map (·.2))) tg g)
    (ht : ∀ (s : Shared) (H : Hp) (C : Addr) (cl : List (Str × Addr)) (fp : List Addr), FTs (X.blk s H scope (compEnvC scope cl C X.env) fp) ifs tt)
    (he : ∀ (s : Shared) (H : Hp) (C : Addr) (cl : List (Str × Addr)) (fp : List Addr), FE (X.blk s H scope (compEnvC scope cl C X.env) fp) elt te) (hs : ∀ x, foldedSetIterable iter X.env x = pure x := by intro _; rfl) :
    FE X (.ListComp elt [⟨tg, iter, ifs, 0⟩] scope pos) (uLc w g tt te (own.map (·.2))) := ⟨fun ρ R q F H σ0 σ B Q E k =>
  to_S (pe_lc hc hN pi_S ok pg_bS pts_bS pe_bS hs)
    (lc_tl hi (fun _ _ _ _ _ => rfl) hg ht he q E k)⟩
/-- name = [..] on one line -/
theorem fs_setLc {i : Nat} {y : Str} {py : Pos} {elt tg iter : Expr} {ifs : List Expr} {scope : Scope} {own : List (Str × Nat)} {pos spos : Pos} {w : UI} {g : UG} {tt : UT} {te : UE} (hc : X.calm = true) (hN : X.N.Nodup) (hy : X.N[i]? = some y) (hyl : X.env.scope.names.lookup y = some .local)
    (hsw : swapsWith (.ListComp elt [⟨tg, iter, ifs, 0⟩] scope pos) (some (.Name y py)) spos.line X.env = pure true) (hi : FI X tg iter w) (ok : BlkOk X.N X.env.scope scope own)
    (hg : ∀ (s : Shared) (H : Hp) (C : Addr) (cl : List (Str × Addr)) (fp : List Addr), FG (X.blk s H scope (compEnvC scope cl C X.env) fp) (some (own.map (·.2))) tg g)
    (ht : ∀ (s : Shared) (H : Hp) (C : Addr) (cl : List (Str × Addr)) (fp : List Addr), FTs (X.blk s H scope (compEnvC scope cl C X.env) fp) ifs tt)
    (he : ∀ (s : Shared) (H : Hp) (C : Addr) (cl : List (Str × Addr)) (fp : List Addr), FE (X.blk s H scope (compEnvC scope cl C X.env) fp) elt te) (hs : ∀ x, foldedSetIterable iter X.env x = pure x := by intro _; rfl) :
    FS X (.Assign [.Name y py] (.ListComp elt [⟨tg, iter, ifs, 0⟩] scope pos) spos) (uSet i (uLc w g tt te (own.map (·.2)))) := ⟨fun E ρ q F H σ0 σ B D er f => by
  refine to_SS (ps_setLc hc hN hy hyl hsw pi_S ok pg_bS pts_bS pe_bS hs) ?_
  refine lc_tl hi (fun _ _ _ _ _ => rfl) hg ht he q er fun r ρ1 v F1 H1 z G => ?_
  obtain ⟨F2, ρ2, n2, er2, z⟩ := G.er.put G.rr z
  exact f.nx ρ2 _ F2 H1 z ⟨G.nx.trans n2, er2⟩⟩

/-! ### what is walked: lists, tuples, texts, ranges -/
def uItL (u : UE) : UI := fun ρ R => u ρ fun r ρ1 => wv ρ1 r fun d => match d with
  | .lst l => R l (frz ρ1 r)
  | _ => False
def uItT (u : UE) : UI := fun ρ R => u ρ fun r ρ1 => wv ρ1 r fun d => match d with
  | .tup l => R l (frz ρ1 r)
  | _ => False
def uItS (u : UE) : UI := fun ρ R => u ρ fun r ρ1 => match r with
  | .val (.str x) => R (x.cps.toList.map fun c => .str ⟨#[c]⟩) ρ1
  | _ => False
theorem wd_at {K : PySem.W.Frag} {F : Hp} {J : It} {vs : List V} {ds : List D} {G : Hp → Prop} (w : Walk J vs.length G (YAt vs)) (hG : ∀ H, Same F H → G H) (l : RL K F vs ds) : WD K F J ds := by
  have e := l.len
  rw [e] at w
  exact w.mono hG fun i H x H' hi s ⟨e1, e2⟩ => by
    obtain ⟨d, e3, rd⟩ := l.get e2
    exact ⟨d, e3, .inl ⟨e1, rd⟩⟩
theorem fi_list {tg iter : Expr} {u : UE} (h : FE X iter u) : FI X tg iter (uItL u) := ⟨fun ρ R q F H σ0 σ B Q E g => by
  refine to_I (pi_list pe_S) (h ρ _ q F H σ0 σ B _ E fun r ρ1 v F1 H1 z G => ?_)
  obtain ⟨F2, d, n2, E2, rd, z⟩ := G.er.freeze G.rr z
  cases rd with
  | @lst a vs ds h1 l => exact ⟨a, rfl, ⟨vs, .of (E2.sub _ _ h1)⟩, g _ _ _ F2 H1 z ⟨G.nx.trans n2, E2⟩ (wd_at walk_list (fun H s => .of (s _ _ h1)) l)⟩
  | _ => exact z.elim⟩
theorem fi_tup {tg iter : Expr} {u : UE} (h : FE X iter u) : FI X tg iter (uItT u) := ⟨fun ρ R q F H σ0 σ B Q E g => by
  refine to_I (pi_tup pe_S) (h ρ _ q F H σ0 σ B _ E fun r ρ1 v F1 H1 z G => ?_)
  obtain ⟨F2, d, n2, E2, rd, z⟩ := G.er.freeze G.rr z
  cases rd with
  | @tup a vs ds h1 l => exact ⟨a, rfl, ⟨vs, sqT_mono E2.sub h1⟩, g _ _ _ F2 H1 z ⟨G.nx.trans n2, E2⟩ (wd_at walk_tup (fun H s => sqT_mono s h1) l)⟩
  | _ => exact z.elim⟩
theorem fi_str {tg iter : Expr} {u : UE} (h : FE X iter u) : FI X tg iter (uItS u) := ⟨fun ρ R q F H σ0 σ B Q E g => by
  refine to_I (pi_str pe_S) (h ρ _ q F H σ0 σ B _ E fun r ρ1 v F1 H1 z G => ?_)
  split at z
  · rename_i x
    have rr : RD X.K F1 v (.str x) := G.rr
    cases rr
    refine ⟨x, rfl, g _ _ _ F1 H1 z ⟨G.nx, G.er⟩ ?_⟩
    have w := walk_str (z := x)
    have e : x.cps.size = (x.cps.toList.map fun c => D.str ⟨#[c]⟩).length := by simp
    rw [e] at w
    refine w.mono (fun _ _ => trivial) fun i H x' H' hi s ⟨e1, c, e2, e3⟩ => ⟨.str ⟨#[c]⟩, ?_, .inl ⟨e1, by rw [e3]; exact .str _⟩⟩
    rw [List.getElem?_map, Array.getElem?_toList, e2]; rfl
  · exact z.elim⟩
def intsD (lo : Int) (n : Nat) : List D := (List.range n).map fun (i : Nat) => D.int (lo + (i : Int))
def uRng1 (u : UA) : UI := fun ρ R => u ρ fun ds ρ1 => match ds with
  | [.int j] => -(2 ^ 62) ≤ j ∧ j < 2 ^ 62 ∧ R (intsD 0 j.toNat) ρ1
  | _ => False
def uRng2 (u : UA) : UI := fun ρ R => u ρ fun ds ρ1 => match ds with
  | [.int i, .int j] => (-(2 ^ 62) ≤ i ∧ i < 2 ^ 62 ∧ -(2 ^ 62) ≤ j ∧ j < 2 ^ 62) ∧ R (intsD i (j - i).toNat) ρ1
  | _ => False
theorem wd_ints {K : PySem.W.Frag} {F : Hp} {lo : Int} {n : Nat} : WD K F (Itr lo n) (intsD lo n) := by
  have w := walk_range (lo := lo) (n := n)
  have e : n = (intsD lo n).length := by simp [intsD]
  have w' : Walk (Itr lo n) (intsD lo n).length (fun _ => True) (YFn fun i => V.int (lo + (i : Nat))) := by rw [← e]; exact w
  refine w'.mono (fun _ _ => trivial) fun i H x H' hi s ⟨e1, e2⟩ => ⟨.int (lo + (i : Nat)), ?_, .inl ⟨e1, by rw [e2]; exact .int _⟩⟩
  rw [← e] at hi
  simp [intsD, hi]
theorem fi_range1 {tg a : Expr} {u : UA} {p pos : Pos} (hg : Gl X "range") (hm : X.mg "range" = none) (ha : FA X [a] u) (hs : starEach [a] X.env = [(false, eval a X.env)] := by rfl) : FI X tg (.Call (.Name "range" p) [a] [] pos) (uRng1 u) := ⟨fun ρ R q F H σ0 σ B Q E g => by
  refine to_I (pi_range1 hg hm pa_S hs) (ha ρ _ q F H σ0 σ B _ E fun ds ρ1 vs F1 H1 z G l => ?_)
  split at z
  · rename_i j
    cases l with
    | cons l1 l2 =>
      cases l1; cases l2
      exact ⟨j, rfl, z.1, z.2.1, g _ _ _ F1 H1 z.2.2 G wd_ints⟩
  · exact z.elim⟩
theorem fi_range2 {tg a b : Expr} {u : UA} {p pos : Pos} (hg : Gl X "range") (hm : X.mg "range" = none) (ha : FA X [a, b] u) (hs : starEach [a, b] X.env = [(false, eval a X.env), (false, eval b X.env)] := by rfl) (hs2 : starEach [b] X.env = [(false, eval b X.env)] := by rfl) :
    FI X tg (.Call (.Name "range" p) [a, b] [] pos) (uRng2 u) := ⟨fun ρ R q F H σ0 σ B Q E g => by
  refine to_I (pi_range2 hg hm pa_S hs hs2) (ha ρ _ q F H σ0 σ B _ E fun ds ρ1 vs F1 H1 z G l => ?_)
  split at z
  · rename_i i j
    cases l with
    | cons l1 l2 =>
      cases l1
      cases l2 with
      | cons l2 l3 =>
        cases l2; cases l3
        exact ⟨i, j, rfl, z.1, g _ _ _ F1 H1 z.2 G wd_ints⟩
  · exact z.elim⟩
/-- enumerate of a list -/
def nums (ds : List D) : List D := (List.range ds.length).map fun (i : Nat) => D.tup [.int (i : Int), ds.getD i .non]
def uEnum (u : UA) : UI := fun ρ R => u ρ fun ds ρ1 => match ds with
  | [.lst l] => R (nums l) ρ1
  | _ => False
theorem fi_enum {e : Expr} {u : UA} {p pos tpos : Pos} {elts : List Expr} {kk : Nat} (hg : Gl X "enumerate") (hm : X.mg "enumerate" = none) (ha : FA X [e] u) (hs : starEach [e] X.env = [(false, eval e X.env)] := by rfl) :
    FI X (.Tuple elts kk tpos) (.Call (.Name "enumerate" p) [e] [] pos) (uEnum u) := ⟨fun ρ R q F H σ0 σ B Q E g => by
  refine to_I (pi_enum hg hm pa_S hs) (ha ρ _ q F H σ0 σ B _ E fun ds ρ1 vs F1 H1 z G l => ?_)
  split at z
  case h_2 => exact z.elim
  rename_i ds
  cases l with
  | cons l0 l9 =>
  cases l9
  cases l0 with
  | @lst a vs _ h1 l =>
    refine ⟨a, vs, rfl, .of (G.er.sub _ _ h1), g _ _ _ F1 H1 z G ?_⟩
    have w := walk_enum (K := X.K) (a := a) (xs := vs)
    have e : vs.length = (nums ds).length := by simp [nums, l.len]
    rw [e] at w
    refine w.mono (fun H s => .of (s _ _ h1)) fun i H x H' hi s ⟨t, x1, y1, e1, e2, e3, e4, e5⟩ => ?_
    obtain ⟨d', ed, rd'⟩ := l.get e5
    have hi' : i < ds.length := (List.getElem?_eq_some_iff.mp ed).1
    refine ⟨.tup [.int (i : Int), d'], ?_, .inr ⟨t, .tup [x1, y1], e3, e2, fun F' s' nF => ?_⟩⟩
    · have ed2 : ds[i] = d' := by
        have := List.getElem?_eq_getElem hi'
        rw [ed] at this
        exact (Option.some.inj this).symm
      simp [nums, hi', ed2]
    · cases e4
      subst e1
      have s2 : Same F' (upd F' t (.tup [.int (i : Nat), y1])) := fun b u q => by rw [upd_ne (ne_of_none q nF)]; exact q
      exact .tup (.of upd_same) (.cons (.int _) (.cons (rd'.mono (s'.trans s2)) .nil))⟩
end
end YP
set_option maxRecDepth 100000
/-! The yard's pure layer, part 4: defs and their calls. -/
namespace YP
open PySem PySem.Spec PyProof.Rows L2

/-! ### arguments: what stays, one's own, what a slot holds -/
def RRs (K : PySem.W.Frag) (F H : Hp) (ρ : List Sl) (σ : L2.St) : (Addr → Prop) → List Rv → List V → Prop
  | _, [], [] => True
  | B, r :: rs, v :: vs => RR K F H ρ σ B r v ∧ RRs K F H ρ σ (hB B r v) rs vs
  | _, _, _ => False
abbrev UR := List Sl → (List Rv → List Sl → Prop) → Prop
structure FR (X : Cx) (es : List Expr) (u : UR) : Prop where
  run : ∀ (ρ : List Sl) (R : List Rv → List Sl → Prop), u ρ R → ∀ (F H : Hp) (σ0 σ : L2.St) (B : Addr → Prop) (Q : List V → Hp → Prop), ER X.K F H σ0 ρ σ B →
    (∀ rs ρ' vs F' H', R rs ρ' → Gd X.K F H F' H' σ0 ρ' σ B → RRs X.K F' H' ρ' σ B rs vs → rs.length = es.length → Q vs H') → tA X es σ H Q
instance {X : Cx} {es : List Expr} {u : UR} : CoeFun (FR X es u) (fun _ => ∀ (ρ : List Sl) (R : List Rv → List Sl → Prop), u ρ R → ∀ (F H : Hp) (σ0 σ : L2.St) (B : Addr → Prop) (Q : List V → Hp → Prop), ER X.K F H σ0 ρ σ B →
  (∀ rs ρ' vs F' H', R rs ρ' → Gd X.K F H F' H' σ0 ρ' σ B → RRs X.K F' H' ρ' σ B rs vs → rs.length = es.length → Q vs H') → tA X es σ H Q) := ⟨FR.run⟩
section
variable {X : Cx} {e a : Expr} {ua : UE} {F H : Hp} {σ0 σ : L2.St} {ρ : List Sl} {B : Addr → Prop}
def uRNil : UR := fun ρ R => R [] ρ
/-- kept as it is -/
def uRRef (ue : UE) (u : UR) : UR := fun ρ R => ue ρ fun r ρ1 => u ρ1 fun rs ρ2 => R (r :: rs) ρ2
/-- it stays from now on -/
def uRVal (ue : UE) (u : UR) : UR := fun ρ R => ue ρ fun r ρ1 => wv ρ1 r fun d => u (frz ρ1 r) fun rs ρ2 => R (.val d :: rs) ρ2
theorem fr_nil : FR X [] uRNil := ⟨fun ρ R q F H σ0 σ B Q E g => to_A pa_nil (g [] ρ [] F H q ⟨.refl _ _ _, E⟩ trivial rfl)⟩
theorem fr_ref {es : List Expr} {u : UR} (ha : FE X a ua) (hr : FR X es u) (hs : starEach (a :: es) X.env = (false, eval a X.env) :: starEach es X.env := by rfl) : FR X (a :: es) (uRRef ua u) := ⟨fun ρ R q F H σ0 σ B Q E g =>
  to_A (pa_cons pe_S pa_S hs) (ha ρ _ q F H σ0 σ B _ E fun r ρ1 v F1 H1 z G =>
    hr ρ1 _ z F1 H1 σ0 σ (hB B r v) _ (G.er.hold G.rr) fun rs ρ2 vs F2 H2 y G2 l ll =>
      g (r :: rs) ρ2 (v :: vs) F2 H2 y ⟨G.nx.trans (G2.nx.mono hB_sub), G2.er.unhold⟩ ⟨G.rr.held G.er G2.er G2.nx, l⟩ (congrArg (· + 1) ll))⟩
theorem fr_val {es : List Expr} {u : UR} (ha : FE X a ua) (hr : FR X es u) (hs : starEach (a :: es) X.env = (false, eval a X.env) :: starEach es X.env := by rfl) : FR X (a :: es) (uRVal ua u) := ⟨fun ρ R q F H σ0 σ B Q E g =>
  to_A (pa_cons pe_S pa_S hs) (ha ρ _ q F H σ0 σ B _ E fun r ρ1 v F1 H1 z G => by
    obtain ⟨F2, d, n2, E2, rd, z⟩ := G.er.freeze G.rr z
    exact hr _ _ z F2 H1 σ0 σ B _ E2 fun rs ρ3 vs F3 H3 y G3 l ll => g (.val d :: rs) ρ3 (v :: vs) F3 H3 y ⟨G.nx.trans (n2.trans G3.nx), G3.er⟩ ⟨rd.mono G3.nx.fz, l⟩ (congrArg (· + 1) ll))⟩
end

/-- the slots that are handed in -/
def ats : List Rv → List Nat
  | [] => []
  | .at i :: rs => i :: ats rs
  | _ :: rs => ats rs
def slOf (ρ : List Sl) : Rv → Sl
  | .val d => .sl false false d
  | .own d => .sl true false d
  | .at i => match ρ[i]? with
    | some (.sl o _ d) => .sl o false d
    | _ => .un
def wb1 (s : Sl) (t : Option Sl) : Sl := match s, t with
  | .sl o _ d, some (.sl _ p _) => .sl o p d
  | _, _ => .un
/-- the caller's slots behind a call -/
def wb (ρ : List Sl) : List Rv → List Sl → List Sl
  | .at i :: rs, s :: ss => (wb ρ rs ss).set i (wb1 s ρ[i]?)
  | _ :: rs, _ :: ss => wb ρ rs ss
  | _, _ => ρ
abbrev UF := List Sl → (Rv → List Sl → Prop) → Prop
/-- the promise of a def: slots of its parameters in, the result and these slots out -/
def PSp (K : PySem.W.Frag) (n : Nat) (u : UF) : Sp := fun vs H Q _ => ∃ ρ F B R, ρ.length = n ∧ vs.length = n ∧ ER K F H [] ρ (vs.map some) B ∧ u ρ R ∧
  ∀ r ρ' v F' H', R r ρ' → Nx F H F' H' B → ER K F' H' [] ρ' (vs.map some) B → RR K F' H' ρ' (vs.map some) B r v → (∀ i, r ≠ .at i) → Q v H'
def uCall (u : UF) (ua : UR) : UE := fun ρ R => ua ρ fun rs ρ1 => (ats rs).Nodup ∧ u (rs.map (slOf ρ1)) fun r ss => R r (wb ρ1 rs ss)

section
variable {K : PySem.W.Frag} {F F' H H' : Hp} {σ0 σ : L2.St} {ρ : List Sl} {B : Addr → Prop}
theorem RRs.len : ∀ {B : Addr → Prop} {rs : List Rv} {vs : List V}, RRs K F H ρ σ B rs vs → rs.length = vs.length
  | _, [], [], _ => rfl
  | _, _ :: _, _ :: _, h => congrArg (· + 1) (RRs.len h.2)
  | _, [], _ :: _, h => h.elim
  | _, _ :: _, [], h => h.elim
theorem RRs.at_ : ∀ {B : Addr → Prop} {rs : List Rv} {vs : List V} {i : Nat} {r : Rv} {v : V}, RRs K F H ρ σ B rs vs → rs[i]? = some r → vs[i]? = some v → RR K F H ρ σ B r v
  | _, [], _, _, _, _, _, e, _ => nomatch e
  | _, _ :: _, [], _, _, _, h, _, _ => h.elim
  | _, _ :: _, _ :: _, 0, _, _, h, e, k => by cases e; cases k; exact h.1
  | B, r0 :: rs, v0 :: vs, i + 1, r, v, h, e, k => (RRs.at_ (i := i) h.2 e k).weak hB_sub
theorem RRs.apart : ∀ {B : Addr → Prop} {rs : List Rv} {vs : List V} {i j : Nat} {d e : D} {a : Addr}, RRs K F H ρ σ B rs vs → i < j → rs[i]? = some (.own d) → rs[j]? = some (.own e) → vs[i]? = some (.ref a) → vs[j]? = some (.ref a) → False
  | _, [], _, _, _, _, _, _, _, _, e, _, _, _ => nomatch e
  | _, _ :: _, [], _, _, _, _, _, h, _, _, _, _, _ => h.elim
  | _, _ :: _, _ :: _, _, 0, _, _, _, _, l, _, _, _, _ => absurd l (Nat.not_lt_zero _)
  | B, r0 :: rs, v0 :: vs, 0, j + 1, d, e, a, h, _, e1, e2, e3, e4 => by
    cases e1; cases e3
    obtain ⟨b, eb, _, _, nb, _⟩ := RRs.at_ (i := j) h.2 e2 e4
    cases eb
    exact nb (.inr rfl)
  | B, r0 :: rs, v0 :: vs, i + 1, j + 1, d, e, a, h, l, e1, e2, e3, e4 => RRs.apart (i := i) (j := j) h.2 (Nat.lt_of_succ_lt_succ l) e1 e2 e3 e4
theorem ats_mem : ∀ {rs : List Rv} {i k : Nat}, rs[k]? = some (.at i) → i ∈ ats rs
  | [], _, _, e => nomatch e
  | r :: rs, i, 0, e => by cases e; exact List.mem_cons_self
  | r :: rs, i, k + 1, e => by
    have h := ats_mem (rs := rs) (i := i) (k := k) e
    cases r <;> first | exact h | exact List.mem_cons_of_mem _ h
theorem ats_inj : ∀ {rs : List Rv} {i k l : Nat}, (ats rs).Nodup → rs[k]? = some (.at i) → rs[l]? = some (.at i) → k = l
  | [], _, _, _, _, e, _ => nomatch e
  | r :: rs, i, 0, 0, _, _, _ => rfl
  | r :: rs, i, 0, l + 1, n, e, f => by
    cases e
    exact absurd (ats_mem (rs := rs) (k := l) f) (List.nodup_cons.mp n).1
  | r :: rs, i, k + 1, 0, n, e, f => by
    cases f
    exact absurd (ats_mem (rs := rs) (k := k) e) (List.nodup_cons.mp n).1
  | r :: rs, i, k + 1, l + 1, n, e, f => by
    have n' : (ats rs).Nodup := by cases r <;> first | exact n | exact (List.nodup_cons.mp n).2
    exact congrArg (· + 1) (ats_inj (rs := rs) n' e f)
theorem wb_len : ∀ (rs : List Rv) (ss : List Sl), (wb ρ rs ss).length = ρ.length
  | [], _ => rfl
  | r :: rs, [] => by cases r <;> rfl
  | r :: rs, s :: ss => by
    cases r with
    | «at» i => show ((wb ρ rs ss).set i _).length = _; rw [List.length_set, wb_len rs ss]
    | val d => exact wb_len rs ss
    | own d => exact wb_len rs ss
theorem wb_out : ∀ {rs : List Rv} {ss : List Sl} {j : Nat}, j ∉ ats rs → (wb ρ rs ss)[j]? = ρ[j]?
  | [], _, _, _ => rfl
  | r :: rs, [], _, _ => by cases r <;> rfl
  | r :: rs, s :: ss, j, h => by
    cases r with
    | «at» i =>
      show ((wb ρ rs ss).set i _)[j]? = _
      have hj : j ≠ i := fun z => h (by rw [z]; exact List.mem_cons_self)
      rw [List.getElem?_set_ne (Ne.symm hj)]
      exact wb_out fun z => h (List.mem_cons_of_mem _ z)
    | val d => exact wb_out (rs := rs) h
    | own d => exact wb_out (rs := rs) h
theorem wb_in : ∀ {rs : List Rv} {ss : List Sl} {j k : Nat} {s : Sl}, (ats rs).Nodup → rs[k]? = some (.at j) → ss[k]? = some s → j < ρ.length → (wb ρ rs ss)[j]? = some (wb1 s ρ[j]?)
  | [], _, _, _, _, _, e, _, _ => nomatch e
  | r :: rs, [], _, _, _, _, _, e, _ => nomatch e
  | r :: rs, s0 :: ss, j, 0, s, n, e, f, l => by
    cases e; cases f
    show ((wb ρ rs ss).set j _)[j]? = _
    rw [List.getElem?_set_self (by rw [wb_len]; exact l)]
  | r :: rs, s0 :: ss, j, k + 1, s, n, e, f, l => by
    have n' : (ats rs).Nodup := by cases r <;> first | exact n | exact (List.nodup_cons.mp n).2
    have h := wb_in (rs := rs) (ss := ss) (k := k) n' e f l
    cases r with
    | «at» i =>
      show ((wb ρ rs ss).set i _)[j]? = _
      have hj : j ≠ i := fun z => by subst z; exact (List.nodup_cons.mp n).1 (ats_mem (rs := rs) (k := k) e)
      rw [List.getElem?_set_ne (Ne.symm hj)]; exact h
    | val d => exact h
    | own d => exact h
/-- an index among those handed in -/
theorem mem_ats : ∀ {rs : List Rv} {j : Nat}, j ∈ ats rs → ∃ k : Nat, rs[k]? = some (Rv.at j)
  | [], _, h => nomatch h
  | r :: rs, j, h => by
    cases r with
    | «at» i =>
      rcases List.mem_cons.mp h with z | z
      · subst z; exact ⟨0, rfl⟩
      · obtain ⟨k, e⟩ := mem_ats (rs := rs) z; exact ⟨k + 1, e⟩
    | val d => obtain ⟨k, e⟩ := mem_ats (rs := rs) h; exact ⟨k + 1, e⟩
    | own d => obtain ⟨k, e⟩ := mem_ats (rs := rs) h; exact ⟨k + 1, e⟩
/-- what the callee may not change -/
def bB (B : Addr → Prop) (ρ : List Sl) (σ : L2.St) (rs : List Rv) : Addr → Prop := fun c => B c ∨ ∃ (j : Nat) (p : Bool) (d : D), ρ[j]? = some (Sl.sl true p d) ∧ j ∉ ats rs ∧ σ[j]? = some (some (.ref c))
theorem sl_own {r : Rv} {d : D} {p : Bool} (h : slOf ρ r = .sl true p d) : p = false ∧ (r = .own d ∨ ∃ i q, r = .at i ∧ ρ[i]? = some (.sl true q d)) := by
  cases r with
  | val e => cases h
  | own e => cases h; exact ⟨rfl, .inl rfl⟩
  | «at» i =>
    cases z : ρ[i]? with
    | none => simp only [slOf, z] at h; cases h
    | some s =>
      cases s with
      | un => simp only [slOf, z] at h; cases h
      | sl o q e => simp only [slOf, z] at h; cases h; exact ⟨rfl, .inr ⟨i, q, rfl, z⟩⟩
theorem sl_val {r : Rv} {d : D} {p : Bool} (h : slOf ρ r = .sl false p d) : p = false ∧ (r = .val d ∨ ∃ i q, r = .at i ∧ ρ[i]? = some (.sl false q d)) := by
  cases r with
  | val e => cases h; exact ⟨rfl, .inl rfl⟩
  | own e => cases h
  | «at» i =>
    cases z : ρ[i]? with
    | none => simp only [slOf, z] at h; cases h
    | some s =>
      cases s with
      | un => simp only [slOf, z] at h; cases h
      | sl o q e => simp only [slOf, z] at h; cases h; exact ⟨rfl, .inr ⟨i, q, rfl, z⟩⟩
/-- into the callee -/
theorem ER.into {rs : List Rv} {vs : List V} (E : ER K F H σ0 ρ σ B) (h : RRs K F H ρ σ B rs vs) (n : (ats rs).Nodup) : ER K F H [] (rs.map (slOf ρ)) (vs.map some) (bB B ρ σ rs) := by
  have lv := h.len
  have gv : ∀ (i : Nat) s, (rs.map (slOf ρ))[i]? = some s → ∃ r v, rs[i]? = some r ∧ slOf ρ r = s ∧ vs[i]? = some v ∧ (vs.map some)[i]? = some (some v) := fun i s e => by
    rw [List.getElem?_map] at e
    cases q : rs[i]? with
    | none => rw [q] at e; cases e
    | some r =>
      rw [q] at e
      have hi : i < rs.length := (List.getElem?_eq_some_iff.mp q).1
      have e3 : vs[i]? = some (vs[i]'(by omega)) := List.getElem?_eq_getElem (by omega)
      refine ⟨r, vs[i]'(by omega), rfl, Option.some.inj e, e3, ?_⟩
      rw [List.getElem?_map, e3]; rfl
  have ow : ∀ (i : Nat) (p : Bool) (d : D), (rs.map (slOf ρ))[i]? = some (Sl.sl true p d) → ∃ r a, rs[i]? = some r ∧ vs[i]? = some (.ref a) ∧ (vs.map some)[i]? = some (some (.ref a)) ∧ RO K F H (.ref a) d ∧ F a = none ∧ ¬ B a ∧
      ((r = .own d ∧ ∀ (j : Nat) q e, ρ[j]? = some (Sl.sl true q e) → σ[j]? ≠ some (some (.ref a))) ∨ ∃ j q, r = .at j ∧ ρ[j]? = some (.sl true q d) ∧ σ[j]? = some (some (.ref a))) := fun i p d e => by
    obtain ⟨r, v, e1, e2, e3, e4⟩ := gv i _ e
    have rr := h.at_ e1 e3
    rcases (sl_own e2).2 with rfl | ⟨j, q, rfl, z⟩
    · obtain ⟨a, rfl, ro, x, y, w⟩ := rr
      exact ⟨_, a, e1, e3, e4, ro, x, y, .inl ⟨rfl, w⟩⟩
    · have rr' : σ[j]? = some (some v) := rr
      obtain ⟨a, e5, ro, x, y⟩ := E.ow j q d z
      rw [rr'] at e5; cases e5
      exact ⟨_, a, e1, e3, e4, ro, x, y, .inr ⟨j, q, rfl, z, rr'⟩⟩
  refine ⟨by simp [lv], E.sub, fun i p d e => ?_, fun i p d e => ?_, fun i j a p q d e h1 h2 h3 h4 => ?_, fun i o d e => ?_, fun c hc => ?_⟩
  · obtain ⟨r, v, e1, e2, e3, e4⟩ := gv i _ e
    have rr := h.at_ e1 e3
    rcases (sl_val e2).2 with rfl | ⟨j, q, rfl, z⟩
    · exact ⟨v, e4, rr⟩
    · have rr' : σ[j]? = some (some v) := rr
      obtain ⟨u, e5, rd⟩ := E.fz j q d z
      rw [rr'] at e5; cases e5
      exact ⟨v, e4, rd⟩
  · obtain ⟨r, a, e1, e3, e4, ro, x, y, w⟩ := ow i p d e
    refine ⟨a, e4, ro, x, fun hb => ?_⟩
    rcases hb with hb | ⟨j, q, f, z1, z2, z3⟩
    · exact y hb
    · rcases w with ⟨rfl, w⟩ | ⟨k, q', rfl, z4, z5⟩
      · exact w j q f z1 z3
      · have := E.inj j k a q q' f d z1 z4 z3 z5
        subst this
        exact z2 (ats_mem e1)
  · obtain ⟨r1, a1, e1, e3, e4, ro, x, y, w⟩ := ow i p d h1
    obtain ⟨r2, a2, f1, f3, f4, ro2, x2, y2, w2⟩ := ow j q e h2
    rw [e4] at h3; cases h3
    rw [f4] at h4; cases h4
    rcases w with ⟨rfl, w⟩ | ⟨k, q1, rfl, z1, z2⟩
    · rcases w2 with ⟨rfl, w2⟩ | ⟨l, q2, rfl, z3, z4⟩
      · rcases Nat.lt_trichotomy i j with l | l | l
        · exact (h.apart l e1 f1 e3 f3).elim
        · exact l
        · exact (h.apart l f1 e1 f3 e3).elim
      · exact absurd z4 (w l q2 e z3)
    · rcases w2 with ⟨rfl, w2⟩ | ⟨l, q2, rfl, z3, z4⟩
      · exact absurd z2 (w2 k q1 d z1)
      · have := E.inj k l a q1 q2 d e z1 z3 z2 z4
        subst this
        exact ats_inj n e1 f1
  · obtain ⟨r, v, e1, e2, e3, e4⟩ := gv i _ e
    cases o with
    | false => cases (sl_val e2).1
    | true => cases (sl_own e2).1
  · rcases hc with hc | ⟨j, q, f, z1, z2, z3⟩
    · exact E.out c hc
    · obtain ⟨a, e5, ro, x, y⟩ := E.ow j q f z1
      rw [z3] at e5; cases e5
      obtain ⟨_, o, e6, e7⟩ := ro.there
      cases e6
      exact ⟨by rw [e7]; exact fun z => (nomatch z), x⟩
/-- back from the callee -/
theorem ER.behind {rs : List Rv} {vs : List V} {ss : List Sl} {r : Rv} {v : V} (E : ER K F H σ0 ρ σ B) (h : RRs K F H ρ σ B rs vs) (n : (ats rs).Nodup) (nx : Nx F H F' H' (bB B ρ σ rs))
    (E' : ER K F' H' [] ss (vs.map some) (bB B ρ σ rs)) (rr : RR K F' H' ss (vs.map some) (bB B ρ σ rs) r v) (na : ∀ i, r ≠ .at i) : Gt K F H F' H' σ0 (wb ρ rs ss) σ B r v := by
  have lv := h.len
  have ls : ss.length = rs.length := by rw [E'.len, List.length_map, lv]
  -- a slot behind the call
  have wh : ∀ (j : Nat) o p d, (wb ρ rs ss)[j]? = some (Sl.sl o p d) → (j ∉ ats rs ∧ ρ[j]? = some (.sl o p d)) ∨
      ∃ (k : Nat) (q o' : Bool) (d' : D) (u : V), rs[k]? = some (.at j) ∧ ss[k]? = some (.sl o q d) ∧ ρ[j]? = some (.sl o' p d') ∧ vs[k]? = some u ∧ (vs.map some)[k]? = some (some u) ∧ σ[j]? = some (some u) := fun j o p d e => by
    by_cases hj : j ∈ ats rs
    · obtain ⟨k, ek⟩ := mem_ats hj
      have hk : k < rs.length := (List.getElem?_eq_some_iff.mp ek).1
      have es : ss[k]? = some (ss[k]'(by omega)) := List.getElem?_eq_getElem (by omega)
      have ev : vs[k]? = some (vs[k]'(by omega)) := List.getElem?_eq_getElem (by omega)
      by_cases hl : j < ρ.length
      · rw [wb_in n ek es hl] at e
        have e := Option.some.inj e
        have rj : σ[j]? = some (some (vs[k]'(by omega))) := h.at_ ek ev
        generalize ss[k]'(by omega) = s at es e
        cases s with
        | un => simp only [wb1] at e; cases e
        | sl o2 q2 d2 =>
          cases zr : ρ[j]? with
          | none => rw [zr] at e; simp only [wb1] at e; cases e
          | some t =>
            cases t with
            | un => rw [zr] at e; simp only [wb1] at e; cases e
            | sl o3 p3 d3 =>
              rw [zr] at e; simp only [wb1] at e
              cases e
              exact .inr ⟨k, q2, o3, d3, _, ek, es, rfl, ev, by rw [List.getElem?_map, ev]; rfl, rj⟩
      · rw [List.getElem?_eq_none (by rw [wb_len]; omega)] at e; cases e
    · rw [wb_out hj] at e; exact .inl ⟨hj, e⟩
  have ow : ∀ (j : Nat) p d, (wb ρ rs ss)[j]? = some (Sl.sl true p d) → ∃ a, σ[j]? = some (some (.ref a)) ∧ RO K F' H' (.ref a) d ∧ F' a = none ∧ ¬ B a ∧
      ((j ∉ ats rs ∧ ρ[j]? = some (.sl true p d)) ∨ ∃ (k : Nat) (q : Bool), rs[k]? = some (.at j) ∧ ss[k]? = some (.sl true q d) ∧ (vs.map some)[k]? = some (some (.ref a)) ∧ ¬ bB B ρ σ rs a) := fun j p d e => by
    rcases wh j _ _ _ e with ⟨hj, z⟩ | ⟨k, q, o', d', u, ek, es, _, ev, em, ej⟩
    · obtain ⟨a, e1, ro, x, y⟩ := E.ow j p d z
      have ba : bB B ρ σ rs a := .inr ⟨j, p, d, z, hj, e1⟩
      exact ⟨a, e1, ro.keep nx.fz (nx.out a ba), (E'.out a ba).2, y, .inl ⟨hj, z⟩⟩
    · obtain ⟨a, e1, ro, x, y⟩ := E'.ow k q d es
      rw [em] at e1; cases e1
      exact ⟨a, ej, ro, x, fun hb => y (.inl hb), .inr ⟨k, q, ek, es, em, y⟩⟩
  have er : ER K F' H' σ0 (wb ρ rs ss) σ B := by
    refine ⟨by rw [wb_len]; exact E.len, E'.sub, fun j p d e => ?_, fun j p d e => ?_, fun i j a p q d e h1 h2 h3 h4 => ?_, fun j o d e => ?_, fun c hc => ⟨?_, (E'.out c (.inl hc)).2⟩⟩
    · rcases wh j _ _ _ e with ⟨hj, z⟩ | ⟨k, q, o', d', u, ek, es, _, ev, em, ej⟩
      · obtain ⟨u, e1, rd⟩ := E.fz j p d z
        exact ⟨u, e1, rd.mono nx.fz⟩
      · obtain ⟨u', e1, rd⟩ := E'.fz k q d es
        rw [em] at e1; cases e1
        exact ⟨u, ej, rd⟩
    · obtain ⟨a, x, y, z, w, _⟩ := ow j p d e
      exact ⟨a, x, y, z, w⟩
    · obtain ⟨a1, x1, _, _, _, w1⟩ := ow i p d h1
      obtain ⟨a2, x2, _, _, _, w2⟩ := ow j q e h2
      rw [x1] at h3; cases h3
      rw [x2] at h4; cases h4
      rcases w1 with ⟨n1, z1⟩ | ⟨k, q1, z1, z2, z3, z4⟩
      · rcases w2 with ⟨n2, y1⟩ | ⟨l, q2, y1, y2, y3, y4⟩
        · exact E.inj i j a p q d e z1 y1 x1 x2
        · exact absurd (Or.inr ⟨i, p, d, z1, n1, x1⟩) y4
      · rcases w2 with ⟨n2, y1⟩ | ⟨l, q2, y1, y2, y3, y4⟩
        · exact absurd (Or.inr ⟨j, q, e, y1, n2, x2⟩) z4
        · have := E'.inj k l a q1 q2 d e z2 y2 z3 y3
          subst this
          rw [z1] at y1; cases y1; rfl
    · rcases wh j _ _ _ e with ⟨hj, z⟩ | ⟨k, q, o', d', u, ek, es, z, ev, em, ej⟩
      · exact E.par j o d z
      · exact E.par j o' d' z
    · rw [nx.out c (.inl hc)]; exact (E.out c hc).1
  refine ⟨nx.mono fun c => .inl, er, ?_⟩
  cases r with
  | val d => exact rr
  | «at» i => exact absurd rfl (na i)
  | own d =>
    obtain ⟨a, rfl, ro, x, y, w⟩ := rr
    refine ⟨a, rfl, ro, x, fun hb => y (.inl hb), fun j p e h1 h2 => ?_⟩
    obtain ⟨a1, x1, _, _, _, w1⟩ := ow j p e h1
    rw [x1] at h2; cases h2
    rcases w1 with ⟨n1, z1⟩ | ⟨k, q1, z1, z2, z3, z4⟩
    · exact y (.inr ⟨j, p, e, z1, n1, x1⟩)
    · exact w k q1 e z2 z3
end

/-- a call of a def -/
theorem fe_call {X : Cx} {ea : Expr} {es : List Expr} {pf pos : Pos} {x : Str} {u : UF} {ua : UR} {k : Nat} {f : Addr} {fd : FuncData} {ps : List Str} (Fn : FnOk X.prog X.w X.K X.mg X.base CX0 k f fd ps (PSp X.K ps.length u)) (hr : Room k X.A) (hg : Gl X x) (hm : X.mg x = some (.ref f)) (hk : PySem.W.keepIn X.K (.ref f) = true) (hb : Binds X.K fd ps [])
    (ha : FR X (ea :: es) ua) (hn : (ea :: es).length = ps.length := by rfl) (hdb : (x == ("__debug__" : Str)) = false := by decide) (he : starEach (ea :: es) X.env = (false, eval ea X.env) :: starEach es X.env := by rfl) (hpl : (backTo pos (starEach es X.env)).any (·.1) = false := by rfl) :
    FE X (.Call (.Name x pf) (ea :: es) [] pos) (uCall u ua) := ⟨fun ρ R q F H σ0 σ B Q E g => by
  refine to_S (pe_call Fn hr hg hm hk hb .nil (E := fun _ _ _ => False) pass0 pa_S hdb he hpl) (ha ρ _ q F H σ0 σ B _ E fun rs ρ1 vs F1 H1 ⟨n1, z⟩ G l ll => ?_)
  have ln := ll.trans hn
  have lv := l.len
  refine ⟨_, F1, bB B ρ1 σ rs, _, by rw [List.length_map]; exact ln, by rw [List.length_append, ← lv, ln]; rfl, by rw [List.append_nil]; exact G.er.into l n1, z, fun r ss v F' H' y nx E' rr na => ?_⟩
  rw [List.append_nil] at E' rr
  have G' := G.er.behind l n1 nx E' rr na
  exact g r _ v F' H' y ⟨G.nx.trans G'.nx, G'.er, G'.rr⟩⟩
end YP
set_option maxRecDepth 100000
/-! The yard's pure layer, part 5: a def's body. -/
namespace YP
open PySem PySem.Spec PyProof.Rows L2

def mark : Sl → Sl
  | .sl o _ d => .sl o true d
  | .un => .un
def enter (N : Nat) (ρ : List Sl) : List Sl := ρ.map mark ++ List.replicate (N - ρ.length) .un
def unmark : Sl → Sl
  | .sl o true d => .sl o false d
  | _ => .un
def back : Nat → List Sl → List Sl
  | 0, _ => []
  | n + 1, [] => .un :: back n []
  | n + 1, s :: ρ => unmark s :: back n ρ
/-- a result as it leaves the def -/
def fin (ρ : List Sl) (r : Rv) (k : Rv → List Sl → Prop) : Prop := match r with
  | .at i => match ρ[i]? with
    | some (.sl true false d) => k (.own d) ρ
    | some (.sl true true d) => k (.val d) (ρ.set i (.sl false true d))
    | some (.sl false _ d) => k (.val d) ρ
    | _ => False
  | r => k r ρ
section
variable {K : PySem.W.Frag} {F F' H H' : Hp} {σ0 σ : L2.St} {ρ : List Sl} {B : Addr → Prop} {n : Nat}
theorem back_len : ∀ (n : Nat) (ρ : List Sl), (back n ρ).length = n
  | 0, _ => rfl
  | n + 1, [] => congrArg (· + 1) (back_len n [])
  | n + 1, _ :: ρ => congrArg (· + 1) (back_len n ρ)
theorem back_get {o p : Bool} {d : D} : ∀ {n i : Nat} {ρ : List Sl}, (back n ρ)[i]? = some (Sl.sl o p d) → i < n ∧ p = false ∧ ρ[i]? = some (.sl o true d)
  | 0, _, _, h => nomatch h
  | n + 1, 0, [], h => nomatch h
  | n + 1, i + 1, [], h => by
    obtain ⟨a, b, c⟩ := back_get (n := n) (i := i) (ρ := []) h
    exact nomatch c
  | n + 1, 0, s :: ρ, h => by
    have h : some (unmark s) = some (Sl.sl o p d) := h
    have h := Option.some.inj h
    cases s with
    | un => cases h
    | sl o' p' d' => cases p' <;> cases h; exact ⟨by omega, rfl, rfl⟩
  | n + 1, i + 1, s :: ρ, h => by
    obtain ⟨a, b, c⟩ := back_get (n := n) (i := i) (ρ := ρ) h
    exact ⟨by omega, b, c⟩
theorem ER.back (E : ER K F H σ0 ρ σ B) (hn : n = σ0.length) : ER K F H [] (back n ρ) σ0 B := by
  refine ⟨by rw [back_len]; exact hn, E.sub, fun i p d h => ?_, fun i p d h => ?_, fun i j a p q d e h1 h2 h3 h4 => ?_, fun i o d h => ?_, E.out⟩
  · obtain ⟨_, _, z⟩ := back_get h
    rw [← E.par i _ d z]
    exact E.fz i true d z
  · obtain ⟨_, _, z⟩ := back_get h
    rw [← E.par i _ d z]
    exact E.ow i true d z
  · obtain ⟨_, _, z⟩ := back_get h1
    obtain ⟨_, _, y⟩ := back_get h2
    rw [← E.par i _ d z] at h3
    rw [← E.par j _ e y] at h4
    exact E.inj i j a _ _ d e z y h3 h4
  · obtain ⟨_, y, _⟩ := back_get h
    cases y
theorem fin_ok {r : Rv} {v : V} {k : Rv → List Sl → Prop} (E : ER K F H σ0 ρ σ B) (rr : RR K F H ρ σ B r v) (h : fin ρ r k) (hn : n = σ0.length) :
    ∃ F' r' ρ', k r' ρ' ∧ Nx F H F' H B ∧ ER K F' H [] (back n ρ') σ0 B ∧ RR K F' H (back n ρ') σ0 B r' v ∧ ∀ i, r' ≠ .at i := by
  cases r with
  | val d => exact ⟨F, _, ρ, h, .refl _ _ _, E.back hn, rr, fun _ z => nomatch z⟩
  | own d =>
    refine ⟨F, _, ρ, h, .refl _ _ _, E.back hn, ?_, fun _ z => nomatch z⟩
    obtain ⟨a, x, ro, y, z, w⟩ := rr
    refine ⟨a, x, ro, y, z, fun i p e q => ?_⟩
    obtain ⟨_, _, z⟩ := back_get q
    rw [← E.par i _ e z]
    exact w i _ e z
  | «at» i =>
    unfold fin at h
    dsimp only at h
    have rr' : σ[i]? = some (some v) := rr
    cases q : ρ[i]? with
    | none => rw [q] at h; exact h.elim
    | some s =>
      cases s with
      | un => rw [q] at h; exact h.elim
      | sl o p d =>
        cases o with
        | false =>
          rw [q] at h
          obtain ⟨u, e, rd⟩ := E.fz i p d q
          rw [rr'] at e; cases e
          refine ⟨F, _, ρ, ?_, .refl _ _ _, E.back hn, (show RR K F H _ _ B (.val d) v from rd), fun _ z => nomatch z⟩
          cases p <;> exact h
        | true =>
          cases p with
          | false =>
            rw [q] at h
            obtain ⟨a, e, ro, x, y⟩ := E.ow i _ d q
            rw [rr'] at e; cases e
            refine ⟨F, _, ρ, h, .refl _ _ _, E.back hn, ⟨a, rfl, ro, x, y, fun j p e z w => ?_⟩, fun _ z => nomatch z⟩
            obtain ⟨_, _, z2⟩ := back_get z
            rw [← E.par j _ e z2] at w
            have := E.inj j i a _ _ e d z2 q w rr'
            subst this
            rw [z2] at q; cases q
          | true =>
            rw [q] at h
            have w : wv ρ (.at i) (fun e => e = d) := by simp only [wv, q]
            obtain ⟨F', d', nx, E', rd, rfl⟩ := E.freeze rr w
            have fe : frz ρ (.at i) = ρ.set i (Sl.sl false true d') := by simp only [frz, q]
            rw [fe] at E'
            exact ⟨F', _, _, h, nx, E'.back hn, (show RR K F' H _ _ B (.val d') v from rd), fun _ z => nomatch z⟩
theorem ER.enter {vs : List V} {N : List Str} (E : ER K F H [] ρ (vs.map some) B) : ER K F H (vs.map some) (enter N.length ρ) (L2.start N vs) B := by
  have lv : ρ.length = vs.length := by have := E.len; rwa [List.length_map] at this
  have g : ∀ (i : Nat) o p d, (YP.enter N.length ρ)[i]? = some (Sl.sl o p d) → i < ρ.length ∧ (∃ p', ρ[i]? = some (.sl o p' d)) ∧ (L2.start N vs)[i]? = (vs.map some)[i]? := fun i o p d e => by
    unfold YP.enter at e
    by_cases hi : i < ρ.length
    · rw [List.getElem?_append_left (by rw [List.length_map]; exact hi), List.getElem?_map] at e
      cases q : ρ[i]? with
      | none => rw [q] at e; cases e
      | some s =>
        rw [q] at e
        have e := Option.some.inj e
        cases s with
        | un => cases e
        | sl o' p' d' =>
          cases e
          refine ⟨hi, ⟨p', rfl⟩, ?_⟩
          unfold L2.start
          rw [List.getElem?_append_left (by rw [List.length_map]; omega)]
    · rw [List.getElem?_append_right (by rw [List.length_map]; omega), List.getElem?_replicate] at e
      split at e <;> cases e
  refine ⟨?_, E.sub, fun i p d h => ?_, fun i p d h => ?_, fun i j a p q d e h1 h2 h3 h4 => ?_, fun i o d h => (g _ _ _ _ h).2.2, E.out⟩
  · unfold YP.enter L2.start
    rw [List.length_append, List.length_append, List.length_map, List.length_map, List.length_replicate, List.length_replicate, lv]
  · obtain ⟨_, ⟨p', z⟩, y⟩ := g _ _ _ _ h
    rw [y]; exact E.fz i p' d z
  · obtain ⟨_, ⟨p', z⟩, y⟩ := g _ _ _ _ h
    rw [y]; exact E.ow i p' d z
  · obtain ⟨_, ⟨p', z⟩, y⟩ := g _ _ _ _ h1
    obtain ⟨_, ⟨q', z2⟩, y2⟩ := g _ _ _ _ h2
    rw [y] at h3; rw [y2] at h4
    exact E.inj i j a _ _ d e z z2 h3 h4
end
theorem ru {k : Nat} {A : Around} (hr : Room k A) : A.units + 64 < cLine := by have := hr.un; omega
theorem rv {k : Nat} {A : Around} (hr : Room k A) : A.units + 65 < cLine := by have := hr.un; omega
theorem rk {k : Nat} {A : Around} (hr : Room k A) : A.units + 1 < cLine := by have := hr.un; omega
/-- the end of a def's body -/
def enEnd (n : Nat) (R : Rv → List Sl → Prop) : En := { nx := fun ρe => R (.val .non) (back n ρe), rt := fun r ρe => fin ρe r fun r ρ2 => R r (back n ρ2) }
section
variable {P : Program} {w : World} {K : PySem.W.Frag} {mg : Str → Option Value} {base : Heap}
/-- THE RULE for a def -/
theorem fn_mk {x qual : Str} {st : Stmt} {f : Addr} {fd : FuncData} {N ps : List Str} {k : Nat} {u : UF} (Fn : Fun K x qual st f fd) (S : FnScope N ps (defScope st)) (hN : ps.length ≤ N.length)
    (body : ∀ (cdv : Value) (A : Around) (outer : List Env) (s : Shared) (H : Hp) (E : XK), Room k (A.deeper (envOfC qual (defScope st) s.heap.objs.size f cdv)) →
      ∃ ub, FB (cxOf CX0 P w K mg base N qual (defScope st) f cdv A outer s H E).nox (defBody st) ub ∧ ∀ ρ R, ρ.length = ps.length → u ρ R → ub (enEnd ps.length R) (enter N.length ρ)) : FnOk P w K mg base CX0 (k + 1) f fd ps (PSp K ps.length u) := by
  refine Fn.ok S (fun vs H Q E h => ?_) fun cdv A outer s H vs Q E hr h => ?_
  · obtain ⟨ρ, F, B, R, _, l, _⟩ := h; exact l
  · obtain ⟨ρ, F, B, R, l1, l2, er, hu, g⟩ := h
    obtain ⟨ub, hub, go⟩ := body cdv A outer s H E hr
    refine ⟨_, pss_S, hub _ _ (go ρ R l1 hu) F H (vs.map some) _ B _ er.enter ⟨fun ρ' σ' F' H' e G => ?_, fun r ρ' v σ' F' H' e G => ?_, fun _ _ _ _ e _ => e.elim, fun _ _ _ _ e _ => e.elim⟩⟩
    · have hn : ps.length = (vs.map some).length := by rw [List.length_map]; exact l2.symm
      exact g _ _ _ F' H' e G.nx (G.er.back hn) .non (fun _ z => nomatch z)
    · have hn : ps.length = (vs.map some).length := by rw [List.length_map]; exact l2.symm
      obtain ⟨F2, r2, ρ2, hk, nx, er2, rr2, na⟩ := fin_ok (k := fun r ρ2 => R r (YP.back ps.length ρ2)) G.er G.rr e hn
      exact g r2 _ v F2 H' hk (G.nx.trans nx) er2 rr2 na
end
end YP
set_option maxRecDepth 100000
/-! The yard's pure layer, part 6: operators, subscripts, slices. -/
namespace YP
open PySem PySem.Spec PyProof.Rows L2

theorem OpS.of {X : Cx} {f : Value → Value → Sem Value} {o : D → D → (Rv → Prop) → Prop} {r : R2} (h : OpR X f r) (k : ∀ {F H : Hp} {σ0 σ : L2.St} {ρ : List Sl} {B : Addr → Prop} {x y : V} {d e : D} {T : Rv → Prop} {Q : VK}, ER X.K F H σ0 ρ σ B → RW X.K F H x d → RW X.K F H y e → o d e T →
    (∀ z v F' H', T z → Gt X.K F H F' H' σ0 ρ σ B z v → Q v H') → r x y H Q) : OpS X f o := ⟨⟨r, h, k⟩⟩
section
variable {K : PySem.W.Frag} {F H : Hp} {σ0 σ : L2.St} {ρ : List Sl} {B : Addr → Prop} {T : Rv → Prop} {Q : VK}
/-- a result that is plain -/
theorem gt_val {d : D} {v : V} (E : ER K F H σ0 ρ σ B) (g : ∀ z v F' H', T z → Gt K F H F' H' σ0 ρ σ B z v → Q v H') (t : T (.val d)) (rd : RD K F v d) : Q v H := g _ _ _ _ t ⟨.refl _ _ _, E, rd⟩
/-- a new list -/
theorem gt_lst {vs : List V} {ds : List D} (E : ER K F H σ0 ρ σ B) (g : ∀ z v F' H', T z → Gt K F H F' H' σ0 ρ σ B z v → Q v H') (t : T (.own (.lst ds))) (rl : RL K F vs ds) : ∀ p, H p = none → Q (.ref p) (upd H p (.lst vs)) := fun p np =>
  g _ _ F _ t ⟨nx_new E np, E.laid np, E.laid_own np (.lst upd_same rl)⟩
/-- a new tuple -/
theorem gt_tup {vs : List V} {ds : List D} (E : ER K F H σ0 ρ σ B) (g : ∀ z v F' H', T z → Gt K F H F' H' σ0 ρ σ B z v → Q v H') (t : T (.val (.tup ds))) (rl : RL K F vs ds) : ∀ p, H p = none → Q (.ref p) (upd H p (.tup vs)) := fun p np => by
  obtain ⟨E2, n2⟩ := E.laid_val (o := .tup vs) np
  exact g _ _ _ _ t ⟨n2, E2, .tup (.of upd_same) (rl.mono n2.fz)⟩
/-- a new dict -/
theorem gt_dic {vs : List (Key × V)} {ds : List (Key × D)} (E : ER K F H σ0 ρ σ B) (g : ∀ z v F' H', T z → Gt K F H F' H' σ0 ρ σ B z v → Q v H') (t : T (.own (.dic ds))) (rl : RK K F vs ds) : ∀ p, H p = none → Q (.ref p) (upd H p (.dK vs)) := fun p np =>
  g _ _ F _ t ⟨nx_new E np, E.laid np, E.laid_own np (.dic upd_same rl)⟩
end

/-! ### + -/
def oAdd (d e : D) (T : Rv → Prop) : Prop := match d, e with
  | .int i, .int j => T (.val (.int (i + j)))
  | .str x, .str y => x.length + y.length ≤ sizeLine ∧ T (.val (.str (x ++ y)))
  | .lst xs, .lst ys => xs.length + ys.length ≤ sizeLine ∧ T (.own (.lst (xs ++ ys)))
  | .tup xs, .tup ys => xs.length + ys.length ≤ sizeLine ∧ T (.val (.tup (xs ++ ys)))
  | _, _ => False
theorem os_add {X : Cx} : OpS X (binaryOp .Add) oAdd := .of (OpR.or op_add (OpR.or op_add_str (OpR.or op_cat op_catA))) fun {F H σ0 σ ρ B x y d e T Q} E w1 w2 t g => by
  unfold oAdd at t
  split at t
  · cases w1.int; cases w2.int
    exact .inl ⟨_, _, rfl, rfl, gt_val E g t (.int _)⟩
  · cases w1.str; cases w2.str
    exact .inr (.inl ⟨_, _, rfl, rfl, t.1, gt_val E g t.2 (.str _)⟩)
  · obtain ⟨a, vs, rfl, h1, l1⟩ := w1.lst E.sub
    obtain ⟨b, us, rfl, h2, l2⟩ := w2.lst E.sub
    exact .inr (.inr (.inl ⟨a, b, vs, us, rfl, rfl, h1, h2, by rw [l1.len, l2.len]; exact t.1, gt_lst E g t.2 (l1.app l2)⟩))
  · obtain ⟨a, vs, rfl, h1, l1⟩ := w1.tup E.sub
    obtain ⟨b, us, rfl, h2, l2⟩ := w2.tup E.sub
    refine .inr (.inr (.inr ⟨a, b, vs, us, rfl, rfl, h1, h2, by rw [l1.len, l2.len]; exact t.1, fun e => ?_, fun _ e => ?_, fun _ _ => gt_tup E g t.2 (l1.app l2)⟩))
    · subst e; cases l1
      rcases w2 with w | w
      · exact gt_val E g t.2 w
      · cases w
    · subst e; cases l2
      have t2 := t.2
      rw [List.append_nil] at t2
      rcases w1 with w | w
      · exact gt_val E g t2 w
      · cases w
  · exact t.elim

/-! ### the others on ints -/
def oI (C : Int → Int → Prop) (k : Int → Int → D) (d e : D) (T : Rv → Prop) : Prop := match d, e with
  | .int i, .int j => C i j ∧ T (.val (k i j))
  | _, _ => False
def oI0 (k : Int → Int → D) (d e : D) (T : Rv → Prop) : Prop := match d, e with
  | .int i, .int j => T (.val (k i j))
  | _, _ => False
theorem os_I {X : Cx} {f : Value → Value → Sem Value} {C : Int → Int → Prop} {k : Int → Int → D} {kv : Int → Int → V} (h : OpR X f (rI C kv)) (hk : ∀ F i j, RD X.K F (kv i j) (k i j)) : OpS X f (oI C k) := .of h fun {F H σ0 σ ρ B x y d e T Q} E w1 w2 t g => by
  unfold oI at t
  split at t
  · cases w1.int; cases w2.int
    exact ⟨_, _, rfl, rfl, t.1, gt_val E g t.2 (hk F _ _)⟩
  · exact t.elim
theorem os_I0 {X : Cx} {f : Value → Value → Sem Value} {k : Int → Int → D} {kv : Int → Int → V} (h : OpR X f (rI0 kv)) (hk : ∀ F i j, RD X.K F (kv i j) (k i j)) : OpS X f (oI0 k) := .of h fun {F H σ0 σ ρ B x y d e T Q} E w1 w2 t g => by
  unfold oI0 at t
  split at t
  · cases w1.int; cases w2.int
    exact ⟨_, _, rfl, rfl, gt_val E g t (hk F _ _)⟩
  · exact t.elim
abbrev oSub := oI0 fun i j => .int (i - j)
abbrev oMul := oI CMul fun i j => .int (i * j)
abbrev oMod := oI (fun _ j => 0 < j) fun i j => .int (i % j)
abbrev oDiv := oI CDiv fun i j => .int (i / j)
abbrev oPow := oI Yard.CPowW fun i j => .int (i ^ j.toNat)
abbrev oAnd := oI0 fun i j => .int (Builtin.bitAnd i j)
abbrev oOr := oI0 fun i j => .int (Builtin.bitOr i j)
theorem os_sub {X : Cx} : OpS X (binaryOp .Sub) oSub := os_I0 op_sub fun _ _ _ => .int _
theorem os_mul {X : Cx} : OpS X (binaryOp .Mult) oMul := os_I op_mul fun _ _ _ => .int _
theorem os_mod {X : Cx} : OpS X (binaryOp .Mod) oMod := os_I op_mod fun _ _ _ => .int _
theorem os_div {X : Cx} : OpS X (binaryOp .FloorDiv) oDiv := os_I op_fdiv fun _ _ _ => .int _
theorem os_pow {X : Cx} : OpS X (binaryOp .Pow) oPow := os_I Yard.op_powW fun _ _ _ => .int _
theorem os_and {X : Cx} : OpS X (binaryOp .BitAnd) oAnd := os_I0 op_and fun _ _ _ => .int _
theorem os_or {X : Cx} : OpS X (binaryOp .BitOr) oOr := os_I0 op_or fun _ _ _ => .int _
abbrev oGt := oI0 fun i j => .bl (decide (j < i))
abbrev oGe := oI0 fun i j => .bl (decide (j ≤ i))
abbrev oLe := oI0 fun i j => .bl (decide (i ≤ j))
theorem os_gt {X : Cx} : OpS X (compareOp .Gt) oGt := os_I0 op_gt fun _ _ _ => .bl _
theorem os_ge {X : Cx} : OpS X (compareOp .GtE) oGe := os_I0 op_ge fun _ _ _ => .bl _
theorem os_le {X : Cx} : OpS X (compareOp .LtE) oLe := os_I0 op_le fun _ _ _ => .bl _
def oLt (d e : D) (T : Rv → Prop) : Prop := match d, e with
  | .int i, .int j => T (.val (.bl (decide (i < j))))
  | .str i, .str j => T (.val (.bl (decide (i.cps.toList < j.cps.toList))))
  | _, _ => False
theorem os_lt {X : Cx} : OpS X (compareOp .Lt) oLt := .of (OpR.or op_lt op_lt_str) fun {F H σ0 σ ρ B x y d e T Q} E w1 w2 t g => by
  unfold oLt at t
  split at t
  · cases w1.int; cases w2.int
    exact .inl ⟨_, _, rfl, rfl, gt_val E g t (.bl _)⟩
  · cases w1.str; cases w2.str
    exact .inr ⟨_, _, rfl, rfl, gt_val E g t (.bl _)⟩
  · exact t.elim
/-- is None, is not None -/
def oIsN (neg : Bool) (d e : D) (T : Rv → Prop) : Prop := match d, e with
  | .non, .non => T (.val (.bl (!neg)))
  | .ty _, .non => False
  | _, .non => T (.val (.bl neg))
  | _, _ => False
theorem os_is {X : Cx} : OpS X (compareOp .Is) (oIsN false) := .of op_isN fun {F H σ0 σ ρ B x y d e T Q} E w1 w2 t g => by
  cases e with
  | non =>
    cases w2.non
    refine ⟨rfl, ?_⟩
    cases d with
    | non => cases w1.non; exact gt_val E g t (.bl _)
    | bl b => cases w1.bl; exact gt_val E g t (.bl _)
    | int b => cases w1.int; exact gt_val E g t (.bl _)
    | str b => cases w1.str; exact gt_val E g t (.bl _)
    | lst b => obtain ⟨_, _, rfl, _⟩ := w1.lst E.sub; exact gt_val E g t (.bl _)
    | tup b => obtain ⟨_, _, rfl, _⟩ := w1.tup E.sub; exact gt_val E g t (.bl _)
    | dic b => obtain ⟨_, _, rfl, _⟩ := w1.dic E.sub; exact gt_val E g t (.bl _)
    | obj c b => obtain ⟨_, _, _, rfl, _⟩ := w1.obj E.sub; exact gt_val E g t (.bl _)
    | ref b => cases w1.ref; exact gt_val E g t (.bl _)
    | exc _ _ _ _ => cases w1.exc.1; exact gt_val E g t (.bl _)
    | exk _ _ _ _ => cases w1.exk.1; exact gt_val E g t (.bl _)
    | scr _ => obtain ⟨_, rfl, _⟩ := w1.scr E.sub; exact gt_val E g t (.bl _)
    | ty n => exact t.elim
  | _ => cases d <;> exact t.elim
theorem os_isnot {X : Cx} : OpS X (compareOp .IsNot) (oIsN true) := .of op_notN fun {F H σ0 σ ρ B x y d e T Q} E w1 w2 t g => by
  cases e with
  | non =>
    cases w2.non
    refine ⟨rfl, ?_⟩
    cases d with
    | non => cases w1.non; exact gt_val E g t (.bl _)
    | bl b => cases w1.bl; exact gt_val E g t (.bl _)
    | int b => cases w1.int; exact gt_val E g t (.bl _)
    | str b => cases w1.str; exact gt_val E g t (.bl _)
    | lst b => obtain ⟨_, _, rfl, _⟩ := w1.lst E.sub; exact gt_val E g t (.bl _)
    | tup b => obtain ⟨_, _, rfl, _⟩ := w1.tup E.sub; exact gt_val E g t (.bl _)
    | dic b => obtain ⟨_, _, rfl, _⟩ := w1.dic E.sub; exact gt_val E g t (.bl _)
    | obj c b => obtain ⟨_, _, _, rfl, _⟩ := w1.obj E.sub; exact gt_val E g t (.bl _)
    | ref b => cases w1.ref; exact gt_val E g t (.bl _)
    | exc _ _ _ _ => cases w1.exc.1; exact gt_val E g t (.bl _)
    | exk _ _ _ _ => cases w1.exk.1; exact gt_val E g t (.bl _)
    | scr _ => obtain ⟨_, rfl, _⟩ := w1.scr E.sub; exact gt_val E g t (.bl _)
    | ty n => exact t.elim
  | _ => cases d <;> exact t.elim

/-! ### == and in, of data of any depth -/
mutual
def toP : D → PyData
  | .non => .none
  | .bl b => .bool b
  | .int i => .int i
  | .str x => .str x
  | .lst l => .list (toPs l)
  | .tup l => .tuple (toPs l)
  | _ => .none
def toPs : List D → List PyData
  | [] => []
  | d :: l => toP d :: toPs l
end
mutual
def plain : D → Bool
  | .non => true
  | .bl _ => true
  | .int _ => true
  | .str _ => true
  | .lst l => plains l
  | .tup l => plains l
  | _ => false
def plains : List D → Bool
  | [] => true
  | d :: l => plain d && plains l
end
theorem toPs_map : ∀ l : List D, toPs l = l.map toP
  | [] => rfl
  | d :: l => congrArg (toP d :: ·) (toPs_map l)
theorem plains_all : ∀ l : List D, plains l = l.all plain
  | [] => rfl
  | d :: l => by
    show (plain d && plains l) = _
    rw [plains_all l]; rfl
section
variable {K : PySem.W.Frag} {F H : Hp}
mutual
theorem RD.dp (s : Same F H) : ∀ {v : V} {d : D}, RD K F v d → plain d = true → Dp K H v (toP d)
  | _, _, .non, _ => .non
  | _, _, .bl b, _ => .bl b
  | _, _, .int i, _ => .int i
  | _, _, .str x, _ => .str x
  | _, _, .ty n, h => nomatch h
  | _, _, .ref a, h => nomatch h
  | _, _, .lst h t, p => .lst (.of (s _ _ h)) (t.dp s p)
  | _, _, .tup h t, p => .tup (sqT_mono s h) (t.dp s p)
  | _, _, .dic h t, p => nomatch p
  | _, _, .obj h t, p => nomatch p
  | _, _, .exc h t, p => nomatch p
  | _, _, .scr h, p => nomatch p
  | _, _, .exk _ _ _, p => nomatch p
theorem RL.dp (s : Same F H) : ∀ {vs : List V} {ds : List D}, RL K F vs ds → plains ds = true → DpAll K H vs (toPs ds)
  | _, _, .nil, _ => .nil
  | _, _, .cons h t, p => .cons (h.dp s (Bool.and_eq_true .. ▸ p).1) (t.dp s (Bool.and_eq_true .. ▸ p).2)
end
theorem RW.dp {v : V} {d : D} (s : Same F H) (h : RW K F H v d) (p : plain d = true) : Dp K H v (toP d) := by
  rcases h with h | h
  · exact h.dp s p
  · cases h with
    | lst h t => exact .lst (.of h) (t.dp s p)
    | dic h t => cases p
    | obj h t => cases p
end
/-- plain, and not too deep -/
def okD (d : D) : Bool := plain d && SeqAt.shaped (toP d)
def eqD (d e : D) : Bool := PyData.eqv (toP d) (toP e)
theorem okD_p {d : D} (h : okD d = true) : plain d = true := (Bool.and_eq_true .. ▸ h).1
theorem okD_s {d : D} (h : okD d = true) : SeqAt.shaped (toP d) = true := (Bool.and_eq_true .. ▸ h).2
def oEq (d e : D) (T : Rv → Prop) : Prop := okD d = true ∧ okD e = true ∧ T (.val (.bl (eqD d e)))
def oNe (d e : D) (T : Rv → Prop) : Prop := okD d = true ∧ okD e = true ∧ T (.val (.bl (!eqD d e)))
theorem os_eq {X : Cx} (hu : X.A.units + 64 < cLine) : OpS X (compareOp .Eq) oEq := .of (op_eqD hu) fun {F H σ0 σ ρ B x y d e T Q} E w1 w2 t g =>
  ⟨_, _, w1.dp E.sub (okD_p t.1), w2.dp E.sub (okD_p t.2.1), okD_s t.1, okD_s t.2.1, gt_val E g t.2.2 (.bl _)⟩
theorem os_ne {X : Cx} (hu : X.A.units + 64 < cLine) : OpS X (compareOp .NotEq) oNe := .of (op_neD hu) fun {F H σ0 σ ρ B x y d e T Q} E w1 w2 t g =>
  ⟨_, _, w1.dp E.sub (okD_p t.1), w2.dp E.sub (okD_p t.2.1), okD_s t.1, okD_s t.2.1, gt_val E g t.2.2 (.bl _)⟩
/-- in a list; a sign in a text -/
def oIn (neg : Bool) (d e : D) (T : Rv → Prop) : Prop := match e with
  | .lst l => okD d = true ∧ okD (.lst l) = true ∧ T (.val (.bl (neg ^^ l.any fun z => eqD z d)))
  | .str z => ∃ c : Nat, d = .str ⟨#[c]⟩ ∧ T (.val (.bl (neg ^^ decide (c ∈ z.cps.toList))))
  | _ => False
theorem any_toPs (d : D) : ∀ l : List D, ((toPs l).any fun z => PyData.eqv z (toP d)) = l.any fun z => eqD z d
  | [] => rfl
  | z :: l => by
    show (PyData.eqv (toP z) (toP d) || (toPs l).any _) = _
    rw [any_toPs d l]; rfl
theorem os_in {X : Cx} (hu : X.A.units + 65 < cLine) : OpS X (compareOp .In) (oIn false) := .of (OpR.or (op_inD hu) op_in_sign) fun {F H σ0 σ ρ B x y d e T Q} E w1 w2 t g => by
  unfold oIn at t
  split at t
  · refine .inl ⟨_, _, w1.dp E.sub (okD_p t.1), w2.dp E.sub (okD_p t.2.1), okD_s t.1, okD_s t.2.1, ?_⟩
    have t3 := t.2.2
    rw [any_toPs]
    exact gt_val E g t3 (by rw [Bool.false_xor]; exact .bl _)
  · obtain ⟨c, rfl, t⟩ := t
    cases w1.str; cases w2.str
    exact .inr ⟨c, _, rfl, rfl, gt_val E g t (by rw [Bool.false_xor]; exact .bl _)⟩
  · exact t.elim
theorem os_notin {X : Cx} (hu : X.A.units + 65 < cLine) : OpS X (compareOp .NotIn) (oIn true) := .of (OpR.or (op_notInD hu) op_notIn_sign) fun {F H σ0 σ ρ B x y d e T Q} E w1 w2 t g => by
  unfold oIn at t
  split at t
  · refine .inl ⟨_, _, w1.dp E.sub (okD_p t.1), w2.dp E.sub (okD_p t.2.1), okD_s t.1, okD_s t.2.1, ?_⟩
    have t3 := t.2.2
    rw [any_toPs]
    exact gt_val E g t3 (by rw [Bool.true_xor]; exact .bl _)
  · obtain ⟨c, rfl, t⟩ := t
    cases w1.str; cases w2.str
    exact .inr ⟨c, _, rfl, rfl, gt_val E g t (by rw [Bool.true_xor]; exact .bl _)⟩
  · exact t.elim

/-! ### subscripts -/
def oIx (d e : D) (T : Rv → Prop) : Prop := match d, e with
  | .lst l, .int i => ∃ x, atI l i = some x ∧ T (.val x)
  | .tup l, .int i => ∃ x, atI l i = some x ∧ T (.val x)
  | .str z, .int i => z.length ≤ sizeLine ∧ ∃ c, atI z.cps.toList i = some c ∧ T (.val (.str ⟨#[c]⟩))
  | .scr ns, .int i => ∃ x, atI ns i = some x ∧ T (.val (.int x))
  | _, _ => False
theorem RL.atI {K : PySem.W.Frag} {F : Hp} {vs : List V} {ds : List D} {i : Int} {x : D} (h : RL K F vs ds) (e : L2.atI ds i = some x) : ∃ v, L2.atI vs i = some v ∧ RD K F v x := by
  unfold L2.atI at e ⊢
  rw [h.len]
  cases q : ixN ds.length i with
  | none => rw [q] at e; cases e
  | some j =>
    rw [q] at e
    exact h.got e
theorem IxR.or {X : Cx} {r r' : R2} (h : IxR X r) (h' : IxR X r') : IxR X (fun x y H Q => r x y H Q ∨ r' x y H Q) := by
  intro value slice pins s σ H x y v u Q I rx ry q hs
  rcases q with q | q
  · exact h value slice pins s σ H x y v u Q I rx ry q hs
  · exact h' value slice pins s σ H x y v u Q I rx ry q hs
section
variable {X : Cx} {a b : Expr} {ua ub : UE} {pos : Pos}
theorem atI_map {ns : List Int} {i x : Int} (h : L2.atI ns i = some x) : L2.atI (ns.map V.int) i = some (.int x) := by
  unfold L2.atI at h ⊢
  rw [List.length_map]
  cases q : ixN ns.length i with
  | none => rw [q] at h; cases h
  | some j =>
    rw [q] at h
    show (ns.map V.int)[j]? = _
    have h : ns[j]? = some x := h
    rw [List.getElem?_map, h]; rfl
theorem fe_ix (ha : FE X a ua) (hb : FE X b ub) (hs : PlainIx b := by exact fun _ _ => rfl) : FE X (.Subscript a b pos) (uBin oIx ua ub) := ⟨fun ρ R q F H σ0 σ B Q E g => by
  refine to_S (pe_ix (IxR.or (ix_list (X := X)) (IxR.or (ix_tup (X := X)) ix_str)) pe_S pe_S hs) (FE.two ha hb q E (fun x y H2 => _) fun p q ρ2 x y F2 H2 t n2 E2 r1 r2 => ?_)
  obtain ⟨d, w1, t⟩ := E2.seen r1 t
  obtain ⟨e, w2, t⟩ := E2.seen (r2.weak hB_sub) t
  have g2 : ∀ z v F' H', R z ρ2 → Gt X.K F2 H2 F' H' σ0 ρ2 σ B z v → Q v H' := fun z v F' H' tz G => g z ρ2 v F' H' tz ⟨n2.trans G.nx, G.er, G.rr⟩
  unfold oIx at t
  split at t
  · obtain ⟨z, e1, t⟩ := t
    obtain ⟨c, vs, rfl, h1, l1⟩ := w1.lst E2.sub
    cases w2.int
    obtain ⟨v, e2, rd⟩ := l1.atI e1
    exact .inl ⟨c, vs, _, v, rfl, rfl, .of h1, e2, gt_val E2 g2 t rd⟩
  · obtain ⟨z, e1, t⟩ := t
    obtain ⟨c, vs, rfl, h1, l1⟩ := w1.tup E2.sub
    cases w2.int
    obtain ⟨v, e2, rd⟩ := l1.atI e1
    exact .inr (.inl ⟨c, vs, _, v, rfl, rfl, h1, e2, gt_val E2 g2 t rd⟩)
  · obtain ⟨z, c, e1, t⟩ := t
    cases w1.str; cases w2.int
    exact .inr (.inr ⟨_, _, c, rfl, rfl, z, e1, gt_val E2 g2 t (.str _)⟩)
  · obtain ⟨z, e1, t⟩ := t
    obtain ⟨c, rfl, h1⟩ := w1.scr E2.sub
    cases w2.int
    exact .inl ⟨c, _, _, .int z, rfl, rfl, h1, atI_map e1, gt_val E2 g2 t (.int _)⟩
  · exact t.elim⟩

/-! ### slices -/
abbrev UO := List Sl → (Option Int → List Sl → Prop) → Prop
def tO (X : Cx) (e : Option Expr) : TO := fun σ H Q => ∀ pins s, Inv X pins σ H s → wpAny (model X.prog X.w) X.A (evalPart e X.env) (fun u s' => ∃ o H', Inv X pins σ H' s' ∧ IsPart u o ∧ Q o H') X.xe s
theorem po_S {e : Option Expr} : PO X e (tO X e) := ⟨fun pins s σ H Q I h => h pins s I⟩
structure FO (X : Cx) (e : Option Expr) (u : UO) : Prop where
  run : ∀ (ρ : List Sl) (R : Option Int → List Sl → Prop), u ρ R → ∀ (F H : Hp) (σ0 σ : L2.St) (B : Addr → Prop) (Q : Option Int → Hp → Prop), ER X.K F H σ0 ρ σ B →
    (∀ o ρ' F' H', R o ρ' → Gd X.K F H F' H' σ0 ρ' σ B → Q o H') → tO X e σ H Q
instance {X : Cx} {e : Option Expr} {u : UO} : CoeFun (FO X e u) (fun _ => ∀ (ρ : List Sl) (R : Option Int → List Sl → Prop), u ρ R → ∀ (F H : Hp) (σ0 σ : L2.St) (B : Addr → Prop) (Q : Option Int → Hp → Prop), ER X.K F H σ0 ρ σ B →
  (∀ o ρ' F' H', R o ρ' → Gd X.K F H F' H' σ0 ρ' σ B → Q o H') → tO X e σ H Q) := ⟨FO.run⟩
def uONo : UO := fun ρ R => R none ρ
def uOInt (u : UE) : UO := fun ρ R => u ρ fun r ρ1 => match r with
  | .val (.int i) => R (some i) ρ1
  | _ => False
theorem fo_no : FO X none uONo := ⟨fun ρ R q F H σ0 σ B Q E g pins s I => po_none.run pins s σ H Q I (g none ρ F H q ⟨.refl _ _ _, E⟩)⟩
theorem fo_int {e : Expr} {u : UE} (h : FE X e u) : FO X (some e) (uOInt u) := ⟨fun ρ R q F H σ0 σ B Q E g pins s I => by
  refine (po_some pe_S).run pins s σ H Q I (h ρ _ q F H σ0 σ B _ E fun r ρ1 v F1 H1 z G => ?_)
  split at z
  · rename_i i
    have rr : RD X.K F1 v (.int i) := G.rr
    cases rr
    exact ⟨i, rfl, g _ _ _ _ z ⟨G.nx, G.er⟩⟩
  · exact z.elim⟩
/-- l[lo:hi] of any list -/
def cut {α : Type} (xs : List α) (lo hi : Option Int) : List α := (xs.drop (HT.sIx xs.length 0 lo)).take (HT.sIx xs.length xs.length hi - HT.sIx xs.length 0 lo)
theorem RL.cut {K : PySem.W.Frag} {F : Hp} {vs : List V} {ds : List D} (h : RL K F vs ds) (lo hi : Option Int) : RL K F (cutV vs lo hi) (YP.cut ds lo hi) := by
  unfold cutV YP.cut
  rw [h.len]
  exact (h.drop _).take _
theorem cut_whole {α : Type} {xs : List α} {lo hi : Option Int} (h : HT.sIx xs.length 0 lo = 0 ∧ HT.sIx xs.length xs.length hi = xs.length) : cut xs lo hi = xs := by
  unfold cut
  rw [h.1, h.2]
  show List.take (xs.length - 0) xs = xs
  rw [Nat.sub_zero]
  exact List.take_length
def oSl (d : D) (lo hi : Option Int) (T : Rv → Prop) : Prop := match d with
  | .lst l => T (.own (.lst (cut l lo hi)))
  | .tup l => T (.val (.tup (cut l lo hi)))
  | .str z => z.length ≤ sizeLine ∧ T (.val (.str (cutS z lo hi)))
  | _ => False
def uSl (ua : UE) (ul uh : UO) : UE := fun ρ R => ua ρ fun r ρ1 => ul ρ1 fun lo ρ2 => uh ρ2 fun hi ρ3 => wv ρ3 r fun d => oSl d lo hi fun z => R z ρ3
theorem fe_sl {lo hi : Option Expr} {ul uh : UO} {p2 : Pos} (ha : FE X a ua) (hl : FO X lo ul) (hh : FO X hi uh) : FE X (.Subscript a (.Slice lo hi none p2) pos) (uSl ua ul uh) := ⟨fun ρ R q F H σ0 σ B Q E g => by
  refine to_S (pe_slice (SlR.or (sl_list (X := X)) (SlR.or (sl_tupA (X := X)) sl_str)) pe_S po_S po_S) (ha ρ _ q F H σ0 σ B _ E fun r ρ1 x F1 H1 q1 G1 => hl ρ1 _ q1 F1 H1 σ0 σ (hB B r x) _ (G1.er.hold G1.rr) fun lo ρ2 F2 H2 q2 G2 => hh ρ2 _ q2 F2 H2 σ0 σ (hB B r x) _ G2.er fun hi ρ3 F3 H3 t G3 => ?_)
  have n3 := G2.nx.trans G3.nx
  have E3 := G3.er.unhold
  obtain ⟨d, w1, t⟩ := E3.seen (G1.rr.held G1.er G3.er n3) t
  have nn := G1.nx.trans (n3.mono hB_sub)
  have g2 : ∀ z v F' H', R z ρ3 → Gt X.K F3 H3 F' H' σ0 ρ3 σ B z v → Q v H' := fun z v F' H' tz G => g z ρ3 v F' H' tz ⟨nn.trans G.nx, G.er, G.rr⟩
  unfold oSl at t
  split at t
  · obtain ⟨c, vs, rfl, h1, l1⟩ := w1.lst E3.sub
    exact .inl ⟨c, vs, rfl, .of h1, gt_lst E3 g2 t (l1.cut lo hi)⟩
  · obtain ⟨c, vs, rfl, h1, l1⟩ := w1.tup E3.sub
    refine .inr (.inl ⟨c, vs, rfl, h1, fun e => ?_, fun _ => gt_tup E3 g2 t (l1.cut lo hi)⟩)
    rw [l1.len] at e
    rw [cut_whole e] at t
    rcases w1 with w | w
    · exact gt_val E3 g2 t w
    · cases w
  · cases w1.str
    exact .inr (.inr ⟨_, rfl, t.1, gt_val E3 g2 t.2 (.str _)⟩)
  · exact t.elim⟩
/-! ### - x -/
def uNeg (u : UE) : UE := fun ρ R => u ρ fun r ρ1 => match r with
  | .val (.int i) => R (.val (.int (-i))) ρ1
  | _ => False
theorem fe_neg {e : Expr} {u : UE} (h : FE X e u) : FE X (.UnaryOp .USub e pos) (uNeg u) := ⟨fun ρ R q F H σ0 σ B Q E g => by
  refine to_S (pe_un un_neg pe_S) (h ρ _ q F H σ0 σ B _ E fun r ρ1 v F1 H1 z G => ?_)
  split at z
  · rename_i i
    have rr : RD X.K F1 v (.int i) := G.rr
    cases rr
    exact ⟨i, rfl, g _ _ _ _ _ z ⟨G.nx, G.er, .int _⟩⟩
  · exact z.elim⟩
end
end YP
set_option maxRecDepth 100000
/-! The yard's pure layer, part 7: calls of what is built in, methods. -/
namespace YP
open PySem PySem.Spec PyProof.Rows L2

/-- the data as they stand -/
def wvs (ρ : List Sl) : List Rv → (List D → Prop) → Prop
  | [], k => k []
  | r :: rs, k => wv ρ r fun d => wvs ρ rs fun ds => k (d :: ds)
def RWs (K : PySem.W.Frag) (F H : Hp) : List V → List D → Prop
  | [], [] => True
  | v :: vs, d :: ds => RW K F H v d ∧ RWs K F H vs ds
  | _, _ => False
theorem ER.seens {K : PySem.W.Frag} {F H : Hp} {σ0 σ : L2.St} {ρ : List Sl} (B0 : Addr → Prop) (E : ER K F H σ0 ρ σ B0) : ∀ {B : Addr → Prop} {rs : List Rv} {vs : List V} {k : List D → Prop}, RRs K F H ρ σ B rs vs → wvs ρ rs k → ∃ ds, RWs K F H vs ds ∧ k ds
  | _, [], [], k, _, w => ⟨[], trivial, w⟩
  | B, r :: rs, v :: vs, k, h, w => by
    have h1 : RR K F H ρ σ (fun _ => False) r v := h.1.weak fun _ z => z.elim
    have E1 : ER K F H σ0 ρ σ (fun _ => False) := ⟨E.len, E.sub, E.fz, fun i p d q => let ⟨a, x, y, z, _⟩ := E.ow i p d q; ⟨a, x, y, z, fun w => w⟩, E.inj, E.par, fun _ z => z.elim⟩
    obtain ⟨d, w1, w⟩ := E1.seen h1 w
    obtain ⟨ds, w2, w⟩ := ER.seens B0 E h.2 w
    exact ⟨d :: ds, ⟨w1, w2⟩, w⟩
  | _, [], _ :: _, _, h, _ => h.elim
  | _, _ :: _, [], _, h, _ => h.elim
/-- a call of a built-in with values -/
structure CbS (X : Cx) (f : Value) (o : List D → (Rv → Prop) → Prop) : Prop where
  ex : ∃ r, CallR X f r ∧ ∀ {F H : Hp} {σ0 σ : L2.St} {ρ : List Sl} {B : Addr → Prop} {vs : List V} {ds : List D} {T : Rv → Prop} {Q : VK}, ER X.K F H σ0 ρ σ B → RWs X.K F H vs ds → o ds T →
    (∀ z v F' H', T z → Gt X.K F H F' H' σ0 ρ σ B z v → Q v H') → r vs H Q
theorem CbS.of {X : Cx} {f : Value} {o : List D → (Rv → Prop) → Prop} {r : List V → Hp → VK → Prop} (h : CallR X f r) (k : ∀ {F H : Hp} {σ0 σ : L2.St} {ρ : List Sl} {B : Addr → Prop} {vs : List V} {ds : List D} {T : Rv → Prop} {Q : VK}, ER X.K F H σ0 ρ σ B → RWs X.K F H vs ds → o ds T →
    (∀ z v F' H', T z → Gt X.K F H F' H' σ0 ρ σ B z v → Q v H') → r vs H Q) : CbS X f o := ⟨⟨r, h, k⟩⟩
theorem CallR.or {X : Cx} {f : Value} {r r' : List V → Hp → VK → Prop} (h : CallR X f r) (h' : CallR X f r') : CallR X f (fun x H Q => r x H Q ∨ r' x H Q) := by
  intro pins s σ H x v Q I rx q
  rcases q with q | q
  · exact h pins s σ H x v Q I rx q
  · exact h' pins s σ H x v Q I rx q
def uB (o : List D → (Rv → Prop) → Prop) (ua : UR) : UE := fun ρ R => ua ρ fun rs ρ1 => wvs ρ1 rs fun ds => o ds fun z => R z ρ1
section
variable {X : Cx} {e : Expr} {es : List Expr} {ua : UR} {p pos : Pos} {x : Str} {id T : String} {o : List D → (Rv → Prop) → Prop}
theorem fe_b (cb : CbS X (.builtin id) o) (hg : Gl X x) (hm : X.mg x = none) (hv : bootBuiltins x = some (.builtin id)) (ha : FR X (e :: es) ua) (hn : x ≠ "__name__" := by decide) (hdb : (x == ("__debug__" : Str)) = false := by decide)
    (he : starEach (e :: es) X.env = (false, eval e X.env) :: starEach es X.env := by rfl) (hpl : (backTo pos (starEach es X.env)).any (·.1) = false := by rfl) : FE X (.Call (.Name x p) (e :: es) [] pos) (uB o ua) := ⟨fun ρ R q F H σ0 σ B Q E g => by
  obtain ⟨r, hr, k⟩ := cb.ex
  refine to_S (pe_callB hr hg hm hv pa_S hn hdb he hpl) (ha ρ _ q F H σ0 σ B _ E fun rs ρ1 vs F1 H1 z G l _ => ?_)
  obtain ⟨ds, w, z⟩ := G.er.seens B l z
  exact k G.er w z fun z v F' H' t G' => g z ρ1 v F' H' t ⟨G.nx.trans G'.nx, G'.er, G'.rr⟩⟩
theorem fe_bt (cb : CbS X (.type T) o) (hg : Gl X x) (hm : X.mg x = none) (hv : bootBuiltins x = some (.type T)) (ha : FR X (e :: es) ua) (hn : x ≠ "__name__" := by decide) (hdb : (x == ("__debug__" : Str)) = false := by decide)
    (he : starEach (e :: es) X.env = (false, eval e X.env) :: starEach es X.env := by rfl) (hpl : (backTo pos (starEach es X.env)).any (·.1) = false := by rfl) : FE X (.Call (.Name x p) (e :: es) [] pos) (uB o ua) := ⟨fun ρ R q F H σ0 σ B Q E g => by
  obtain ⟨r, hr, k⟩ := cb.ex
  refine to_S (pe_callTy hr hg hm hv pa_S hn hdb he hpl) (ha ρ _ q F H σ0 σ B _ E fun rs ρ1 vs F1 H1 z G l _ => ?_)
  obtain ⟨ds, w, z⟩ := G.er.seens B l z
  exact k G.er w z fun z v F' H' t G' => g z ρ1 v F' H' t ⟨G.nx.trans G'.nx, G'.er, G'.rr⟩⟩
end
section
variable {K : PySem.W.Frag} {F H : Hp} {vs : List V}
theorem RWs.one {d : D} (h : RWs K F H vs [d]) : ∃ v, vs = [v] ∧ RW K F H v d := by
  match vs, h with
  | [v], h => exact ⟨v, rfl, h.1⟩
theorem RWs.two {d e : D} (h : RWs K F H vs [d, e]) : ∃ v u, vs = [v, u] ∧ RW K F H v d ∧ RW K F H u e := by
  match vs, h with
  | [v, u], h => exact ⟨v, u, rfl, h.1, h.2.1⟩
theorem RWs.three {d e f : D} (h : RWs K F H vs [d, e, f]) : ∃ v u w, vs = [v, u, w] ∧ RW K F H v d ∧ RW K F H u e ∧ RW K F H w f := by
  match vs, h with
  | [v, u, w], h => exact ⟨v, u, w, rfl, h.1, h.2.1, h.2.2.1⟩
theorem rl_ints : ∀ {vs : List V} {ns : List Int}, RL K F vs (ns.map D.int) → vs = ns.map V.int
  | _, [], h => by cases h; rfl
  | _, n :: ns, h => by cases h with | cons h1 h2 => cases h1; rw [rl_ints h2]; rfl
theorem rl_bls : ∀ {vs : List V} {ns : List Bool}, RL K F vs (ns.map D.bl) → vs = ns.map V.bl
  | _, [], h => by cases h; rfl
  | _, n :: ns, h => by cases h with | cons h1 h2 => cases h1; rw [rl_bls h2]; rfl
theorem rl_strs : ∀ {vs : List V} {ns : List Str}, RL K F vs (ns.map D.str) → vs = ns.map V.str
  | _, [], h => by cases h; rfl
  | _, n :: ns, h => by cases h with | cons h1 h2 => cases h1; rw [rl_strs h2]; rfl
theorem strs_rl : ∀ (ns : List Str), RL K F (ns.map V.str) (ns.map D.str)
  | [] => .nil
  | n :: ns => .cons (.str n) (strs_rl ns)
theorem ints_rl : ∀ (ns : List Int), RL K F (ns.map V.int) (ns.map D.int)
  | [] => .nil
  | n :: ns => .cons (.int n) (ints_rl ns)
end

/-! ### len, int, max, min, sum, all, any, list, tuple, sorted -/
def oLen (ds : List D) (T : Rv → Prop) : Prop := match ds with
  | [.lst l] => T (.val (.int (l.length : Nat)))
  | [.tup l] => T (.val (.int (l.length : Nat)))
  | [.dic l] => T (.val (.int (l.length : Nat)))
  | [.str x] => x.length ≤ sizeLine ∧ T (.val (.int (x.length : Nat)))
  | [.scr ns] => T (.val (.int (ns.length : Nat)))
  | _ => False
theorem call_lenR {X : Cx} : CallR X (.builtin "len") (fun xs H Q => ∃ a kvs, xs = [V.ref a] ∧ Rd H a (.dK kvs) ∧ Q (.int kvs.length) H) := by
  intro pins s σ H xs us Q I r h
  obtain ⟨a, kvs, rfl, ha, q⟩ := h
  obtain ⟨u, rfl, ru⟩ := vals1 r
  cases ru
  exact d_len I ha fun t s' I' => ⟨.int kvs.length, H, I', ⟨t, rfl⟩, q⟩
theorem cb_len {X : Cx} : CbS X (.builtin "len") oLen := .of (CallR.or call_len_seq (CallR.or call_lenR call_len_str)) fun {F H σ0 σ ρ B vs ds T Q} E w t g => by
  unfold oLen at t
  split at t
  · obtain ⟨v, rfl, w0⟩ := w.one
    obtain ⟨a, us, rfl, h1, l1⟩ := w0.lst E.sub
    exact .inl ⟨a, us, rfl, .inl (.of h1), by rw [l1.len]; exact gt_val E g t (.int _)⟩
  · obtain ⟨v, rfl, w0⟩ := w.one
    obtain ⟨a, us, rfl, h1, l1⟩ := w0.tup E.sub
    exact .inl ⟨a, us, rfl, .inr h1, by rw [l1.len]; exact gt_val E g t (.int _)⟩
  · obtain ⟨v, rfl, w0⟩ := w.one
    obtain ⟨a, us, rfl, h1, l1⟩ := w0.dic E.sub
    exact .inr (.inl ⟨a, us, rfl, h1, by rw [l1.len]; exact gt_val E g t (.int _)⟩)
  · obtain ⟨v, rfl, w0⟩ := w.one
    cases w0.str
    exact .inr (.inr ⟨_, rfl, t.1, gt_val E g t.2 (.int _)⟩)
  · obtain ⟨v, rfl, w0⟩ := w.one
    obtain ⟨a, rfl, h1⟩ := w0.scr E.sub
    exact .inl ⟨a, _, rfl, .inl h1, by rw [List.length_map]; exact gt_val E g t (.int _)⟩
  · exact t.elim
def oInt (ds : List D) (T : Rv → Prop) : Prop := match ds with
  | [.int i] => T (.val (.int i))
  | [.bl b] => T (.val (.int (if b then 1 else 0)))
  | _ => False
theorem cb_int {X : Cx} : CbS X (.type "int") oInt := .of call_int1 fun {F H σ0 σ ρ B vs ds T Q} E w t g => by
  unfold oInt at t
  split at t
  · obtain ⟨v, rfl, w0⟩ := w.one
    cases w0.int
    exact .inl ⟨_, rfl, gt_val E g t (.int _)⟩
  · obtain ⟨v, rfl, w0⟩ := w.one
    cases w0.bl
    exact .inr ⟨_, rfl, gt_val E g t (.int _)⟩
  · exact t.elim
def oMax (ds : List D) (T : Rv → Prop) : Prop := match ds with
  | [.int i, .int j] => T (.val (.int (if j > i then j else i)))
  | [.lst l] => ∃ ns : List Int, l = ns.map D.int ∧ 0 < ns.length ∧ ∀ m, m ∈ ns → (∀ y, y ∈ ns → y ≤ m) → T (.val (.int m))
  | _ => False
theorem cb_max {X : Cx} (hc : X.calm = true) : CbS X (.builtin "max") oMax := .of (CallR.or (call_max2 hc) (cr_max hc)) fun {F H σ0 σ ρ B vs ds T Q} E w t g => by
  unfold oMax at t
  split at t
  · obtain ⟨v, u, rfl, w1, w2⟩ := w.two
    cases w1.int; cases w2.int
    exact .inl ⟨_, _, rfl, gt_val E g t (.int _)⟩
  · obtain ⟨ns, rfl, h0, t⟩ := t
    obtain ⟨v, rfl, w0⟩ := w.one
    obtain ⟨a, us, rfl, h1, l1⟩ := w0.lst E.sub
    cases rl_ints l1
    exact .inr ⟨a, ns, rfl, .of h1, h0, fun m hm hx => gt_val E g (t m hm hx) (.int _)⟩
  · exact t.elim
def oMin (ds : List D) (T : Rv → Prop) : Prop := match ds with
  | [.int i, .int j] => T (.val (.int (if j < i then j else i)))
  | [.lst l] => ∃ ns : List Int, l = ns.map D.int ∧ 0 < ns.length ∧ ∀ m, m ∈ ns → (∀ y, y ∈ ns → m ≤ y) → T (.val (.int m))
  | _ => False
theorem cb_min {X : Cx} (hc : X.calm = true) : CbS X (.builtin "min") oMin := .of (CallR.or (call_min2 hc) (cr_min hc)) fun {F H σ0 σ ρ B vs ds T Q} E w t g => by
  unfold oMin at t
  split at t
  · obtain ⟨v, u, rfl, w1, w2⟩ := w.two
    cases w1.int; cases w2.int
    exact .inl ⟨_, _, rfl, gt_val E g t (.int _)⟩
  · obtain ⟨ns, rfl, h0, t⟩ := t
    obtain ⟨v, rfl, w0⟩ := w.one
    obtain ⟨a, us, rfl, h1, l1⟩ := w0.lst E.sub
    cases rl_ints l1
    exact .inr ⟨a, ns, rfl, .of h1, h0, fun m hm hx => gt_val E g (t m hm hx) (.int _)⟩
  · exact t.elim
def oSum (ds : List D) (T : Rv → Prop) : Prop := match ds with
  | [.lst l] => ∃ ns : List Int, l = ns.map D.int ∧ T (.val (.int ns.sum))
  | _ => False
theorem cb_sum {X : Cx} (hc : X.calm = true) : CbS X (.builtin "sum") oSum := .of (cr_sum hc) fun {F H σ0 σ ρ B vs ds T Q} E w t g => by
  unfold oSum at t
  split at t
  · obtain ⟨ns, rfl, t⟩ := t
    obtain ⟨v, rfl, w0⟩ := w.one
    obtain ⟨a, us, rfl, h1, l1⟩ := w0.lst E.sub
    cases rl_ints l1
    exact ⟨a, ns, rfl, .of h1, gt_val E g t (.int _)⟩
  · exact t.elim
def oAll (ds : List D) (T : Rv → Prop) : Prop := match ds with
  | [.lst l] => ∃ bs : List Bool, l = bs.map D.bl ∧ T (.val (.bl (bs.all id)))
  | _ => False
theorem cb_all {X : Cx} (hc : X.calm = true) : CbS X (.builtin "all") oAll := .of (cr_all hc) fun {F H σ0 σ ρ B vs ds T Q} E w t g => by
  unfold oAll at t
  split at t
  · obtain ⟨ns, rfl, t⟩ := t
    obtain ⟨v, rfl, w0⟩ := w.one
    obtain ⟨a, us, rfl, h1, l1⟩ := w0.lst E.sub
    cases rl_bls l1
    exact ⟨a, ns, rfl, .of h1, gt_val E g t (.bl _)⟩
  · exact t.elim
def oAny (ds : List D) (T : Rv → Prop) : Prop := match ds with
  | [.lst l] => ∃ bs : List Bool, l = bs.map D.bl ∧ T (.val (.bl (bs.any id)))
  | _ => False
theorem cb_any {X : Cx} (hc : X.calm = true) : CbS X (.builtin "any") oAny := .of (cr_any hc) fun {F H σ0 σ ρ B vs ds T Q} E w t g => by
  unfold oAny at t
  split at t
  · obtain ⟨ns, rfl, t⟩ := t
    obtain ⟨v, rfl, w0⟩ := w.one
    obtain ⟨a, us, rfl, h1, l1⟩ := w0.lst E.sub
    cases rl_bls l1
    exact ⟨a, ns, rfl, .of h1, gt_val E g t (.bl _)⟩
  · exact t.elim
def oList (ds : List D) (T : Rv → Prop) : Prop := match ds with
  | [.lst l] => T (.own (.lst l))
  | [.tup l] => T (.own (.lst l))
  | _ => False
theorem cb_list {X : Cx} : CbS X (.type "list") oList := .of call_list_of fun {F H σ0 σ ρ B vs ds T Q} E w t g => by
  unfold oList at t
  split at t
  · obtain ⟨v, rfl, w0⟩ := w.one
    obtain ⟨a, us, rfl, h1, l1⟩ := w0.lst E.sub
    exact ⟨a, us, rfl, .inl (.of h1), gt_lst E g t l1⟩
  · obtain ⟨v, rfl, w0⟩ := w.one
    obtain ⟨a, us, rfl, h1, l1⟩ := w0.tup E.sub
    exact ⟨a, us, rfl, .inr h1, gt_lst E g t l1⟩
  · exact t.elim
def oTuple (ds : List D) (T : Rv → Prop) : Prop := match ds with
  | [.lst l] => T (.val (.tup l))
  | [.tup l] => T (.val (.tup l))
  | _ => False
theorem cb_tuple {X : Cx} : CbS X (.type "tuple") oTuple := .of call_tuple_of fun {F H σ0 σ ρ B vs ds T Q} E w t g => by
  unfold oTuple at t
  split at t
  · obtain ⟨v, rfl, w0⟩ := w.one
    obtain ⟨a, us, rfl, h1, l1⟩ := w0.lst E.sub
    exact ⟨a, us, rfl, .inl ⟨.of h1, gt_tup E g t l1⟩⟩
  · obtain ⟨v, rfl, w0⟩ := w.one
    obtain ⟨a, us, e, h1, l1⟩ := w0.tup E.sub
    subst e
    rcases w0 with w0 | w0
    · exact ⟨a, us, rfl, .inr ⟨h1, gt_val E g t w0⟩⟩
    · cases w0
  · exact t.elim
def oSorted (ds : List D) (T : Rv → Prop) : Prop := match ds with
  | [.lst l] => ∃ xs : List Str, l = xs.map D.str ∧ xs.length < 64 ∧ ∀ ys : List Str, ys.Perm xs → sortedS ys = true → T (.own (.lst (ys.map D.str)))
  | _ => False
theorem cb_sorted {X : Cx} : CbS X (.builtin "sorted") oSorted := .of cr_sortedS fun {F H σ0 σ ρ B vs ds T Q} E w t g => by
  unfold oSorted at t
  split at t
  · obtain ⟨xs, rfl, h0, t⟩ := t
    obtain ⟨v, rfl, w0⟩ := w.one
    obtain ⟨a, us, rfl, h1, l1⟩ := w0.lst E.sub
    cases rl_strs l1
    exact ⟨a, xs, rfl, .of h1, h0, fun ys p pm so np => gt_lst E g (t ys pm so) (strs_rl ys) p np⟩
  · exact t.elim
/-- sorted(set(a list of texts)) -/
def oSetSorted (ds : List D) (T : Rv → Prop) : Prop := match ds with
  | [.lst l] => ∃ xs : List Str, l = xs.map D.str ∧ xs.length ≤ 1000 ∧ ∀ m : List Str, m.length ≤ xs.length → (∀ x, x ∈ m ↔ x ∈ xs) → m.length < 64 ∧ ∀ ys : List Str, ys.Perm m → sortedS ys = true → T (.own (.lst (ys.map D.str)))
  | _ => False
def uSetSorted (ua : UR) : UE := uB oSetSorted ua
theorem fe_setsorted {X : Cx} {e : Expr} {ua : UR} {p p2 pos pos2 : Pos} (hc : X.calm = true) (hg : Gl X "sorted") (hm : X.mg "sorted" = none) (hg2 : Gl X "set") (hm2 : X.mg "set" = none) (ha : FR X [e] ua)
    (he : starEach [.Call (.Name "set" p2) [e] [] pos2] X.env = (false, eval (.Call (.Name "set" p2) [e] [] pos2) X.env) :: starEach [] X.env := by rfl) (he2 : starEach [e] X.env = (false, eval e X.env) :: starEach [] X.env := by rfl)
    (hpl : (backTo pos (starEach [] X.env)).any (·.1) = false := by rfl) (hpl2 : (backTo pos2 (starEach [] X.env)).any (·.1) = false := by rfl) :
    FE X (.Call (.Name "sorted" p) [.Call (.Name "set" p2) [e] [] pos2] [] pos) (uSetSorted ua) := ⟨fun ρ R q F H σ0 σ B Q E g => by
  refine to_S (pe_callB (Yard.cr_sortedTx hc) hg hm (by decide +kernel) (pa_cons (pe_callTy (Yard.cr_setTx hc) hg2 hm2 (by decide +kernel) pa_S (by decide) (by decide) he2 hpl2) pa_nil he) (by decide) (by decide) he hpl) (ha ρ _ q F H σ0 σ B _ E fun rs ρ1 vs F1 H1 z G l _ => ?_)
  obtain ⟨ds, w, z⟩ := G.er.seens B l z
  unfold oSetSorted at z
  split at z
  · obtain ⟨xs, rfl, h0, t⟩ := z
    obtain ⟨v, rfl, w0⟩ := w.one
    obtain ⟨a, us, rfl, h1, l1⟩ := w0.lst G.er.sub
    cases rl_strs l1
    refine ⟨a, xs, rfl, .of h1, h0, fun c m nc lm hm' => ?_⟩
    obtain ⟨l64, t⟩ := t m lm hm'
    refine ⟨c, m, rfl, upd_same, l64, fun ys p' pm so np => ?_⟩
    obtain ⟨E2, n2⟩ := G.er.laid_val (o := Yard.TxO X.prog X.w c m) nc
    exact gt_lst E2 (fun z v F' H' t G' => g z ρ1 v F' H' t ⟨G.nx.trans (n2.trans G'.nx), G'.er, G'.rr⟩) (t ys pm so) (strs_rl ys) p' np
  · exact z.elim⟩

/-! ### isinstance -/
def tyD : D → Option String
  | .non => some "NoneType"
  | .bl _ => some "bool"
  | .int _ => some "int"
  | .str _ => some "str"
  | .lst _ => some "list"
  | .tup _ => some "tuple"
  | .dic _ => some "dict"
  | _ => none
theorem RW.tyx {K : PySem.W.Frag} {F H : Hp} {v : V} {d : D} {n : String} (s : Same F H) (h : RW K F H v d) (e : tyD d = some n) : TyX K H v (.type n) := by
  cases d with
  | non => cases e; cases h.non; exact .base .non
  | bl b => cases e; cases h.bl; exact .base (.bl _)
  | int b => cases e; cases h.int; exact .base (.int _)
  | str b => cases e; cases h.str; exact .base (.str _)
  | lst l => cases e; obtain ⟨a, us, rfl, h1, _⟩ := h.lst s; exact .base (.lst h1)
  | tup l =>
    cases e
    obtain ⟨a, us, rfl, h1, _⟩ := h.tup s
    rcases h1 with (h1 | ⟨o, h1⟩) | ⟨o, its, n, h1, h2, _⟩
    · exact .base (.tup h1)
    · exact .fTuple h1
    · exact .kTuple h1 h2
  | dic l =>
    cases e
    obtain ⟨a, us, rfl, h1, _⟩ := h.dic s
    rcases h1 with h1 | ⟨o, h1⟩
    · exact .base (.dK h1)
    · exact .fDict h1
  | _ => cases e
/-- the answer, for the classes that are asked -/
def isTy (n c : String) : Option Bool :=
  if c = "str" then some (n == "str") else if c = "tuple" then some (n == "tuple") else if c = "list" then some (n == "list") else if c = "dict" then some (n == "dict")
  else if c = "bool" then some (n == "bool") else if c = "int" then some (n == "int" || n == "bool") else none
theorem isTy_ok {d : D} {n c : String} {b : Bool} (h : tyD d = some n) (e : isTy n c = some b) : kitB n c = some b := by
  have kk : ∀ c ∈ ["str", "tuple", "list", "dict", "bool", "int"], ∀ n ∈ ["NoneType", "bool", "int", "str", "list", "tuple", "dict"], kitB n c = isTy n c := by decide +kernel
  have hn : n ∈ ["NoneType", "bool", "int", "str", "list", "tuple", "dict"] := by
    cases d <;> cases h <;> decide
  have hc : c ∈ ["str", "tuple", "list", "dict", "bool", "int"] := by
    unfold isTy at e
    by_cases c1 : c = "str"
    · subst c1; decide
    rw [if_neg c1] at e
    by_cases c2 : c = "tuple"
    · subst c2; decide
    rw [if_neg c2] at e
    by_cases c3 : c = "list"
    · subst c3; decide
    rw [if_neg c3] at e
    by_cases c4 : c = "dict"
    · subst c4; decide
    rw [if_neg c4] at e
    by_cases c5 : c = "bool"
    · subst c5; decide
    rw [if_neg c5] at e
    by_cases c6 : c = "int"
    · subst c6; decide
    rw [if_neg c6] at e
    cases e
  rw [kk c hc n hn]; exact e
def isTyAny (n : String) : List D → Option Bool
  | [] => some false
  | .ty c :: cs => match isTy n c, isTyAny n cs with
    | some b, some b' => some (b || b')
    | _, _ => none
  | _ => none
def oIsi (ds : List D) (T : Rv → Prop) : Prop := match ds with
  | [d, .ty c] => ∃ n b, tyD d = some n ∧ isTy n c = some b ∧ T (.val (.bl b))
  | _ => False
theorem any_ok {K : PySem.W.Frag} {d : D} {n : String} (h : tyD d = some n) : ∀ {cs : List D} {b : Bool} {F : Hp} {vs : List V}, isTyAny n cs = some b → RL K F vs cs → ∃ us, Paired ClsV vs us ∧ PySem.W.kitAny K (.type n) us = some b
  | [], b, F, vs, e, l => by cases l; cases e; exact ⟨[], .nil, rfl⟩
  | c :: cs, b, F, vs, e, l => by
    cases l with
    | @cons v vs _ _ l1 l2 =>
    cases c with
    | ty c =>
      unfold isTyAny at e
      cases q1 : isTy n c with
      | none => rw [q1] at e; cases e
      | some b1 =>
        cases q2 : isTyAny n cs with
        | none => rw [q1, q2] at e; cases e
        | some b2 =>
          rw [q1, q2] at e; cases e
          obtain ⟨us, p, ka⟩ := any_ok h q2 l2
          cases l1
          refine ⟨.type c :: us, .cons (.ty c) p, kitAny_cons (kit_ty (isTy_ok h q1)) (fun z => ?_) fun z => ?_⟩
          · rw [z]; exact ka
          · rw [z]; rfl
    | _ => unfold isTyAny at e; cases e
theorem cb_isi {X : Cx} : CbS X (.builtin "isinstance") oIsi := .of call_isi fun {F H σ0 σ ρ B vs ds T Q} E w t g => by
  unfold oIsi at t
  split at t
  · obtain ⟨n, b, h1, h2, t⟩ := t
    obtain ⟨v, u, rfl, w1, w2⟩ := w.two
    cases w2.ty
    exact ⟨v, _, _, _, b, rfl, .ty _, w1.tyx E.sub h1, kit_ty (isTy_ok h1 h2), gt_val E g t (.bl _)⟩
  · exact t.elim
/-- isinstance(e, (T1, T2)) -/
def uIsiT (ua : UE) (ut : UA) : UE := fun ρ R => ua ρ fun r ρ1 => ut ρ1 fun cs ρ2 => cs.length ≤ sizeLine ∧ wv ρ2 r fun d => ∃ n b, tyD d = some n ∧ isTyAny n cs = some b ∧ R (.val (.bl b)) ρ2
theorem fe_isiT {X : Cx} {e : Expr} {ts : List Expr} {ua : UE} {ut : UA} {p pos pos2 : Pos} {k : Nat} (hg : Gl X "isinstance") (hm : X.mg "isinstance" = none) (ha : FE X e ua) (ht : FA X ts ut)
    (he : starEach [e, .Tuple ts k pos2] X.env = (false, eval e X.env) :: starEach [.Tuple ts k pos2] X.env := by rfl) (he2 : starEach [.Tuple ts k pos2] X.env = (false, eval (.Tuple ts k pos2) X.env) :: starEach [] X.env := by rfl)
    (hpl : (backTo pos (starEach [.Tuple ts k pos2] X.env)).any (·.1) = false := by rfl) : FE X (.Call (.Name "isinstance" p) [e, .Tuple ts k pos2] [] pos) (uIsiT ua ut) := ⟨fun ρ R q F H σ0 σ B Q E g => by
  refine to_S (pe_callB call_isiT hg hm (by decide +kernel) (pa_cons pe_S (pa_cons (pe_tup pa_S) pa_nil he2) he) (by decide) (by decide) he hpl)
    (ha ρ _ q F H σ0 σ B _ E fun r ρ1 v F1 H1 z G => ht ρ1 _ z F1 H1 σ0 σ (hB B r v) _ (G.er.hold G.rr) fun cs ρ2 vs F2 H2 ⟨zl, z2⟩ G2 l => ⟨by rw [l.len]; exact zl, fun tp np => ?_⟩)
  have E2 := G2.er.unhold
  have rr := G.rr.held G.er G2.er G2.nx
  obtain ⟨d, w, n, b, h1, h2, z⟩ := E2.seen rr z2
  obtain ⟨us, pa, ka⟩ := any_ok (K := X.K) h1 h2 l
  have n2 := G2.nx.mono hB_sub (B := B)
  obtain ⟨E3, n3⟩ := E2.laid_val (o := .tup vs) np
  have w3 : RW X.K (upd F2 tp (.tup vs)) (upd H2 tp (.tup vs)) v d := by
    rcases w with w | w
    · exact .inl (w.mono n3.fz)
    · obtain ⟨a, o, e1, e2⟩ := w.there
      subst e1
      exact .inr (w.keep n3.fz (upd_ne fun z => by subst z; rw [np] at e2; cases e2))
  exact ⟨v, tp, vs, _, us, b, rfl, upd_same, pa, w3.tyx E3.sub h1, ka, g _ _ _ _ _ z ⟨G.nx.trans (n2.trans n3), E3, .bl _⟩⟩⟩
end YP
set_option maxRecDepth 100000
/-! The yard's pure layer, part 8: methods of lists and texts, stores to places. -/
namespace PySem
open Sem (wp)
section
variable {prog : Program} {w : World} {A : Around} {R : Result → Shared → Prop} {I : Addr} {fp wr : List Addr} {G : Array GenState → Array GenState → Prop} {n m : Nat} {P P' : Nat → Value → Prop} {St : Nat → Shared → Prop}
/-- a walk's items behind what stands in the list -/
theorem ycodeAny_extend_loop (W : WalksS prog w A.in1 I fp wr G n P St) (hn : m + n ≤ sizeLine) (hP' : ∀ i v, P i v → P' (m + i) v) (S : Addr) (hSf : S ∉ fp) (res : Value) :
    ∀ (k i : Nat) (s : Shared) (acc : Array Value) (c : Nat), n - i = k → i ≤ n → St i s → s.heap.get? S = some { cls := .type "list", dict := none, data := .seq acc c, slots := #[] } → ItemsOf P' acc (m + i) →
    (∀ s' acc' c', Moved (S :: wr) G s s' → s'.heap.get? S = some { cls := .type "list", dict := none, data := .seq acc' c', slots := #[] } → ItemsOf P' acc' (m + n) → R (.ok (.ret res)) s') →
    codeAny (model prog w) A (.builtin "list.extend.loop" ⟨[.ref S, .ref I, res], []⟩) R s := by
  have hSw : S ∉ wr := fun h => hSf (W.sub _ h)
  have hsub : ∀ b ∈ wr, b ∈ S :: wr := fun b hb => List.mem_cons_of_mem _ hb
  intro k
  induction k with
  | zero =>
    intro i s acc c hk hi hst hS hacc hR
    have hin : i = n := by omega
    subst hin
    refine codeAny_builtin F.entry_extend_loop ?_
    rw [Around.under_plainId F.plain_extend_loop _]
    show wpAny _ A.in1 (pyNext (.ref I) >>= _) _ _ s
    refine wpAny_bind (W.done s _ _ hst fun s' hm => ?_)
    exact wpAny_pure (hR s' acc c (hm.mono hsub) (hm.heap S _ hSw hS) hacc)
  | succ k ih =>
    intro i s acc c hk hi hst hS hacc hR
    have hlt : i < n := by omega
    refine codeAny_builtin F.entry_extend_loop ?_
    rw [Around.under_plainId F.plain_extend_loop _]
    show wpAny _ A.in1 (pyNext (.ref I) >>= _) _ _ s
    refine wpAny_bind (W.item i s _ _ hlt hst fun v s' hP hst' hm => ?_)
    have hS' := hm.heap S _ hSw hS
    show wpAny _ A.in1 (updateSeq S (·.push v) >>= _) _ _ _
    refine wpAny_bind ?_
    refine wpAny_updateSeq hS' rfl (wpAny_pure ⟨plainId_quiet F.plain_extend_loop _, ih (i + 1) _ (acc.push v) _ (by omega) hlt (W.frame _ s' _ s'.toks hst' (Nat.le_refl _) fun b hb o e => ?_) (Heap.get?_update_self _ hS' rfl) (hacc.push (hP' i v hP)) fun s'' acc' c' hm'' hS'' hacc' => ?_⟩)
      (by rw [hacc.1]; omega) (by show (acc.push v).size ≤ sizeLine + 1; rw [Array.size_push, hacc.1]; omega)
    · exact (Heap.get?_update_other _ _ (fun h : S = b => hSf (by rw [h]; exact hb))).trans e
    · refine hR s'' acc' c' (Moved.trans W.gtrans ((hm.mono hsub).then_heap (by first | exact Nat.le_refl _ | exact Nat.le_succ _ | omega) fun b o hb e => ?_) hm'') hS'' hacc'
      exact (Heap.get?_update_other _ _ (fun h : S = b => hb (by rw [h]; exact List.mem_cons_self))).trans e
end
section
variable {prog : Program} {w : World} {A : Around} {E : Value → Shared → Prop} {s : Shared}
/-- a list, and a text's signs behind -/
theorem ywpAny_extend_str {R : Result → Shared → Prop} (hh : A.handled = none) (x : Str) (t : Tok) (S : Addr) (res : Value) (its : Array Value) (c₀ : Nat) (hS : s.heap.get? S = some { cls := .type "list", data := .seq its c₀ })
    (hR : ∀ h' tk acc' c', (∀ b o, b ≠ S → s.heap.get? b = some o → h'.get? b = some o) → h'.get? S = some { cls := .type "list", dict := none, data := .seq acc' c', slots := #[] } →
      ItemsOf (fun j v => if j < its.size then its[j]? = some v else SignAt x (j - its.size) v) acc' (its.size + x.cps.size) → R (.ok (.ret res)) { s with heap := h', toks := tk }) (hn : its.size + x.cps.size ≤ sizeLine) :
    wpAny (model prog w) A.in1 (Builtin.List.listExtendWith (.ref S) (.str x t) res)
      (fun fin s' => match fin with | .done f => R (.ok f) s' | .again c' => c'.quiet = true ∧ codeAny (model prog w) A c' R s') (fun e s' => R (.error e) s') s := by
  have hSI : S ≠ s.heap.objs.size := Nat.ne_of_lt (Heap.lt_size hS)
  have hSf : S ∉ [s.heap.objs.size] := fun hm => hSI (List.mem_singleton.mp hm)
  unfold Builtin.List.listExtendWith
  refine wpAny_bind (wpAny_typeOf (T := "str") (v := .str x t) rfl ?_)
  have h1 : Builtin.List.listSameRef (.ref S) (.str x t) = false := rfl
  have h2 : (Value.type "str" == Value.type "list") = false := by decide
  have h3 : (Value.type "str" == Value.type "tuple") = false := by decide
  simp only [h1, h2, h3, Bool.or_false, Bool.false_eq_true, if_false]
  refine wpAny_bind (wpAny_pyIter_str fun o St W hst => ?_)
  refine wpAny_bind (wpAny_holding ?_)
  unfold Builtin.List.listLengthHint
  refine wpAny_bind (wpAny_specialOf (T := "str") (v := .str x t) rfl F.str_len ?_)

  wp_delta
  refine wpAny_bind (wpAny_isInstance (T := "str") (v := .str x t) (b := true) rfl (by rw [isSubtype_type]; kernel_rfl) ?_)
  show wpAny _ _ (typeOf (Value.str x t) >>= _) _ _ _
  refine wpAny_bind (wpAny_typeOf (T := "str") (v := .str x t) rfl ?_)
  refine wpAny_pure ?_
  rw [if_neg (by decide)]
  refine wpAny_pure ⟨plainId_quiet F.plain_extend_loop _, ycodeAny_extend_loop (m := its.size) (P' := fun j v => if j < its.size then its[j]? = some v else SignAt x (j - its.size) v) (W A.in1 hh).toS hn (fun i v hp => ?_) _ hSf _ x.cps.size 0 _ _ _ rfl (Nat.zero_le _) hst (Heap.get?_push_of_some _ hS) ⟨rfl, fun j v hj => ?_⟩ fun s' acc' c' hm hS' hacc => ?_⟩
  · have e1 : ¬ its.size + i < its.size := by omega
    have e2 : its.size + i - its.size = i := by omega
    show if its.size + i < its.size then _ else SignAt x (its.size + i - its.size) v
    rw [if_neg e1, e2]; exact hp
  · have hlt : j < its.size := (Array.getElem?_eq_some_iff.mp hj).1
    show if j < its.size then _ else _
    rw [if_pos hlt]; exact hj
  · rw [Moved.eq_with hm]
    refine hR s'.heap s'.toks acc' c' (fun b ob hb e => hm.heap b ob (fun hmem => ?_) (Heap.get?_push_of_some _ e)) hS' hacc
    rcases List.mem_cons.mp hmem with e' | hmem
    · exact hb e'
    · exact absurd (Heap.lt_size e) (by rw [List.mem_singleton.mp hmem]; exact Nat.lt_irrefl _)
theorem ywpAny_extend_tup {M : Model} {A : Around} {l b : Addr} {res : Value} {its its2 : Array Value} {n : Nat} {Q : Fin → Shared → Prop} (hl : s.heap.get? l = some { cls := .type "list", data := .seq its n }) (hb : PyProof.Rows.IsTup s.heap b its2)
    (hz : its.size + its2.size ≤ sizeLine) (h : Q (.done (.ret res)) { s with heap := s.heap.update l (Obj.mapSeq fun x => x ++ its2) }) : wpAny M A (Builtin.List.listExtendWith (.ref l) (.ref b) res) Q E s := by
  obtain ⟨o, ho, hc, k, hd⟩ := hb
  unfold Builtin.List.listExtendWith
  refine wpAny_bind (wpAny_typeOf_ref ho ?_)
  rw [hc]
  have h3 : (Value.type "tuple" == Value.type "tuple") = true := by decide
  simp only [h3, Bool.or_true, if_true]
  unfold Builtin.List.listItems
  refine wpAny_bind (wpAny_bind (wpAny_seqItems ho hd (wpAny_pure ?_)))
  refine wpAny_bind (wpAny_bind (wpAny_seqItems hl rfl (wpAny_pure ?_)))
  have e : (!its.isEmpty && Builtin.List.listTooLong (its.size + its2.size)) = false := by rw [L2.notLongL hz, Bool.and_false]
  simp only [e, Bool.false_eq_true, if_false]
  refine wpAny_bind ?_
  refine wpAny_updateSeq hl rfl ?_ (by omega) (by show (its ++ its2).size ≤ _; rw [Array.size_append]; omega)
  exact wpAny_pure h
end
end PySem

namespace YP
open PySem PySem.Spec PyProof.Rows L2
section
variable {X : Cx}
theorem mext_tup (l b : Addr) (its its2 : Array Value) (n : Nat) (hz : its.size + its2.size ≤ sizeLine) : Meets (Builtin.«list.extend» ⟨[.ref l, .ref b], []⟩)
    (fun _ R s => s.heap.get? l = some { cls := .type "list", data := .seq its n } ∧ IsTup s.heap b its2 ∧ R (.ok (.ret .none)) { s with heap := s.heap.update l (Obj.mapSeq fun x => x ++ its2) }) := fun prog w A R s h => by
  obtain ⟨hl, hb, h⟩ := h
  show wpAny _ _ (Builtin.List.listExtendWith (.ref l) (.ref b) .none) _ _ _
  exact ywpAny_extend_tup hl hb hz h
theorem mext_str (l : Addr) (its : Array Value) (n : Nat) (x : Str) (t : Tok) (hz : its.size + x.cps.size ≤ sizeLine) : Meets (Builtin.«list.extend» ⟨[.ref l, .str x t], []⟩)
    (fun A R s => A.handled = none ∧ s.heap.get? l = some { cls := .type "list", data := .seq its n } ∧ ∀ h' tk acc' c', (∀ b o, b ≠ l → s.heap.get? b = some o → h'.get? b = some o) → h'.get? l = some { cls := .type "list", dict := none, data := .seq acc' c', slots := #[] } →
      ItemsOf (fun j v => if j < its.size then its[j]? = some v else SignAt x (j - its.size) v) acc' (its.size + x.cps.size) → R (.ok (.ret .none)) { s with heap := h', toks := tk }) := fun prog w A R s h => by
  obtain ⟨hh, hl, h⟩ := h
  show wpAny _ _ (Builtin.List.listExtendWith (.ref l) (.str x t) .none) _ _ _
  exact ywpAny_extend_str hh x t l .none its n hl h hz
theorem pairedOf {α β : Type} {R : α → β → Prop} : ∀ {l : List α} {m : List β}, l.length = m.length → (∀ (i : Nat) x, l[i]? = some x → ∃ y, m[i]? = some y ∧ R x y) → Paired R l m
  | [], [], _, _ => .nil
  | [], _ :: _, h, _ => nomatch h
  | _ :: _, [], h, _ => nomatch h
  | a :: l, b :: m, h, k => by
    obtain ⟨y, e, r⟩ := k 0 a rfl
    cases e
    exact .cons r (pairedOf (Nat.succ.inj h) fun i x e => k (i + 1) x e)
def rExtT (K : PySem.W.Frag) : V → List V → Hp → VK → Prop := fun x vs H Q => ∃ l b xs zs, x = .ref l ∧ vs = [.ref b] ∧ H l = some (.lst xs) ∧ SqT K H b zs ∧ xs.length + zs.length ≤ sizeLine ∧ Q .non (upd H l (.lst (xs ++ zs)))
theorem mt_extT : MtR X "list.extend" (rExtT X.K) := by
  intro pins s σ H x vs v us Q I rx rv h
  obtain ⟨l, b, xs, zs, rfl, rfl, hH, hB, hz, q⟩ := h
  cases rx
  obtain ⟨u, rfl, ru⟩ := rv.one
  cases ru
  obtain ⟨z, its, n, r, hl, e⟩ := I.lstM hH
  obtain ⟨its2, r2, e2, _⟩ := I.tuple hB
  have l2 := r2.length
  refine call_meets F.slot_list_extend ⟨_, e, rfl⟩ F.entry_list_extend (F.args_list_extend_2 _ _) (mext_tup l b its.toArray its2.toArray n (by rw [List.size_toArray, List.size_toArray]; omega)) ⟨e, e2, ?_⟩
  refine ⟨.non, _, I.lset (its' := its ++ its2) (t' := s.toks) hH e (by simp) (r.append r2) ?_, rfl, q⟩
  rw [List.length_append]
  omega
def rExtS : V → List V → Hp → VK → Prop := fun x vs H Q => ∃ l xs z, x = .ref l ∧ vs = [.str z] ∧ H l = some (.lst xs) ∧ xs.length + z.cps.size ≤ sizeLine ∧ Q .non (upd H l (.lst (xs ++ z.cps.toList.map fun c => .str ⟨#[c]⟩)))
theorem mt_extS (hc : X.calm = true) : MtR X "list.extend" rExtS := by
  intro pins s σ H x vs v us Q I rx rv h
  obtain ⟨l, xs, z, rfl, rfl, hH, hz, q⟩ := h
  cases rx
  obtain ⟨u, rfl, ru⟩ := rv.one
  obtain ⟨t, rfl⟩ := ru
  obtain ⟨zl, its, n, r, hl, e⟩ := I.lstM hH
  refine call_meets F.slot_list_extend ⟨_, e, rfl⟩ F.entry_list_extend (F.args_list_extend_2 _ _) (mext_str l its.toArray n z t (by rw [List.size_toArray]; omega)) ⟨I.ok.hd hc, e, fun h' tk acc' c' k e' it => ?_⟩
  have rv' : Vals (xs ++ z.cps.toList.map fun c => V.str ⟨#[c]⟩) acc'.toList := by
    refine pairedOf ?_ fun i x hx => ?_
    · have i1 : acc'.size = its.toArray.size + z.cps.size := it.1
      have i2 : its.toArray.size = its.length := List.size_toArray
      have i3 : acc'.toList.length = acc'.size := Array.length_toList
      have i4 : z.cps.toList.length = z.cps.size := Array.length_toList
      rw [List.length_append, List.length_map]
      omega
    · by_cases hi : i < xs.length
      · rw [List.getElem?_append_left hi] at hx
        obtain ⟨u, e1, r1⟩ := r.get hx
        have hi2 : i < acc'.size := by rw [it.1, List.size_toArray]; omega
        have e3 : acc'[i]? = some acc'[i] := Array.getElem?_eq_getElem hi2
        have p : if i < its.toArray.size then its.toArray[i]? = some acc'[i] else SignAt z (i - its.toArray.size) acc'[i] := it.2 i _ e3
        have hi3 : i < its.toArray.size := by rw [List.size_toArray]; omega
        rw [if_pos hi3] at p
        refine ⟨acc'[i], by rw [Array.getElem?_toList]; exact e3, ?_⟩
        have e4 : its[i]? = some acc'[i] := by simpa using p
        rw [e1] at e4
        cases e4; exact r1
      · rw [List.getElem?_append_right (by omega), List.getElem?_map] at hx
        cases q2 : z.cps.toList[i - xs.length]? with
        | none => rw [q2] at hx; cases hx
        | some c =>
          rw [q2] at hx; cases hx
          have hl2 : i - xs.length < z.cps.toList.length := (List.getElem?_eq_some_iff.mp q2).1
          have i4 : z.cps.toList.length = z.cps.size := Array.length_toList
          rw [i4] at hl2
          have hi2 : i < acc'.size := by rw [it.1, List.size_toArray]; omega
          have e3 : acc'[i]? = some acc'[i] := Array.getElem?_eq_getElem hi2
          have p : if i < its.toArray.size then its.toArray[i]? = some acc'[i] else SignAt z (i - its.toArray.size) acc'[i] := it.2 i _ e3
          have hi3 : ¬ i < its.toArray.size := by rw [List.size_toArray]; omega
          rw [if_neg hi3] at p
          obtain ⟨c', u, e5, e6⟩ := p
          rw [List.size_toArray, ← hl] at e5
          rw [Array.getElem?_toList] at q2
          rw [q2] at e5; cases e5
          exact ⟨acc'[i], by rw [Array.getElem?_toList]; exact e3, u, e6⟩
  have I2 : Inv X pins σ (upd H l (.lst (xs ++ z.cps.toList.map fun c => V.str ⟨#[c]⟩))) { s with heap := h', toks := tk } := by
    refine I.write (x := l) (e := l) (by rw [hH]; exact trivial) (.inl rfl) (fun b u hb hu => k b u hb hu) ⟨_, e'⟩ ?_
    refine ⟨by rw [List.length_append, List.length_map, Array.length_toList]; omega, acc'.toList, c', rv', ?_⟩
    rw [Array.toArray_toList]; exact e'
  exact ⟨.non, _, I2, rfl, q⟩

/-! ### methods that change a list -/
structure MuS (X : Cx) (id : String) (m : List D → List D → (List D → D → Prop) → Prop) : Prop where
  ex : ∃ r, MtR X id r ∧ ∀ {F H : Hp} {a : Addr} {us vs : List V} {l ds : List D} {T : List D → D → Prop} {Q : VK}, Same F H → H a = some (.lst us) → RL X.K F us l → RL X.K F vs ds → m l ds T →
    (∀ l' e v us', T l' e → RL X.K F us' l' → RD X.K F v e → Q v (upd H a (.lst us'))) → r (.ref a) vs H Q
theorem MuS.of {id : String} {m : List D → List D → (List D → D → Prop) → Prop} {r : V → List V → Hp → VK → Prop} (h : MtR X id r) (k : ∀ {F H : Hp} {a : Addr} {us vs : List V} {l ds : List D} {T : List D → D → Prop} {Q : VK}, Same F H → H a = some (.lst us) → RL X.K F us l → RL X.K F vs ds → m l ds T →
    (∀ l' e v us', T l' e → RL X.K F us' l' → RD X.K F v e → Q v (upd H a (.lst us'))) → r (.ref a) vs H Q) : MuS X id m := ⟨⟨r, h, k⟩⟩
theorem MtR.or {id : String} {r r' : V → List V → Hp → VK → Prop} (h : MtR X id r) (h' : MtR X id r') : MtR X id (fun x xs H Q => r x xs H Q ∨ r' x xs H Q) := by
  intro pins s σ H x xs v us Q I rx rxs q
  rcases q with q | q
  · exact h pins s σ H x xs v us Q I rx rxs q
  · exact h' pins s σ H x xs v us Q I rx rxs q
/-- the list that a slot holds as one's own -/
def ownL (ρ : List Sl) (r : Rv) (k : Nat → Bool → List D → Prop) : Prop := match r with
  | .at i => match ρ[i]? with
    | some (.sl true p (.lst l)) => k i p l
    | _ => False
  | _ => False
theorem ownL_of {ρ : List Sl} {r : Rv} {k : Nat → Bool → List D → Prop} (h : ownL ρ r k) : ∃ i p l, r = .at i ∧ ρ[i]? = some (.sl true p (.lst l)) ∧ k i p l := by
  unfold ownL at h
  split at h
  · split at h
    · exact ⟨_, _, _, rfl, ‹_›, h⟩
    · exact h.elim
  · exact h.elim
def uMu (m : List D → List D → (List D → D → Prop) → Prop) (ue : UE) (ua : UA) : UE := fun ρ R => ue ρ fun r ρ1 => ownL ρ1 r fun _ _ _ => ua ρ1 fun ds ρ2 => ownL ρ2 r fun i p l => m l ds fun l' e => R (.val e) (ρ2.set i (.sl true p (.lst l')))
section
variable {o e : Expr} {es : List Expr} {name : Str} {apos cpos : Pos} {id : String} {m : List D → List D → (List D → D → Prop) → Prop} {ue : UE} {ua : UA} {F H : Hp} {σ0 σ : L2.St} {ρ : List Sl} {B : Addr → Prop}
theorem mu_go (k : ∃ r, MtR X id r ∧ ∀ {F H : Hp} {a : Addr} {us vs : List V} {l ds : List D} {T : List D → D → Prop} {Q : VK}, Same F H → H a = some (.lst us) → RL X.K F us l → RL X.K F vs ds → m l ds T →
    (∀ l' e v us', T l' e → RL X.K F us' l' → RD X.K F v e → Q v (upd H a (.lst us'))) → r (.ref a) vs H Q) (ho : FE X o ue) (ha : FA X es ua) {R : Rv → List Sl → Prop} {Q : VK} (q : uMu m ue ua ρ R) (E : ER X.K F H σ0 ρ σ B)
    (g : ∀ r ρ' v F' H', R r ρ' → Gt X.K F H F' H' σ0 ρ' σ B r v → Q v H') : ∃ r, MtR X id r ∧ tS X o σ H fun x H1 => tyV X.K "list" x H1 ∧ tA X es σ H1 fun xs H2 => r x xs H2 Q := by
  obtain ⟨r, hr, k⟩ := k
  refine ⟨r, hr, ho ρ _ q F H σ0 σ B _ E fun r1 ρ1 x F1 H1 z G => ?_⟩
  obtain ⟨i, p, l, rfl, e1, z⟩ := ownL_of z
  have si : σ[i]? = some (some x) := G.rr
  obtain ⟨a, e2, ro, _⟩ := G.er.ow i p _ e1
  rw [si] at e2; cases e2
  cases ro with
  | @lst _ us _ h1 l1 =>
    refine ⟨.inl ⟨rfl, us, .of h1⟩, ha ρ1 _ z F1 H1 σ0 σ B _ G.er fun ds ρ2 vs F2 H2 z G2 l2 => ?_⟩
    obtain ⟨j, p2, l', e3, e4, z⟩ := ownL_of z
    cases e3
    obtain ⟨a', e5, ro2, _⟩ := G2.er.ow _ _ _ e4
    rw [si] at e5; cases e5
    cases ro2 with
    | @lst _ us2 _ h3 l3 =>
      refine k G2.er.sub h3 l3 l2 z fun l'' e v us' t rl rd => ?_
      obtain ⟨E3, n3⟩ := G2.er.wrote e4 si (o := .lst us') (e := .lst l'') (.lst upd_same rl)
      exact g _ _ _ _ _ t ⟨G.nx.trans (G2.nx.trans n3), E3, rd⟩
theorem fe_mu (mu : MuS X id m) (slot : Slot "list" name id) (hty : typeOf (.builtin id) = pure (.type "method_descriptor")) (ho : FE X o ue) (ha : FA X (e :: es) ua)
    (hbase : attributeBase o name X.env (eval o X.env) = eval o X.env := by rfl)
    (hfew : ((backTo cpos (starEach (e :: es) X.env)).all (fun x => !x.1) && (backToKw cpos (keywordEach [] X.env)).all (fun x => x.1.isSome)
      && decide ((e :: es).length + ([] : List Keyword).length + (if ([] : List Keyword).isEmpty then 0 else 1) < 30)) = true := by rfl)
    (hline : (apos.endLine == cpos.line) = true := by rfl) (hs : starEach (e :: es) X.env = (false, eval e X.env) :: starEach es X.env := by rfl) (hplain : (backTo cpos (starEach es X.env)).any (·.1) = false := by rfl) :
    FE X (.Call (.Attribute o name apos) (e :: es) [] cpos) (uMu m ue ua) := ⟨fun ρ R q F H σ0 σ B Q E g => by
  obtain ⟨r, hr, t⟩ := mu_go mu.ex ho ha q E g
  exact to_S (pe_bm PySem.F.plainAttrs_list slot hty hr pe_S pa_S hbase hfew hline hs hplain) t⟩
theorem fe_mu0 (mu : MuS X id m) (slot : Slot "list" name id) (hty : typeOf (.builtin id) = pure (.type "method_descriptor")) (ho : FE X o ue)
    (hbase : attributeBase o name X.env (eval o X.env) = eval o X.env := by rfl) (hline : (apos.endLine == cpos.line) = true := by rfl) :
    FE X (.Call (.Attribute o name apos) [] [] cpos) (uMu m ue uNil) := ⟨fun ρ R q F H σ0 σ B Q E g => by
  obtain ⟨r, hr, k⟩ := mu.ex
  refine to_S (pe_bm0 PySem.F.plainAttrs_list slot hty hr pe_S hbase hline) (ho ρ _ q F H σ0 σ B _ E fun r1 ρ1 x F1 H1 z G => ?_)
  obtain ⟨i, p, l, rfl, e1, z⟩ := ownL_of z
  have si : σ[i]? = some (some x) := G.rr
  obtain ⟨a, e2, ro, _⟩ := G.er.ow i p _ e1
  rw [si] at e2; cases e2
  cases ro with
  | @lst _ us _ h1 l1 =>
    refine ⟨.inl ⟨rfl, us, .of h1⟩, ?_⟩
    obtain ⟨j, p2, l', e3, e4, z⟩ := ownL_of (show ownL ρ1 (.at i) (fun i p l => m l [] fun l' e => R (.val e) (ρ1.set i (Sl.sl true p (D.lst l')))) from z)
    cases e3
    rw [e1] at e4; cases e4
    refine k G.er.sub h1 l1 .nil z fun l'' e v us' t rl rd => ?_
    obtain ⟨E3, n3⟩ := G.er.wrote e1 si (o := .lst us') (e := .lst l'') (.lst upd_same rl)
    exact g _ _ _ _ _ t ⟨G.nx.trans n3, E3, rd⟩⟩
end
def mAppend (l ds : List D) (T : List D → D → Prop) : Prop := match ds with
  | [d] => l.length < sizeLine ∧ T (l ++ [d]) .non
  | _ => False
theorem mu_append : MuS X "list.append" mAppend := .of mt_append fun {F H a us vs l ds T Q} s h rl rv t g => by
  unfold mAppend at t
  split at t
  · cases rv with
    | cons r1 r2 =>
      cases r2
      exact ⟨a, us, _, rfl, rfl, h, by rw [rl.len]; exact t.1, g _ _ _ _ t.2 (rl.snoc r1) .non⟩
  · exact t.elim
def mExtend (l ds : List D) (T : List D → D → Prop) : Prop := match ds with
  | [.lst k] => l.length + k.length ≤ sizeLine ∧ T (l ++ k) .non
  | [.tup k] => l.length + k.length ≤ sizeLine ∧ T (l ++ k) .non
  | [.str x] => l.length + x.cps.size ≤ sizeLine ∧ T (l ++ x.cps.toList.map fun c => .str ⟨#[c]⟩) .non
  | _ => False
theorem signs_rl {K : PySem.W.Frag} {F : Hp} : ∀ l : List Nat, RL K F (l.map fun c => V.str ⟨#[c]⟩) (l.map fun c => D.str ⟨#[c]⟩)
  | [] => .nil
  | c :: l => .cons (.str _) (signs_rl l)
theorem mu_extend (hc : X.calm = true) : MuS X "list.extend" mExtend := .of (MtR.or mt_extend (MtR.or mt_extT (mt_extS hc))) fun {F H a us vs l ds T Q} s h rl rv t g => by
  unfold mExtend at t
  split at t
  · cases rv with
    | cons r1 r2 =>
      cases r2
      cases r1 with
      | @lst b zs _ h2 l2 => exact .inl ⟨a, b, us, zs, rfl, rfl, h, s _ _ h2, by rw [rl.len, l2.len]; exact t.1, g _ _ _ _ t.2 (rl.app l2) .non⟩
  · cases rv with
    | cons r1 r2 =>
      cases r2
      cases r1 with
      | @tup b zs _ h2 l2 => exact .inr (.inl ⟨a, b, us, zs, rfl, rfl, h, sqT_mono s h2, by rw [rl.len, l2.len]; exact t.1, g _ _ _ _ t.2 (rl.app l2) .non⟩)
  · cases rv with
    | cons r1 r2 =>
      cases r2
      cases r1
      exact .inr (.inr ⟨a, us, _, rfl, rfl, h, by rw [rl.len]; exact t.1, g _ _ _ _ t.2 (rl.app (signs_rl _)) .non⟩)
  · exact t.elim
def mPop (l ds : List D) (T : List D → D → Prop) : Prop := ds = [] ∧ ∃ k d, l = k ++ [d] ∧ T k d
theorem mu_pop : MuS X "list.pop" mPop := .of mt_pop fun {F H a us vs l ds T Q} s h rl rv t g => by
  obtain ⟨rfl, k, d, rfl, t⟩ := t
  cases rv
  obtain ⟨us', v, es, d', e1, e2, l1, r1⟩ := rl.last (by simp)
  obtain ⟨e3, e4⟩ := List.append_inj' e2 rfl
  subst e1 e3
  cases e4
  refine ⟨a, _, v, rfl, rfl, h, by simp, ?_⟩
  rw [List.dropLast_concat]
  exact g _ _ _ _ t l1 r1
end
end YP
set_option maxRecDepth 100000
/-! The yard's pure layer, part 9: join, stores to places, dicts with keys of numbers and texts. -/
namespace YP
open PySem PySem.Spec PyProof.Rows L2
section
variable {X : Cx} {o e f : Expr} {uo ue uf : UE} {apos cpos pos : Pos}

/-! ### sep.join(list of texts) -/
def oJoin (d e : D) (T : Rv → Prop) : Prop := match d, e with
  | .str a, .lst l => ∃ ys : List Str, l = ys.map D.str ∧ (ys.map (·.length)).sum + ys.length * a.length ≤ 16777216 ∧ T (.val (.str (Txt.join a ys)))
  | _, _ => False
def uJoin (ua ub : UE) : UE := fun ρ R => ua ρ fun r ρ1 => match r with
  | .val (.str a) => ub ρ1 fun q ρ2 => wv ρ2 q fun e => oJoin (.str a) e fun z => R z ρ2
  | _ => False
theorem fe_join (ho : FE X o uo) (he : FE X e ue) (hs : starEach [e] X.env = [(false, eval e X.env)] := by rfl) (hbase : attributeBase o "join" X.env (eval o X.env) = eval o X.env := by rfl) (hline : (apos.endLine == cpos.line) = true := by rfl) :
    FE X (.Call (.Attribute o "join" apos) [e] [] cpos) (uJoin uo ue) := ⟨fun ρ R q F H σ0 σ B Q E g => by
  refine to_S (pe_join pe_S pe_S hs hbase hline) (ho ρ _ q F H σ0 σ B _ E fun r ρ1 v F1 H1 z G => ?_)
  split at z
  case h_2 => exact z.elim
  rename_i a
  have rr : RD X.K F1 v (.str a) := G.rr
  cases rr
  refine ⟨⟨a, rfl⟩, he ρ1 _ z F1 H1 σ0 σ B _ G.er fun q ρ2 u F2 H2 z G2 => ?_⟩
  obtain ⟨d, w, z⟩ := G2.er.seen G2.rr z
  unfold oJoin at z
  split at z
  · rename_i l e1
    obtain ⟨ys, rfl, hz, t⟩ := z
    cases e1
    obtain ⟨p, us, rfl, h1, l1⟩ := w.lst G2.er.sub
    cases rl_strs l1
    exact ⟨a, p, ys, rfl, rfl, .inl (.of h1), hz, g _ _ _ _ _ t ⟨G.nx.trans G2.nx, G2.er, .str _⟩⟩
  · exact z.elim⟩

/-! ### l[i] = v, the list one's own -/
def uPutL (uv uo ui : UE) : US := fun E ρ => uv ρ fun r ρ1 => wv ρ1 r fun d => uo (frz ρ1 r) fun q ρ2 => ui ρ2 fun s ρ3 => match s with
  | .val (.int k) => ownL ρ3 q fun i p l => ∃ j, ixN l.length k = some j ∧ E.nx (ρ3.set i (.sl true p (.lst (l.set j d))))
  | _ => False
theorem fs_putL {st : Stmt} {v i : Expr} {uv ui : UE} (h : PS X st (tAsg (tS X v) (gSub (tS X o) (tS X i) rSetL))) (hv : FE X v uv) (ho : FE X o uo) (hi : FE X i ui) : FS X st (uPutL uv uo ui) := ⟨fun E ρ q F H σ0 σ B D er f => by
  refine to_SS h (hv ρ _ q F H σ0 σ B _ er fun r ρ1 x F1 H1 z G => ?_)
  obtain ⟨F2, d, n2, E2, rd, z⟩ := G.er.freeze G.rr z
  refine ho _ _ z F2 H1 σ0 σ B _ E2 fun q ρ2 y F3 H3 z G3 => hi ρ2 _ z F3 H3 σ0 σ (hB B q y) _ (G3.er.hold G3.rr) fun s ρ3 w F4 H4 z G4 => ?_
  split at z
  case h_2 => exact z.elim
  rename_i k
  have E4 := G4.er.unhold
  have rq := G3.rr.held G3.er G4.er G4.nx
  have rs : RD X.K F4 w (.int k) := G4.rr
  cases rs
  obtain ⟨i, p, l, rfl, e1, j, ej, z⟩ := ownL_of z
  have si : σ[i]? = some (some y) := rq
  obtain ⟨a, e2, ro, _⟩ := E4.ow i p _ e1
  rw [si] at e2; cases e2
  cases ro with
  | @lst _ us _ h1 l1 =>
    refine ⟨a, us, k, j, rfl, rfl, h1, by rw [l1.len]; exact ej, ?_⟩
    have rd4 := rd.mono (G3.nx.fz.trans G4.nx.fz)
    obtain ⟨E5, n5⟩ := E4.wrote e1 si (o := .lst (us.set j x)) (e := .lst (l.set j d)) (.lst upd_same (l1.set j rd4))
    exact f.nx _ _ F4 _ z ⟨G.nx.trans (n2.trans (G3.nx.trans ((G4.nx.mono hB_sub).trans n5))), E5⟩⟩

/-! ### dicts -/
def keyD : D → Option Key
  | .int i => some (.inl i)
  | .str x => some (.inr x)
  | _ => none
theorem keyD_v {K : PySem.W.Frag} {F H : Hp} {v : V} {d : D} {k : Key} (h : RW K F H v d) (e : keyD d = some k) : v = kV k := by
  cases d with
  | int i => cases e; exact h.int
  | str x => cases e; exact h.str
  | _ => cases e
def kget (l : List (Key × D)) (k : Key) : Option D := (l.find? fun kv => decide (kv.1 = k)).map (·.2)
def kput (l : List (Key × D)) (k : Key) (d : D) : List (Key × D) :=
  if (l.any fun kv => decide (kv.1 = k)) = true then l.map (fun kv => if kv.1 = k then (kv.1, d) else kv) else l ++ [(k, d)]
theorem RK.get {K : PySem.W.Frag} {F : Hp} {k : Key} : ∀ {vs : List (Key × V)} {ds : List (Key × D)}, RK K F vs ds → (valV vs k = none ∧ kget ds k = none) ∨ ∃ v d, valV vs k = some v ∧ kget ds k = some d ∧ RD K F v d
  | _, _, .nil => .inl ⟨rfl, rfl⟩
  | _, _, @RK.cons _ _ k' v vs d ds h t => by
    by_cases e : k' = k
    · refine .inr ⟨v, d, ?_, ?_, h⟩
      · unfold valV; rw [List.find?_cons]; simp [e]
      · unfold kget; rw [List.find?_cons]; simp [e]
    · have e1 : valV ((k', v) :: vs) k = valV vs k := by unfold valV; rw [List.find?_cons]; simp [e]
      have e2 : kget ((k', d) :: ds) k = kget ds k := by unfold kget; rw [List.find?_cons]; simp [e]
      rw [e1, e2]
      exact t.get
theorem RK.any {K : PySem.W.Frag} {F : Hp} {k : Key} : ∀ {vs : List (Key × V)} {ds : List (Key × D)}, RK K F vs ds → (vs.any fun kv => decide (kv.1 = k)) = (ds.any fun kv => decide (kv.1 = k))
  | _, _, .nil => rfl
  | _, _, .cons _ t => by rw [List.any_cons, List.any_cons, t.any]
theorem RK.snoc {K : PySem.W.Frag} {F : Hp} {k : Key} {v : V} {d : D} (r : RD K F v d) : ∀ {vs : List (Key × V)} {ds : List (Key × D)}, RK K F vs ds → RK K F (vs ++ [(k, v)]) (ds ++ [(k, d)])
  | _, _, .nil => .cons r .nil
  | _, _, .cons h t => .cons h (t.snoc r)
theorem RK.mapp {K : PySem.W.Frag} {F : Hp} {k : Key} {v : V} {d : D} (r : RD K F v d) : ∀ {vs : List (Key × V)} {ds : List (Key × D)}, RK K F vs ds → RK K F (vs.map fun kv => if kv.1 = k then (kv.1, v) else kv) (ds.map fun kv => if kv.1 = k then (kv.1, d) else kv)
  | _, _, .nil => .nil
  | _, _, @RK.cons _ _ k' v' vs d' ds h t => by
    rw [List.map_cons, List.map_cons]
    by_cases e : k' = k
    · rw [if_pos e, if_pos e]; exact .cons r (t.mapp r)
    · rw [if_neg e, if_neg e]; exact .cons h (t.mapp r)
theorem RK.put {K : PySem.W.Frag} {F : Hp} {k : Key} {v : V} {d : D} {vs : List (Key × V)} {ds : List (Key × D)} (h : RK K F vs ds) (r : RD K F v d) : RK K F (putK vs k v) (kput ds k d) := by
  unfold putK kput
  rw [h.any]
  split
  · exact h.mapp r
  · exact h.snoc r
def kmerge (l more : List (Key × D)) : List (Key × D) := more.foldl (fun acc kv => kput acc kv.1 kv.2) l
theorem RK.merge {K : PySem.W.Frag} {F : Hp} : ∀ {vs : List (Key × V)} {ds : List (Key × D)} {us : List (Key × V)} {es : List (Key × D)}, RK K F us es → RK K F vs ds → RK K F (mergeK vs us) (kmerge ds es)
  | _, _, _, _, .nil, h => h
  | vs, ds, _, _, @RK.cons _ _ k v us d es r t, h => (show RK K F (mergeK (putK vs k v) us) (kmerge (kput ds k d) es) from RK.merge t (h.put r))

/-- {} -/
def uDNew : UE := fun ρ R => R (.own (.dic [])) ρ
theorem fe_dnew : FE X (.Dict [] [] pos) uDNew := ⟨fun ρ R q F H σ0 σ B Q E g =>
  to_S pe_dnewK (gt_dic (T := fun z => R z ρ) E (fun z v F' H' t G => g z ρ v F' H' t G) q .nil)⟩
/-- the pairs of a display -/
abbrev UP := List Sl → (List (Key × D) → List Sl → Prop) → Prop
def tP (X : Cx) (pos : Pos) (ks : List (Option Expr)) (vs : List Expr) (σ : L2.St) (H : Hp) (Q : List (V × V) → Hp → Prop) : Prop := ∃ trs, PPs X pos ks vs trs ∧ tPairs trs σ H Q
def FP (X : Cx) (pos : Pos) (ks : List (Option Expr)) (vs : List Expr) (u : UP) : Prop := ∃ trs, PPs X pos ks vs trs ∧ ∀ (ρ : List Sl) (R : List (Key × D) → List Sl → Prop), u ρ R → ∀ (F H : Hp) (σ0 σ : L2.St) (B : Addr → Prop) (Q : List (V × V) → Hp → Prop), ER X.K F H σ0 ρ σ B →
  (∀ ds ρ' kvs F' H', R ds ρ' → Gd X.K F H F' H' σ0 ρ' σ B → RK X.K F' kvs ds → Q (kvs.map fun kv => (kV kv.1, kv.2)) H') → tPairs trs σ H Q
def uPNil : UP := fun ρ R => R [] ρ
def uPCons (uk uv : UE) (u : UP) : UP := fun ρ R => uk ρ fun r ρ1 => match r with
  | .val dk => ∃ k, keyD dk = some k ∧ uv ρ1 fun q ρ2 => wv ρ2 q fun d => u (frz ρ2 q) fun l ρ3 => R ((k, d) :: l) ρ3
  | _ => False
theorem fp_nil : FP X pos [] [] uPNil := ⟨[], pps_nil, fun ρ R q F H σ0 σ B Q E g => g [] ρ [] F H q ⟨.refl _ _ _, E⟩ .nil⟩
theorem fp_cons {k v : Expr} {ks : List (Option Expr)} {vs : List Expr} {uk uv : UE} {u : UP} (hk : FE X k uk) (hv : FE X v uv) (hr : FP X pos ks vs u) : FP X pos (some k :: ks) (v :: vs) (uPCons uk uv u) := by
  obtain ⟨trs, h1, h2⟩ := hr
  refine ⟨_, pps_cons pe_S pe_S h1, fun ρ R q F H σ0 σ B Q E g => ?_⟩
  refine hk ρ _ q F H σ0 σ B _ E fun r ρ1 x F1 H1 z G => ?_
  split at z
  case h_2 => exact z.elim
  rename_i dk
  obtain ⟨k, ek, z⟩ := z
  have rr : RD X.K F1 x dk := G.rr
  have ex := keyD_v (H := H1) (.inl rr) ek
  subst ex
  refine hv ρ1 _ z F1 H1 σ0 σ B _ G.er fun q ρ2 y F2 H2 z G2 => ?_
  obtain ⟨F3, d, n3, E3, rd, z⟩ := G2.er.freeze G2.rr z
  refine h2 _ _ z F3 H2 σ0 σ B _ E3 fun ds ρ4 kvs F4 H4 z G4 rk => ?_
  exact g _ _ ((k, y) :: kvs) F4 H4 z ⟨G.nx.trans (G2.nx.trans (n3.trans G4.nx)), G4.er⟩ (.cons (rd.mono G4.nx.fz) rk)
def uDisp (u : UP) : UE := fun ρ R => u ρ fun l ρ1 => l.length ≤ 15 ∧ R (.own (.dic (kmerge [] l))) ρ1
theorem fe_disp {keys : List (Option Expr)} {values : List Expr} {u : UP} (h : FP X pos keys values u) (hall : keys.all (·.isSome) = true := by rfl) (hl : keys.length = values.length := by rfl) (h0 : keys ≠ [] := by exact fun z => nomatch z)
    (h15 : keys.length ≤ 15 := by decide) : FE X (.Dict keys values pos) (uDisp u) := ⟨fun ρ R q F H σ0 σ B Q E g => by
  obtain ⟨trs, h1, h2⟩ := h
  refine to_S (pe_disp h1 hall hl h0 h15) fun p np => ?_
  have rr : RR X.K F (upd H p (.dK [])) ρ σ B (.own (.dic [])) (.ref p) := E.laid_own np (.dic upd_same .nil)
  have E1 : ER X.K F (upd H p (.dK [])) σ0 ρ σ B := E.laid np
  refine h2 ρ _ q F _ σ0 σ (hB B (.own (.dic [])) (.ref p)) _ (E1.hold rr) fun l ρ2 kvs F2 H2 ⟨z1, z2⟩ G2 rk => ?_
  have E2 := G2.er.unhold
  obtain ⟨a, ea, ro, n2, nb, ns⟩ := rr.held E1 G2.er G2.nx
  cases ea
  have hp : H2 p = some (.dK []) := (G2.nx.out p (.inr rfl)).trans upd_same
  refine ⟨hp, kvs, rfl, by rw [rk.len]; exact z1, ?_⟩
  have E3 : ER X.K F2 (upd H2 p (.dK (mergeK [] kvs))) σ0 ρ2 σ B := by
    refine ⟨E2.len, fun b u q => by rw [upd_ne (ne_of_none q n2)]; exact E2.sub b u q, E2.fz, fun i q d h => ?_, E2.inj, E2.par, fun b hb => ⟨?_, (E2.out b hb).2⟩⟩
    · obtain ⟨c, ec, ro', m, mb⟩ := E2.ow i q d h
      have hc : c ≠ p := fun z => by subst z; exact ns i q d h ec
      exact ⟨c, ec, ro'.keep (Same.refl _) (upd_ne hc), m, mb⟩
    · have hb' : b ≠ p := fun z => by subst z; exact nb hb
      rw [upd_ne hb']; exact (E2.out b hb).1
  refine g _ _ _ F2 _ z2 ⟨(nx_new E np).trans ((G2.nx.mono hB_sub).trans ⟨Same.refl _, fun b hb => upd_ne fun z => by subst z; exact nb hb⟩), E3, p, rfl, .dic upd_same (rk.merge .nil), n2, nb, ns⟩⟩

/-! ### d[k], k in d, d.get(k, x), d[k] = v -/
def oDGet (d e : D) (T : Rv → Prop) : Prop := match d with
  | .dic l => ∃ k x, keyD e = some k ∧ kget l k = some x ∧ T (.val x)
  | _ => False
theorem fe_dget (hu : X.A.units + 1 < cLine) (ho : FE X o uo) (hi : FE X e ue) (hs : NoSl e := by exact fun _ _ => rfl) : FE X (.Subscript o e pos) (uBin oDGet uo ue) := ⟨fun ρ R q F H σ0 σ B Q E g => by
  refine to_S (pe_dget hu pe_S pe_S hs) (FE.two ho hi q E (fun x y H2 => _) fun p q ρ2 x y F2 H2 t n2 E2 r1 r2 => ?_)
  obtain ⟨d, w1, t⟩ := E2.seen r1 t
  obtain ⟨e, w2, t⟩ := E2.seen (r2.weak hB_sub) t
  unfold oDGet at t
  split at t
  · obtain ⟨k, x', ek, eg, t⟩ := t
    obtain ⟨a, kvs, rfl, h1, rk⟩ := w1.dic E2.sub
    cases keyD_v w2 ek
    rcases rk.get (k := k) with ⟨_, z⟩ | ⟨v, d', z1, z2, rd⟩
    · rw [z] at eg; cases eg
    · rw [z2] at eg; cases eg
      refine ⟨a, v, rfl, ?_, g _ _ _ _ _ t ⟨n2, E2, rd⟩⟩
      rw [← z1]; exact .inl ⟨_, _, h1, rfl, rfl⟩
  · exact t.elim⟩
def oDIn (neg : Bool) (e d : D) (T : Rv → Prop) : Prop := match d with
  | .dic l => ∃ k, keyD e = some k ∧ T (.val (.bl (neg ^^ (kget l k).isSome)))
  | _ => False
theorem rk_some {K : PySem.W.Frag} {F : Hp} {k : Key} {vs : List (Key × V)} {ds : List (Key × D)} (h : RK K F vs ds) : (valV vs k).isSome = (kget ds k).isSome := by
  rcases h.get (k := k) with ⟨z1, z2⟩ | ⟨v, d', z1, z2, _⟩ <;> rw [z1, z2] <;> rfl
theorem din_run {neg : Bool} {R : Rv → List Sl → Prop} {Q : VK} {ρ : List Sl} {F H : Hp} {σ0 σ : L2.St} {B : Addr → Prop} (hi : FE X e ue) (ho : FE X o uo) (q : uBin (oDIn neg) ue uo ρ R) (E : ER X.K F H σ0 ρ σ B)
    (g : ∀ r ρ' v F' H', R r ρ' → Gt X.K F H F' H' σ0 ρ' σ B r v → Q v H') : tS X e σ H fun y H1 => tS X o σ H1 fun x H2 => ∃ a ov, x = .ref a ∧ DGet H2 a y ov ∧ Q (.bl (neg ^^ ov.isSome)) H2 :=
  FE.two hi ho q E (fun x y H2 => _) fun p q ρ2 x y F2 H2 t n2 E2 r1 r2 => by
    obtain ⟨d, w1, t⟩ := E2.seen r1 t
    obtain ⟨e, w2, t⟩ := E2.seen (r2.weak hB_sub) t
    unfold oDIn at t
    split at t
    · obtain ⟨k, ek, t⟩ := t
      obtain ⟨a, kvs, rfl, h1, rk⟩ := w2.dic E2.sub
      cases keyD_v w1 ek
      exact ⟨a, _, rfl, .inl ⟨_, _, h1, rfl, rfl⟩, by rw [rk_some rk]; exact g _ _ _ _ _ t ⟨n2, E2, .bl _⟩⟩
    · exact t.elim
theorem fe_din (hu : X.A.units + 1 < cLine) (hi : FE X e ue) (ho : FE X o uo) (h1 : behindInMarks .In o = false := by rfl) : FE X (.Compare e [.In] [o] pos) (uBin (oDIn false) ue uo) := ⟨fun ρ R q F H σ0 σ B Q E g =>
  to_S (pe_cmp (pc_din hu pe_S pe_S) h1) (fun pins s I => thn (din_run (Q := Q) hi ho q E g pins s I) fun v s1 ⟨y, H1, I1, r1, q1⟩ => ⟨y, H1, I1, r1, fun pins s I => thn (q1 pins s I) fun v s2 ⟨x, H2, I2, r2, a, ov, e1, e2, q2⟩ => ⟨x, H2, I2, r2, a, ov, e1, e2, by rw [Bool.false_xor] at q2; exact q2⟩⟩)⟩
theorem fe_dnotin (hu : X.A.units + 1 < cLine) (hi : FE X e ue) (ho : FE X o uo) (h1 : behindInMarks .NotIn o = false := by rfl) : FE X (.Compare e [.NotIn] [o] pos) (uBin (oDIn true) ue uo) := ⟨fun ρ R q F H σ0 σ B Q E g =>
  to_S (pe_cmp (pc_dnotin hu pe_S pe_S) h1) (fun pins s I => thn (din_run (Q := Q) hi ho q E g pins s I) fun v s1 ⟨y, H1, I1, r1, q1⟩ => ⟨y, H1, I1, r1, fun pins s I => thn (q1 pins s I) fun v s2 ⟨x, H2, I2, r2, a, ov, e1, e2, q2⟩ => ⟨x, H2, I2, r2, a, ov, e1, e2, by rw [Bool.true_xor] at q2; exact q2⟩⟩)⟩
theorem ft_din (hu : X.A.units + 1 < cLine) (hi : FE X e ue) (ho : FE X o uo) (h1 : behindInMarks .In o = false := by rfl) : FT X (.Compare e [.In] [o] pos) (fun ρ R => uBin (oDIn false) ue uo ρ (isB R)) := ⟨fun ρ R q F H σ0 σ B Q E g =>
  to_ST (pt_cmp (pc_din hu pe_S pe_S) h1) (fun pins s I => thn (din_run (Q := fun v H' => ∃ c, v = .bl c ∧ Q c H') hi ho q E (fun r ρ' v F' H' h G => by
    unfold isB at h
    split at h
    · rename_i c
      have rr : RD X.K F' v (.bl c) := G.rr
      cases rr
      exact ⟨c, rfl, g c ρ' F' H' h ⟨G.nx, G.er⟩⟩
    · exact h.elim) pins s I) fun v s1 ⟨y, H1, I1, r1, q1⟩ => ⟨y, H1, I1, r1, fun pins s I => thn (q1 pins s I) fun v s2 ⟨x, H2, I2, r2, a, ov, e1, e2, q2⟩ => ⟨x, H2, I2, r2, a, ov, e1, e2, by rw [Bool.false_xor] at q2; exact q2⟩⟩)⟩
theorem ft_dnotin (hu : X.A.units + 1 < cLine) (hi : FE X e ue) (ho : FE X o uo) (h1 : behindInMarks .NotIn o = false := by rfl) : FT X (.Compare e [.NotIn] [o] pos) (fun ρ R => uBin (oDIn true) ue uo ρ (isB R)) := ⟨fun ρ R q F H σ0 σ B Q E g =>
  to_ST (pt_cmp (pc_dnotin hu pe_S pe_S) h1) (fun pins s I => thn (din_run (Q := fun v H' => ∃ c, v = .bl c ∧ Q c H') hi ho q E (fun r ρ' v F' H' h G => by
    unfold isB at h
    split at h
    · rename_i c
      have rr : RD X.K F' v (.bl c) := G.rr
      cases rr
      exact ⟨c, rfl, g c ρ' F' H' h ⟨G.nx, G.er⟩⟩
    · exact h.elim) pins s I) fun v s1 ⟨y, H1, I1, r1, q1⟩ => ⟨y, H1, I1, r1, fun pins s I => thn (q1 pins s I) fun v s2 ⟨x, H2, I2, r2, a, ov, e1, e2, q2⟩ => ⟨x, H2, I2, r2, a, ov, e1, e2, by rw [Bool.true_xor] at q2; exact q2⟩⟩)⟩
/-- d.get(k, x) -/
def uDGet2 (uo ue uf : UE) : UE := fun ρ R => uo ρ fun r ρ1 => wv ρ1 r fun d => match d with
  | .dic _ => ue ρ1 fun q ρ2 => uf ρ2 fun s ρ3 => wv ρ3 r fun d => wv ρ3 q fun e => wv ρ3 s fun x => match d with
    | .dic l => ∃ k, keyD e = some k ∧ R (.val ((kget l k).getD x)) (frz ρ3 s)
    | _ => False
  | _ => False
theorem fe_dget2 (hu : X.A.units + 1 < cLine) (ho : FE X o uo) (he : FE X e ue) (hf : FE X f uf) (m : M2 X o "get" apos e f cpos := by exact ⟨rfl, rfl, rfl, rfl⟩) : FE X (.Call (.Attribute o "get" apos) [e, f] [] cpos) (uDGet2 uo ue uf) := ⟨fun ρ R q F H σ0 σ B Q E g => by
  refine to_S (pe_dget2 hu pe_S pe_S pe_S m) (ho ρ _ q F H σ0 σ B _ E fun r ρ1 x F1 H1 z G => ?_)
  obtain ⟨d, w, z⟩ := G.er.seen G.rr z
  split at z
  case h_2 => exact z.elim
  obtain ⟨a, kvs, rfl, h1, rk⟩ := w.dic G.er.sub
  refine ⟨a, rfl, .inl ⟨kvs, h1⟩, he ρ1 _ z F1 H1 σ0 σ (hB B r (.ref a)) _ (G.er.hold G.rr) fun q ρ2 y F2 H2 z G2 => hf ρ2 _ z F2 H2 σ0 σ (hB (hB B r (.ref a)) q y) _ (G2.er.hold G2.rr) fun s ρ3 u F3 H3 z G3 => ?_⟩
  have E3' := G3.er.unhold
  have E3 := E3'.unhold
  have rr := G.rr.held G.er E3' (G2.nx.trans (G3.nx.mono hB_sub))
  have rq := (G2.rr.held G2.er G3.er G3.nx).weak hB_sub
  have rs : RR X.K F3 H3 ρ3 σ B s u := (G3.rr.weak hB_sub).weak hB_sub
  obtain ⟨d, w, z⟩ := E3.seen rr z
  obtain ⟨e, w2, z⟩ := E3.seen rq z
  obtain ⟨F4, x', n4, E4, rd4, z⟩ := E3.freeze rs z
  split at z
  case h_2 => exact z.elim
  obtain ⟨k, ek, z⟩ := z
  obtain ⟨a', kvs, ea, h1, rk⟩ := w.dic E3.sub
  cases ea
  cases keyD_v w2 ek
  have nn := G.nx.trans ((G2.nx.mono hB_sub).trans (((G3.nx.mono hB_sub).mono hB_sub).trans n4))
  refine ⟨_, .inl ⟨_, _, h1, rfl, rfl⟩, ?_⟩
  rcases rk.get (k := k) with ⟨z1, z2⟩ | ⟨v, d', z1, z2, rd⟩
  · rw [z2] at z; rw [z1]
    exact g _ _ _ F4 H3 z ⟨nn, E4, rd4⟩
  · rw [z2] at z; rw [z1]
    exact g _ _ _ F4 H3 z ⟨nn, E4, rd.mono n4.fz⟩⟩
/-- the dict that a slot holds as one's own -/
def ownK (ρ : List Sl) (r : Rv) (k : Nat → Bool → List (Key × D) → Prop) : Prop := match r with
  | .at i => match ρ[i]? with
    | some (.sl true p (.dic l)) => k i p l
    | _ => False
  | _ => False
theorem ownK_of {ρ : List Sl} {r : Rv} {k : Nat → Bool → List (Key × D) → Prop} (h : ownK ρ r k) : ∃ i p l, r = .at i ∧ ρ[i]? = some (.sl true p (.dic l)) ∧ k i p l := by
  unfold ownK at h
  split at h
  · split at h
    · exact ⟨_, _, _, rfl, ‹_›, h⟩
    · exact h.elim
  · exact h.elim
def uPutK (uv uo ui : UE) : US := fun E ρ => uv ρ fun r ρ1 => wv ρ1 r fun d => uo (frz ρ1 r) fun q ρ2 => ui ρ2 fun s ρ3 => wv ρ3 s fun e => ownK ρ3 q fun i p l => ∃ k, keyD e = some k ∧ l.length < sizeLine ∧ E.nx (ρ3.set i (.sl true p (.dic (kput l k d))))
theorem fs_putK {v i : Expr} {uv ui : UE} {pos' : Pos} (hu : X.A.units + 1 < cLine) (hv : FE X v uv) (ho : FE X o uo) (hi : FE X i ui) (hs : swapsWith v (some (.Subscript o i pos')) pos.line X.env = pure false := by rfl) : FS X (.Assign [.Subscript o i pos'] v pos) (uPutK uv uo ui) := ⟨fun E ρ q F H σ0 σ B D er f => by
  refine to_SS (ps_dput hu pe_S pe_S pe_S hs) (hv ρ _ q F H σ0 σ B _ er fun r ρ1 x F1 H1 z G => ?_)
  obtain ⟨F2, d, n2, E2, rd, z⟩ := G.er.freeze G.rr z
  refine ho _ _ z F2 H1 σ0 σ B _ E2 fun q ρ2 y F3 H3 z G3 => hi ρ2 _ z F3 H3 σ0 σ (hB B q y) _ (G3.er.hold G3.rr) fun s ρ3 w F4 H4 z G4 => ?_
  have E4 := G4.er.unhold
  have rq := G3.rr.held G3.er G4.er G4.nx
  obtain ⟨e, we, z⟩ := E4.seen (G4.rr.weak hB_sub) z
  obtain ⟨i, p, l, rfl, e1, k, ek, hl, z⟩ := ownK_of z
  have si : σ[i]? = some (some y) := rq
  obtain ⟨a, e2, ro, _⟩ := E4.ow i p _ e1
  rw [si] at e2; cases e2
  cases ro with
  | @dic _ kvs _ h1 rk =>
    cases keyD_v we ek
    have rd4 := rd.mono (G3.nx.fz.trans G4.nx.fz)
    obtain ⟨E5, n5⟩ := E4.wrote e1 si (o := .dK (putK kvs k x)) (e := .dic (kput l k d)) (.dic upd_same (rk.put rd4))
    exact ⟨a, _, rfl, .k h1 (by rw [rk.len]; exact hl), f.nx _ _ F4 _ z ⟨G.nx.trans (n2.trans (G3.nx.trans ((G4.nx.mono hB_sub).trans n5))), E5⟩⟩⟩
end
end YP
set_option maxRecDepth 100000
set_option maxHeartbeats 1000000
/-! The yard's pure layer, part 10: (i, x) < (j, y); calls without arguments; a pure promise as one over the heap; slices up to. -/
namespace YP
open PySem PySem.Spec PyProof.Rows L2
def oLtIS (d e : D) (T : Rv → Prop) : Prop := match d, e with
  | .tup [.int i, .str u], .tup [.int j, .str v] => T (.val (.bl (if i = j then decide (u.cps.toList < v.cps.toList) else decide (i < j))))
  | _, _ => False
theorem rl_is {K : PySem.W.Frag} {F : Hp} {vs : List V} {i : Int} {u : Str} (h : RL K F vs [.int i, .str u]) : vs = [.int i, .str u] := by
  cases h with
  | cons a r =>
    cases a
    cases r with
    | cons b r =>
      cases b
      cases r
      rfl
theorem os_ltIS {X : Cx} (hu : X.A.units < cLine) : OpS X (compareOp .Lt) oLtIS := .of (Yard.op_ltIS hu) fun {F H σ0 σ ρ B x y d e T Q} E w1 w2 t g => by
  unfold oLtIS at t
  split at t
  · obtain ⟨a, us, rfl, h1, l1⟩ := w1.tup E.sub
    obtain ⟨b, vs, rfl, h2, l2⟩ := w2.tup E.sub
    cases rl_is l1
    cases rl_is l2
    exact ⟨a, b, _, _, _, _, rfl, rfl, h1, h2, gt_val E g t (.bl _)⟩
  · exact t.elim
/-- f(), which tells a constant -/
theorem fe_call0c {X : Cx} {CX : CXT} {k : Nat} {f : Addr} {fd : FuncData} {sp : Sp} {x : Str} {p pos : Pos} {v : V} {d : D} (Fn : FnOk X.prog X.w X.K X.mg X.base CX k f fd [] sp) (hr : Room k X.A) (hg : Gl X x) (hm : X.mg x = some (.ref f)) (hk : PySem.W.keepIn X.K (.ref f) = true) (hb : Binds X.K fd [] [])
    (hx : Passes CX X fun _ _ _ => False) (hsp : ∀ (H : Hp) (Q : VK), Q v H → sp [] H Q (fun _ _ _ => False)) (rd : ∀ F, RD X.K F v d) (hdb : (x == ("__debug__" : Str)) = false := by decide) : FE X (.Call (.Name x p) [] [] pos) (uC d) := ⟨fun ρ R q F H σ0 σ B Q E g =>
  to_S (pe_call0 (E := fun _ _ _ => False) Fn hr hg hm hk hb .nil hx hdb) (hsp H _ (g _ ρ v F H q ⟨.refl _ _ _, E, rd F⟩))⟩
/-! ### a pure promise over the heap -/
def RWv (K : PySem.W.Frag) (F H : Hp) : Rv → V → Prop
  | .val d, v => RD K F v d
  | .own d, v => ∃ a, v = .ref a ∧ RO K F H v d ∧ F a = none
  | .at _, _ => False
def OSp (K : PySem.W.Frag) (n : Nat) (u : UF) : Sp := fun vs H Q _ => ∃ (ds : List D) (R : Rv → List Sl → Prop), vs.length = n ∧ RL K H vs ds ∧ u (ds.map fun d => Sl.sl false false d) R ∧
  ∀ r ss v F' H', R r ss → Same H F' → Same F' H' → RWv K F' H' r v → Q v H'
theorem old_of {P : Program} {w : World} {K : PySem.W.Frag} {mg : Str → Option Value} {base : Heap} {CX : CXT} {k n : Nat} {f : Addr} {fd : FuncData} {ps : List Str} {u : UF} (Fn : FnOk P w K mg base CX k f fd ps (PSp K n u)) : FnOk P w K mg base CX k f fd ps (OSp K n u) := by
  refine Fn.imp fun vs H Q E ⟨ds, R, hl, l, hu, g⟩ => ?_
  refine ⟨ds.map fun d => Sl.sl false false d, H, fun _ => False, R, by rw [List.length_map, ← l.len]; exact hl, hl, ?_, hu, fun r ρ' v F' H' hr nx er rr na => g r ρ' v F' H' hr nx.fz er.sub ?_⟩
  · have at_ : ∀ (i : Nat) o p d, (ds.map fun d => Sl.sl false false d)[i]? = some (Sl.sl o p d) → o = false ∧ p = false ∧ ds[i]? = some d := fun i o p d h => by
      rw [List.getElem?_map] at h
      obtain ⟨e, he, z⟩ := Option.map_eq_some_iff.mp h
      cases z
      exact ⟨rfl, rfl, he⟩
    refine ⟨by rw [List.length_map, List.length_map, l.len], Same.refl _, fun i p d h => ?_, fun i p d h => ?_, fun i j a p q d e h _ _ _ => ?_, fun i o d h => ?_, fun a h => h.elim⟩
    · obtain ⟨v, hv, rd⟩ := l.got (at_ _ _ _ _ h).2.2
      exact ⟨v, by rw [List.getElem?_map, hv]; rfl, rd⟩
    · exact nomatch (at_ _ _ _ _ h).1
    · exact nomatch (at_ _ _ _ _ h).1
    · exact nomatch (at_ _ _ _ _ h).2.1
  · cases r with
    | val d => exact rr
    | own d =>
      obtain ⟨a, e, ro, n, _⟩ := rr
      exact ⟨a, e, ro, n⟩
    | «at» i => exact na i rfl
theorem ycut_to {α : Type} (xs : List α) (k : Nat) : YP.cut xs none (some (k : Int)) = xs.take k := by
  unfold YP.cut
  rw [HT.sIx_nat, HT.sIx_none, List.drop_zero, Nat.sub_zero]
  rcases Nat.le_total k xs.length with h | h
  · rw [Nat.min_eq_left h]
  · rw [Nat.min_eq_right h, List.take_length, List.take_of_length_le h]
end YP
set_option maxRecDepth 100000
set_option maxHeartbeats 1000000
/-! The yard's pure layer, part 11: calls without arguments, insert. -/
namespace YP
open PySem PySem.Spec PyProof.Rows L2
/-- f() -/
theorem fe_call0 {X : Cx} {pf pos : Pos} {x : Str} {u : UF} {k : Nat} {f : Addr} {fd : FuncData} (Fn : FnOk X.prog X.w X.K X.mg X.base CX0 k f fd [] (PSp X.K 0 u)) (hr : Room k X.A) (hg : Gl X x) (hm : X.mg x = some (.ref f)) (hk : PySem.W.keepIn X.K (.ref f) = true) (hb : Binds X.K fd [] [])
    (hdb : (x == ("__debug__" : Str)) = false := by decide) : FE X (.Call (.Name x pf) [] [] pos) (uCall u uRNil) := ⟨fun ρ R q F H σ0 σ B Q E g => by
  obtain ⟨n1, z⟩ := q
  refine to_S (pe_call0 (E := fun _ _ _ => False) Fn hr hg hm hk hb .nil pass0 hdb) ?_
  refine ⟨_, F, bB B ρ σ [], _, rfl, rfl, E.into (rs := []) (vs := []) trivial n1, z, fun r ss v F' H' y nx E' rr na => ?_⟩
  have G' := E.behind (rs := []) (vs := []) trivial n1 nx E' rr na
  exact g r _ v F' H' y ⟨G'.nx, G'.er, G'.rr⟩⟩
/-! ### o.f, of an object that is data -/
theorem RF.lookup {K : PySem.W.Frag} {F : Hp} {f : Str} {d : D} : ∀ {vs : List (Str × V)} {ds : List (Str × D)}, RF K F vs ds → ds.lookup f = some d → ∃ v, vs.lookup f = some v ∧ RD K F v d
  | _, _, .nil, h => nomatch h
  | _, _, .cons (k := x) r t, h => by
    unfold List.lookup at h ⊢
    cases e : f == x with
    | true => rw [e] at h; cases h; exact ⟨_, rfl, r⟩
    | false => rw [e] at h; exact t.lookup h
def uFld (C : Addr) (f : Str) (ue : UE) : UE := fun ρ R => ue ρ fun r ρ1 => wv ρ1 r fun d => ∃ fs x, d = .obj C fs ∧ fs.lookup f = some x ∧ R (.val x) ρ1
theorem fe_fld {X : Cx} {e : Expr} {ue : UE} {C : Addr} {f : Str} {pos : Pos} (hc : Cls X.K C) (hn : NoAttr X.K C f) (he : FE X e ue) (hb : attributeBase e f X.env (eval e X.env) = eval e X.env := by rfl) : FE X (.Attribute e f pos) (uFld C f ue) := ⟨fun ρ R q F H σ0 σ B Q E g => by
  refine to_S (pe_fld pe_S hb) (he ρ _ q F H σ0 σ B _ E fun r ρ1 v F1 H1 z G => ?_)
  obtain ⟨d, w, fs, x, rfl, hl, z⟩ := G.er.seen G.rr z
  obtain ⟨a, dx, fv, rfl, h1, rf⟩ := w.obj G.er.sub
  obtain ⟨y, e, rd⟩ := rf.lookup hl
  exact ⟨a, C, dx, fv, y, rfl, h1, hc, hn, e, g (.val x) ρ1 y F1 H1 z ⟨G.nx, G.er, rd⟩⟩⟩
/-! ### o.m(e, ..) -/
def uMeth (C : Addr) (m : Str) (u : UF) (ue : UE) (ua : UR) : UE := fun ρ R => ue ρ fun r ρ1 => wv ρ1 r fun d => ∃ fs, d = .obj C fs ∧ fs.lookup m = none ∧
  ua ρ1 fun rs ρ2 => (ats (r :: rs)).Nodup ∧ u ((r :: rs).map (slOf ρ2)) fun q ss => R q (wb ρ2 (r :: rs) ss)
theorem RF.no {K : PySem.W.Frag} {F : Hp} {f : Str} : ∀ {vs : List (Str × V)} {ds : List (Str × D)}, RF K F vs ds → ds.lookup f = none → vs.lookup f = none
  | _, _, .nil, _ => rfl
  | _, _, .cons (k := x) r t, h => by
    unfold List.lookup at h ⊢
    cases e : f == x with
    | true => rw [e] at h; cases h
    | false => rw [e] at h; exact t.no h
theorem fe_meth {X : Cx} {o e : Expr} {es : List Expr} {uo : UE} {ua : UR} {u : UF} {C : Addr} {m : Str} {k : Nat} {f : Addr} {fd : FuncData} {ps : List Str} {pos apos : Pos} {pl : Sem Bool} (hc : Cls X.K C) (hm : Meth X.K C m f) (Fn : FnOk X.prog X.w X.K X.mg X.base CX0 k f fd ps (PSp X.K ps.length u)) (hr : Room k X.A) (hb : Binds X.K fd ps [])
    (ho : FE X o uo) (ha : FR X (e :: es) ua) (hn : (e :: es).length + 1 = ps.length := by rfl)
    (hst : starEach (e :: es) X.env = (false, eval e X.env) :: starEach es X.env := by rfl) (hpl : (backTo pos (starEach es X.env)).any (·.1) = false := by rfl)
    (ht : eval (.Call (.Attribute o m apos) (e :: es) [] pos) X.env = (do
      let ov ← eval o X.env
      standAt apos.atName
      let (f, first) ← holding [ov] (getMethod ov m pl)
      callWith pos f first (backTo pos (starEach (e :: es) X.env)) (backToKw pos (keywordEach [] X.env))) := by rfl) :
    FE X (.Call (.Attribute o m apos) (e :: es) [] pos) (uMeth C m u uo ua) := ⟨fun ρ R q F H σ0 σ B Q E g => by
  refine to_S (pe_meth (E := fun _ _ _ => False) pe_S hc hm Fn hr hb .nil pass0 pa_S hst hpl ht) (ho ρ _ q F H σ0 σ B _ E fun r ρ1 v F1 H1 z G => ?_)
  obtain ⟨d, w, fs, rfl, hl, z⟩ := G.er.seen G.rr z
  obtain ⟨a, dx, fv, rfl, h1, rf⟩ := w.obj G.er.sub
  refine ⟨a, dx, fv, rfl, h1, rf.no hl, ha ρ1 _ z F1 H1 σ0 σ (hB B r (.ref a)) _ (G.er.hold G.rr) fun rs ρ2 vs F2 H2 ⟨n1, z2⟩ G2 l ll => ?_⟩
  have E2 := G2.er.unhold
  have L : RRs X.K F2 H2 ρ2 σ B (r :: rs) (V.ref a :: vs) := ⟨G.rr.held G.er G2.er G2.nx, l⟩
  have lv := l.len
  have ln : (r :: rs).length = ps.length := by rw [← hn]; show rs.length + 1 = _; rw [ll]
  refine ⟨_, F2, bB B ρ2 σ (r :: rs), _, by rw [List.length_map]; exact ln, by show (vs ++ []).length + 1 = _; rw [List.append_nil, ← lv, ll]; exact hn, ?_, z2, fun q' ss y F' H' hy nx E' rr na => ?_⟩
  · rw [List.append_nil]; exact E2.into L n1
  · rw [List.append_nil] at E' rr
    have G' := E2.behind L n1 nx E' rr na
    exact g q' _ y F' H' hy ⟨G.nx.trans ((G2.nx.mono hB_sub).trans G'.nx), G'.er, G'.rr⟩⟩
end YP
set_option maxRecDepth 100000
set_option maxHeartbeats 1000000
/-! The yard's pure layer, part 12: what is raised and caught. -/
namespace YP
open PySem PySem.Spec PyProof.Rows L2
/-- the ends, and what is raised: its class, its fields -/
structure EnX where
  en : En
  xc : Addr → List (Str × D) → List Sl → Prop
abbrev USX := EnX → List Sl → Prop
structure FolX (K : PySem.W.Frag) (F H : Hp) (σ0 : L2.St) (B : Addr → Prop) (E : EnX) (D : Ends) (W : WX) : Prop where
  fol : Fol K F H σ0 B E.en D
  xc : ∀ C fs ρ' σ' F' H' dd vfs, E.xc C fs ρ' → Gd K F H F' H' σ0 ρ' σ' B → F' dd = some (.xd vfs) → RF K F' vfs fs → W (.ref C) (some dd) σ' H'
theorem FolX.on {K : PySem.W.Frag} {F H F1 H1 : Hp} {σ0 : L2.St} {B : Addr → Prop} {E : EnX} {D : Ends} {W : WX} (f : FolX K F H σ0 B E D W) (n : Nx F H F1 H1 B) : FolX K F1 H1 σ0 B E D W :=
  ⟨f.fol.on n, fun C fs ρ' σ' F' H' dd vfs e G => f.xc C fs ρ' σ' F' H' dd vfs e ⟨n.trans G.nx, G.er⟩⟩
structure FSX (X : Cx) (st : Stmt) (u : USX) : Prop where
  run : ∀ (W : WX), Takes X W → ∀ (E : EnX) (ρ : List Sl), u E ρ → ∀ (F H : Hp) (σ0 σ : L2.St) (B : Addr → Prop) (D : Ends), ER X.K F H σ0 ρ σ B → FolX X.K F H σ0 B E D W → tSS X st D σ H
structure FBX (X : Cx) (sts : List Stmt) (u : USX) : Prop where
  run : ∀ (W : WX), Takes X W → ∀ (E : EnX) (ρ : List Sl), u E ρ → ∀ (F H : Hp) (σ0 σ : L2.St) (B : Addr → Prop) (D : Ends), ER X.K F H σ0 ρ σ B → FolX X.K F H σ0 B E D W → tBs X sts D σ H
abbrev UEX := List Sl → (Rv → List Sl → Prop) → (Addr → List (Str × D) → List Sl → Prop) → Prop
structure FEX (X : Cx) (e : Expr) (u : UEX) : Prop where
  run : ∀ (W : WX), Takes X W → ∀ (ρ : List Sl) (R : Rv → List Sl → Prop) (RX : Addr → List (Str × D) → List Sl → Prop), u ρ R RX → ∀ (F H : Hp) (σ0 σ : L2.St) (B : Addr → Prop) (Q : VK), ER X.K F H σ0 ρ σ B →
    (∀ r ρ' v F' H', R r ρ' → Gt X.K F H F' H' σ0 ρ' σ B r v → Q v H') →
    (∀ C fs ρ' F' H' dd vfs, RX C fs ρ' → Gd X.K F H F' H' σ0 ρ' σ B → F' dd = some (.xd vfs) → RF X.K F' vfs fs → W (.ref C) (some dd) σ H') → tS X e σ H Q
section
variable {X : Cx} {st : Stmt} {rest body : List Stmt} {t u : USX} {e : Expr} {pos : Pos}
def uLift (u : US) : USX := fun E ρ => u E.en ρ
theorem fx {u : US} (h : FS X st u) : FSX X st (uLift u) := ⟨fun W tk E ρ q F H σ0 σ B D er f => h E.en ρ q F H σ0 σ B D er f.fol⟩
theorem fbx {u : US} (h : FB X rest u) : FBX X rest (uLift u) := ⟨fun W tk E ρ q F H σ0 σ B D er f => h E.en ρ q F H σ0 σ B D er f.fol⟩
def uSeqX (t u : USX) : USX := fun E ρ => t ⟨{ E.en with nx := u E }, E.xc⟩ ρ
theorem fbx_nil : FBX X [] (uLift uNext) := fbx fb_nil
theorem fbx_cons (h1 : FSX X st t) (h2 : FBX X rest u) : FBX X (st :: rest) (uSeqX t u) := ⟨fun W tk E ρ q F H σ0 σ B D er f =>
  to_Bs (pss_cons ps_S pss_S) (h1.run W tk _ ρ q F H σ0 σ B _ er ⟨⟨fun ρ' σ' F' H' z G => h2.run W tk E ρ' z F' H' σ0 σ' B D G.er (f.on G.nx), f.fol.rt, f.fol.bk, f.fol.ct⟩, f.xc⟩)⟩
theorem fbx_one (h1 : FSX X st t) : FBX X [st] t := ⟨fun W tk E ρ q F H σ0 σ B D er f => to_Bs (pss_one ps_S) (h1.run W tk E ρ q F H σ0 σ B D er f)⟩
def uIfX (c : UT) (t u : USX) : USX := fun E ρ => c ρ fun b ρ1 => if b = true then t E ρ1 else u E ρ1
theorem fsx_if {c : Expr} {a b : List Stmt} {tc : UT} (hc : FT X c tc) (ha : FBX X a t) (hb : FBX X b u) : FSX X (.If c a b pos) (uIfX tc t u) := ⟨fun W tk E ρ q F H σ0 σ B D er f => by
  refine to_SS (ps_if pt_S pss_S pss_S) (hc ρ _ q F H σ0 σ B _ er fun c ρ1 F1 H1 z G => ?_)
  cases c with
  | true => exact ha.run W tk E ρ1 z F1 H1 σ0 σ B D G.er (f.on G.nx)
  | false => exact hb.run W tk E ρ1 z F1 H1 σ0 σ B D G.er (f.on G.nx)⟩
def uForX (w : UI) (g : UG) (tb : USX) : USX := fun E ρ => w ρ fun ds ρ1 => ∃ W : Nat → List Sl → Prop, W 0 ρ1 ∧ (∀ i d ρ, ds[i]? = some d → W i ρ →
  g d ρ fun ρ2 => tb ⟨{ E.en with nx := W (i + 1), ct := W (i + 1), bk := E.en.nx }, E.xc⟩ ρ2) ∧ ∀ ρ, W ds.length ρ → E.en.nx ρ
theorem fsx_for {tg iter : Expr} {w : UI} {g : UG} (hp : PassesOwn (model X.prog X.w) X.A X.env X.xe) (hc : X.calm = true) (hi : FI X tg iter w) (hg : FG X none tg g) (hb : FBX X body t)
    (hs : ∀ x, foldedSetIterable iter X.env x = pure x := by intro _; rfl) : FSX X (.For tg iter body [] pos) (uForX w g t) := ⟨fun WX tk E ρ q F H σ0 σ B D er f => by
  refine to_SS (ps_for hp hc pi_S pg_S pss_S hs) (hi ρ _ q F H σ0 σ B _ er fun ds ρ1 J F1 H1 ⟨W, w0, turn, done⟩ G1 wd => ?_)
  refine for_it wd (fun i σ' H' => ∃ ρ' F', W i ρ' ∧ Gd X.K F1 H1 F' H' σ0 ρ' σ' B) ⟨ρ1, F1, w0, .refl _ _ _, G1.er⟩ (fun i σ' H' _ ⟨ρ', F', _, G⟩ => G.nx.fz.trans G.er.sub) ?_ (fun σ' H' ⟨ρ', F', w', G⟩ => f.fol.nx ρ' σ' F' H' (done ρ' w') ⟨G1.nx.trans G.nx, G.er⟩)
  rintro i x σ2 H2 H3 hi ⟨ρ2, F2, w2, G2⟩ y
  obtain ⟨d, F3, e, G3, rd⟩ := yd_er G2.er G2.nx.fz y
  refine hg d ρ2 _ (turn i d ρ2 e w2) F3 H3 σ0 σ2 B x _ G3.er rd fun ρ4 σ4 F4 H4 z G4 _ => ?_
  have n4 := G2.nx.trans (G3.nx.trans G4.nx)
  have f4 := f.on (G1.nx.trans n4)
  exact hb.run WX tk _ ρ4 z F4 H4 σ0 σ4 B _ G4.er ⟨⟨fun ρ' σ' F' H' w' G => ⟨ρ', F', w', n4.trans G.nx, G.er⟩, f4.fol.rt, f4.fol.nx, fun ρ' σ' F' H' w' G => ⟨ρ', F', w', n4.trans G.nx, G.er⟩⟩, f4.xc⟩⟩
def uWhileX (c : UT) (tb : USX) : USX := fun E ρ => ∃ W : Nat → List Sl → Prop, (∃ m, W m ρ) ∧ ∀ m ρ, W m ρ →
  c ρ fun b ρ1 => if b = true then tb ⟨{ E.en with nx := fun ρ2 => ∃ m', m' < m ∧ W m' ρ2, ct := fun ρ2 => ∃ m', m' < m ∧ W m' ρ2, bk := E.en.nx }, E.xc⟩ ρ1 else E.en.nx ρ1
theorem fsx_while {c : Expr} {tc : UT} (hp : PassesOwn (model X.prog X.w) X.A X.env X.xe) (hc : FT X c tc) (hb : FBX X body t) : FSX X (.While c body [] pos) (uWhileX tc t) := ⟨fun WX tk E ρ q F H σ0 σ B D er f => by
  obtain ⟨W, ⟨m0, w0⟩, turn⟩ := q
  refine to_SS (ps_while hp pt_S pss_S) ⟨fun m σ' H' => ∃ ρ' F', W m ρ' ∧ Gd X.K F H F' H' σ0 ρ' σ' B, ⟨m0, ρ, F, w0, .refl _ _ _, er⟩, ?_⟩
  rintro m σ1 H1 ⟨ρ1, F1, w1, G1⟩
  refine hc ρ1 _ (turn m ρ1 w1) F1 H1 σ0 σ1 B _ G1.er fun b ρ2 F2 H2 z G2 => ?_
  cases b with
  | false => exact f.fol.nx ρ2 σ1 F2 H2 z ⟨G1.nx.trans G2.nx, G2.er⟩
  | true =>
    refine ⟨fun σ' H' => ∃ m', m' < m ∧ ∃ ρ' F', W m' ρ' ∧ Gd X.K F H F' H' σ0 ρ' σ' B, fun σ' H' h => h, ?_⟩
    have n2 := G1.nx.trans G2.nx
    have f2 := f.on n2
    exact hb.run WX tk _ ρ2 z F2 H2 σ0 σ1 B _ G2.er ⟨⟨fun ρ' σ' F' H' ⟨m', l, w⟩ G => ⟨m', l, ρ', F', w, n2.trans G.nx, G.er⟩, f2.fol.rt, f2.fol.nx, fun ρ' σ' F' H' ⟨m', l, w⟩ G => ⟨m', l, ρ', F', w, n2.trans G.nx, G.er⟩⟩, f2.xc⟩⟩

/-! ### expressions that may raise -/
def uLE (u : UE) : UEX := fun ρ R _ => u ρ R
theorem fex {u : UE} (h : FE X e u) : FEX X e (uLE u) := ⟨fun W tk ρ R RX q F H σ0 σ B Q E g _ => h ρ R q F H σ0 σ B Q E g⟩
def uSetX (i : Nat) (ue : UEX) : USX := fun E ρ => ue ρ (fun r ρ1 => put ρ1 i r E.en.nx) E.xc
theorem fsx_set {i : Nat} {ue : UEX} (h : PS X st (tAsg (tS X e) (gName i))) (he : FEX X e ue) : FSX X st (uSetX i ue) := ⟨fun W tk E ρ q F H σ0 σ B D er f =>
  to_SS h (he.run W tk ρ _ _ q F H σ0 σ B _ er (fun r ρ1 v F1 H1 z G => by
    obtain ⟨F2, ρ2, n2, er2, z⟩ := G.er.put G.rr z
    exact f.fol.nx ρ2 _ F2 H1 z ⟨G.nx.trans n2, er2⟩) fun C fs ρ' F' H' dd vfs z G => f.xc C fs ρ' σ F' H' dd vfs z G)⟩
def uRetX (ue : UEX) : USX := fun E ρ => ue ρ E.en.rt E.xc
theorem fsx_ret {ue : UEX} (he : FEX X e ue) : FSX X (.Return (some e) pos) (uRetX ue) := ⟨fun W tk E ρ q F H σ0 σ B D er f =>
  to_SS (ps_ret pe_S) (he.run W tk ρ _ _ q F H σ0 σ B _ er (fun r ρ1 v F1 H1 z G => f.fol.rt r ρ1 v σ F1 H1 z G) fun C fs ρ' F' H' dd vfs z G => f.xc C fs ρ' σ F' H' dd vfs z G)⟩
def uDropX (ue : UEX) : USX := fun E ρ => ue ρ (fun _ ρ1 => E.en.nx ρ1) E.xc
theorem fsx_expr {ue : UEX} (he : FEX X e ue) (hs : swapsWith e none pos.line X.env = pure false := by rfl) : FSX X (.Expr e pos) (uDropX ue) := ⟨fun W tk E ρ q F H σ0 σ B D er f =>
  to_SS (ps_expr pe_S hs) (he.run W tk ρ _ _ q F H σ0 σ B _ er (fun r ρ1 v F1 H1 z G => f.fol.nx ρ1 σ F1 H1 z ⟨G.nx, G.er⟩) fun C fs ρ' F' H' dd vfs z G => f.xc C fs ρ' σ F' H' dd vfs z G)⟩
/-- the promise of a def that may raise -/
abbrev UFX := List Sl → (Rv → List Sl → Prop) → (Addr → List (Str × D) → List Sl → Prop) → Prop
def PSpX (K : PySem.W.Frag) (n : Nat) (u : UFX) : Sp := fun vs H Q E => ∃ ρ F B R RX, ρ.length = n ∧ vs.length = n ∧ ER K F H [] ρ (vs.map some) B ∧ u ρ R RX ∧
  (∀ r ρ' v F' H', R r ρ' → Nx F H F' H' B → ER K F' H' [] ρ' (vs.map some) B → RR K F' H' ρ' (vs.map some) B r v → (∀ i, r ≠ .at i) → Q v H') ∧
  ∀ C fs ρ' dd vfs F' H', RX C fs ρ' → Nx F H F' H' B → ER K F' H' [] ρ' (vs.map some) B → F' dd = some (.xd vfs) → RF K F' vfs fs → E (.ref C) (some dd) H'
def uCallX (u : UFX) (ua : UR) : UEX := fun ρ R RX => ua ρ fun rs ρ1 => (ats rs).Nodup ∧ u (rs.map (slOf ρ1)) (fun r ss => R r (wb ρ1 rs ss)) fun C fs ss => RX C fs (wb ρ1 rs ss)
theorem fex_call {ea : Expr} {es : List Expr} {pf pos : Pos} {x : Str} {u : UFX} {ua : UR} {k : Nat} {f : Addr} {fd : FuncData} {ps : List Str} (Fn : FnOk X.prog X.w X.K X.mg X.base (L2.CX X.prog X.w) k f fd ps (PSpX X.K ps.length u)) (hr : Room k X.A) (hg : Gl X x) (hm : X.mg x = some (.ref f)) (hk : PySem.W.keepIn X.K (.ref f) = true) (hb : Binds X.K fd ps [])
    (ha : FR X (ea :: es) ua) (hn : (ea :: es).length = ps.length := by rfl) (hdb : (x == ("__debug__" : Str)) = false := by decide) (he : starEach (ea :: es) X.env = (false, eval ea X.env) :: starEach es X.env := by rfl) (hpl : (backTo pos (starEach es X.env)).any (·.1) = false := by rfl) :
    FEX X (.Call (.Name x pf) (ea :: es) [] pos) (uCallX u ua) := ⟨fun W tk ρ R RX q F H σ0 σ B Q E g gx => by
  refine to_S (pe_callS Fn hr hg hm hk hb (E := WE W) (fun σ => passAt tk σ) pa_S hdb he hpl) (ha ρ _ q F H σ0 σ B _ E fun rs ρ1 vs F1 H1 ⟨n1, z⟩ G l ll => ?_)
  have ln := ll.trans hn
  have lv := l.len
  refine ⟨_, F1, bB B ρ1 σ rs, _, _, by rw [List.length_map]; exact ln, by rw [← lv, ln], G.er.into l n1, z, fun r ss v F' H' y nx E' rr na => ?_, fun C fs ss dd vfs F' H' y nx E' fd rf => ?_⟩
  · have G' := G.er.behind l n1 nx E' rr na
    exact g r _ v F' H' y ⟨G.nx.trans G'.nx, G'.er, G'.rr⟩
  · have G' := G.er.behind (r := .val .non) (v := .non) l n1 nx E' (show RD X.K F' .non .non from .non) (fun _ z => nomatch z)
    exact gx C fs _ F' H' dd vfs y ⟨G.nx.trans G'.nx, G'.er⟩ fd rf⟩
end
/-! ### a def that may raise -/
def enEndX (n : Nat) (R : Rv → List Sl → Prop) (RX : Addr → List (Str × D) → List Sl → Prop) : EnX := ⟨enEnd n R, fun C fs ρe => RX C fs (back n ρe)⟩
section
variable {P : Program} {w : World} {K : PySem.W.Frag} {mg : Str → Option Value} {base : Heap}
theorem fn_mkx {x qual : Str} {st : Stmt} {f : Addr} {fd : FuncData} {N ps : List Str} {k : Nat} {u : UFX} (Fn : Fun K x qual st f fd) (S : FnScope N ps (defScope st)) (hN : ps.length ≤ N.length)
    (body : ∀ (cdv : Value) (A : Around) (outer : List Env) (s : Shared) (H : Hp) (E : XK), Room k (A.deeper (envOfC qual (defScope st) s.heap.objs.size f cdv)) →
      ∃ ub, FBX (cxOf (L2.CX P w) P w K mg base N qual (defScope st) f cdv A outer s H E) (defBody st) ub ∧ ∀ ρ R RX, ρ.length = ps.length → u ρ R RX → ub (enEndX ps.length R RX) (enter N.length ρ)) : FnOk P w K mg base (L2.CX P w) (k + 1) f fd ps (PSpX K ps.length u) := by
  refine Fn.okX S (fun vs H Q E h => ?_) fun cdv A outer s H vs Q E hr h => ?_
  · obtain ⟨ρ, F, B, R, RX, _, l, _⟩ := h; exact l
  · obtain ⟨ρ, F, B, R, RX, l1, l2, er, hu, g, gx⟩ := h
    obtain ⟨ub, hub, go⟩ := body cdv A outer s H E hr
    have hn : ps.length = (vs.map some).length := by rw [List.length_map]; exact l2.symm
    refine ⟨_, pss_S, hub.run (fun cls d _ H => E cls d H) (takes_of rfl rfl rfl rfl) _ _ (go ρ R RX l1 hu) F H (vs.map some) _ B _ er.enter ⟨⟨fun ρ' σ' F' H' e G => ?_, fun r ρ' v σ' F' H' e G => ?_, fun _ _ _ _ e _ => e.elim, fun _ _ _ _ e _ => e.elim⟩, fun C fs ρ' σ' F' H' dd vfs e G fd rf => ?_⟩⟩
    · exact g _ _ _ F' H' e G.nx (G.er.back hn) .non (fun _ z => nomatch z)
    · obtain ⟨F2, r2, ρ2, hk, nx, er2, rr2, na⟩ := fin_ok (k := fun r ρ2 => R r (YP.back ps.length ρ2)) G.er G.rr e hn
      exact g r2 _ v F2 H' hk (G.nx.trans nx) er2 rr2 na
    · exact gx C fs _ dd vfs F' H' e G.nx (G.er.back hn) fd rf
end
/-! ### raise C(e, ..), C with an __init__ that keeps its arguments -/
section
variable {K : PySem.W.Frag} {F : Hp}
theorem RF.app {vs us : List (Str × V)} {ds es : List (Str × D)} (h : RF K F vs ds) (k : RF K F us es) : RF K F (vs ++ us) (ds ++ es) :=
  match h with
  | .nil => k
  | .cons r t => .cons r (t.app k)
theorem RF.rev : ∀ {vs : List (Str × V)} {ds : List (Str × D)}, RF K F vs ds → RF K F vs.reverse ds.reverse
  | _, _, .nil => .nil
  | _, _, .cons r t => by
    rw [List.reverse_cons, List.reverse_cons]
    exact t.rev.app (.cons r .nil)
theorem RL.zipF : ∀ {ns : List Str} {vs : List V} {ds : List D}, RL K F vs ds → RF K F (ns.zip vs) (ns.zip ds)
  | [], _, _, _ => .nil
  | _ :: _, _, _, .nil => .nil
  | _ :: ns, _, _, .cons r t => .cons r (RL.zipF (ns := ns) t)
/-- an __init__ that keeps its arguments by these names -/
def spIni (K : PySem.W.Frag) (C : Addr) (ns : List Str) : Sp := fun vs H Q _ => ∃ (a : Addr) (ws : List V), vs = .ref a :: ws ∧ ws.length = ns.length ∧ H a = some (exo a C none) ∧
  ∀ dx H2, H dx = none → dx ≠ a → H2 a = some (exo a C (some dx)) → H2 dx = some (exd dx (ns.zip ws).reverse) → (∀ b, b ≠ a → b ≠ dx → H2 b = H b) → Q .non H2
end
def uRaise (C : Addr) (ns : List Str) (ua : UA) : USX := fun E ρ => ua ρ fun ds ρ1 => ds.length = ns.length ∧ ds.length ≤ 1000 ∧ E.xc C (ns.zip ds).reverse ρ1
theorem fsx_raise {X : Cx} {CX : CXT} {x : Str} {C fI : Addr} {k : Nat} {fd : FuncData} {ps ns : List Str} {e : Expr} {es : List Expr} {ua : UA} {p pos pos2 : Pos} (hc : X.calm = true) (T : OexC X.K C) (iC : PySem.W.findIn X.K (.ref C) "__init__" = some (some (.ref fI))) (tI : PySem.W.typeIn X.K (.ref fI) = some (.type "function"))
    (F1 : FnOk X.prog X.w X.K X.mg X.base CX k fI fd ps (spIni X.K C ns)) (hr : Room (k + 1) X.A) (hb : Binds X.K fd ps []) (hx : Passes CX X (fun _ _ _ => False)) (hg : Gl X x) (hm : X.mg x = some (.ref C)) (ha : FA X (e :: es) ua)
    (hdb : (x == ("__debug__" : Str)) = false := by decide) (he : starEach (e :: es) X.env = (false, eval e X.env) :: starEach es X.env := by rfl) (hpl : (backTo pos (starEach es X.env)).any (·.1) = false := by rfl) :
    FSX X (.Raise (some (.Call (.Name x p) (e :: es) [] pos)) none pos2) (uRaise C ns ua) := ⟨fun W tk E ρ q F H σ0 σ B D er f =>
  to_SS (ps_raise hc tk (pmk_oex T iC tI F1 hr hb .nil hx hg hm pa_S hdb he hpl)) (ha ρ _ q F H σ0 σ B _ er fun ds ρ1 vs F1 H1 ⟨z1, z2, z⟩ G l => ⟨by rw [l.len]; exact z2, fun a na => by
    refine ⟨a, vs, by rw [List.append_nil], by rw [l.len]; exact z1, upd_same, fun dx H2 hd hda e1 e2 e3 => ⟨rfl, dx, _, e1, e2, ?_, ?_⟩⟩
    · rw [upd_ne hda] at hd; exact hd
    · have hd1 : H1 dx = none := by rw [upd_ne hda] at hd; exact hd
      have eH : upd (L2.del H2 a) dx (.xd (ns.zip vs).reverse) = upd H1 dx (.xd (ns.zip vs).reverse) := by
        funext b
        by_cases hb : b = dx
        · rw [hb, upd_same, upd_same]
        · rw [upd_ne hb, upd_ne hb]
          by_cases hba : b = a
          · rw [hba, del_same, na]
          · rw [del_ne hba, e3 b hba hb, upd_ne hba]
      rw [eH]
      obtain ⟨E2, n2⟩ := G.er.laid_val (o := .xd (ns.zip vs).reverse) hd1
      exact f.xc C _ ρ1 σ _ _ dx _ z ⟨G.nx.trans n2, E2⟩ upd_same ((RL.zipF l).rev.mono n2.fz)⟩)⟩
/-! ### try: .., except x as n: .. -/
def uTryAs (K : PySem.W.Frag) (c : Value) (i : Nat) (PC : Addr → Prop) (tb : USX) (ts : Addr → Addr → Addr → US) : USX := fun E ρ =>
  tb ⟨E.en, fun C fs ρ1 => ∃ b, PySem.W.exmOne K (.ref C) c = some b ∧ (b = true → PC C ∧ ∀ a dd, ts a dd C { nx := fun ρ2 => E.en.nx (ρ2.set i .un), rt := E.en.rt, bk := fun ρ2 => E.en.bk (ρ2.set i .un), ct := fun ρ2 => E.en.ct (ρ2.set i .un) } (ρ1.set i (.sl false false (.exc a dd C fs)))) ∧ (b = false → E.xc C fs ρ1)⟩ ρ
theorem fsx_try {X : Cx} {x n : Str} {c : Value} {i : Nat} {body suite : List Stmt} {b₀ : Stmt} {np pos pos' : Pos} {tb : USX} {ts : Addr → Addr → Addr → US} (PC : Addr → Prop) (hs : X.stack = X.env :: X.outer) (hf : X.env.frame = some X.env.locals) (hN : X.N.Nodup) (hi : X.N[i]? = some n) (hln : X.env.kindOf n = some .local) (hc : Names X x c)
    (hb : ∀ (pn : List (Addr × Obj)) (xe : Value → Shared → Prop), PassesOwn (model X.prog X.w) X.A X.env xe → FBX (X.tr pn xe) body tb)
    (hsu : ∀ (a : Addr) (oe : Obj) (C dd : Addr) (pn : List (Addr × Obj)), PC C → Zc (.ref C) (some dd) oe → (∃ vs, oe.data = .fields vs) → FB (X.suite a ((a, oe) :: pn)) (b₀ :: suite) (ts a dd C)) :
    FSX X (.Try body [.ExceptHandler (some (.Name x np)) (some n) (b₀ :: suite) pos'] [] [] pos) (uTryAs X.K c i PC tb ts) := ⟨fun W tk E ρ q F H σ0 σ B D er f => by
  refine to_SS (ps_try_as (tb := fun W' D σ H => ∀ (pn : List (Addr × Obj)) (xe : Value → Shared → Prop), Takes (X.tr pn xe) W' → PassesOwn (model X.prog X.w) X.A X.env xe → tBs (X.tr pn xe) body D σ H)
    (ts := fun a cls d D σ H => ∃ C dd, cls = .ref C ∧ d = some dd ∧ ∀ (oe : Obj) (pn : List (Addr × Obj)), Zc (.ref C) (some dd) oe → (∃ vs, oe.data = .fields vs) → tBs (X.suite a ((a, oe) :: pn)) (b₀ :: suite) D σ H)
    hs hf hN hi hln hc tk (fun W' pn xe tk' hp => ⟨fun pins s σ H D I h => h pn xe tk' hp pins s I⟩) (fun a oe cls d pn hz hd => ⟨fun pins s σ H D I ⟨C, dd, e1, e2, h⟩ => by
      subst e1 e2
      exact h oe pn hz hd pins s I⟩)) fun pn xe tk' hp => ?_
  refine (hb pn xe hp).run _ tk' _ ρ q F H σ0 σ B D er ⟨f.fol, fun C fs ρ1 σ1 F1 H1 dd vfs ⟨b, z1, z2, z3⟩ G fd rf => ⟨b, z1, fun e a na => ⟨C, dd, rfl, rfl, fun oe pn' hz hd => ?_⟩, fun e => f.xc C fs ρ1 σ1 F1 H1 dd vfs (z3 e) G fd rf⟩⟩
  have f1 := f.fol.on G.nx
  refine hsu a oe C dd pn' (z2 e).1 hz hd _ _ ((z2 e).2 a dd) F1 H1 σ0 _ B _ (G.er.set_val (.exc fd rf)) ⟨fun ρ' σ' F' H' y G' => f1.nx _ _ F' H' y ⟨G'.nx, G'.er.unset⟩, f1.rt, fun ρ' σ' F' H' y G' => f1.bk _ _ F' H' y ⟨G'.nx, G'.er.unset⟩, fun ρ' σ' F' H' y G' => f1.ct _ _ F' H' y ⟨G'.nx, G'.er.unset⟩⟩⟩
/-- a try in a context that lets nothing out -/
theorem fs_never {X : Cx} {st : Stmt} {u : USX} (h : FSX X st u) : FS X st (fun E ρ => u ⟨E, fun _ _ _ => False⟩ ρ) := ⟨fun E ρ q F H σ0 σ B D er f =>
  h.run (fun _ _ _ _ => False) takes0 ⟨E, fun _ _ _ => False⟩ ρ q F H σ0 σ B D er ⟨f, fun _ _ _ _ _ _ _ _ z => z.elim⟩⟩

/-! ### within the suite: e.f, isinstance(e, C) -/
def uXf (a dd C : Addr) (f : Str) (ue : UE) : UE := fun ρ R => ue ρ fun r ρ1 => wv ρ1 r fun d => ∃ fs x, d = .exc a dd C fs ∧ fs.lookup f = some x ∧ R (.val x) ρ1
theorem fe_xf {X : Cx} {a dd C : Addr} {oe : Obj} {pn : List (Addr × Obj)} {e : Expr} {ue : UE} {pos : Pos} {f : Str} (T : XfC X.K C) (hno : PySem.W.findIn X.K (.ref C) f = some none)
    (hz : Zc (.ref C) (some dd) oe) (hf : ∃ vs, oe.data = .fields vs) (he : FE (X.suite a ((a, oe) :: pn)) e ue) (hb : attributeBase e f X.env (eval e X.env) = eval e X.env := by rfl) : FE (X.suite a ((a, oe) :: pn)) (.Attribute e f pos) (uXf a dd C f ue) := ⟨fun ρ R q F H σ0 σ B Q E g => by
  refine to_S (pe_xf T hno hz hf pe_S hb) (he ρ _ q F H σ0 σ B _ E fun r ρ1 v F1 H1 z G => ?_)
  obtain ⟨d, w, fs, x, rfl, hl, z⟩ := G.er.seen G.rr z
  obtain ⟨rfl, vfs, fd, rf⟩ := w.exc
  obtain ⟨y, e, rd⟩ := rf.lookup hl
  exact ⟨rfl, rfl, dd, vfs, y, rfl, G.er.sub _ _ fd, e, g (.val x) ρ1 y F1 H1 z ⟨G.nx, G.er, rd⟩⟩⟩
end YP
namespace PySem.W
open PySem PySem.Spec PySem.Calls PyProof.Rows
section
variable {prog : Program} {w : World} {A : Around} {E : Value → Shared → Prop} {s : Shared} {K : Frag} {x D : Addr} {ox : Obj} {od : Option Obj}
theorem yfindObj_dataN {C : Addr} {name : Str} {a g : Value} (hc : (clsIn K C).isSome = true) (ha : findIn K (.ref C) name = some (some a)) (hg : specialIn K a "__get__" = some (some g)) (ht : takesIn K a = some true) : findObj K C od name = some (.bind g a) := by
  obtain ⟨cd, hc⟩ := Option.isSome_iff_exists.mp hc
  unfold findObj
  rw [hc, Option.bind_some, ha, Option.bind_some]
  simp [hg, ht]
theorem ykin_classE {Q : Option Value → Shared → Prop} (hga : findIn K (.ref D) "__getattribute__" = some (some (.builtin "BaseException.__getattribute__"))) (hgt : findIn K (.ref D) "__getattr__" = some none) (hsub : subIn K (.ref D) (.type "BaseException") = some true)
    (hdct : hasDictIn K D = true) (ha : findIn K (.ref D) "__class__" = some (some (.builtin "object.__class__")))
    (hn : specialIn K (.builtin "object.__class__") "__get__" = some (some (.builtin "getset_descriptor.__get__"))) (htk : takesIn K (.builtin "object.__class__") = some true) (hm : mroIn K D (.type "object") = some true)
    (X : K.In s.heap) (I : InstAt s.heap x ox D od) (h : Q (some (.ref D)) { s with toks := s.toks + 1 }) : wpAny (model prog w) A (getAttr? (.ref x) "__class__") Q E s := by
  have hf : findObj K D od "__class__" = some (.bind (.builtin "getset_descriptor.__get__") (.builtin "object.__class__")) := yfindObj_dataN (by obtain ⟨cd, hc, _⟩ := any_some hdct; rw [hc]; rfl) ha hn htk
  obtain ⟨hp, g, d, t, os⟩ := s
  have L0 := I.type (M := model prog w)
  have L1 := looks_findIn (M := model prog w) X hga
  have L2 := looks_findIn (M := model prog w) X hgt
  have L3 := looks_find (M := model prog w) X I hf
  have sub : Looks (model prog w) hp (isInstance (.ref x) (.type "BaseException")) true := L0.andThen (looks_subIn X hsub)
  have hx0 : (false && onTheHeap (Value.builtin "BaseException.__getattribute__")) = false := rfl
  have hx2 : (Value.builtin "BaseException.__getattribute__" == Value.builtin "object.__getattribute__") = false := by decide +kernel
  have hx1 : (onTheHeap (Value.ref D) && Value.builtin "BaseException.__getattribute__" == Value.builtin "object.__getattribute__") = false := by rw [hx2]; rfl
  unfold getAttr? getAttrBy? getAttrBy
  refine wpAny_bind (wpAny_mkText (wpAny_bind (wpAny_attempt (wpAny_holding (wpAny_bind (L0.at (wpAny_bind (L1.at ?_))))))))
  show wpAny _ _ (if (onTheHeap (Value.ref D) && Value.builtin "BaseException.__getattribute__" == Value.builtin "object.__getattribute__") = true then _ else _) _ _ _
  rw [hx1, if_neg Bool.false_ne_true]
  unfold getAttrByItsOwn hookBefore
  refine wpAny_bind ?_
  rw [if_pos (show onTheHeap (Value.ref D) = true from rfl)]
  refine L2.at ?_
  refine wpAny_bind (wpAny_attempt (wpAny_holding ?_))
  unfold callGetattribute
  rw [hx0, if_neg Bool.false_ne_true]
  unfold boundAndCalled
  rw [PySem.F.excAttr_ValueError.ga.bind (.ref x)]
  refine wpAny_bind (wpAny_pure ?_)
  show wpAny _ _ (call (.builtin "BaseException.__getattribute__") [.ref x, .str "__class__" t]) _ _ _
  refine wpAny_call (codeAny_call_builtin PySem.F.excAttr_ValueError.ga.plain PySem.F.entry_bexc_ga ?_)
  refine @check_slot (model prog w) _ _ ⟨hp, g, d, t + 1, os⟩ "BaseException.__getattribute__" "BaseException" "__getattribute__" (.ref x) [.str "__class__" t] [] _ (by decide +kernel) (by decide +kernel) sub (PySem.F.args_bexc_ga (.ref x) (.str "__class__" t)) ?_
  unfold Builtin.«object.__getattribute__»
  refine wpAny_bind (wpAny_of_eq (a := ((Value.ref x : Value), [Value.str "__class__" t])) (by first | rfl | (simp only [slotArgs]; rfl)) ?_)
  refine wpAny_bind (wpAny_pure (wpAny_bind (L0.at (wpAny_bind (L3.at ?_)))))
  show wpAny _ _ (holding [Value.builtin "object.__class__"] (call (.builtin "getset_descriptor.__get__") [.builtin "object.__class__", .ref x, .ref D]) >>= ret) _ _ _
  refine wpAny_bind (wpAny_holding (wpAny_call (class_get (s := ⟨hp, g, d, t + 1, os⟩) (ox := ox) (od := od) X I hm ?_)))
  refine wpAny_pure ?_
  show wpAny _ _ (handedOut (.ref D)) _ _ _
  rw [handedOut_of (v := .ref D) rfl]
  first
    | exact wpAny_pure (wpAny_pure h)
    | exact wpAny_pure h
    | exact wpAny_pure (wpAny_bind (wpAny_pure (wpAny_pure h)))
theorem ykitx_exc (hga : findIn K (.ref D) "__getattribute__" = some (some (.builtin "BaseException.__getattribute__"))) (hgt : findIn K (.ref D) "__getattr__" = some none) (hsub : subIn K (.ref D) (.type "BaseException") = some true) (hdct : hasDictIn K D = true) (ha : findIn K (.ref D) "__class__" = some (some (.builtin "object.__class__")))
    (hn : specialIn K (.builtin "object.__class__") "__get__" = some (some (.builtin "getset_descriptor.__get__"))) (htk : takesIn K (.builtin "object.__class__") = some true) (hm : mroIn K D (.type "object") = some true) :
    KitX K (.ref x) (.ref D) (fun h => ∃ od, InstAt h x ox D od) where
  ty := fun _ _ _ ⟨_, I⟩ => I.type
  it := fun _ _ X _ => by
    obtain ⟨cdD, hcD, _⟩ := any_some hdct
    unfold clsIn at hcD
    split at hcD
    · rename_i c' d' cd' sl' ho
      intro A' Q' E' s' k q
      unfold isType loadHead
      exact wpAny_bind (wpAny_loadPart (k _ _ (X _ _ ho)) (wpAny_pure q))
    · cases hcD
  ne := fun h tp dd its n sl X htp => by
    obtain ⟨cdD, hcD, _⟩ := any_some hdct
    refine Bool.eq_false_iff.mpr fun q => ?_
    have e : D = tp := Value.ref.inj (beq_iff_eq.mp q)
    subst e
    unfold clsIn at hcD
    split at hcD
    · rename_i c' d' cd' sl' ho
      have z := (X _ _ ho).symm.trans htp
      cases z
    · cases hcD
  ca := fun X ⟨_, I⟩ k => ykin_classE hga hgt hsub hdct ha hn htk hm X I k
end
end PySem.W
namespace YP
open PySem PySem.Spec PyProof.Rows L2
/-- isinstance(e, c), e the exception that the suite holds, at a; its dict stands at dd -/
def rIsX (K : PySem.W.Frag) (C a dd : Addr) : List V → Hp → VK → Prop := fun xs H Q => ∃ (c : V) (cv : Value) (b : Bool) (vfs : List (Str × V)), xs = [.ref a, c] ∧ (∀ u, RelV c u → u = cv) ∧ PySem.W.kitOne K (.ref C) cv = some b ∧ H dd = some (.xd vfs) ∧ Q (.bl b) H
theorem call_isX {X : Cx} {a dd C : Addr} {oe : Obj} {pn : List (Addr × Obj)} (T : ExcC X.K C) (hz : Zc (.ref C) (some dd) oe) (hf : ∃ vs, oe.data = .fields vs) : CallR (X.suite a ((a, oe) :: pn)) (.builtin "isinstance") (rIsX X.K C a dd) := by
  intro pins s σ H xs us Q I r h
  obtain ⟨c, cv, b, vfs, rfl, hcv, e, ed, q⟩ := h
  cases r with
  | cons rx rr =>
    cases rr with
    | cons rt rr =>
      cases rr
      cases rx
      have ec := hcv _ rt
      subst ec
      obtain ⟨hget, _⟩ := I.pin (a, oe) (List.mem_append.mpr (.inl List.mem_cons_self))
      obtain ⟨vs, hv⟩ := hf
      have hx : ObjOk X.prog X.w H s.heap dd (.xd vfs) := I.hok dd _ ed
      obtain ⟨mA, hns, hr⟩ := hx
      obtain ⟨od, ho, hl⟩ := lookIn_ns hns
      have J : PySem.W.InstAt s.heap a oe C (some od) := ⟨hget, hz.1, by unfold PySem.W.notCls; rw [hv] <;> rfl, by rw [hz.2]; exact ho⟩
      exact PySem.W.kia_one (PySem.W.ykitx_exc T.hg T.hk T.hs T.hd T.ha T.hn T.ht T.hm) I.kIn ⟨_, J⟩ e (fun z => nomatch z) fun tk => ⟨.bl b, H, I.kept (t' := tk) fun _ _ z => z, rfl, q⟩
/-- .. as a datum: c is a class's name, cv what stands for it -/
def uIsX (K : PySem.W.Frag) (a dd C : Addr) (cv : Value) (ue : UE) : UE := fun ρ R => ue ρ fun r ρ1 => wv ρ1 r fun d => ∃ fs b, d = .exc a dd C fs ∧ PySem.W.kitOne K (.ref C) cv = some b ∧ R (.val (.bl b)) ρ1
theorem fe_isX {X : Cx} {a dd C : Addr} {oe : Obj} {pn : List (Addr × Obj)} {e t : Expr} {c : V} {cv : Value} {ue : UE} {p pos : Pos} (T : ExcC X.K C) (hz : Zc (.ref C) (some dd) oe) (hf : ∃ vs, oe.data = .fields vs) (hg : Gl (X.suite a ((a, oe) :: pn)) "isinstance") (hm : X.mg "isinstance" = none)
    (he : FE (X.suite a ((a, oe) :: pn)) e ue) (ht : PE (X.suite a ((a, oe) :: pn)) t (tC c)) (hcv : ∀ u, RelV c u → u = cv)
    (hs : starEach [e, t] X.env = (false, eval e X.env) :: starEach [t] X.env := by rfl) (hs2 : starEach [t] X.env = (false, eval t X.env) :: starEach [] X.env := by rfl) (hpl : (backTo pos (starEach [t] X.env)).any (·.1) = false := by rfl) :
    FE (X.suite a ((a, oe) :: pn)) (.Call (.Name "isinstance" p) [e, t] [] pos) (uIsX X.K a dd C cv ue) := ⟨fun ρ R q F H σ0 σ B Q E g => by
  refine to_S (pe_callB (call_isX T hz hf) hg hm (by decide +kernel) (pa_cons pe_S (pa_cons ht pa_nil hs2) hs) (by decide) (by decide) hs hpl) (he ρ _ q F H σ0 σ B _ E fun r ρ1 v F1 H1 z G => ?_)
  obtain ⟨d, w, fs, b, rfl, hk, z⟩ := G.er.seen G.rr z
  obtain ⟨rfl, vfs, fd, rf⟩ := w.exc
  exact ⟨c, cv, b, vfs, rfl, hcv, hk, G.er.sub _ _ fd, g _ _ _ _ _ z ⟨G.nx, G.er, .bl _⟩⟩⟩
end YP
set_option maxRecDepth 100000
set_option maxHeartbeats 1000000
/-! The yard's pure layer, part 13: a < b < c, in a tuple of texts. -/
namespace YP
open PySem PySem.Spec PyProof.Rows L2
section
variable {X : Cx} {a b c e : Expr} {ua ub uc ue : UE} {pos : Pos}
def uChain (o o' : D → D → (Rv → Prop) → Prop) (ua ub uc : UE) : UE := fun ρ R => ua ρ fun r ρ1 => ub ρ1 fun q ρ2 => match q with
  | .val e => wv ρ2 r fun d => o d e fun z => match z with
    | .val (.bl b) => if b = true then uc ρ2 fun s ρ3 => wv ρ3 s fun f => o' e f fun z => R z ρ3 else R (.val (.bl false)) ρ2
    | _ => False
  | _ => False
theorem FE.chain {F H : Hp} {σ0 σ : L2.St} {ρ : List Sl} {B : Addr → Prop} {op op' : CmpOp} {o o' : D → D → (Rv → Prop) → Prop} (ho : OpS X (compareOp op) o) (ho' : OpS X (compareOp op') o') (ha : FE X a ua) (hb : FE X b ub) (hc : FE X c uc) {R : Rv → List Sl → Prop} {Q : VK} (q : uChain o o' ua ub uc ρ R) (E : ER X.K F H σ0 ρ σ B)
    (g : ∀ r ρ' v F' H', R r ρ' → Gt X.K F H F' H' σ0 ρ' σ B r v → Q v H') : ∃ r r' : R2, OpR X (compareOp op) r ∧ OpR X (compareOp op') r' ∧ tChain r r' (tS X a) (tS X b) (tS X c) σ H Q := by
  obtain ⟨r, hr, k⟩ := ho.ex
  obtain ⟨r', hr', k'⟩ := ho'.ex
  refine ⟨r, r', hr, hr', FE.two ha hb q E (fun x y H2 => _) fun p q ρ2 x y F2 H2 t n2 E2 r1 r2 => ?_⟩
  split at t
  case h_2 => exact t.elim
  rename_i e
  obtain ⟨d, w1, t⟩ := E2.seen r1 t
  have rd : RD X.K F2 y e := r2
  refine k E2 w1 (.inl rd) t fun z v F3 H3 t G => ?_
  split at t
  case h_2 => exact t.elim
  rename_i b
  cases b with
  | true =>
    have rz : RD X.K F3 v (.bl true) := G.rr
    cases rz
    refine ⟨true, rfl, ?_⟩
    rw [if_pos rfl]
    rw [if_pos rfl] at t
    refine hc ρ2 _ t F3 H3 σ0 σ B _ G.er fun s ρ3 u F4 H4 t G4 => ?_
    obtain ⟨f, w3, t⟩ := G4.er.seen G4.rr t
    exact k' G4.er (.inl (rd.mono (G.nx.fz.trans G4.nx.fz))) w3 t fun z v F5 H5 t G5 => g z ρ3 v F5 H5 t ⟨n2.trans (G.nx.trans (G4.nx.trans G5.nx)), G5.er, G5.rr⟩
  | false =>
    have rz : RD X.K F3 v (.bl false) := G.rr
    cases rz
    refine ⟨false, rfl, ?_⟩
    rw [if_neg Bool.false_ne_true]
    rw [if_neg Bool.false_ne_true] at t
    exact g _ _ _ F3 H3 t ⟨n2.trans G.nx, G.er, .bl _⟩
theorem fe_chain {op op' : CmpOp} {o o' : D → D → (Rv → Prop) → Prop} (ho : OpS X (compareOp op) o) (ho' : OpS X (compareOp op') o') (ha : FE X a ua) (hb : FE X b ub) (hc : FE X c uc) (hm : lastMarks [op, op'] [b, c] = false := by with_unfolding_all rfl) : FE X (.Compare a [op, op'] [b, c] pos) (uChain o o' ua ub uc) := ⟨fun ρ R q F H σ0 σ B Q E g => by
  obtain ⟨r, r', hr, hr', t⟩ := FE.chain ho ho' ha hb hc q E g
  exact to_S (pe_chain hr hr' pe_S pe_S pe_S hm) t⟩
theorem ft_chain {op op' : CmpOp} {o o' : D → D → (Rv → Prop) → Prop} (ho : OpS X (compareOp op) o) (ho' : OpS X (compareOp op') o') (ha : FE X a ua) (hb : FE X b ub) (hc : FE X c uc) (hm : lastMarks [op, op'] [b, c] = false := by with_unfolding_all rfl) : FT X (.Compare a [op, op'] [b, c] pos) (fun ρ R => uChain o o' ua ub uc ρ (isB R)) := ⟨fun ρ R q F H σ0 σ B Q E g => by
  obtain ⟨r, r', hr, hr', t⟩ := FE.chain (Q := fun v H' => ∃ c, v = .bl c ∧ Q c H') ho ho' ha hb hc q E fun r ρ' v F' H' h G => by
    unfold isB at h
    split at h
    · rename_i c
      have rr : RD X.K F' v (.bl c) := G.rr
      cases rr
      exact ⟨c, rfl, g c ρ' F' H' h ⟨G.nx, G.er⟩⟩
    · exact h.elim
  exact to_ST (pt_chain hr hr' pe_S pe_S pe_S hm) t⟩
/-! ### in a tuple of texts -/
theorem inV_strs (x : Str) : ∀ ys : List Str, inV (.str x) (ys.map V.str) = decide (x ∈ ys)
  | [] => by simp [inV]
  | y :: ys => by
    have ih := inV_strs x ys
    unfold inV at ih ⊢
    rw [List.map_cons, List.any_cons, ih]
    by_cases h : x = y
    · subst h; simp [eqV]
    · have h' : y ≠ x := fun z => h z.symm
      simp [eqV, h, h']
theorem flat_strs (ys : List Str) : (ys.map V.str).all flatV = true := by
  rw [List.all_map, List.all_eq_true]
  intro y _
  rfl
def oInT (neg : Bool) (d e : D) (T : Rv → Prop) : Prop := match d, e with
  | .str x, .tup l => ∃ ys : List Str, l = ys.map D.str ∧ T (.val (.bl (neg ^^ decide (x ∈ ys))))
  | _, _ => False
theorem os_inT : OpS X (compareOp .In) (oInT false) := .of op_in_seq fun {F H σ0 σ ρ B x y d e T Q} E w1 w2 t g => by
  unfold oInT at t
  split at t
  · obtain ⟨ys, rfl, t⟩ := t
    cases w1.str
    obtain ⟨a, us, rfl, h1, l1⟩ := w2.tup E.sub
    cases rl_strs l1
    refine ⟨a, _, rfl, .inr h1, rfl, flat_strs ys, ?_⟩
    rw [inV_strs]
    rw [Bool.false_xor] at t
    exact gt_val E g t (.bl _)
  · exact t.elim
theorem os_notinT : OpS X (compareOp .NotIn) (oInT true) := .of op_notIn_seq fun {F H σ0 σ ρ B x y d e T Q} E w1 w2 t g => by
  unfold oInT at t
  split at t
  · obtain ⟨ys, rfl, t⟩ := t
    cases w1.str
    obtain ⟨a, us, rfl, h1, l1⟩ := w2.tup E.sub
    cases rl_strs l1
    refine ⟨a, _, rfl, .inr h1, rfl, flat_strs ys, ?_⟩
    rw [inV_strs]
    rw [Bool.true_xor] at t
    exact gt_val E g t (.bl _)
  · exact t.elim
/-- in a tuple of texts that the top has written -/
def uInK (neg : Bool) (ys : List Str) (ua : UE) : UE := fun ρ R => ua ρ fun r ρ1 => wv ρ1 r fun d => ∃ x, d = .str x ∧ R (.val (.bl (neg ^^ decide (x ∈ ys)))) ρ1
theorem fe_inK {x : Str} {k : Addr} {ys : List Str} {p : Pos} (ha : FE X a ua) (hg : Gl X x) (hm : X.mg x = some (.ref k)) (hk : ∀ H, SqT X.K H k (ys.map V.str)) (hd : (x == ("__debug__" : Str)) = false := by decide) (h1 : behindInMarks .In (.Name x p) = false := by rfl) : FE X (.Compare a [.In] [.Name x p] pos) (uInK false ys ua) := ⟨fun ρ R q F H σ0 σ B Q E g => by
  refine to_S (pe_cmpR op_in_seq pe_S (pe_glob (v := .ref k) hg hm rfl hd) h1) (ha ρ _ q F H σ0 σ B _ E fun r ρ1 v F1 H1 z G => ?_)
  obtain ⟨d, w, x', rfl, z⟩ := G.er.seen G.rr z
  cases w.str
  refine ⟨k, _, rfl, .inr (hk _), rfl, flat_strs ys, ?_⟩
  rw [inV_strs]
  rw [Bool.false_xor] at z
  exact g _ _ _ _ _ z ⟨G.nx, G.er, .bl _⟩⟩
theorem fe_notinK {x : Str} {k : Addr} {ys : List Str} {p : Pos} (ha : FE X a ua) (hg : Gl X x) (hm : X.mg x = some (.ref k)) (hk : ∀ H, SqT X.K H k (ys.map V.str)) (hd : (x == ("__debug__" : Str)) = false := by decide) (h1 : behindInMarks .NotIn (.Name x p) = false := by rfl) : FE X (.Compare a [.NotIn] [.Name x p] pos) (uInK true ys ua) := ⟨fun ρ R q F H σ0 σ B Q E g => by
  refine to_S (pe_cmpR op_notIn_seq pe_S (pe_glob (v := .ref k) hg hm rfl hd) h1) (ha ρ _ q F H σ0 σ B _ E fun r ρ1 v F1 H1 z G => ?_)
  obtain ⟨d, w, x', rfl, z⟩ := G.er.seen G.rr z
  cases w.str
  refine ⟨k, _, rfl, .inr (hk _), rfl, flat_strs ys, ?_⟩
  rw [inV_strs]
  rw [Bool.true_xor] at z
  exact g _ _ _ _ _ z ⟨G.nx, G.er, .bl _⟩⟩
end
end YP
set_option maxRecDepth 100000
set_option maxHeartbeats 1000000
/-! The yard's pure layer, part 14: small things that every law wants. -/
namespace YP
open PySem PySem.Spec PyProof.Rows L2 Yard
abbrev own (d : D) : Sl := .sl true false d
abbrev dat (d : D) : Sl := .sl false false d
theorem nd1 (n : Nat) : ([n] : List Nat).Nodup := by simp
section
variable {P : Program} {w : World} {K : PySem.W.Frag} {mg : Str → Option Value} {base : Heap}
theorem no_pure {CX : CXT} {k n : Nat} {f : Addr} {fd : FuncData} {ps : List Str} : FnOk P w K mg base CX k f fd ps (PSp K n (fun _ _ => False)) :=
  ⟨fun _ _ _ _ ⟨_, _, _, _, _, _, _, h, _⟩ => h.elim, fun _ _ _ _ _ _ _ _ _ _ _ _ _ ⟨_, _, _, _, _, _, _, h, _⟩ => h.elim⟩
theorem pure_any {CX : CXT} {k m N : Nat} {f : Addr} {fd : FuncData} {ps : List Str} {u : Nat → UF} (F : ∀ n, n ≤ N → FnOk P w K mg base CX k f fd ps (PSp K m (u n))) : FnOk P w K mg base CX k f fd ps (PSp K m (fun ρ R => ∃ n, n ≤ N ∧ u n ρ R)) :=
  ⟨fun vs H Q E ⟨ρ, F', B, R, a, b, c, ⟨n, hn, d⟩, e⟩ => (F n hn).len vs H Q E ⟨ρ, F', B, R, a, b, c, d, e⟩, fun A outer s H args us vs Q E hr e0 hb hv ⟨ρ, F', B, R, a, b, c, ⟨n, hn, d⟩, e⟩ => (F n hn).run A outer s H args us vs Q E hr e0 hb hv ⟨ρ, F', B, R, a, b, c, d, e⟩⟩
end
theorem wb_no {ρ : List Sl} : ∀ {rs : List Rv} (ss : List Sl), ats rs = [] → wb ρ rs ss = ρ
  | [], [], _ => rfl
  | [], _ :: _, _ => rfl
  | .at _ :: _, _, h => nomatch h
  | .val _ :: _, [], _ => rfl
  | .own _ :: _, [], _ => rfl
  | .val _ :: rs, _ :: ss, h => wb_no (rs := rs) ss h
  | .own _ :: rs, _ :: ss, h => wb_no (rs := rs) ss h
def uBefore (u : Nat → UF) : Nat → UF
  | 0 => fun _ _ => False
  | k + 1 => u k
/-- a join of ways ahead of a long rest -/
theorem seq_cut {t u : US} {E : En} {ρ : List Sl} (P : List Sl → Prop) (h2 : ∀ ρ, P ρ → u E ρ) (h1 : (∀ ρ, P ρ → u E ρ) → uSeq t u E ρ) : uSeq t u E ρ := h1 h2
theorem seq_cutX {t u : USX} {E : EnX} {ρ : List Sl} (P : List Sl → Prop) (h2 : ∀ ρ, P ρ → u E ρ) (h1 : (∀ ρ, P ρ → u E ρ) → uSeqX t u E ρ) : uSeqX t u E ρ := h1 h2
/-! ### plain data, not too deep -/
structure OkN (n : Nat) (d : D) : Prop where
  pl : plain d = true
  cl : (toP d).canLay0 = true
  dp : (toP d).depth ≤ n
theorem OkN.ok {n : Nat} {d : D} (h : OkN n d) (k : n ≤ 64 := by decide) : okD d = true := by
  unfold okD SeqAt.shaped
  rw [h.pl, h.cl, decide_eq_true (Nat.le_trans h.dp k)]; rfl
theorem OkN.mono {n m : Nat} {d : D} (h : OkN n d) (k : n ≤ m) : OkN m d := ⟨h.pl, h.cl, Nat.le_trans h.dp k⟩
theorem okN_all {n : Nat} : ∀ {l : List D}, (∀ d ∈ l, OkN n d) → plains l = true ∧ PyData.canLayAll0 (toPs l) = true ∧ PyData.depthAll (toPs l) ≤ n
  | [], _ => ⟨rfl, rfl, Nat.zero_le _⟩
  | d :: l, h => by
    obtain ⟨a, b, c⟩ := okN_all fun x hx => h x (List.mem_cons_of_mem _ hx)
    have k := h d List.mem_cons_self
    refine ⟨?_, ?_, ?_⟩
    · show (plain d && plains l) = true
      rw [k.pl, a]; rfl
    · show ((toP d).canLay0 && PyData.canLayAll0 (toPs l)) = true
      rw [k.cl, b]; rfl
    · show max ((toP d).depth) (PyData.depthAll (toPs l)) ≤ n
      have := k.dp
      omega
theorem okN_tup {n : Nat} {l : List D} (h : ∀ d ∈ l, OkN n d) : OkN (n + 1) (.tup l) :=
  let ⟨a, b, c⟩ := okN_all h; ⟨a, b, Nat.succ_le_succ c⟩
theorem okN_lst {n : Nat} {l : List D} (h : ∀ d ∈ l, OkN n d) : OkN (n + 1) (.lst l) :=
  let ⟨a, b, c⟩ := okN_all h; ⟨a, b, Nat.succ_le_succ c⟩
theorem okN_str {x : Str} (h : PyData.strOk x = true) : OkN 0 (.str x) := ⟨rfl, h, Nat.le_refl _⟩
theorem okN_non : OkN 0 .non := ⟨rfl, rfl, Nat.le_refl _⟩
theorem okN_int {i : Int} : OkN 0 (.int i) := ⟨rfl, rfl, Nat.le_refl _⟩
theorem okN_bl {i : Bool} : OkN 0 (.bl i) := ⟨rfl, rfl, Nat.le_refl _⟩
theorem eqD_refl {n : Nat} {d : D} (h : OkN n d) : eqD d d = true := SeqAt.eqv_refl _ h.cl
theorem eqD_str {x y : Str} : eqD (.str x) (.str y) = decide (x = y) := by
  by_cases e : x = y
  · subst e
    rw [decide_eq_true rfl]
    show (x == x) = true
    exact beq_self_eq_true x
  · rw [decide_eq_false e]
    show (x == y) = false
    exact beq_eq_false_iff_ne.mpr e
theorem eqD_int {x y : Int} : eqD (.int x) (.int y) = decide (x = y) := by
  by_cases e : x = y
  · subst e
    rw [decide_eq_true rfl]
    show (x == x) = true
    exact beq_self_eq_true x
  · rw [decide_eq_false e]
    show (x == y) = false
    exact beq_eq_false_iff_ne.mpr e
theorem any_strs (x : Str) : ∀ ys : List Str, ((ys.map D.str).any fun z => eqD z (.str x)) = decide (x ∈ ys)
  | [] => by simp
  | y :: ys => by
    rw [List.map_cons, List.any_cons, any_strs x ys, eqD_str]
    by_cases e : y = x
    · subst e; simp
    · have e' : x ≠ y := fun z => e z.symm
      simp [e, e']
theorem any_ints (x : Int) : ∀ ys : List Int, ((ys.map D.int).any fun z => eqD z (.int x)) = decide (x ∈ ys)
  | [] => by simp
  | y :: ys => by
    rw [List.map_cons, List.any_cons, any_ints x ys, eqD_int]
    by_cases e : y = x
    · subst e; simp
    · have e' : x ≠ y := fun z => e z.symm
      simp [e, e']
/-! ### texts by their signs -/
def toS (l : List Nat) : Str := ⟨l.toArray⟩
def one (c : Nat) : Str := ⟨#[c]⟩
def sgD (c : Nat) : D := .str ⟨#[c]⟩
theorem toS_len (l : List Nat) : (toS l).length = l.length := by
  show l.toArray.size = _
  simp
theorem toS_cps (l : List Nat) : (toS l).cps.toList = l := rfl
theorem toS_of (x : Str) : toS x.cps.toList = x := by
  obtain ⟨a⟩ := x
  rfl
theorem strOk_toS {l : List Nat} (h : ∀ c ∈ l, c < 1114112) : PyData.strOk (toS l) = true := by
  show l.toArray.all _ = true
  rw [List.all_toArray, List.all_eq_true]
  intro c hc
  exact decide_eq_true (h c hc)
theorem join_ones : ∀ l : List Nat, TL.joinL [] (l.map fun c => [c]) = l
  | [] => rfl
  | [c] => rfl
  | c :: d :: l => by
    show c :: ([] ++ TL.joinL [] ((d :: l).map fun c => [c])) = _
    rw [join_ones (d :: l)]; rfl
theorem joined (l : List Nat) : Txt.join "" (l.map fun c => (⟨#[c]⟩ : Str)) = ⟨l.toArray⟩ := by
  have e := TL.tl_join "" (l.map fun c => (⟨#[c]⟩ : Str))
  rw [List.map_map] at e
  have e2 : TL.tl (Str.join "" (l.map fun c => (⟨#[c]⟩ : Str))) = l := e.trans (join_ones l)
  rw [TL.join_eq]
  refine TL.ext_tl (e2.trans ?_)
  rfl
theorem ones_len (l : List Nat) : ((l.map fun c => (⟨#[c]⟩ : Str)).map (·.length)).sum = l.length := by
  induction l with
  | nil => rfl
  | cons c l ih =>
    rw [List.map_cons, List.map_cons, List.sum_cons, ih, List.length_cons]
    show 1 + l.length = _
    omega
/-! ### slices -/
theorem ycut_from {α : Type} (xs : List α) (k : Nat) : YP.cut xs (some (k : Int)) none = xs.drop k := by
  unfold YP.cut
  rw [HT.sIx_nat, HT.sIx_none]
  rcases Nat.le_total k xs.length with h | h
  · rw [Nat.min_eq_left h]
    exact List.take_of_length_le (by rw [List.length_drop]; omega)
  · rw [Nat.min_eq_right h, List.drop_length, List.drop_of_length_le h]; simp
theorem ycut_le {α : Type} (xs : List α) (lo hi : Option Int) : (YP.cut xs lo hi).length ≤ xs.length := by
  unfold YP.cut
  rw [List.length_take, List.length_drop]
  omega
theorem ycut_mem {α : Type} {xs : List α} {lo hi : Option Int} {x : α} (h : x ∈ YP.cut xs lo hi) : x ∈ xs := by
  unfold YP.cut at h
  exact List.mem_of_mem_drop (List.mem_of_mem_take h)
theorem intsD_len (lo : Int) (n : Nat) : (intsD lo n).length = n := by simp [intsD]
theorem intsD_get {lo : Int} {n i : Nat} {d : D} (h : (intsD lo n)[i]? = some d) : i < n ∧ d = .int (lo + (i : Int)) := by
  have hi : i < (intsD lo n).length := (List.getElem?_eq_some_iff.mp h).1
  rw [intsD_len] at hi
  refine ⟨hi, ?_⟩
  simp [intsD, hi] at h
  exact h.symm
theorem sz2 : 2000000 ≤ sizeLine := by rw [sizeLine_eq]; decide
end YP
namespace YP
open PySem PySem.Spec PyProof.Rows L2 Yard
theorem if_t {c : Bool} {A B : Prop} (h : c = true) (k : A) : if c = true then A else B := by rw [h]; exact k
theorem if_f {c : Bool} {A B : Prop} (h : c = false) (k : B) : if c = true then A else B := by rw [h]; exact k
theorem os_iadd {X : Cx} : OpS X (inplaceOp .Add) (oI0 fun i j => .int (i + j)) := os_I0 iop_add fun _ _ _ => .int _
end YP
set_option maxRecDepth 100000
set_option maxHeartbeats 1000000
/-! The yard's pure layer, part 15: the law's own def over pure promises: a list of numbers that it makes and hands in. -/
namespace YP
open PySem PySem.Spec PyProof.Rows L2 Yard
def OffA (a : Addr) (H H' : Hp) : Prop := ∀ b o, b ≠ a → H b = some o → H' b = some o
/-- a def that is handed one list of numbers, which it may change, and tells True -/
def spOwn (u : UF) : Sp := fun vs H Q _ => ∃ (a : Addr) (ns : List Int), vs = [.ref a] ∧ H a = some (.lst (ns.map V.int)) ∧ u [own (.lst (ns.map D.int))] (fun r _ => r = .val (.bl true)) ∧ ∀ H', OffA a H H' → Q (.bl true) H'
section
variable {P : Program} {w : World} {K : PySem.W.Frag} {mg : Str → Option Value} {base : Heap}
theorem own_true {CX : CXT} {k : Nat} {f : Addr} {fd : FuncData} {ps : List Str} {u : UF} (Fn : FnOk P w K mg base CX k f fd ps (PSp K 1 u)) : FnOk P w K mg base CX k f fd ps (spOwn u) := by
  refine Fn.imp fun vs H Q E ⟨a, ns, e, eh, hu, q⟩ => ?_
  subst e
  refine ⟨[own (.lst (ns.map D.int))], fun b => if b = a then none else H b, fun _ => False, fun r ss => r = .val (.bl true), rfl, rfl, ?_, hu, fun r ρ' v F' H' hr nx er rr na => ?_⟩
  · refine ⟨rfl, fun b o e => ?_, fun i p d h => ?_, fun i p d h => ?_, fun i j b p q d e h1 h2 h3 h4 => ?_, fun i o d h => ?_, fun b hb => hb.elim⟩
    · by_cases k : b = a
      · have e : (if b = a then none else H b) = some o := e
        rw [if_pos k] at e; cases e
      · have e : (if b = a then none else H b) = some o := e
        rwa [if_neg k] at e
    · match i, h with
      | 0, h => cases h
    · match i, h with
      | 0, h => cases h; exact ⟨a, rfl, .lst eh (ints_rl ns), if_pos rfl, fun h => h⟩
    · match i, j, h1, h2 with
      | 0, 0, _, _ => rfl
    · match i, h with
      | 0, h => cases h
  · subst hr
    have rr : RD K F' v (.bl true) := rr
    cases rr
    refine q H' fun b o hb e => ?_
    refine er.sub b o (nx.fz b o ?_)
    show (if b = a then none else H b) = some o
    rw [if_neg hb]; exact e
/-- script[k], or 0 -/
def spCellAt (K : PySem.W.Frag) : Sp := fun vs H Q _ => ∃ (a : Addr) (ns : List Int) (k : Nat), vs = [.ref a, .int (k : Nat)] ∧ SqL K H a (ns.map V.int) ∧ ∀ c, Q (.int c) H
/-- the end's promise -/
def spLaw (K : PySem.W.Frag) : Sp := fun vs H Q _ => ∃ (a : Addr) (ns : List Int), vs = [.ref a] ∧ SqL K H a (ns.map V.int) ∧ ns.length ≤ 63 ∧ ∀ H', Q (.bl true) H'
end
end YP
set_option maxRecDepth 100000
set_option maxHeartbeats 2000000
/-! The yard's pure layer, part 16: lists and tuples told over, pop and insert at a place, dict of pairs, repr. -/
namespace YP
open PySem PySem.Spec PyProof.Rows L2 Yard
theorem tuple_mulS (l : Addr) (items : Array Value) (n : Nat) (dd : Option Addr) (sl : Array (Option Value)) (x : Int) (u : Tok) (c0 : (decide (x < -(2 ^ 63)) || decide (x ≥ 2 ^ 63)) = false) (c1 : (items.isEmpty || x == 1) = true) :
    Meets (Builtin.«tuple.__mul__» ⟨[.ref l, .int x u], []⟩) (fun _ R s => s.heap.get? l = some { cls := .type "tuple", dict := dd, data := .seq items n, slots := sl } ∧ R (.ok (.ret (Value.ref l))) s) :=
  .of_wp fun prog w A R s h => by
    obtain ⟨hp, g, d, tk, os⟩ := s
    obtain ⟨hl, h⟩ := h
    have f1 := AutoSeq1.idx_int
    wp_walk using wpAny_loadPart' hl
    repeat (first
      | (refine wpAny_ite_false (decide_eq_false (by rw [c0]; exact Bool.false_ne_true)) ?_; wp_walk using wpAny_loadPart' hl)
      | (refine wpAny_ite_true (decide_eq_true c1) ?_; wp_walk using wpAny_loadPart' hl))
    exact ⟨_, rfl, h⟩
end YP
namespace YP
open PySem PySem.Spec PyProof.Rows L2 Yard
section
variable {X : Cx}
theorem op_repS : OpR X (binaryOp .Mult) (fun x y H Q => ∃ l k xs, x = V.ref l ∧ y = V.int k ∧ SqT X.K H l xs ∧ (xs = [] ∨ k = 1) ∧ -(2 ^ 63) ≤ k ∧ k < 2 ^ 63 ∧ Q (.ref l) H) := by
  intro pins s σ H x y v u Q I rx ry h
  obtain ⟨l, k, xs, rfl, rfl, hT, hne, h1, h2, q⟩ := h
  cases rx
  obtain ⟨t, rfl⟩ := ry
  obtain ⟨its, r, ⟨⟨cls, dd, data, sl⟩, ho, hc, n, hd⟩, hs⟩ := I.tuple hT
  simp only at hc hd
  subst hc hd
  have c0 : (decide (k < -(2 ^ 63)) || decide (k ≥ 2 ^ 63)) = false := by
    rw [decide_eq_false (by omega), decide_eq_false (by omega)] <;> rfl
  have c1 : (its.toArray.isEmpty || k == 1) = true := by
    rcases hne with e | e
    · subst e
      cases r
      rfl
    · subst e
      simp
  refine wpAny_binaryOp_repeat_ref (T := "tuple") (U := "int") (by decide) ⟨_, ho, rfl⟩ (fun s' => typeIs_int s' k t) noFill_tuple_mul F.fills_int_mul F.slot_int_rmul repeat_tuple F.slot_int_index.lookup
    (call_meets F.slot_int_rmul (typeIs_int s k t) F.entry_int_rmul (F.args_int_rmul_2 _ _) (int_rmul_tuple k t l its.toArray n dd sl)
      ⟨ho, rfl, ⟨_, ho, rfl⟩, call_meets F.slot_tuple_mul ⟨_, ho, rfl⟩ F.entry_tuple_mul (F.args_tuple_mul_2 _ _) (tuple_mulS l its.toArray n dd sl k t c0 c1) ⟨ho, ?_⟩⟩)
  exact ⟨.ref l, H, I, rfl, q⟩
def told {α : Type} (l : List α) (k : Int) : List α := (List.replicate k.toNat l).flatten
theorem RL.told {K : PySem.W.Frag} {F : Hp} {vs : List V} {ds : List D} (h : RL K F vs ds) (k : Int) : RL K F (YP.told vs k) (YP.told ds k) := by
  unfold YP.told
  generalize k.toNat = n
  induction n with
  | zero => exact .nil
  | succ n ih =>
    rw [List.replicate_succ, List.replicate_succ, List.flatten_cons, List.flatten_cons]
    exact h.app ih
theorem told_len {α : Type} (l : List α) (k : Int) : (told l k).length = k.toNat * l.length := by
  unfold told
  generalize k.toNat = n
  induction n with
  | zero => simp
  | succ n ih =>
    rw [List.replicate_succ, List.flatten_cons, List.length_append, ih, Nat.succ_mul]
    omega
theorem told_mem {α : Type} {l : List α} {k : Int} {x : α} (h : x ∈ told l k) : x ∈ l := by
  unfold told at h
  obtain ⟨m, hm, hx⟩ := List.mem_flatten.mp h
  rw [List.eq_of_mem_replicate hm] at hx
  exact hx
theorem told_nil {α : Type} (k : Int) : told ([] : List α) k = [] := by
  unfold told
  generalize k.toNat = n
  induction n with
  | zero => rfl
  | succ n ih => rw [List.replicate_succ, List.flatten_cons, ih]; rfl
theorem told_one {α : Type} (l : List α) : told l 1 = l := by
  unfold told
  show ([l] : List (List α)).flatten = l
  simp
def oMulX (d e : D) (T : Rv → Prop) : Prop := match d, e with
  | .int i, .int j => CMul i j ∧ T (.val (.int (i * j)))
  | .lst l, .int k => (0 ≤ k ∧ k ≤ 1000) ∧ l.length * k.toNat ≤ sizeLine ∧ T (.own (.lst (told l k)))
  | .tup l, .int k => 1 ≤ k ∧ k ≤ 1000 ∧ l.length ≤ 1000 ∧ T (.val (.tup (told l k)))
  | _, _ => False
theorem op_repL : OpR X (binaryOp .Mult) rRep := op_rep
theorem os_mulX : OpS X (binaryOp .Mult) oMulX := .of (OpR.or op_mul (OpR.or op_rep (OpR.or op_repT op_repS))) fun {F H σ0 σ ρ B x y d e T Q} E w1 w2 t g => by
  unfold oMulX at t
  split at t
  · cases w1.int; cases w2.int
    exact .inl ⟨_, _, rfl, rfl, t.1, gt_val E g t.2 (.int _)⟩
  · rename_i l k
    obtain ⟨a, vs, rfl, h1, l1⟩ := w1.lst E.sub
    cases w2.int
    exact .inr (.inl ⟨a, k, vs, rfl, rfl, h1, by omega, by omega, by rw [l1.len]; exact t.2.1, gt_lst E g t.2.2 (l1.told k)⟩)
  · rename_i l k
    obtain ⟨a, vs, e1, h1, l1⟩ := w1.tup E.sub
    subst e1
    cases w2.int
    by_cases hn : vs = [] ∨ k = 1
    · refine .inr (.inr (.inr ⟨a, k, vs, rfl, rfl, h1, hn, by omega, by omega, ?_⟩))
      have e : told l k = l := by
        rcases hn with z | z
        · subst z; cases l1; exact told_nil k
        · subst z; exact told_one l
      have t2 := t.2.2.2
      rw [e] at t2
      rcases w1 with w | w
      · exact gt_val E g t2 w
      · cases w
    · exact .inr (.inr (.inl ⟨a, k, vs, rfl, rfl, h1, fun z => hn (.inl z), by have := fun z => hn (.inr z); omega, t.2.1, by rw [l1.len]; exact t.2.2.1, gt_tup E g t.2.2.2 (l1.told k)⟩))
  · exact t.elim
end
end YP
set_option maxRecDepth 100000
set_option maxHeartbeats 2000000
/-! The yard's pure layer, part 17: repr, pop and insert at a place, dict of pairs, dict displays by a walk. -/
namespace YP
open PySem PySem.Spec PyProof.Rows L2 Yard
section
variable {X : Cx} {pins : List (Addr × Obj)} {σ : L2.St} {F H : Hp} {s : Shared}
mutual
theorem RD.reads (I : Inv X pins σ H s) (sF : Same F H) : ∀ {v : V} {d : D} {u : Value}, RD X.K F v d → plain d = true → RelV v u → ∃ as, Reads s.heap u (toP d) as ∧ ∀ b ∈ as, H b ≠ none
  | _, _, _, .non, _, r => by cases r; exact ⟨_, .none, fun _ h => nomatch h⟩
  | _, _, _, .bl b, _, r => by cases r; exact ⟨_, .bool b, fun _ h => nomatch h⟩
  | _, _, _, .int i, _, r => by obtain ⟨t, rfl⟩ := r; exact ⟨_, .int i t, fun _ h => nomatch h⟩
  | _, _, _, .str x, _, r => by obtain ⟨t, rfl⟩ := r; exact ⟨_, .str x t, fun _ h => nomatch h⟩
  | _, _, _, .lst h t, p, r => by
    cases r
    have h := sF _ _ h
    obtain ⟨_, its, n, rv, ho⟩ := I.hok _ _ h
    obtain ⟨as, k, q⟩ := RL.reads I sF t p rv
    refine ⟨_, .list (vs := its.toArray) ho rfl rfl (by simpa using k), fun b hb => ?_⟩
    rcases List.mem_cons.mp hb with z | z
    · rw [z, h]; exact fun y => nomatch y
    · exact q b z
  | _, _, _, .tup h t, p, r => by
    cases r
    obtain ⟨its, rv, ⟨o, ho, hc, n, hd⟩, _⟩ := I.tuple (sqT_mono sF h)
    obtain ⟨as, k, q⟩ := RL.reads I sF t p rv
    exact ⟨_, .tuple ho hc hd (by simpa using k), q⟩
  | _, _, _, .ty n, p, _ => nomatch p
  | _, _, _, .ref a, p, _ => nomatch p
  | _, _, _, .dic h t, p, _ => nomatch p
  | _, _, _, .obj h t, p, _ => nomatch p
  | _, _, _, .exc h t, p, _ => nomatch p
  | _, _, _, .scr h, p, _ => nomatch p
  | _, _, _, .exk _ _ _, p, _ => nomatch p
theorem RL.reads (I : Inv X pins σ H s) (sF : Same F H) : ∀ {vs : List V} {ds : List D} {us : List Value}, RL X.K F vs ds → plains ds = true → Vals vs us → ∃ as, ReadsAll s.heap us (toPs ds) as ∧ ∀ b ∈ as, H b ≠ none
  | _, _, _, .nil, _, r => by cases r; exact ⟨_, .nil, fun _ h => nomatch h⟩
  | _, _, _, .cons h t, p, r => by
    cases r with
    | cons r1 r2 =>
      obtain ⟨as, k, q⟩ := RD.reads I sF h (Bool.and_eq_true .. ▸ p).1 r1
      obtain ⟨bs, k2, q2⟩ := RL.reads I sF t (Bool.and_eq_true .. ▸ p).2 r2
      exact ⟨_, .cons k k2, fun b hb => (List.mem_append.mp hb).elim (q b) (q2 b)⟩
end
theorem RW.reads (I : Inv X pins σ H s) (sF : Same F H) {v : V} {d : D} {u : Value} (h : RW X.K F H v d) (p : plain d = true) (r : RelV v u) : ∃ as, Reads s.heap u (toP d) as ∧ ∀ b ∈ as, H b ≠ none := by
  rcases h with h | h
  · exact h.reads I sF p r
  · cases h with
    | lst h t =>
      cases r
      obtain ⟨_, its, n, rv, ho⟩ := I.hok _ _ h
      obtain ⟨as, k, q⟩ := RL.reads I sF t p rv
      refine ⟨_, .list (vs := its.toArray) ho rfl rfl (by simpa using k), fun b hb => ?_⟩
      rcases List.mem_cons.mp hb with z | z
      · rw [z, h]; exact fun y => nomatch y
      · exact q b z
    | dic h t => cases p
    | obj h t => cases p
/-- what repr tells -/
def okRepr (d : D) : Prop := plain d = true ∧ (toP d).showable = true ∧ (toP d).depth ≤ 64 ∧ (toP d).shown.length ≤ sizeLine
def oRepr (ds : List D) (T : Rv → Prop) : Prop := match ds with
  | [d] => okRepr d ∧ T (.val (.str (toP d).shown))
  | _ => False
def rReprW (K : PySem.W.Frag) : List V → Hp → VK → Prop := fun xs H Q => ∃ v d F, xs = [v] ∧ Same F H ∧ RW K F H v d ∧ okRepr d ∧ Q (.str (toP d).shown) H
theorem call_reprW (hg : X.A.guards = some []) (hs : ∃ m, X.base.Ns sysModules m)
    (hu : X.A.units + 80 < cLine) : CallR X (.builtin "repr") (rReprW X.K) := by
  intro pins s σ H xs us Q I r h
  obtain ⟨v, d, F, rfl, sF, hd, ⟨pl, sh, dp, sz⟩, q⟩ := h
  obtain ⟨u, rfl, rv⟩ := vals1 r
  have fin : ∀ (h' : Heap) (t : Nat) (x : Str) (tk : Tok), x = (toP d).shown →
      (∀ b o, s.heap.get? b = some o → h'.get? b = some o) →
      EP X pins σ Q (.str x tk) { s with heap := h', toks := t } :=
    fun h' t x tk e k => ⟨.str x, H, I.kept (t' := t) k, ⟨_, rfl⟩, by rw [e]; exact q⟩
  obtain ⟨as, rd, ha⟩ := hd.reads I sF pl rv
  have ref_ : ∀ a, u = .ref a →
      wpAny (model X.prog X.w) X.A (PySem.call (.builtin "repr") [u]) (EP X pins σ Q) X.xe s := by
    intro a e
    subst e
    exact repr_of_reads' rd sh (fun _ => no_sys I hs ha) hg (by omega)
      (fun _ _ z => z) (fun h' u tk k => fin h' tk _ u rfl k) sz
  cases d with
  | non =>
    cases hd.non
    cases rv
    exact P.repr_of_none (fin s.heap _ _ _ (by simp only [toP, PyData.shown]) fun _ _ z => z)
  | bl b =>
    cases hd.bl
    cases rv
    refine P.repr_of_bool (fin s.heap _ _ _ ?_ fun _ _ z => z)
    cases b <;> simp only [toP, PyData.shown] <;> rfl
  | int i =>
    cases hd.int
    obtain ⟨t, rfl⟩ := rv
    refine P.repr_of_int (by simpa [toP, PyData.showable] using sh)
      (fin s.heap _ _ _ ?_ fun _ _ z => z)
    simp only [toP, PyData.shown]
  | str x =>
    cases hd.str
    obtain ⟨t, rfl⟩ := rv
    refine P.repr_of_str (fin s.heap _ _ _ ?_ fun _ _ z => z)
      (by simpa only [toP, PyData.shown] using sz)
    simp only [toP, PyData.shown]
  | lst l => obtain ⟨a, us, e, _⟩ := hd.lst sF; subst e; exact ref_ _ rv
  | tup l => obtain ⟨a, us, e, _⟩ := hd.tup sF; subst e; exact ref_ _ rv
  | _ => cases pl
theorem cb_repr (hg : X.A.guards = some []) (hs : ∃ m, X.base.Ns sysModules m) (hu : X.A.units + 80 < cLine) : CbS X (.builtin "repr") oRepr := .of (call_reprW hg hs hu) fun {F H σ0 σ ρ B vs ds T Q} E w t g => by
  unfold oRepr at t
  split at t
  · obtain ⟨v, rfl, w0⟩ := w.one
    exact ⟨v, _, F, rfl, E.sub, w0, t.1, gt_val E g t.2 (.str _)⟩
  · exact t.elim
end
/-! ### l.pop(i), l.insert(i, x), l.clear() -/
theorem RL.erase {K : PySem.W.Frag} {F : Hp} : ∀ {vs : List V} {ds : List D} (k : Nat), RL K F vs ds → RL K F (vs.eraseIdx k) (ds.eraseIdx k)
  | _, _, _, .nil => .nil
  | _, _, 0, .cons _ t => t
  | _, _, k + 1, .cons h t => .cons h (t.erase k)
def mPopAt (l ds : List D) (T : List D → D → Prop) : Prop := match ds with
  | [.int i] => ∃ (k : Nat) (d : D), i = (k : Int) ∧ k < 1000000 ∧ l[k]? = some d ∧ T (l.eraseIdx k) d
  | _ => False
theorem seqIx {k n : Nat} (h : k < n) : seqIndex? (k : Int) n = some k := by
  unfold seqIndex?
  have h1 : ¬ ((k : Int) < 0) := by omega
  have h2 : (decide ((0 : Int) ≤ (k : Int)) && decide ((k : Int) < ((n : Nat) : Int))) = true := by
    rw [decide_eq_true (by omega), decide_eq_true (by omega)]; rfl
  simp only [if_neg h1]
  rw [if_pos h2]
  rfl
theorem mu_popAt : MuS X "list.pop" mPopAt := .of mt_popAt fun {F H a us vs l ds T Q} s h rl rv t g => by
  unfold mPopAt at t
  split at t
  · obtain ⟨k, d, rfl, hk, e, t⟩ := t
    cases rv with
    | cons r1 r2 =>
      cases r2; cases r1
      obtain ⟨v, ev, rd⟩ := rl.got e
      have hl : k < us.length := (List.getElem?_eq_some_iff.mp ev).1
      exact ⟨a, us, _, k, v, rfl, rfl, h, by omega, by omega, seqIx hl, ev, g _ _ _ _ t (rl.erase k) rd⟩
  · exact t.elim
def mInsert (l ds : List D) (T : List D → D → Prop) : Prop := match ds with
  | [.int i, d] => 0 ≤ i ∧ i < 1000000 ∧ l.length < sizeLine ∧ T (l.take i.toNat ++ [d] ++ l.drop i.toNat) .non
  | _ => False
theorem mu_insert : MuS X "list.insert" mInsert := .of mt_insert fun {F H a us vs l ds T Q} s h rl rv t g => by
  unfold mInsert at t
  split at t
  · cases rv with
    | cons r1 r2 =>
      cases r2 with
      | cons r2 r3 =>
        cases r3; cases r1
        exact ⟨a, us, _, _, rfl, rfl, h, by rw [rl.len]; exact t.2.2.1, t.1, by omega, g _ _ _ _ t.2.2.2 (((rl.take _).app (.cons r2 .nil)).app (rl.drop _)) .non⟩
  · exact t.elim
/-! ### dict(l) -/
def kD : Key → D
  | .inl i => .int i
  | .inr x => .str x
def pairD (kv : Key × D) : D := .tup [kD kv.1, kv.2]
theorem rd_key {K : PySem.W.Frag} {F : Hp} {k : Key} {v : V} (h : RD K F v (kD k)) : v = kV k := by
  cases k with
  | inl i => cases h; rfl
  | inr x => cases h; rfl
theorem rl_pairs {K : PySem.W.Frag} {F : Hp} : ∀ {kvs : List (Key × D)} {vs : List V}, RL K F vs (kvs.map pairD) → ∃ (ps : List Addr) (ks : List (Key × V)), vs = ps.map V.ref ∧ Paired (fun p kv => SqT K F p [kV kv.1, kv.2]) ps ks ∧ RK K F ks kvs
  | [], _, h => by cases h; exact ⟨[], [], rfl, .nil, .nil⟩
  | (k, d) :: kvs, _, h => by
    cases h with
    | cons h1 h2 =>
      obtain ⟨ps, ks, rfl, p, r⟩ := rl_pairs h2
      cases h1 with
      | @tup a us _ hs hl =>
        cases hl with
        | cons ha hb =>
          cases hb with
          | cons hb hc =>
            cases hc
            have e := rd_key ha
            subst e
            exact ⟨a :: ps, (k, _) :: ks, rfl, .cons hs p, .cons hb r⟩
theorem paired_mono {K : PySem.W.Frag} {F H : Hp} (s : Same F H) : ∀ {ps : List Addr} {ks : List (Key × V)}, Paired (fun p kv => SqT K F p [kV kv.1, kv.2]) ps ks → Paired (fun p kv => SqT K H p [kV kv.1, kv.2]) ps ks
  | _, _, .nil => .nil
  | _, _, .cons h t => .cons (sqT_mono s h) (paired_mono s t)
def oDict (ds : List D) (T : Rv → Prop) : Prop := match ds with
  | [.lst l] => ∃ kvs : List (Key × D), l = kvs.map pairD ∧ T (.own (.dic (kmerge [] kvs)))
  | _ => False
theorem cb_dict {X : Cx} (hc : X.calm = true) : CbS X (.type "dict") oDict := .of (call_dictP hc) fun {F H σ0 σ ρ B vs ds T Q} E w t g => by
  unfold oDict at t
  split at t
  · obtain ⟨kvs, rfl, t⟩ := t
    obtain ⟨v, rfl, w0⟩ := w.one
    obtain ⟨a, us, rfl, h1, l1⟩ := w0.lst E.sub
    obtain ⟨ps, ks, rfl, p, r⟩ := rl_pairs l1
    exact ⟨a, ps, ks, rfl, .of h1, paired_mono E.sub p, gt_dic E g t (r.merge .nil)⟩
  · exact t.elim
end YP
set_option maxRecDepth 100000
set_option maxHeartbeats 2000000
/-! The yard's pure layer, part 18: an object that is being made: its fields stay, or are lists and dicts of its own. -/
namespace YP
open PySem PySem.Spec PyProof.Rows L2 Yard
abbrev OS := List (Str × Bool × D)
inductive OF (K : PySem.W.Frag) (F H : Hp) : List (Str × V) → OS → List Addr → Prop
  | nil : OF K F H [] [] []
  | fz {f : Str} {v : V} {d : D} {vfs : List (Str × V)} {os : OS} {as : List Addr} : RD K F v d → OF K F H vfs os as → OF K F H ((f, v) :: vfs) ((f, false, d) :: os) as
  | ow {f : Str} {b : Addr} {d : D} {vfs : List (Str × V)} {os : OS} {as : List Addr} : RO K F H (.ref b) d → b ∉ as → OF K F H vfs os as → OF K F H ((f, .ref b) :: vfs) ((f, true, d) :: os) (b :: as)
section
variable {K : PySem.W.Frag} {F F' H H' : Hp} {vfs : List (Str × V)} {os : OS} {as : List Addr}
theorem OF.mono (s : Same F F') : ∀ {vfs os as}, (∀ c ∈ as, H' c = H c) → OF K F H vfs os as → OF K F' H' vfs os as
  | _, _, _, _, .nil => .nil
  | _, _, _, k, .fz r t => .fz (r.mono s) (t.mono s k)
  | _, _, _, k, .ow r n t => .ow (r.keep s (k _ List.mem_cons_self)) n (t.mono s fun c h => k c (List.mem_cons_of_mem _ h))
theorem OF.len : ∀ {vfs os as}, OF K F H vfs os as → vfs.length = os.length
  | _, _, _, .nil => rfl
  | _, _, _, .fz _ t => congrArg (· + 1) t.len
  | _, _, _, .ow _ _ t => congrArg (· + 1) t.len
theorem OF.snocF {f : Str} {v : V} {d : D} (r : RD K F v d) : ∀ {vfs os as}, OF K F H vfs os as → OF K F H (vfs ++ [(f, v)]) (os ++ [(f, false, d)]) as
  | _, _, _, .nil => .fz r .nil
  | _, _, _, .fz q t => .fz q (t.snocF r)
  | _, _, _, .ow q n t => .ow q n (t.snocF r)
theorem OF.snocO {f : Str} {b : Addr} {d : D} (r : RO K F H (.ref b) d) : ∀ {vfs os as}, b ∉ as → OF K F H vfs os as → OF K F H (vfs ++ [(f, .ref b)]) (os ++ [(f, true, d)]) (as ++ [b])
  | _, _, _, _, .nil => .ow r (fun h => nomatch h) .nil
  | _, _, _, k, .fz q t => .fz q (t.snocO r k)
  | _, _, _, k, .ow q n t => .ow q (fun h => by
      rcases List.mem_append.mp h with z | z
      · exact n z
      · rw [List.mem_singleton.mp z] at k; exact k List.mem_cons_self) (t.snocO r fun z => k (List.mem_cons_of_mem _ z))
theorem OF.put_new {f : Str} {v : V} : ∀ {vfs os as}, OF K F H vfs os as → (∀ p ∈ os, p.1 ≠ f) → putF f v vfs = vfs ++ [(f, v)]
  | _, _, _, .nil, _ => rfl
  | _, _, _, .fz (f := g) _ t, n => by
    show (if g = f then _ else _) = _
    rw [if_neg (n _ List.mem_cons_self), t.put_new fun p h => n p (List.mem_cons_of_mem _ h)]; rfl
  | _, _, _, .ow (f := g) _ _ t, n => by
    show (if g = f then _ else _) = _
    rw [if_neg (n _ List.mem_cons_self), t.put_new fun p h => n p (List.mem_cons_of_mem _ h)]; rfl
def oget (os : OS) (f : Str) : Option (Bool × D) := os.lookup f
def oset (f : Str) (d : D) : OS → OS
  | [] => []
  | (g, o, x) :: r => if g = f then (g, o, d) :: r else (g, o, x) :: oset f d r
/-- a field that is the object's own -/
theorem OF.own {f : Str} {d : D} : ∀ {vfs os as}, OF K F H vfs os as → oget os f = some (true, d) → ∃ b, vfs.lookup f = some (.ref b) ∧ RO K F H (.ref b) d ∧ b ∈ as ∧
    ∀ {H' : Hp} {e : D}, RO K F H' (.ref b) e → (∀ c ∈ as, c ≠ b → H' c = H c) → OF K F H' vfs (oset f e os) as
  | _, _, _, .nil, h => nomatch h
  | _, _, _, .fz (f := g) (vfs := vfs) r t, h => by
    unfold oget List.lookup at h
    cases q : f == g with
    | true => rw [q] at h; cases h
    | false =>
      rw [q] at h
      obtain ⟨b, e1, r1, m, k⟩ := t.own h
      refine ⟨b, ?_, r1, m, fun ro hk => ?_⟩
      · unfold List.lookup; rw [q]; exact e1
      · show OF K F _ _ (if g = f then _ else _) _
        rw [if_neg (fun z => by rw [z] at q; simp at q)]
        exact .fz r (k ro hk)
  | _, _, _, .ow (f := g) (b := b0) r n t, h => by
    unfold oget List.lookup at h
    cases q : f == g with
    | true =>
      rw [q] at h; cases h
      have eg : g = f := (beq_iff_eq.mp q).symm
      refine ⟨b0, by unfold List.lookup; rw [q], r, List.mem_cons_self, fun ro hk => ?_⟩
      show OF K F _ _ (if g = f then _ else _) _
      rw [if_pos eg]
      exact .ow ro n (t.mono (Same.refl _) fun c hc => hk c (List.mem_cons_of_mem _ hc) fun z => n (z ▸ hc))
    | false =>
      rw [q] at h
      obtain ⟨b, e1, r1, m, k⟩ := t.own h
      refine ⟨b, ?_, r1, List.mem_cons_of_mem _ m, fun ro hk => ?_⟩
      · unfold List.lookup; rw [q]; exact e1
      · show OF K F _ _ (if g = f then _ else _) _
        rw [if_neg (fun z => by rw [z] at q; simp at q)]
        have nb : b0 ≠ b := fun z => n (z ▸ m)
        exact .ow (r.keep (Same.refl _) (hk b0 List.mem_cons_self nb)) n (k ro fun c hc hcb => hk c (List.mem_cons_of_mem _ hc) hcb)
end
def gB (B : Addr → Prop) (a : Addr) (as : List Addr) : Addr → Prop := fun c => B c ∨ c = a ∨ c ∈ as
structure GO (K : PySem.W.Frag) (F H : Hp) (B : Addr → Prop) (a C : Addr) (os : OS) (as : List Addr) : Prop where
  at_ : ∃ dx vfs, H a = some (.ins C dx vfs) ∧ OF K F H vfs os as
  na : a ∉ as
  nB : ¬ B a ∧ ∀ c ∈ as, ¬ B c
section
variable {K : PySem.W.Frag} {F F' H H' : Hp} {σ0 σ : L2.St} {ρ : List Sl} {B : Addr → Prop} {a C : Addr} {os : OS} {as : List Addr}
theorem GO.on {Bx : Addr → Prop} (g : GO K F H B a C os as) (n : Nx F H F' H' Bx) (h : ∀ c, gB B a as c → Bx c) : GO K F' H' B a C os as := by
  obtain ⟨dx, vfs, e, o⟩ := g.at_
  exact ⟨⟨dx, vfs, (n.out a (h a (.inr (.inl rfl)))).trans e, o.mono n.fz fun c hc => n.out c (h c (.inr (.inr hc)))⟩, g.na, g.nB⟩
/-- what is held is written -/
theorem ER.held_write {b : Addr} {o : HO} (E : ER K F H σ0 ρ σ B) (hb : B b) : ER K F (upd H b o) σ0 ρ σ B := by
  obtain ⟨h1, h2⟩ := E.out b hb
  refine ⟨E.len, fun c u q => by rw [upd_ne (ne_of_none q h2)]; exact E.sub c u q, E.fz, fun i p d q => ?_, E.inj, E.par, fun c hc => ⟨?_, (E.out c hc).2⟩⟩
  · obtain ⟨c, e, ro, n, nb⟩ := E.ow i p d q
    exact ⟨c, e, ro.keep (Same.refl _) (upd_ne fun z => nb (z ▸ hb)), n, nb⟩
  · by_cases z : c = b
    · subst z; rw [upd_same]; exact fun y => (nomatch y)
    · rw [upd_ne z]; exact (E.out c hc).1
/-- what is held stays from now on -/
theorem ER.held_freeze {b : Addr} {o : HO} (E : ER K F H σ0 ρ σ B) (hb : B b) (e : H b = some o) : ER K (upd F b o) H σ0 ρ σ (fun c => B c ∧ c ≠ b) ∧ Same F (upd F b o) := by
  obtain ⟨h1, h2⟩ := E.out b hb
  have s : Same F (upd F b o) := fun c u q => by rw [upd_ne (ne_of_none q h2)]; exact q
  refine ⟨⟨E.len, fun c u q => ?_, fun i p d q => ?_, fun i p d q => ?_, E.inj, E.par, fun c hc => ⟨(E.out c hc.1).1, by rw [upd_ne hc.2]; exact (E.out c hc.1).2⟩⟩, s⟩
  · by_cases z : c = b
    · subst z; rw [upd_same] at q; cases q; exact e
    · rw [upd_ne z] at q; exact E.sub c u q
  · obtain ⟨v, e1, rd⟩ := E.fz i p d q
    exact ⟨v, e1, rd.mono s⟩
  · obtain ⟨c, e1, ro, n, nb⟩ := E.ow i p d q
    have hc : c ≠ b := fun z => nb (z ▸ hb)
    exact ⟨c, e1, ro.keep s rfl, by rw [upd_ne hc]; exact n, fun z => nb z.1⟩
theorem ER.less {B' : Addr → Prop} (E : ER K F H σ0 ρ σ B) (h : ∀ c, B' c → B c) : ER K F H σ0 ρ σ B' :=
  ⟨E.len, E.sub, E.fz, fun i p d q => let ⟨a, e, x, y, z⟩ := E.ow i p d q; ⟨a, e, x, y, fun hb => z (h a hb)⟩, E.inj, E.par, fun a hb => E.out a (h a hb)⟩
def ofs (os : OS) : List (Str × D) := os.map fun p => (p.1, p.2.2)
/-- all fields stay from now on -/
theorem OF.freeze : ∀ {vfs : List (Str × V)} {os : OS} {as : List Addr} {F : Hp} {B : Addr → Prop}, OF K F H vfs os as → ER K F H σ0 ρ σ B → (∀ c ∈ as, B c) →
    ∃ F', Same F F' ∧ ER K F' H σ0 ρ σ (fun c => B c ∧ c ∉ as) ∧ RF K F' vfs (ofs os) ∧ ∀ c, c ∉ as → F' c = F c
  | _, _, _, F, B, .nil, E, _ => ⟨F, Same.refl _, E.less fun c h => h.1, .nil, fun _ _ => rfl⟩
  | _, _, _, F, B, .fz r t, E, h => by
    obtain ⟨F', s, E', rf, k⟩ := t.freeze E h
    exact ⟨F', s, E', .cons (r.mono s) rf, k⟩
  | _, _, _, F, B, .ow (b := b) (as := as) r n t, E, h => by
    obtain ⟨_, o, e0, e⟩ := r.there
    cases e0
    obtain ⟨E1, s1⟩ := E.held_freeze (h b List.mem_cons_self) e
    have fb : F b = none := (E.out b (h b List.mem_cons_self)).2
    have rd := r.froze fb e
    obtain ⟨F', s, E', rf, k⟩ := (t.mono s1 fun _ _ => rfl).freeze E1 fun c hc => ⟨h c (List.mem_cons_of_mem _ hc), fun z => n (z ▸ hc)⟩
    refine ⟨F', s1.trans s, E'.less fun c hc => ⟨⟨hc.1, fun z => hc.2 (by rw [z]; exact List.mem_cons_self)⟩, fun z => hc.2 (List.mem_cons_of_mem _ z)⟩, .cons (rd.mono s) rf, fun c hc => ?_⟩
    rw [k c fun z => hc (List.mem_cons_of_mem _ z), upd_ne fun z => hc (by rw [z]; exact List.mem_cons_self)]
/-- the object stays from now on -/
theorem GO.freeze (g : GO K F H B a C os as) (E : ER K F H σ0 ρ σ (gB B a as)) : ∃ F', Same F F' ∧ ER K F' H σ0 ρ σ B ∧ RD K F' (.ref a) (.obj C (ofs os)) := by
  obtain ⟨dx, vfs, e, o⟩ := g.at_
  obtain ⟨F1, s1, E1, rf, k⟩ := o.freeze E fun c hc => .inr (.inr hc)
  obtain ⟨E2, s2⟩ := E1.held_freeze (b := a) ⟨.inr (.inl rfl), g.na⟩ e
  refine ⟨upd F1 a (.ins C dx vfs), s1.trans s2, E2.less fun c hc => ⟨⟨.inl hc, fun z => g.nB.2 c z hc⟩, fun z => g.nB.1 (by rw [← z]; exact hc)⟩, .obj upd_same (rf.mono s2)⟩
end
/-! ### statements beside an object that is being made -/
structure EnO where
  nx : OS → List Sl → Prop
  rel : List (Str × D) → List Sl → Prop
  xc : Addr → List (Str × D) → List Sl → Prop
abbrev USO := EnO → OS → List Sl → Prop
abbrev S0 (a : Addr) : Sl := .sl false true (.ref a)
structure FolO (K : PySem.W.Frag) (F H : Hp) (σ0 : L2.St) (B : Addr → Prop) (a C : Addr) (E : EnO) (D : Ends) (W : WX) : Prop where
  nx : ∀ os' as' ρ' σ' F' H', E.nx os' ρ' → ρ'[0]? = some (S0 a) → Nx F H F' H' B → ER K F' H' σ0 ρ' σ' (gB B a as') → GO K F' H' B a C os' as' → D.nx σ' H'
  rel : ∀ fs ρ' σ' F' H', E.rel fs ρ' → Nx F H F' H' B → ER K F' H' σ0 ρ' σ' B → RD K F' (.ref a) (.obj C fs) → D.nx σ' H'
  xc : ∀ C' fs ρ' σ' F' H' dd vfs, E.xc C' fs ρ' → Gd K F H F' H' σ0 ρ' σ' B → F' dd = some (.xd vfs) → RF K F' vfs fs → W (.ref C') (some dd) σ' H'
theorem FolO.on {K : PySem.W.Frag} {F H F1 H1 : Hp} {σ0 : L2.St} {B : Addr → Prop} {a C : Addr} {E : EnO} {D : Ends} {W : WX} (f : FolO K F H σ0 B a C E D W) (n : Nx F H F1 H1 B) : FolO K F1 H1 σ0 B a C E D W :=
  ⟨fun os' as' ρ' σ' F' H' e h0 n' => f.nx os' as' ρ' σ' F' H' e h0 (n.trans n'), fun fs ρ' σ' F' H' e n' => f.rel fs ρ' σ' F' H' e (n.trans n'), fun C' fs ρ' σ' F' H' dd vfs e G => f.xc C' fs ρ' σ' F' H' dd vfs e ⟨n.trans G.nx, G.er⟩⟩
structure FSO (X : Cx) (C : Addr) (st : Stmt) (u : USO) : Prop where
  run : ∀ (W : WX), Takes X W → ∀ (E : EnO) (os : OS) (ρ : List Sl), u E os ρ → ∀ (F H : Hp) (σ0 σ : L2.St) (B : Addr → Prop) (a : Addr) (as : List Addr) (D : Ends), ρ[0]? = some (S0 a) → ER X.K F H σ0 ρ σ (gB B a as) → GO X.K F H B a C os as → FolO X.K F H σ0 B a C E D W → tSS X st D σ H
structure FBO (X : Cx) (C : Addr) (sts : List Stmt) (u : USO) : Prop where
  run : ∀ (W : WX), Takes X W → ∀ (E : EnO) (os : OS) (ρ : List Sl), u E os ρ → ∀ (F H : Hp) (σ0 σ : L2.St) (B : Addr → Prop) (a : Addr) (as : List Addr) (D : Ends), ρ[0]? = some (S0 a) → ER X.K F H σ0 ρ σ (gB B a as) → GO X.K F H B a C os as → FolO X.K F H σ0 B a C E D W → tBs X sts D σ H
theorem gB_sub {B : Addr → Prop} {a : Addr} {as : List Addr} : ∀ c, B c → gB B a as c := fun _ h => .inl h
section
variable {X : Cx} {C : Addr} {st : Stmt} {rest body : List Stmt} {t u : USO} {e : Expr} {pos : Pos}
/-- a statement that doesn't touch the object -/
def uLO (u : USX) : USO := fun E os ρ => u ⟨{ nx := fun ρ' => ρ'[0]? = ρ[0]? ∧ E.nx os ρ', rt := fun _ _ => False }, E.xc⟩ ρ
theorem fso_x {u : USX} (h : FSX X st u) : FSO X C st (uLO u) := ⟨fun W tk E os ρ q F H σ0 σ B a as D h0 er go f =>
  h.run W tk _ ρ q F H σ0 σ (gB B a as) D er ⟨⟨fun ρ' σ' F' H' z G => f.nx os as ρ' σ' F' H' z.2 (z.1.trans h0) (G.nx.mono gB_sub) G.er (go.on G.nx fun c h => h), fun _ _ _ _ _ _ e _ => e.elim, fun _ _ _ _ e _ => e.elim, fun _ _ _ _ e _ => e.elim⟩,
    fun C' fs ρ' σ' F' H' dd vfs e G fd rf => f.xc C' fs ρ' σ' F' H' dd vfs e ⟨G.nx.mono gB_sub, G.er.less gB_sub⟩ fd rf⟩⟩
def uSeqO (t u : USO) : USO := fun E os ρ => t { E with nx := u E, rel := fun _ _ => False } os ρ
theorem fbo_cons (h1 : FSO X C st t) (h2 : FBO X C rest u) : FBO X C (st :: rest) (uSeqO t u) := ⟨fun W tk E os ρ q F H σ0 σ B a as D h0 er go f =>
  to_Bs (pss_cons ps_S pss_S) (h1.run W tk _ os ρ q F H σ0 σ B a as _ h0 er go ⟨fun os' as' ρ' σ' F' H' z h0' n er' go' => h2.run W tk E os' ρ' z F' H' σ0 σ' B a as' D h0' er' go' (f.on n), fun _ _ _ _ _ e => e.elim, f.xc⟩)⟩
theorem fbo_one (h1 : FSO X C st t) : FBO X C [st] t := ⟨fun W tk E os ρ q F H σ0 σ B a as D h0 er go f => to_Bs (pss_one ps_S) (h1.run W tk E os ρ q F H σ0 σ B a as D h0 er go f)⟩
/-- from here on the object stays: its slot holds it as a datum -/
def uRelO (C : Addr) (u : USX) : USO := fun E os ρ => u ⟨{ nx := E.rel (ofs os), rt := fun _ _ => False }, E.xc⟩ (ρ.set 0 (.sl false false (.obj C (ofs os))))
theorem fbo_rel {u : USX} (h : FBX X rest u) : FBO X C rest (uRelO C u) := ⟨fun W tk E os ρ q F H σ0 σ B a as D h0 er go f => by
  obtain ⟨F1, s1, E1, rd⟩ := go.freeze er
  obtain ⟨v, e0, rv⟩ := E1.fz 0 true _ h0
  cases rv
  have hs : σ.set 0 (some (V.ref a)) = σ := by
    refine List.ext_getElem? fun j => ?_
    by_cases hj : j = 0
    · subst hj
      have hl : 0 < σ.length := (List.getElem?_eq_some_iff.mp e0).1
      rw [List.getElem?_set_self hl, e0]
    · rw [List.getElem?_set_ne (Ne.symm hj)]
  have E2 := E1.set_val (i := 0) rd
  rw [hs] at E2
  have n1 : Nx F H F1 H B := ⟨s1, fun _ _ => rfl⟩
  exact h.run W tk _ _ q F1 H σ0 σ B D E2 ⟨⟨fun ρ' σ' F' H' z G => f.rel _ ρ' σ' F' H' z (n1.trans G.nx) G.er (rd.mono G.nx.fz), fun _ _ _ _ _ _ e _ => e.elim, fun _ _ _ _ e _ => e.elim, fun _ _ _ _ e _ => e.elim⟩,
    fun C' fs ρ' σ' F' H' dd vfs e G fd rf => f.xc C' fs ρ' σ' F' H' dd vfs e ⟨n1.trans G.nx, G.er⟩ fd rf⟩⟩
def uForO (w : UI) (g : UG) (tb : USO) : USO := fun E os ρ => w ρ fun ds ρ1 => ρ1[0]? = ρ[0]? ∧ ∃ W : Nat → OS → List Sl → Prop, W 0 os ρ1 ∧ (∀ i d os ρ2, ds[i]? = some d → W i os ρ2 → ρ2[0]? = ρ[0]? →
  g d ρ2 fun ρ3 => ρ3[0]? = ρ[0]? ∧ tb ⟨W (i + 1), fun _ _ => False, E.xc⟩ os ρ3) ∧ ∀ os ρ2, W ds.length os ρ2 → E.nx os ρ2
theorem fso_for {tg iter : Expr} {w : UI} {g : UG} (hp : PassesOwn (model X.prog X.w) X.A X.env X.xe) (hc : X.calm = true) (hi : FI X tg iter w) (hg : FG X none tg g) (hb : FBO X C body t)
    (hs : ∀ x, foldedSetIterable iter X.env x = pure x := by intro _; rfl) : FSO X C (.For tg iter body [] pos) (uForO w g t) := ⟨fun WX tk E os ρ q F H σ0 σ B a as D h0 er go f => by
  refine to_SS (ps_for hp hc pi_S pg_S pss_S hs) (hi ρ _ q F H σ0 σ (gB B a as) _ er fun ds ρ1 J F1 H1 ⟨hz, W, w0, turn, done⟩ G1 wd => ?_)
  have h1 : ρ1[0]? = some (S0 a) := hz.trans h0
  have f1 := f.on (G1.nx.mono gB_sub)
  refine for_it wd (fun i σ' H' => ∃ os' as' ρ' F', W i os' ρ' ∧ ρ'[0]? = some (S0 a) ∧ Nx F1 H1 F' H' B ∧ ER X.K F' H' σ0 ρ' σ' (gB B a as') ∧ GO X.K F' H' B a C os' as') ⟨os, as, ρ1, F1, w0, h1, .refl _ _ _, G1.er, go.on G1.nx fun c h => h⟩
    (fun i σ' H' _ ⟨os', as', ρ', F', _, _, n, e, _⟩ => n.fz.trans e.sub) ?_ (fun σ' H' ⟨os', as', ρ', F', w', h', n', e', g'⟩ => f1.nx os' as' ρ' σ' F' H' (done os' ρ' w') h' n' e' g')
  rintro i x σ2 H2 H3 hi ⟨os2, as2, ρ2, F2, w2, h2, n2, e2, g2⟩ y
  obtain ⟨d, F3, e, G3, rd⟩ := yd_er e2 n2.fz y
  have g3 := g2.on G3.nx fun c h => h
  refine hg d ρ2 _ (turn i d os2 ρ2 e w2 (h2.trans h0.symm)) F3 H3 σ0 σ2 (gB B a as2) x _ G3.er rd fun ρ4 σ4 F4 H4 z G4 _ => ?_
  have n4 := n2.trans ((G3.nx.trans G4.nx).mono gB_sub)
  have f4 := f1.on n4
  exact hb.run WX tk _ os2 ρ4 z.2 F4 H4 σ0 σ4 B a as2 _ (z.1.trans h0) G4.er (g3.on G4.nx fun c h => h) ⟨fun os' as' ρ' σ' F' H' w' h' n' e' g' => ⟨os', as', ρ', F', w', h', n4.trans n', e', g'⟩, fun _ _ _ _ _ e => e.elim, f4.xc⟩⟩
/-! ### self.f = e -/
def uFldF (f : Str) (ue : UE) : USO := fun E os ρ => ue ρ fun r ρ1 => wv ρ1 r fun d => (frz ρ1 r)[0]? = ρ[0]? ∧ os.length < 1000 ∧ (∀ p ∈ os, p.1 ≠ f) ∧ E.nx (os ++ [(f, false, d)]) (frz ρ1 r)
def uFldO (f : Str) (ue : UE) : USO := fun E os ρ => ue ρ fun r ρ1 => match r with
  | .own d => ρ1[0]? = ρ[0]? ∧ os.length < 1000 ∧ (∀ p ∈ os, p.1 ≠ f) ∧ E.nx (os ++ [(f, true, d)]) ρ1
  | _ => False
theorem fso_fldF {f : Str} {n : Str} {ue : UE} {p pos' : Pos} (hc : Cls X.K C) (hn : NoAttr X.K C f) (ho : PE X (.Name n p) (tVar 0)) (he : FE X e ue) (hs : swapsWith e (some (.Attribute (.Name n p) f pos')) pos.line X.env = pure false := by rfl) :
    FSO X C (.Assign [.Attribute (.Name n p) f pos'] e pos) (uFldF f ue) := ⟨fun W tk E os ρ q F H σ0 σ B a as D h0 er go f => by
  refine to_SS (ps_fld ho pe_S hs) (he ρ _ q F H σ0 σ (gB B a as) _ er fun r ρ1 v F1 H1 z G => ?_)
  obtain ⟨F2, d, n2, E2, rd, z1, z2, z3, z⟩ := G.er.freeze G.rr z
  have g2 := (go.on G.nx fun c h => h).on n2 fun c h => h
  have h2 := z1.trans h0
  obtain ⟨x0, e0, rx⟩ := E2.fz 0 true _ h2
  cases rx
  obtain ⟨dx, vfs, e1, o1⟩ := g2.at_
  refine ⟨_, e0, a, C, dx, vfs, rfl, e1, hc, hn, by rw [o1.len]; exact z2, ?_⟩
  refine f.nx _ as _ σ F2 _ z h2 ((G.nx.trans n2).mono gB_sub |>.trans ⟨Same.refl _, fun c hc => upd_ne fun y => g2.nB.1 (y ▸ hc)⟩) (E2.held_write (.inr (.inl rfl))) ⟨⟨dx, _, upd_same, ?_⟩, g2.na, g2.nB⟩
  rw [o1.put_new z3]
  exact OF.snocF rd (OF.mono (Same.refl _) (fun c hc => upd_ne (show c ≠ a from fun y => g2.na (y ▸ hc))) o1)⟩
theorem fso_fldO {f : Str} {n : Str} {ue : UE} {p pos' : Pos} (hc : Cls X.K C) (hn : NoAttr X.K C f) (ho : PE X (.Name n p) (tVar 0)) (he : FE X e ue) (hs : swapsWith e (some (.Attribute (.Name n p) f pos')) pos.line X.env = pure false := by rfl) :
    FSO X C (.Assign [.Attribute (.Name n p) f pos'] e pos) (uFldO f ue) := ⟨fun W tk E os ρ q F H σ0 σ B a as D h0 er go f => by
  refine to_SS (ps_fld ho pe_S hs) (he ρ _ q F H σ0 σ (gB B a as) _ er fun r ρ1 v F1 H1 z G => ?_)
  split at z
  case h_2 => exact z.elim
  rename_i d
  obtain ⟨z1, z2, z3, z⟩ := z
  have rr := G.rr
  have hb := G.er.hold rr
  obtain ⟨b, rfl, ro, nF, nb, _⟩ := rr
  have g2 := go.on G.nx fun c h => h
  have h2 := z1.trans h0
  obtain ⟨x0, e0, rx⟩ := G.er.fz 0 true _ h2
  cases rx
  obtain ⟨dx, vfs, e1, o1⟩ := g2.at_
  have ba : b ≠ a := fun y => nb (.inr (.inl y))
  have nas : b ∉ as := fun y => nb (.inr (.inr y))
  have E3 : ER X.K F1 H1 σ0 ρ1 σ (gB B a (as ++ [b])) := hb.less fun c hc => by
    rcases hc with hc | hc | hc
    · exact .inl (.inl hc)
    · exact .inl (.inr (.inl hc))
    · rcases List.mem_append.mp hc with hc | hc
      · exact .inl (.inr (.inr hc))
      · exact .inr (by rw [List.mem_singleton.mp hc])
  refine ⟨_, e0, a, C, dx, vfs, rfl, e1, hc, hn, by rw [o1.len]; exact z2, ?_⟩
  refine f.nx _ (as ++ [b]) _ σ F1 _ z h2 ((G.nx.mono gB_sub).trans ⟨Same.refl _, fun c hc => upd_ne fun y => g2.nB.1 (y ▸ hc)⟩) (E3.held_write (.inr (.inl rfl))) ⟨⟨dx, _, upd_same, ?_⟩, ?_, g2.nB.1, ?_⟩
  · rw [o1.put_new z3]
    exact OF.snocO (ro.keep (Same.refl _) (upd_ne ba)) nas (OF.mono (Same.refl _) (fun c hc => upd_ne (show c ≠ a from fun y => g2.na (y ▸ hc))) o1)
  · intro y
    rcases List.mem_append.mp y with y | y
    · exact g2.na y
    · exact ba (List.mem_singleton.mp y).symm
  · intro c hc hB
    rcases List.mem_append.mp hc with hc | hc
    · exact g2.nB.2 c hc hB
    · rw [List.mem_singleton.mp hc] at hB; exact nb (.inl hB)⟩
/-! ### self.f[k] = v -/
def uPutO (f : Str) (uv ui : UE) : USO := fun E os ρ => ∃ l, oget os f = some (true, .dic l) ∧ l.length < sizeLine ∧ uv ρ fun r ρ1 => wv ρ1 r fun d => ui (frz ρ1 r) fun s ρ3 => wv ρ3 s fun e => ρ3[0]? = ρ[0]? ∧ ∃ k, keyD e = some k ∧ E.nx (oset f (.dic (kput l k d)) os) ρ3
theorem fso_putK {f : Str} {n : Str} {i : Expr} {uv ui : UE} {p pa pos' : Pos} (hu : X.A.units + 1 < cLine) (hc : Cls X.K C) (hn : NoAttr X.K C f) (ho : PE X (.Name n p) (tVar 0)) (hv : FE X e uv) (hi : FE X i ui)
    (hs : swapsWith e (some (.Subscript (.Attribute (.Name n p) f pa) i pos')) pos.line X.env = pure false := by rfl) (hb : attributeBase (.Name n p) f X.env (eval (.Name n p) X.env) = eval (.Name n p) X.env := by rfl) :
    FSO X C (.Assign [.Subscript (.Attribute (.Name n p) f pa) i pos'] e pos) (uPutO f uv ui) := ⟨fun W tk E os ρ q F H σ0 σ B a as D h0 er go fo => by
  obtain ⟨l, eo, hl, q⟩ := q
  refine to_SS (ps_dput hu (pe_fld ho hb) pe_S pe_S hs) (hv ρ _ q F H σ0 σ (gB B a as) _ er fun r ρ1 x F1 H1 z G => ?_)
  obtain ⟨F2, d, n2, E2, rd, z⟩ := G.er.freeze G.rr z
  have g2 := (go.on G.nx fun c h => h).on n2 fun c h => h
  have nn := (G.nx.trans n2).mono (gB_sub (B := B) (a := a) (as := as))
  obtain ⟨x0, e0, rx⟩ := er.fz 0 true _ h0
  cases rx
  obtain ⟨dx, vfs, e1, o1⟩ := g2.at_
  obtain ⟨b, eb, rb, mb, _⟩ := o1.own eo
  refine ⟨_, e0, a, C, dx, vfs, _, rfl, e1, hc, hn, eb, ?_⟩
  refine hi _ _ z F2 H1 σ0 σ (gB B a as) _ E2 fun s ρ3 w F3 H3 z G3 => ?_
  obtain ⟨e', we, z1, k, ek, z⟩ := G3.er.seen G3.rr z
  have g3 := g2.on G3.nx fun c h => h
  obtain ⟨dx3, vfs3, e3, o3⟩ := g3.at_
  have ea : H3 a = H1 a := G3.nx.out a (.inr (.inl rfl))
  rw [ea, e1] at e3; cases e3
  obtain ⟨b', eb', rb', mb', kb⟩ := o3.own eo
  rw [eb] at eb'; cases eb'
  cases rb' with
  | @dic _ kvs _ hb1 rk =>
    cases keyD_v we ek
    have rd3 := rd.mono G3.nx.fz
    have ba : b ≠ a := fun y => g3.na (y ▸ mb')
    refine ⟨b, _, rfl, .k hb1 (by rw [rk.len]; exact hl), ?_⟩
    refine fo.nx _ as _ σ F3 _ z (z1.trans h0) (nn.trans ((G3.nx.mono gB_sub).trans ⟨Same.refl _, fun c hc => upd_ne fun y => g3.nB.2 b mb' (y ▸ hc)⟩)) (G3.er.held_write (.inr (.inr mb'))) ⟨⟨dx, vfs, by rw [upd_ne (Ne.symm ba), ea, e1], ?_⟩, g3.na, g3.nB⟩
    exact kb (.dic upd_same (rk.put rd3)) fun c hc hcb => upd_ne hcb⟩
end
end YP
set_option maxRecDepth 100000
set_option maxHeartbeats 2000000
/-! The yard's pure layer, part 19: an __init__, and calls of classes. -/
namespace YP
open PySem PySem.Spec PyProof.Rows L2
section
variable {K : PySem.W.Frag} {F F' H H' : Hp} {σ0 σ : L2.St} {ρ ρ' : List Sl}
def hBs : (Addr → Prop) → List Rv → List V → (Addr → Prop)
  | B, r :: rs, v :: vs => hBs (hB B r v) rs vs
  | B, _, _ => B
theorem hBs_sub : ∀ {B : Addr → Prop} {rs : List Rv} {vs : List V} (c : Addr), B c → hBs B rs vs c
  | _, [], _, _, h => h
  | _, _ :: _, [], _, h => h
  | B, r :: rs, v :: vs, c, h => hBs_sub (B := hB B r v) c (hB_sub c h)
theorem ER.holds : ∀ {B : Addr → Prop} {rs : List Rv} {vs : List V}, ER K F H σ0 ρ σ B → RRs K F H ρ σ B rs vs → ER K F H σ0 ρ σ (hBs B rs vs)
  | _, [], _, E, _ => E
  | _, _ :: _, [], E, _ => E
  | _, _ :: _, _ :: _, E, h => (E.hold h.1).holds h.2
theorem RRs.helds : ∀ {B : Addr → Prop} {rs : List Rv} {vs : List V}, ER K F H σ0 ρ σ B → ER K F' H' σ0 ρ' σ (hBs B rs vs) → RRs K F H ρ σ B rs vs → Nx F H F' H' (hBs B rs vs) → RRs K F' H' ρ' σ B rs vs
  | _, [], [], _, _, _, _ => trivial
  | _, [], _ :: _, _, _, h, _ => h.elim
  | _, _ :: _, [], _, _, h, _ => h.elim
  | B, r :: rs, v :: vs, E, E', h, n => ⟨h.1.held E (E'.less fun c z => hBs_sub (B := hB B r v) (rs := rs) (vs := vs) c z) (n.mono fun c z => hBs_sub (B := hB B r v) (rs := rs) (vs := vs) c z), h.2.helds (E.hold h.1) E' n⟩
theorem RRs.app : ∀ {B : Addr → Prop} {rs : List Rv} {vs : List V} {qs : List Rv} {zs : List V}, RRs K F H ρ σ B rs vs → RRs K F H ρ σ (hBs B rs vs) qs zs → RRs K F H ρ σ B (rs ++ qs) (vs ++ zs)
  | _, [], [], _, _, _, k => k
  | _, [], _ :: _, _, _, h, _ => h.elim
  | _, _ :: _, [], _, _, h, _ => h.elim
  | _, _ :: _, _ :: _, _, _, h, k => ⟨h.1, h.2.app k⟩
/-- an object that was just made, and its slot -/
theorem ER.made {B : Addr → Prop} {vs : List V} {x dx C : Addr} (E : ER K F H [] ρ (vs.map some) B) (hx : H x = none) (hd : H dx = none) (ne : dx ≠ x) :
    ER K F (upd (upd H dx (.own x)) x (.ins C dx [])) [] (.sl false false (.ref x) :: ρ) ((V.ref x :: vs).map some) (gB B x []) ∧ Nx F H F (upd (upd H dx (.own x)) x (.ins C dx [])) B ∧ GO K F (upd (upd H dx (.own x)) x (.ins C dx [])) B x C [] [] := by
  have E1 := E.laid (o := .own x) hd
  have hx1 : upd H dx (.own x) x = none := by rw [upd_ne (Ne.symm ne)]; exact hx
  have E2 := E1.laid (o := .ins C dx []) hx1
  have nB := E.nB hx
  refine ⟨⟨?_, E2.sub, fun i p d q => ?_, fun i p d q => ?_, fun i j a p q d e h1 h2 h3 h4 => ?_, fun i o d q => ?_, fun c hc => ?_⟩, (nx_new E hd).trans (nx_new E1 hx1), ⟨⟨dx, [], upd_same, .nil⟩, (fun z => nomatch z), nB, (fun _ z => nomatch z)⟩⟩
  · show ρ.length + 1 = _
    rw [E.len]; rfl
  · cases i with
    | zero => cases q; exact ⟨_, rfl, .ref x⟩
    | succ i => exact E2.fz i p d q
  · cases i with
    | zero => cases q
    | succ i =>
      obtain ⟨a, e, ro, n, nb⟩ := E2.ow i p d q
      refine ⟨a, e, ro, n, fun z => ?_⟩
      rcases z with z | z | z
      · exact nb z
      · exact E1.nS hx1 i p d q (z ▸ e)
      · cases z
  · cases i with
    | zero => cases h1
    | succ i =>
      cases j with
      | zero => cases h2
      | succ j => exact congrArg (· + 1) (E2.inj i j a p q d e h1 h2 h3 h4)
  · cases i with
    | zero => cases q
    | succ i =>
      have := E2.par i o d q
      exact this.trans (by simp)
  · rcases hc with hc | hc | hc
    · exact E2.out c hc
    · subst hc; rw [upd_same]; exact ⟨fun z => (nomatch z), E1.free hx1⟩
    · cases hc
theorem ER.tl {B : Addr → Prop} {s : Sl} {x : V} {vs : List V} {B' : Addr → Prop} (E : ER K F H [] (s :: ρ) ((x :: vs).map some) B) (h : ∀ c, B' c → B c) : ER K F H [] ρ (vs.map some) B' := by
  have l := E.len
  refine ⟨by simpa using l, E.sub, fun i p d q => E.fz (i + 1) p d q, fun i p d q => ?_, fun i j a p q d e h1 h2 h3 h4 => ?_, fun i o d q => ?_, fun c hc => E.out c (h c hc)⟩
  · obtain ⟨a, e, ro, n, nb⟩ := E.ow (i + 1) p d q
    exact ⟨a, e, ro, n, fun z => nb (h a z)⟩
  · exact Nat.succ.inj (E.inj (i + 1) (j + 1) a p q d e h1 h2 h3 h4)
  · exact (E.par (i + 1) o d q).trans (by simp)
end
/-! ### the promise of an __init__ -/
abbrev UFI := List Sl → (List (Str × D) → List Sl → Prop) → (Addr → List (Str × D) → List Sl → Prop) → Prop
def PSpI (K : PySem.W.Frag) (C : Addr) (n : Nat) (u : UFI) : Sp := fun vs H Q E => ∃ a ws ρ F B R RX, vs = .ref a :: ws ∧ ρ.length = n ∧ ws.length = n ∧ ER K F H [] (.sl false false (.ref a) :: ρ) (vs.map some) (gB B a []) ∧ GO K F H B a C [] [] ∧ u ρ R RX ∧
  (∀ fs ρ' F' H', R fs ρ' → Nx F H F' H' B → ER K F' H' [] ρ' (ws.map some) B → RD K F' (.ref a) (.obj C fs) → Q .non H') ∧
  ∀ C' fs ρ' dd vfs F' H', RX C' fs ρ' → Nx F H F' H' B → ER K F' H' [] ρ' (ws.map some) B → F' dd = some (.xd vfs) → RF K F' vfs fs → E (.ref C') (some dd) H'
def enEndI (n : Nat) (R : List (Str × D) → List Sl → Prop) (RX : Addr → List (Str × D) → List Sl → Prop) : EnO := ⟨fun _ _ => False, fun fs ρe => R fs (back n ρe.tail), fun C' fs ρe => RX C' fs (back n ρe.tail)⟩
section
variable {P : Program} {w : World} {K : PySem.W.Frag} {mg : Str → Option Value} {base : Heap}
theorem back_cons {n : Nat} {s : Sl} {ρ : List Sl} : back (n + 1) (s :: ρ) = unmark s :: back n ρ := rfl
theorem back_tail : ∀ {n : Nat} {ρ : List Sl}, ∃ s, back (n + 1) ρ = s :: back n ρ.tail
  | n, [] => ⟨.un, rfl⟩
  | n, s :: ρ => ⟨unmark s, rfl⟩
theorem fn_mkI {x qual : Str} {params : Arguments} {bd : List Stmt} {scope : Scope} {dvs : List V} {kws : List (Str × V)} {f C : Addr} {fd : FuncData} {N ps : List Str} {k n : Nat} {u : UFI} (Fn : FunD K x qual params bd scope dvs kws f fd) (S : FnScope N ps scope) (hN : ps.length ≤ N.length) (hp : ps.length = n + 1)
    (body : ∀ (cdv : Value) (A : Around) (outer : List Env) (s : Shared) (H : Hp) (E : XK), Room k (A.deeper (envOfC qual scope s.heap.objs.size f cdv)) →
      ∃ ub, FBO (cxOf (L2.CX P w) P w K mg base N qual scope f cdv A outer s H E) C bd ub ∧ ∀ a ρ R RX, ρ.length = n → u ρ R RX → ub (enEndI n R RX) [] (enter N.length (.sl false false (.ref a) :: ρ))) : FnOk P w K mg base (L2.CX P w) (k + 1) f fd ps (PSpI K C n u) := by
  refine Fn.ok S (fun vs H Q E h => ?_) fun cdv A outer s H vs Q E hr h => ?_
  · obtain ⟨a, ws, ρ, F, B, R, RX, rfl, l1, l2, _⟩ := h
    rw [hp, List.length_cons, l2]
  · obtain ⟨a, ws, ρ, F, B, R, RX, rfl, l1, l2, er, go, hu, g, gx⟩ := h
    obtain ⟨ub, hub, gub⟩ := body cdv A outer s H E hr
    have hn : n + 1 = ((V.ref a :: ws).map some).length := by rw [List.length_map, List.length_cons, l2]
    have hl : 0 < N.length := by omega
    refine ⟨_, pss_S, hub.run (fun cls d _ H => E cls d H) (takes_of rfl rfl rfl rfl) _ _ _ (gub a ρ R RX l1 hu) F H (((V.ref a) :: ws).map some) _ B a [] _ rfl er.enter go ⟨fun _ _ _ _ _ _ e _ => e.elim, fun fs ρ' σ' F' H' e nx er' rd => ?_, fun C' fs ρ' σ' F' H' dd vfs e G fd rf => ?_⟩⟩
    · obtain ⟨s0, hs⟩ := back_tail (n := n) (ρ := ρ')
      have eb := er'.back hn
      rw [hs] at eb
      exact g fs _ F' H' e nx (eb.tl fun _ h => h) rd
    · obtain ⟨s0, hs⟩ := back_tail (n := n) (ρ := ρ')
      have eb := G.er.back hn
      rw [hs] at eb
      exact gx C' fs _ dd vfs F' H' e G.nx (eb.tl fun _ h => h) fd rf
end
/-! ### keywords' values -/
def tK (X : Cx) (kws : List Keyword) : TA := fun σ H Q => ∀ pos pins s, Inv X pins σ H s → wpAny (model X.prog X.w) X.A (evalAll ((backToKw pos (keywordEach kws X.env)).map (·.2))) (AP X pins σ Q) X.xe s
theorem pk_S {X : Cx} {kws : List Keyword} : PK X kws (tK X kws) := ⟨fun pos pins s σ H Q I h => h pos pins s I⟩
structure FK (X : Cx) (kws : List Keyword) (u : UR) : Prop where
  run : ∀ (ρ : List Sl) (R : List Rv → List Sl → Prop), u ρ R → ∀ (F H : Hp) (σ0 σ : L2.St) (B : Addr → Prop) (Q : List V → Hp → Prop), ER X.K F H σ0 ρ σ B →
    (∀ rs ρ' vs F' H', R rs ρ' → Gd X.K F H F' H' σ0 ρ' σ B → RRs X.K F' H' ρ' σ B rs vs → rs.length = kws.length → Q vs H') → tK X kws σ H Q
section
variable {X : Cx} {e a : Expr} {ua : UE} {σ : L2.St} {H : Hp} {kws : List Keyword} {u : UR} {nm : Option Str} {kpos : Pos}
theorem to_K {t : TA} {Q : List V → Hp → Prop} (h : PK X kws t) (q : t σ H Q) : tK X kws σ H Q := fun pos pins s I => h.run pos pins s σ H Q I q
theorem fk_nil : FK X [] uRNil := ⟨fun ρ R q F H σ0 σ B Q E g => to_K pk_nil (g [] ρ [] F H q ⟨.refl _ _ _, E⟩ trivial rfl)⟩
theorem fk_ref (ha : FE X a ua) (hr : FK X kws u) : FK X (⟨nm, a, kpos⟩ :: kws) (uRRef ua u) := ⟨fun ρ R q F H σ0 σ B Q E g =>
  to_K (pk_cons pe_S pk_S) (ha ρ _ q F H σ0 σ B _ E fun r ρ1 v F1 H1 z G =>
    hr.run ρ1 _ z F1 H1 σ0 σ (hB B r v) _ (G.er.hold G.rr) fun rs ρ2 vs F2 H2 y G2 l ll =>
      g (r :: rs) ρ2 (v :: vs) F2 H2 y ⟨G.nx.trans (G2.nx.mono hB_sub), G2.er.unhold⟩ ⟨G.rr.held G.er G2.er G2.nx, l⟩ (congrArg (· + 1) ll))⟩
theorem fk_val (ha : FE X a ua) (hr : FK X kws u) : FK X (⟨nm, a, kpos⟩ :: kws) (uRVal ua u) := ⟨fun ρ R q F H σ0 σ B Q E g =>
  to_K (pk_cons pe_S pk_S) (ha ρ _ q F H σ0 σ B _ E fun r ρ1 v F1 H1 z G => by
    obtain ⟨F2, d, n2, E2, rd, z⟩ := G.er.freeze G.rr z
    exact hr.run _ _ z F2 H1 σ0 σ B _ E2 fun rs ρ3 vs F3 H3 y G3 l ll => g (.val d :: rs) ρ3 (v :: vs) F3 H3 y ⟨G.nx.trans (n2.trans G3.nx), G3.er⟩ ⟨rd.mono G3.nx.fz, l⟩ (congrArg (· + 1) ll))⟩
end
/-! ### C(e, .., k = v, ..), which may raise -/
def tMakeKS (C : Addr) (n m : Nat) (sp : Sp) (gV : List V → List V → List V) (E : L2.St → XK) (t tk : TA) : TE := fun σ H Q => t σ H fun vs H1 => tk σ H1 fun zs H2 => vs.length = n ∧ zs.length = m ∧ ∀ x dx, H2 x = none → H2 dx = none → dx ≠ x →
  sp (gV (.ref x :: vs) zs) (upd (upd H2 dx (.own x)) x (.ins C dx [])) (fun v H3 => v = .non ∧ Q (.ref x) H3) (E σ)
section
variable {X : Cx} {CX : CXT} {k n : Nat} {f C : Addr} {fd : FuncData} {ps ks : List Str} {sp : Sp} {E : L2.St → XK} {x : Str} {p pos : Pos} {e : Expr} {es : List Expr} {kws : List Keyword} {t tk : TA} {g : List Value → List Value → List Value} {gV : List V → List V → List V}
theorem run_makeKS {pins : List (Addr × Obj)} {σ : L2.St} {H : Hp} {s : Shared} {Q : VK} {us ws : List Value} {vs zs : List V} (M : Mk X.K C f) (F : FnOk X.prog X.w X.K X.mg X.base CX k f fd ps sp) (hr : Room (k + 1) X.A) (hb : KBn X.K fd ps (n + 1) ks g gV) (hx : PassesAt CX X σ (E σ))
    (I : Inv X pins σ H s) (r : Vals vs us) (rz : Vals zs ws) (l1 : vs.length = n) (l2 : zs.length = ks.length)
    (h : ∀ x dx, H x = none → H dx = none → dx ≠ x → sp (gV (.ref x :: vs) zs) (upd (upd H dx (.own x)) x (.ins C dx [])) (fun v H2 => v = .non ∧ Q (.ref x) H2) (E σ)) :
    wpAny (model X.prog X.w) X.A (call (.ref C) us (ks.zip ws)) (EP X pins σ Q) X.xe s := by
  have hq := h (s.heap.objs.size + 1) s.heap.objs.size (I.hok.fresh (Nat.le_succ _)) (I.hok.fresh (Nat.le_refl _)) (Nat.ne_of_lt (Nat.lt_succ_self _))
  have I2 := Inv.made (C := C) I
  have r1 : Vals (V.ref (s.heap.objs.size + 1) :: vs) (Value.ref (s.heap.objs.size + 1) :: us) := .cons rfl r
  have r2 := hb.rel r1 rz
  have n1 : (Value.ref (s.heap.objs.size + 1) :: us).length = n + 1 := by
    rw [List.length_cons, ← r.length, l1]
  refine wpAny_call (make_map (f := f) I.kIn M.makes M.init (beq_iff_eq.mp M.fn) (codeAny_mono (F.run _ X.stack _ _ ⟨Value.ref (s.heap.objs.size + 1) :: us, ks.zip ws⟩ (g (Value.ref (s.heap.objs.size + 1) :: us) ws) _ _ (E σ) (hr.make C us (ks.zip ws))
    (I2.env0.make C us (ks.zip ws)) (hb.to _ (Value.ref (s.heap.objs.size + 1) :: us) ws I2.kIn n1 (rz.length.symm.trans l2)) r2 hq) fun r s' hq' => ?_))
  cases r with
  | error e => exact hx pins _ _ e s' I2 hq'
  | ok fl =>
    cases fl with
    | ret u =>
      obtain ⟨v, H', I3, rv, ev, q3⟩ := I2.after hq'
      subst ev
      exact ⟨rv, ⟨V.ref (s.heap.objs.size + 1), H', I3, rfl, q3⟩⟩
    | next => exact False.elim hq'
    | brk => exact False.elim hq'
    | cont => exact False.elim hq'
theorem pe_makeKS (M : Mk X.K C f) (F : FnOk X.prog X.w X.K X.mg X.base CX k f fd ps sp) (hr : Room (k + 1) X.A) (hg : Gl X x) (hm : X.mg x = some (.ref C)) (hb : KBn X.K fd ps (n + 1) ks g gV) (hx : ∀ σ, PassesAt CX X σ (E σ)) (ha : PA X (e :: es) t) (hkw : PK X kws tk)
    (hall : (backToKw pos (keywordEach kws X.env)).all (·.1.isSome) = true := by rfl) (hks : (backToKw pos (keywordEach kws X.env)).filterMap (·.1) = ks := by rfl) (hdb : (x == ("__debug__" : Str)) = false := by decide)
    (he : starEach (e :: es) X.env = (false, eval e X.env) :: starEach es X.env := by rfl) (hpl : ((backTo pos (starEach (e :: es) X.env)).any (·.1) || (backToKw pos (keywordEach kws X.env)).any (·.1.isNone)) = false := by rfl) :
    PE X (.Call (.Name x p) (e :: es) kws pos) (tMakeKS C n ks.length sp gV E t tk) := by
  refine ⟨fun pins s σ H Q I h => ?_⟩
  refine wpAny_Call_Name_kw (ld_glob I hg hm ?_ hdb)
  refine PySem.W.callWith_KW (h₀ := X.base) I.ok.mod.kin M.kp hall (thn (ha.run pos pins s σ H _ I h) fun us s1 ⟨vs, H1, I1, r, q⟩ => ?_) hpl he
  refine thn (hkw.run pos pins s1 σ H1 _ I1 q) fun ws s2 ⟨zs, H2, I2, rz, l1, l2, q2⟩ => ⟨I2.kIn, ?_⟩
  rw [hks]
  exact run_makeKS M F hr hb (hx σ) I2 r rz l1 l2 q2
end
/-- how the values come to the parameters, self left out -/
structure GR (K : PySem.W.Frag) (gV : List V → List V → List V) (gR : List Rv → List Rv → List Rv) : Prop where
  to : ∀ {F H : Hp} {ρ : List Sl} {σ : L2.St} {B : Addr → Prop} {rs qs : List Rv} {vs zs : List V}, rs.length = vs.length → RRs K F H ρ σ B (rs ++ qs) (vs ++ zs) → ∃ ws, (∀ x, gV (.ref x :: vs) zs = .ref x :: ws) ∧ RRs K F H ρ σ B (gR rs qs) ws
def uMakeK (C : Addr) (gR : List Rv → List Rv → List Rv) (n : Nat) (u : UFI) (ua uk : UR) : UEX := fun ρ R RX => ua ρ fun rs ρ1 => uk ρ1 fun qs ρ2 => (gR rs qs).length = n ∧ (ats (gR rs qs)).Nodup ∧
  u ((gR rs qs).map (slOf ρ2)) (fun fs ss => R (.val (.obj C fs)) (wb ρ2 (gR rs qs) ss)) fun C' fs ss => RX C' fs (wb ρ2 (gR rs qs) ss)
theorem fex_make {X : Cx} {k n m : Nat} {f C : Addr} {fd : FuncData} {ps ks : List Str} {x : Str} {p pos : Pos} {e : Expr} {es : List Expr} {kws : List Keyword} {u : UFI} {ua uk : UR} {g : List Value → List Value → List Value} {gV : List V → List V → List V} {gR : List Rv → List Rv → List Rv}
    (M : Mk X.K C f) (Fn : FnOk X.prog X.w X.K X.mg X.base (L2.CX X.prog X.w) k f fd ps (PSpI X.K C m u)) (hr : Room (k + 1) X.A) (hg : Gl X x) (hm : X.mg x = some (.ref C)) (hb : KBn X.K fd ps (n + 1) ks g gV) (hgr : GR X.K gV gR) (ha : FR X (e :: es) ua) (hk : FK X kws uk)
    (hn : (e :: es).length = n := by rfl) (hkn : kws.length = ks.length := by rfl)
    (hall : (backToKw pos (keywordEach kws X.env)).all (·.1.isSome) = true := by rfl) (hks : (backToKw pos (keywordEach kws X.env)).filterMap (·.1) = ks := by rfl) (hdb : (x == ("__debug__" : Str)) = false := by decide)
    (he : starEach (e :: es) X.env = (false, eval e X.env) :: starEach es X.env := by rfl) (hpl : ((backTo pos (starEach (e :: es) X.env)).any (·.1) || (backToKw pos (keywordEach kws X.env)).any (·.1.isNone)) = false := by rfl) :
    FEX X (.Call (.Name x p) (e :: es) kws pos) (uMakeK C gR m u ua uk) := ⟨fun W tk ρ R RX q F H σ0 σ B Q E g gx => by
  refine to_S (pe_makeKS (E := WE W) M Fn hr hg hm hb (fun σ => passAt tk σ) pa_S pk_S hall hks hdb he hpl) (ha ρ _ q F H σ0 σ B _ E fun rs ρ1 vs F1 H1 z G l ll => ?_)
  have lv := l.len
  refine hk.run ρ1 _ z F1 H1 σ0 σ (hBs B rs vs) _ (G.er.holds l) fun qs ρ2 zs F2 H2 ⟨lm, nd, z⟩ G2 l2 ll2 => ?_
  have E2 : ER X.K F2 H2 σ0 ρ2 σ B := G2.er.less fun c h => hBs_sub c h
  have lr := (l.helds G.er G2.er G2.nx).app l2
  obtain ⟨ws, ew, rw_⟩ := hgr.to lv lr
  have lw := rw_.len
  have n2 : Nx F H F2 H2 B := G.nx.trans (G2.nx.mono fun c h => hBs_sub c h)
  refine ⟨by rw [← lv, ll, hn], by rw [← l2.len, ll2, hkn], fun y dx hy hdx ne => ?_⟩
  obtain ⟨E3, n3, g3⟩ := (E2.into rw_ nd).made (C := C) hy hdx ne
  refine ⟨y, ws, _, F2, bB B ρ2 σ (gR rs qs), _, _, ew y, by rw [List.length_map]; exact lm, by rw [← lw]; exact lm, by rw [ew y]; exact E3, g3, z, fun fs ss F' H' yy nx er' rd => ⟨rfl, ?_⟩, fun C' fs ss dd vfs F' H' yy nx er' fd rf => ?_⟩
  · have G' := E2.behind (r := .val (.obj C fs)) rw_ nd (n3.trans nx) er' rd fun _ z => nomatch z
    exact g _ _ _ F' H' yy ⟨n2.trans G'.nx, G'.er, G'.rr⟩
  · have G' := E2.behind (r := .val .non) (v := .non) rw_ nd (n3.trans nx) er' (show RD X.K F' .non .non from .non) (fun _ z => nomatch z)
    exact gx C' fs _ F' H' dd vfs yy ⟨n2.trans G'.nx, G'.er⟩ fd rf⟩
/-- where nothing is raised -/
theorem fe_never {X : Cx} {e : Expr} {u : UEX} (h : FEX X e u) : FE X e (fun ρ R => u ρ R fun _ _ _ => False) := ⟨fun ρ R q F H σ0 σ B Q E g =>
  h.run (fun _ _ _ _ => False) takes0 ρ R _ q F H σ0 σ B Q E g fun _ _ _ _ _ _ _ z => z.elim⟩
end YP
set_option maxRecDepth 100000
set_option maxHeartbeats 2000000
/-! The yard's pure layer, part 20: {k: v for ..}. -/
namespace YP
open PySem PySem.Spec PyProof.Rows L2
section
variable {J : It} {n : Nat} {G : Hp → Prop} {Y : Nat → Hp → V → Hp → Prop}
/-- a dict comprehension over it: Pv by the turn and the heap (the new dict at D within) -/
theorem dc_it (w : Walk J n G Y) {g : TG} {tt : TT} {tk tv : TE} {vs : List Nat} {σ : L2.St} {H1 : Hp} {D : Addr} {Qd : Hp → Prop} (Pv : Nat → Hp → Prop) (h0 : Pv 0 (upd H1 D (.dK []))) (hG : ∀ i H, i ≤ n → Pv i H → G H)
    (hs : ∀ i x H H', i < n → Pv i H → Y i H x H' → g x (L2.wipe σ vs) H' fun σ2 H2 => L2.wipe σ2 vs = L2.wipe σ vs ∧ tt σ2 H2 fun b H3 =>
      if b = true then tk σ2 H3 fun y H4 => tv σ2 H4 fun z H5 => ∃ kvs k, y = kV k ∧ H5 D = some (.dK kvs) ∧ kvs.length < sizeLine ∧ Pv (i + 1) (upd H5 D (.dK (putK kvs k z))) else Pv (i + 1) H3) (hd : ∀ H, Pv n H → Qd H) :
    ∃ W : Nat → Nat → Hp → Prop, (∃ m, W 0 m (upd H1 D (.dK []))) ∧ ∀ i m H, W i m H →
      (J.stop i H ∧ Qd H) ∨ (J.go i H ∧ ∃ Nx : Hp → Prop, (∀ H', Nx H' → ∃ m', m' < m ∧ W (i + 1) m' H') ∧ ∀ x H', J.yld i H x H' → g x (L2.wipe σ vs) H' fun σ2 H2 => L2.wipe σ2 vs = L2.wipe σ vs ∧ tt σ2 H2 fun b H3 =>
        if b = true then tk σ2 H3 fun y H4 => tv σ2 H4 fun z H5 => ∃ kvs k, y = kV k ∧ H5 D = some (.dK kvs) ∧ kvs.length < sizeLine ∧ Nx (upd H5 D (.dK (putK kvs k z))) else Nx H3) := by
  refine ⟨fun i m H => m = n - i ∧ i ≤ n ∧ Pv i H, ⟨n, by simp, Nat.zero_le _, h0⟩, ?_⟩
  rintro i m H ⟨rfl, hi, p⟩
  have q := hG i H hi p
  by_cases hlt : i < n
  · exact .inr ⟨w.goes i H hlt q, Pv (i + 1), fun H' p' => ⟨n - (i + 1), by omega, rfl, hlt, p'⟩, fun x H' y => hs i x H H' hlt p (w.yields i H x H' hlt q y)⟩
  · have e : i = n := by omega
    subst e
    exact .inl ⟨w.stops H q, hd H p⟩
end
section
variable {X : Cx}
/-- W: by the turn, what is made so far, the slots -/
def uDc (w : UI) (g : UG) (tt : UT) (tk te : UE) (vs : List Nat) : UE := fun ρ R => w ρ fun ds ρ1 => ∃ W : Nat → List (Key × D) → List Sl → Prop, W 0 [] (wipeS ρ1 vs) ∧ (∀ i d acc ρ, ds[i]? = some d → W i acc ρ →
  g d ρ fun ρ2 => tt ρ2 fun b ρ3 => if b = true then tk ρ3 fun q ρ4 => te ρ4 fun r ρ5 => wv ρ5 q fun x => ∃ k, keyD x = some k ∧ acc.length < sizeLine ∧ wv ρ5 r fun e => W (i + 1) (kput acc k e) (wipeS (frz ρ5 r) vs) else W (i + 1) acc (wipeS ρ3 vs)) ∧
  (∀ i acc ρ, W i acc ρ → ∃ ρ', ρ = wipeS ρ' vs) ∧ ∀ acc ρ, W ds.length acc ρ → R (.own (.dic acc)) ρ
theorem dc_tl {kx vx tg iter : Expr} {ifs : List Expr} {scope : Scope} {own : List (Str × Nat)} {w : UI} {g : UG} {tt : UT} {tk te : UE}
    (hi : FI X tg iter w) (hK : ∀ (s : Shared) (H : Hp) (C : Addr) (cl : List (Str × Addr)) (fp : List Addr), (X.blk s H scope (compEnvC scope cl C X.env) fp).K = X.K)
    (hg : ∀ (s : Shared) (H : Hp) (C : Addr) (cl : List (Str × Addr)) (fp : List Addr), FG (X.blk s H scope (compEnvC scope cl C X.env) fp) (some (own.map (·.2))) tg g)
    (ht : ∀ (s : Shared) (H : Hp) (C : Addr) (cl : List (Str × Addr)) (fp : List Addr), FTs (X.blk s H scope (compEnvC scope cl C X.env) fp) ifs tt)
    (hkx : ∀ (s : Shared) (H : Hp) (C : Addr) (cl : List (Str × Addr)) (fp : List Addr), FE (X.blk s H scope (compEnvC scope cl C X.env) fp) kx tk)
    (he : ∀ (s : Shared) (H : Hp) (C : Addr) (cl : List (Str × Addr)) (fp : List Addr), FE (X.blk s H scope (compEnvC scope cl C X.env) fp) vx te)
    {ρ : List Sl} {R : Rv → List Sl → Prop} (q : uDc w g tt tk te (own.map (·.2)) ρ R) {F H : Hp} {σ0 σ : L2.St} {B : Addr → Prop} {Q : VK} (E : ER X.K F H σ0 ρ σ B)
    (k : ∀ r ρ' v F' H', R r ρ' → Gt X.K F H F' H' σ0 ρ' σ B r v → Q v H') : tDc (tI X tg iter) (bG X scope tg) (bT X scope ifs) (bE X scope kx) (bE X scope vx) (own.map (·.2)) σ H Q := by
  refine hi ρ _ q F H σ0 σ B _ E fun ds ρ1 J F1 H1 ⟨W, w0, turn, form, done⟩ G1 wd D nD => ?_
  have hD : ¬ B D := G1.er.nB nD
  have keepB : ∀ {H : Hp} {o : HO} (c : Addr), B c → upd H D o c = H c := fun c b => upd_ne fun z => by subst z; exact hD b
  refine dc_it wd (fun i H' => ∃ acc vacc ρ' F', W i acc ρ' ∧ ER X.K F' H' σ0 ρ' (L2.wipe σ (own.map (·.2))) (fun c => B c ∨ c = D) ∧ Nx F1 H1 F' H' B ∧ H' D = some (.dK vacc) ∧ RK X.K F' vacc acc) ?_ (fun i H' _ ⟨_, _, _, _, _, E', n', _⟩ => n'.fz.trans E'.sub) ?_ ?_
  · refine ⟨[], [], _, F1, w0, ?_, ?_, upd_same, .nil⟩
    · have E2 := (G1.er.laid (o := .dK []) nD).wipe (own.map (·.2))
      refine ⟨E2.len, E2.sub, E2.fz, fun i p d h => ?_, E2.inj, E2.par, fun c hc => ?_⟩
      · obtain ⟨a, e, ro, n, nb⟩ := E2.ow i p d h
        refine ⟨a, e, ro, n, fun hb => hb.elim nb fun z => ?_⟩
        subst z
        have hs : (L2.wipe σ (own.map (·.2)))[i]? = σ[i]? := wipe_get (wipeS_get h)
        have hj := wipeS_get h
        rw [hs] at e
        -- the slot holds an address that was free
        have gq : ∀ {ρ : List Sl} {vs : List Nat}, i ∉ vs → (wipeS ρ vs)[i]? = ρ[i]? := by
          intro ρ vs
          induction vs with
          | nil => intro _; rfl
          | cons v vs ih =>
            intro hv
            show ((wipeS ρ vs).set v .un)[i]? = _
            rw [List.getElem?_set_ne (fun z => hv (by rw [z]; exact List.mem_cons_self)), ih fun z => hv (List.mem_cons_of_mem _ z)]
        rw [gq hj] at h
        exact G1.er.nS nD i p d h e
      · rcases hc with hc | rfl
        · exact E2.out c hc
        · exact ⟨by rw [upd_same]; exact fun z => (nomatch z), G1.er.free nD⟩
    · exact ⟨Same.refl _, fun c b => keepB c b⟩
  · rintro i x H2 H3 hi ⟨acc, vacc, ρ2, F2, w2, E2, n2, eD, rl⟩ y
    obtain ⟨d, F3, ed, G3, rd⟩ := yd_er E2 n2.fz y
    intro s0 H0 C cl fp
    refine hg s0 H0 C cl fp d ρ2 _ (turn i d acc ρ2 ed w2) F3 H3 σ0 _ _ x _ (by rw [hK]; exact G3.er) (by rw [hK]; exact rd) fun ρ4 σ4 F4 H4 z G4 kp => ?_
    rw [hK] at G4
    have kp' : L2.wipe σ4 (own.map (·.2)) = L2.wipe (L2.wipe σ (own.map (·.2))) (own.map (·.2)) := kp
    have ww : ∀ (l : List Nat) (σ : L2.St), (∀ v ∈ l, v < σ.length → σ[v]? = some none) → L2.wipe σ l = σ := by
      intro l
      induction l with
      | nil => intro σ _; rfl
      | cons v l ih =>
        intro σ h
        show (L2.wipe σ l).set v none = σ
        rw [ih σ fun u hu => h u (List.mem_cons_of_mem _ hu)]
        refine List.ext_getElem? fun j => ?_
        by_cases hj : j = v
        · subst hj
          by_cases hl : j < σ.length
          · rw [List.getElem?_set_self hl, h j List.mem_cons_self hl]
          · rw [List.getElem?_eq_none (by rw [List.length_set]; omega), List.getElem?_eq_none (by omega)]
        · rw [List.getElem?_set_ne (Ne.symm hj)]
    have wn : ∀ (l : List Nat) (σ : L2.St) (v : Nat), v ∈ l → v < σ.length → (L2.wipe σ l)[v]? = some none := by
      intro l
      induction l with
      | nil => intro σ v h; exact nomatch h
      | cons u l ih =>
        intro σ v h hl
        show ((L2.wipe σ l).set u none)[v]? = _
        by_cases e : v = u
        · subst e; exact List.getElem?_set_self (by rw [wipe_length]; exact hl)
        · rw [List.getElem?_set_ne (Ne.symm e)]
          rcases List.mem_cons.mp h with z | z
          · exact absurd z e
          · exact ih σ v z hl
    have w4 : L2.wipe σ4 (own.map (·.2)) = L2.wipe σ (own.map (·.2)) := by
      rw [kp']
      exact ww _ _ fun v hv hl => wn _ _ v hv (by rw [wipe_length] at hl; exact hl)
    refine ⟨w4, ?_⟩
    intro s1 H01 C1 cl1 fp1 pins s' I'
    refine ht s1 H01 C1 cl1 fp1 ρ4 _ z F4 H4 σ0 σ4 _ _ (by rw [hK]; exact G4.er) (fun b ρ5 F5 H5 z5 G5 => ?_) pins s' I'
    rw [hK] at G5
    have n5 : Nx F2 H2 F5 H5 (fun c => B c ∨ c = D) := G3.nx.trans (G4.nx.trans G5.nx)
    have fin : ∀ {ρ6 : List Sl} {F6 H6 : Hp}, ER X.K F6 H6 σ0 ρ6 σ4 (fun c => B c ∨ c = D) → ER X.K F6 H6 σ0 (wipeS ρ6 (own.map (·.2))) (L2.wipe σ (own.map (·.2))) (fun c => B c ∨ c = D) := fun {ρ6 F6 H6} er => by
      have := er.wipe (own.map (·.2))
      rw [w4] at this
      exact this
    have sub5 : ∀ c, B c → B c ∨ c = D := fun c => .inl
    cases b with
    | false =>
      simp only [Bool.false_eq_true, if_false] at z5 ⊢
      exact ⟨acc, vacc, _, F5, z5, fin G5.er, n2.trans (n5.mono sub5), by rw [n5.out D (.inr rfl)]; exact eD, rl.mono n5.fz⟩
    | true =>
      simp only [if_true] at z5 ⊢
      intro s2 H02 C2 cl2 fp2
      refine hkx s2 H02 C2 cl2 fp2 ρ5 _ z5 F5 H5 σ0 σ4 _ _ (by rw [hK]; exact G5.er) fun rk ρk kv Fk Hk zk Gk => ?_
      rw [hK] at Gk
      intro s3 H03 C3 cl3 fp3
      refine he s3 H03 C3 cl3 fp3 ρk _ zk Fk Hk σ0 σ4 (hB (fun c => B c ∨ c = D) rk kv) _ (by rw [hK]; exact Gk.er.hold Gk.rr) fun r ρ6 yv F6 H6 z6 G6 => ?_
      rw [hK] at G6
      have E6 := G6.er.unhold
      have rk6 := Gk.rr.held Gk.er G6.er G6.nx
      have rr6 := G6.rr.weak hB_sub
      obtain ⟨ek, wk, key, ekey, lt7, z7⟩ := E6.seen rk6 z6
      obtain ⟨F7, e7, nn7, E7, rd7, w7⟩ := E6.freeze rr6 z7
      have n7 : Nx F2 H2 F7 H6 (fun c => B c ∨ c = D) := n5.trans (Gk.nx.trans ((G6.nx.mono hB_sub).trans nn7))
      have e6 : H6 D = some (.dK vacc) := by rw [n7.out D (.inr rfl)]; exact eD
      have rl7 := rl.mono n7.fz
      cases keyD_v wk ekey
      refine ⟨vacc, key, rfl, e6, by rw [rl7.len]; exact lt7, kput acc key e7, putK vacc key yv, _, F7, w7, ?_, ?_, upd_same, rl7.put rd7⟩
      · have E8 := fin E7
        have fD : F7 D = none := (E7.out D (.inr rfl)).2
        refine ⟨E8.len, fun b u q => by rw [upd_ne (ne_of_none q fD)]; exact E8.sub b u q, E8.fz, fun i p d h => ?_, E8.inj, E8.par, fun c hc => ⟨?_, (E8.out c hc).2⟩⟩
        · obtain ⟨a, ea, ro, n, nb⟩ := E8.ow i p d h
          exact ⟨a, ea, ro.keep (Same.refl _) (upd_ne fun z => nb (.inr z)), n, nb⟩
        · by_cases hc' : c = D
          · subst hc'; rw [upd_same]; exact fun z => (nomatch z)
          · rw [upd_ne hc']; exact (E8.out c hc).1
      · exact ⟨n2.fz.trans n7.fz, fun c b => by rw [keepB c b]; exact (n7.out c (.inl b)).trans (n2.out c b)⟩
  · rintro H' ⟨acc, vacc, ρ', F', w', E', n', eD, rl⟩
    obtain ⟨ρ'', rfl⟩ := form _ _ _ w'
    have E3 := E'.unwipe
    refine k _ _ _ F' H' (done acc _ w') ⟨G1.nx.trans n', ⟨E3.len, E3.sub, E3.fz, fun i p d h => let ⟨a, e, x, y, z⟩ := E3.ow i p d h; ⟨a, e, x, y, fun b => z (.inl b)⟩, E3.inj, E3.par, fun c b => E3.out c (.inl b)⟩, D, rfl, .dic eD rl, (E3.out D (.inr rfl)).2, hD, fun i p e h z => ?_⟩
    obtain ⟨a, e2, _, _, nb⟩ := E3.ow i p e h
    rw [z] at e2; cases e2
    exact nb (.inr rfl)
theorem fe_dc {kx vx tg iter : Expr} {ifs : List Expr} {scope : Scope} {own : List (Str × Nat)} {pos : Pos} {w : UI} {g : UG} {tt : UT} {tk te : UE} (hc : X.calm = true) (hN : X.N.Nodup) (hi : FI X tg iter w) (ok : BlkOk X.N X.env.scope scope own)
    (hg : ∀ (s : Shared) (H : Hp) (C : Addr) (cl : List (Str × Addr)) (fp : List Addr), FG (X.blk s H scope (compEnvC scope cl C X.env) fp) (some (own.map (·.2))) tg g)
    (ht : ∀ (s : Shared) (H : Hp) (C : Addr) (cl : List (Str × Addr)) (fp : List Addr), FTs (X.blk s H scope (compEnvC scope cl C X.env) fp) ifs tt)
    (hk : ∀ (s : Shared) (H : Hp) (C : Addr) (cl : List (Str × Addr)) (fp : List Addr), FE (X.blk s H scope (compEnvC scope cl C X.env) fp) kx tk)
    (he : ∀ (s : Shared) (H : Hp) (C : Addr) (cl : List (Str × Addr)) (fp : List Addr), FE (X.blk s H scope (compEnvC scope cl C X.env) fp) vx te) (hs : ∀ x, foldedSetIterable iter X.env x = pure x := by intro _; rfl) :
    FE X (.DictComp kx vx [⟨tg, iter, ifs, 0⟩] scope pos) (uDc w g tt tk te (own.map (·.2))) := ⟨fun ρ R q F H σ0 σ B Q E k =>
  to_S (pe_dc hc hN pi_S ok pg_bS pts_bS pe_bS pe_bS hs)
    (dc_tl hi (fun _ _ _ _ _ => rfl) hg ht hk he q E k)⟩
end
end YP
set_option maxRecDepth 100000
set_option maxHeartbeats 2000000
/-! The yard's pure layer, part 21: dicts that are built key by key. -/
namespace YP
open PySem PySem.Spec PyProof.Rows L2
theorem find_map {k : Key} {d : D} : ∀ {l : List (Key × D)}, (l.any fun kv => decide (kv.1 = k)) = true → (l.map fun kv => if kv.1 = k then (kv.1, d) else kv).find? (fun kv => decide (kv.1 = k)) = some (k, d)
  | [], h => by cases h
  | kv :: l, h => by
    by_cases e : kv.1 = k
    · rw [List.map_cons, if_pos e, List.find?_cons_of_pos (by simpa using e), e]
    · rw [List.any_cons, decide_eq_false e, Bool.false_or] at h
      rw [List.map_cons, if_neg e, List.find?_cons_of_neg (by simpa using e)]
      exact find_map h
theorem find_map_ne {k k' : Key} {d : D} (n : k ≠ k') : ∀ {l : List (Key × D)}, ((l.map fun kv => if kv.1 = k then (kv.1, d) else kv).find? (fun kv => decide (kv.1 = k'))).map (·.2) = (l.find? (fun kv => decide (kv.1 = k'))).map (·.2)
  | [] => rfl
  | kv :: l => by
    by_cases e : kv.1 = k
    · have e2 : kv.1 ≠ k' := fun z => n (e.symm.trans z)
      rw [List.map_cons, if_pos e, List.find?_cons_of_neg (by simpa using e2), List.find?_cons_of_neg (by simpa using e2)]
      exact find_map_ne n
    · rw [List.map_cons, if_neg e]
      by_cases e2 : kv.1 = k'
      · rw [List.find?_cons_of_pos (by simpa using e2), List.find?_cons_of_pos (by simpa using e2)]
      · rw [List.find?_cons_of_neg (by simpa using e2), List.find?_cons_of_neg (by simpa using e2)]
        exact find_map_ne n
theorem kget_put (l : List (Key × D)) (k k' : Key) (d : D) : kget (kput l k d) k' = if k = k' then some d else kget l k' := by
  unfold kget kput
  by_cases a : (l.any fun kv => decide (kv.1 = k)) = true
  · rw [if_pos a]
    by_cases e : k = k'
    · subst e
      rw [if_pos rfl, find_map a]; rfl
    · rw [if_neg e]; exact find_map_ne e
  · rw [if_neg a]
    have nk : ∀ kv ∈ l, kv.1 ≠ k := fun kv h e => a (List.any_eq_true.mpr ⟨kv, h, by simpa using e⟩)
    rw [List.find?_append]
    by_cases e : k = k'
    · subst e
      have : l.find? (fun kv => decide (kv.1 = k)) = none := List.find?_eq_none.mpr fun kv h => by simpa using nk kv h
      rw [if_pos rfl, this, Option.none_or, List.find?_cons_of_pos (by simp)]; rfl
    · rw [if_neg e, List.find?_cons_of_neg (by simpa using e), List.find?_nil, Option.or_none]
theorem kput_len (l : List (Key × D)) (k : Key) (d : D) : (kput l k d).length ≤ l.length + 1 := by
  unfold kput
  split
  · rw [List.length_map]; omega
  · rw [List.length_append]; exact Nat.le_refl _
/-- a dict whose keys are texts, built by these pairs in order -/
def bld (l : List (Str × D)) : List (Key × D) := l.foldl (fun a p => kput a (.inr p.1) p.2) []
theorem bld_snoc (l : List (Str × D)) (p : Str × D) : bld (l ++ [p]) = kput (bld l) (.inr p.1) p.2 := by
  unfold bld; rw [List.foldl_append]; rfl
theorem bld_len (l : List (Str × D)) : (bld l).length ≤ l.length := by
  have : ∀ (l : List (Str × D)) (a : List (Key × D)), (l.foldl (fun a p => kput a (.inr p.1) p.2) a).length ≤ a.length + l.length := by
    intro l
    induction l with
    | nil => intro a; exact Nat.le_refl _
    | cons p l ih =>
      intro a
      have := ih (kput a (.inr p.1) p.2)
      have := kput_len a (.inr p.1) p.2
      rw [List.foldl_cons, List.length_cons]
      omega
  have := this l []
  rw [List.length_nil, Nat.zero_add] at this
  exact this
/-- the last pair of a key -/
def lst? {β : Type} (l : List (Str × β)) (x : Str) : Option β := l.foldl (fun o p => if p.1 = x then some p.2 else o) none
theorem lst?_snoc {β : Type} (l : List (Str × β)) (p : Str × β) (x : Str) : lst? (l ++ [p]) x = if p.1 = x then some p.2 else lst? l x := by
  unfold lst?; rw [List.foldl_append]; rfl
theorem snoc_ind {α : Type} {P : List α → Prop} (h0 : P []) (h : ∀ l a, P l → P (l ++ [a])) (l : List α) : P l := by
  have : ∀ r : List α, P r.reverse := by
    intro r
    induction r with
    | nil => exact h0
    | cons a r ih => rw [List.reverse_cons]; exact h _ _ ih
  have := this l.reverse
  rwa [List.reverse_reverse] at this
theorem kget_bld (l : List (Str × D)) (x : Str) : kget (bld l) (.inr x) = lst? l x := by
  induction l using snoc_ind with
  | h0 => rfl
  | h l p ih =>
    rw [bld_snoc, kget_put, lst?_snoc, ih]
    by_cases e : p.1 = x
    · rw [if_pos (by rw [e]), if_pos e]
    · rw [if_neg (fun z => e (Sum.inr.inj z)), if_neg e]
theorem lst?_map {β γ : Type} (f : β → γ) (l : List (Str × β)) (x : Str) : lst? (l.map fun p => (p.1, f p.2)) x = (lst? l x).map f := by
  induction l using snoc_ind with
  | h0 => rfl
  | h l p ih =>
    rw [List.map_append, List.map_cons, List.map_nil, lst?_snoc, lst?_snoc, ih]
    by_cases e : p.1 = x
    · rw [if_pos e, if_pos e]; rfl
    · rw [if_neg e, if_neg e]
theorem lst?_mem {β : Type} {l : List (Str × β)} {x : Str} {b : β} : lst? l x = some b → (x, b) ∈ l := by
  induction l using snoc_ind with
  | h0 => intro h; cases h
  | h l p ih =>
    intro h
    rw [lst?_snoc] at h
    by_cases e : p.1 = x
    · rw [if_pos e] at h
      cases h
      rw [← e]; exact List.mem_append.mpr (.inr List.mem_cons_self)
    · rw [if_neg e] at h
      exact List.mem_append.mpr (.inl (ih h))
theorem lst?_none {β : Type} {l : List (Str × β)} {x : Str} : lst? l x = none ↔ x ∉ l.map (·.1) := by
  induction l using snoc_ind with
  | h0 => exact ⟨(fun _ h => nomatch h), fun _ => rfl⟩
  | h l p ih =>
    rw [lst?_snoc, List.map_append, List.mem_append]
    by_cases e : p.1 = x
    · rw [if_pos e]
      refine ⟨(fun h => nomatch h), fun h => absurd (Or.inr ?_) h⟩
      rw [← e]; exact List.mem_cons_self
    · rw [if_neg e, ih]
      refine ⟨fun h z => z.elim h fun z => ?_, fun h z => h (Or.inl z)⟩
      rcases List.mem_cons.mp z with z | z
      · exact e z.symm
      · cases z
end YP
set_option maxRecDepth 100000
set_option maxHeartbeats 2000000
/-! The yard's pure layer, part 22: a list that is unpacked, isinstance of a caught error and a tuple of classes. -/
namespace YP
open PySem PySem.Spec PyProof.Rows L2
def uGLst (n : Nat) (u : UGs) : UG := fun d ρ R => match d with
  | .lst ds => ds.length = n ∧ u ds ρ R
  | _ => False
theorem fg_lst {X : Cx} {vs : Option (List Nat)} {es : List Expr} {k : Nat} {u : UGs} {n : Nat} {pos : Pos} (hc : X.calm = true) (h : FGs X vs es u)
    (hn : (assignEach es X.env).length = n := by rfl) (hst : (assignEach es X.env).findIdx? (·.1) = none := by rfl) : FG X vs (.Tuple es k pos) (uGLst n u) := ⟨fun d ρ R w F H σ0 σ B v Q E rd g => by
  cases rd with
  | lst h1 h2 => exact to_G (pg_lst hc pgs_S hn hst) ⟨_, _, rfl, .of (E.sub _ _ h1), by rw [h2.len]; exact w.1, h _ ρ R w.2 F H σ0 σ B _ Q E h2 g⟩
  | _ => exact w.elim⟩
theorem rl_refs {K : PySem.W.Frag} {F : Hp} : ∀ {cs : List Addr} {vs : List V}, RL K F vs (cs.map D.ref) → vs = cs.map V.ref
  | [], _, .nil => rfl
  | _ :: cs, _, .cons r t => by cases r; rw [rl_refs (cs := cs) t]; rfl
theorem vals_refs : ∀ {cs : List Addr} {us : List Value}, Vals (cs.map V.ref) us → us = cs.map Value.ref
  | [], _, .nil => rfl
  | _ :: cs, _, .cons r t => by cases r; rw [vals_refs (cs := cs) t]; rfl
def rIsXT (K : PySem.W.Frag) (C a dd : Addr) : List V → Hp → VK → Prop := fun xs H Q => ∃ (tp : Addr) (cs : List Addr) (b : Bool) (vfs : List (Str × V)), xs = [.ref a, .ref tp] ∧ SqT K H tp (cs.map V.ref) ∧ PySem.W.kitAny K (.ref C) (cs.map Value.ref) = some b ∧ H dd = some (.xd vfs) ∧ Q (.bl b) H
theorem call_isXT {X : Cx} {a dd C : Addr} {oe : Obj} {pn : List (Addr × Obj)} (T : ExcC X.K C) (hz : Zc (.ref C) (some dd) oe) (hf : ∃ vs, oe.data = .fields vs) : CallR (X.suite a ((a, oe) :: pn)) (.builtin "isinstance") (rIsXT X.K C a dd) := by
  intro pins s σ H xs us Q I r h
  obtain ⟨tp, cs, b, vfs, rfl, hT, e, ed, q⟩ := h
  cases r with
  | cons rx rr =>
    cases rr with
    | cons rt rr =>
      cases rr
      cases rx
      cases rt
      obtain ⟨hget, _⟩ := I.pin (a, oe) (List.mem_append.mpr (.inl List.mem_cons_self))
      obtain ⟨vs, hv⟩ := hf
      have hx : ObjOk X.prog X.w H s.heap dd (.xd vfs) := I.hok dd _ ed
      obtain ⟨mA, hns, hr⟩ := hx
      obtain ⟨od, ho, hl⟩ := lookIn_ns hns
      have J : PySem.W.InstAt s.heap a oe C (some od) := ⟨hget, hz.1, by unfold PySem.W.notCls; rw [hv] <;> rfl, by rw [hz.2]; exact ho⟩
      obtain ⟨its, rv, ⟨⟨cls, td, data, sl⟩, ht, hc, n, hd⟩, _⟩ := I.tuple hT
      simp only at hc hd
      subst hc hd
      cases vals_refs rv
      exact PySem.W.kia_tup (PySem.W.ykitx_exc T.hg T.hk T.hs T.hd T.ha T.hn T.ht T.hm) I.kIn ⟨_, J⟩ ht e (fun z => nomatch z) fun tk => ⟨.bl b, H, I.kept (t' := tk) fun _ _ z => z, rfl, q⟩
def uIsXT (K : PySem.W.Frag) (a dd C : Addr) (ue ut : UE) : UE := fun ρ R => ue ρ fun r ρ1 => ut ρ1 fun q ρ2 => wv ρ2 r fun d => wv ρ2 q fun t => ∃ (fs : List (Str × D)) (cs : List Addr) (b : Bool), d = .exc a dd C fs ∧ t = .tup (cs.map D.ref) ∧ PySem.W.kitAny K (.ref C) (cs.map Value.ref) = some b ∧ R (.val (.bl b)) ρ2
theorem fe_isXT {X : Cx} {a dd C : Addr} {oe : Obj} {pn : List (Addr × Obj)} {e t : Expr} {ue ut : UE} {p pos : Pos} (T : ExcC X.K C) (hz : Zc (.ref C) (some dd) oe) (hf : ∃ vs, oe.data = .fields vs) (hg : Gl (X.suite a ((a, oe) :: pn)) "isinstance") (hm : X.mg "isinstance" = none)
    (he : FE (X.suite a ((a, oe) :: pn)) e ue) (ht : FE (X.suite a ((a, oe) :: pn)) t ut)
    (hs : starEach [e, t] X.env = (false, eval e X.env) :: starEach [t] X.env := by rfl) (hs2 : starEach [t] X.env = (false, eval t X.env) :: starEach [] X.env := by rfl) (hpl : (backTo pos (starEach [t] X.env)).any (·.1) = false := by rfl) :
    FE (X.suite a ((a, oe) :: pn)) (.Call (.Name "isinstance" p) [e, t] [] pos) (uIsXT X.K a dd C ue ut) := ⟨fun ρ R q F H σ0 σ B Q E g => by
  refine to_S (pe_callB (call_isXT T hz hf) hg hm (by decide +kernel) (pa_cons pe_S (pa_cons pe_S pa_nil hs2) hs) (by decide) (by decide) hs hpl) (he ρ _ q F H σ0 σ B _ E fun r ρ1 x F1 H1 z G1 => ht ρ1 _ z F1 H1 σ0 σ (hB B r x) _ (G1.er.hold G1.rr) fun q ρ2 y F2 H2 z G2 => ?_)
  have E2 := G2.er.unhold
  have n2 := G1.nx.trans (G2.nx.mono hB_sub)
  obtain ⟨d, w1, z⟩ := E2.seen (G1.rr.held G1.er G2.er G2.nx) z
  obtain ⟨tt, w2, z⟩ := E2.seen (G2.rr.weak hB_sub) z
  obtain ⟨fs, cs, b, rfl, rfl, hk, z⟩ := z
  obtain ⟨rfl, vfs, fd, rf⟩ := w1.exc
  obtain ⟨tp, vs, rfl, hT, l⟩ := w2.tup E2.sub
  cases rl_refs l
  exact ⟨tp, cs, b, vfs, rfl, hT, hk, E2.sub _ _ fd, g _ _ _ _ _ z ⟨n2, E2, .bl _⟩⟩⟩
end YP
set_option maxRecDepth 100000
set_option maxHeartbeats 2000000
/-! The yard's pure layer, part 23: enumerate of a tuple. -/
namespace PySem
open Sem (wp)
open AutoSeq1 (wpAny_loadPart')
theorem ymeets_enumerate_newT (l : Addr) (items : Array Value) (n : Nat) (dct : Option Addr) (sl : Array (Option Value)) :
    Meets (Builtin.«enumerate.__new__» ⟨[.type "enumerate", .ref l], []⟩) (fun _ R s => s.heap.get? l = some { cls := .type "tuple", dict := dct, data := .seq items n, slots := sl } ∧
      R (.ok (.ret (.ref (s.heap.push { cls := .type "tuple_iterator", data := .fields #[.ref l, .int 0 0] }).objs.size)))
        { s with heap := (s.heap.push { cls := .type "tuple_iterator", data := .fields #[.ref l, .int 0 0] }).push { cls := .type "enumerate", data := .fields #[.none, .bool false, .ref s.heap.objs.size, rawInt 0, .none, .none] } }) :=
  .of_wp fun prog w A R s h => by
    obtain ⟨hp, g, d, tk, os⟩ := s; obtain ⟨hl, h⟩ := h
    have hsub := sub_enumerate
    have hL : Heap.IsTuple (Shared.heap ⟨hp, g, d, tk, os⟩) l items := ⟨_, hl, rfl, n, rfl⟩
    wp_walk using wpAny_loadPart' hl
    refine wpAny_stack_any fun st => wpAny_pure ?_
    split
    · rename_i c _ _ _ _ _
      cases (c == Value.type "enumerate")
      · wp_walk using wpAny_loadPart' hl, wpAny_pyIter_tuple hL
        exact ⟨_, rfl, h⟩
      · wp_walk using wpAny_loadPart' hl, wpAny_pyIter_tuple hL
        exact ⟨_, rfl, h⟩
    · wp_walk using wpAny_loadPart' hl, wpAny_pyIter_tuple hL
      exact ⟨_, rfl, h⟩
section
variable {prog : Program} {w : World} {A : Around} {E : Value → Shared → Prop} {s : Shared}
theorem ycall_enumerate_tuple {l : Addr} {items : Array Value} {Q : Value → Shared → Prop} (hL : s.heap.IsTuple l items)
    (h : ∀ h', IsEnum h' (s.heap.objs.size + 1) s.heap.objs.size 0 .none → h'.IsTupleIter s.heap.objs.size l 0 → h'.objs.size = s.heap.objs.size + 2 →
      (∀ b o, s.heap.get? b = some o → h'.get? b = some o) → Q (.ref (s.heap.objs.size + 1)) { s with heap := h' }) :
    wpAny (model prog w) A (call (.type "enumerate") [.ref l]) Q E s := by
  obtain ⟨⟨c, dct, dt, sl⟩, hl, hc, n, hd⟩ := hL
  replace hc : c = .type "tuple" := hc
  replace hd : dt = .seq items n := hd
  subst hc hd
  refine callType_new F.called_enumerate (by decide) (F.typeCall_enumerate_1 _) (F.newCall_enumerate_1 _) (fun obj => F.args_object_init_2 obj _) F.entry_enumerate_new
    (ymeets_enumerate_newT l items n dct sl) ⟨hl, ?_⟩
  have hz : (s.heap.push { cls := .type "tuple_iterator", data := .fields #[.ref l, .int 0 0] }).objs.size = s.heap.objs.size + 1 := Heap.size_push ..
  show _ ∧ _
  rw [hz]
  have he : IsEnum ((s.heap.push { cls := .type "tuple_iterator", data := .fields #[.ref l, .int 0 0] }).push
      { cls := .type "enumerate", data := .fields #[.none, .bool false, .ref s.heap.objs.size, rawInt 0, .none, .none] }) (s.heap.objs.size + 1) s.heap.objs.size 0 .none := by
    have := Heap.get?_push_size (s.heap.push { cls := .type "tuple_iterator", data := .fields #[.ref l, .int 0 0] })
      (o := { cls := .type "enumerate", data := .fields #[.none, .bool false, .ref s.heap.objs.size, rawInt 0, .none, .none] }) rfl
    rw [hz] at this; exact this
  refine ⟨⟨_, he, rfl⟩, h _ he ⟨_, Heap.get?_push_of_some _ (Heap.get?_push_size _ rfl), rfl, rfl⟩ (by rw [Heap.size_push, hz]) fun b o x => Heap.get?_push_of_some _ (Heap.get?_push_of_some _ x)⟩
end
end PySem
namespace L2
open PySem PySem.Spec PyProof.Rows
/-- the tuple at a, each item in a new pair -/
def YIte (K : PySem.W.Frag) (a : Addr) : It :=
  ⟨fun i H => ∃ (xs : List V) (x : V), SqT K H a xs ∧ xs[i]? = some x, fun i H v H' => ∃ T x, v = .ref T ∧ H T = none ∧ H' = upd H T (.tup [.int (i : Nat), x]) ∧ ∀ xs, SqT K H a xs → xs[i]? = some x, fun i H => ∃ xs : List V, SqT K H a xs ∧ xs.length = i⟩
theorem yturn_enum {P : Program} {w : World} {K : PySem.W.Frag} {elts : List Expr} {kk : Nat} {tpos : Pos} (a e it : Addr) :
    Turn P w K (.Tuple elts kk tpos) (YIte K a) [e, it] e (fun i h => (∃ old, IsEnum h e it ((i : Nat) : Int) old) ∧ h.IsTupleIter it a i ∧ e ≠ it) where
  mem := by simp
  obj := fun i h st b hb => by
    obtain ⟨⟨old, he⟩, ⟨o, ho, hc, hd⟩, _⟩ := st
    have e' : b = e ∨ b = it := by simpa using hb
    rcases e' with z | z
    · rw [z]; exact ⟨_, he, fun v q => nomatch q⟩
    · rw [z]; exact ⟨o, ho, fun v q => by rw [hd] at q; cases q⟩
  keep := fun i h h' st k => let ⟨⟨old, he⟩, hi, hne⟩ := st; ⟨⟨old, k e (by simp) _ he⟩, hi.at fun o q => k it (by simp) o q, hne⟩
  item := by
    intro X hP hw hK hc i pins s σ H E I hf st hg
    subst hP hw hK
    obtain ⟨⟨old, he⟩, hit, hne⟩ := st
    obtain ⟨xs, x, hq, hx⟩ := hg
    obtain ⟨its, rv, p, hz⟩ := I.tuple hq
    obtain ⟨u, hu, ru⟩ := rv.get hx
    have hp : s.heap.IsTuple a its.toArray := p
    have hel : e < s.heap.objs.size := Heap.lt_size he
    have hil : it < s.heap.objs.size := by obtain ⟨_, q, _⟩ := hit; exact Heap.lt_size q
    have hae : a ≠ e := fun z => by
      subst z
      obtain ⟨o, ho, hc2, _⟩ := hp
      rw [he] at ho; cases ho
      exact absurd (show Value.type "enumerate" = Value.type "tuple" from hc2) (by decide)
    have hai : a ≠ it := fun z => by
      subst z
      obtain ⟨o, ho, hc2, _⟩ := hp
      obtain ⟨o2, ho2, hc3, _⟩ := hit
      rw [ho] at ho2; cases ho2
      rw [hc2] at hc3
      exact absurd hc3 (by decide)
    have hlt : i < its.toArray.size := by
      have := (List.getElem?_eq_some_iff.mp hu).1
      simpa using this
    have D := Draws.tuple (prog := X.prog) (w := X.w) (A := X.A.in1) (I.ok.hd hc) it a hai its.toArray
    refine wpAny_pyNext_enum_itemD D he ⟨hit, hp⟩ hlt hne (fun z => by
      have z' : e = it ∨ e = a := by simpa using z
      exact z'.elim hne fun y => hae y.symm) fun x' h' tk hPx ho st' hT hsz hk => ?_
    have ex : x' = u := by
      have h1 : its.toArray[i]? = some x' := hPx
      have h2 : its.toArray[i]? = some u := by simpa using hu
      rw [h1] at h2; exact Option.some.inj h2
    subst ex
    refine ⟨_, rfl, wpAny_letOwnedTupleGo_enum (s := { s with heap := h', toks := tk + 1 }) ho fun h'' he' sb => ?_⟩
    have hT2 : h''.get? s.heap.objs.size = some { cls := .type "tuple", data := .seq #[.int i tk, x'] } := (sb.2 _ (Nat.ne_of_gt hel)).trans hT
    have new : ObjOk X.prog X.w (upd H s.heap.objs.size (.tup [.int (i : Nat), x])) h'' s.heap.objs.size (.tup [.int (i : Nat), x]) :=
      ⟨by show 2 ≤ sizeLine; decide, [.int i tk, x'], .cons ⟨_, rfl⟩ (.cons ru .nil), ⟨_, hT2, rfl, _, rfl⟩⟩
    have I1 : Inv X pins σ (upd H s.heap.objs.size (.tup [.int (i : Nat), x])) { s with heap := h'', toks := tk + 1 } :=
      I.turnedNew (ch := [e, it]) (fun b ob hb q => (sb.2 b (fun z => hb (by simp [z]))).trans (hk b ob (fun z => hb (by simp [z])) (fun z => hb (by simp [z])) q)) hf (Nat.le_refl _) new
    refine ⟨.ref s.heap.objs.size, _, I1, rfl, ⟨_, x, rfl, I.hok.fresh (Nat.le_refl _), rfl, fun ys hy => by rw [I.tuple_inj hy hq]; exact hx⟩, ⟨⟨x', ?_⟩, st'.1.at fun o q => (sb.2 it (Ne.symm hne)).trans q, hne⟩, fun b hb => ?_⟩
    · have e1 : ((i + 1 : Nat) : Int) = (i : Int) + 1 := by omega
      rw [e1]; exact he'
    · have hb' : b < s.heap.objs.size := by
        have e' : b = e ∨ b = it := by simpa using hb
        rcases e' with z | z
        · rw [z]; exact hel
        · rw [z]; exact hil
      rw [upd_ne (Nat.ne_of_lt hb')]
      exact (hf b hb).1
  done := by
    intro X hP hw hK hc i pins s σ H E I hf st hg
    subst hP hw hK
    obtain ⟨⟨old, he⟩, hit, hne⟩ := st
    obtain ⟨xs, hq, hx⟩ := hg
    obtain ⟨its, rv, p, hz⟩ := I.tuple hq
    have hp : s.heap.IsTuple a its.toArray := p
    obtain ⟨f0, f1, f2, f3, f4, f5⟩ := hf it (by simp)
    have hl := rv.length
    have hai : a ≠ it := fun z => by
      subst z
      obtain ⟨o, ho, hc2, _⟩ := hp
      obtain ⟨o2, ho2, hc3, _⟩ := hit
      rw [ho] at ho2; cases ho2
      rw [hc2] at hc3
      exact absurd hc3 (by decide)
    have hn : i = its.toArray.size := by simp; omega
    have D := Draws.tuple (prog := X.prog) (w := X.w) (A := X.A.in1) (I.ok.hd hc) it a hai its.toArray
    exact wpAny_pyNext_enum_endD D he (by rw [← hn]; exact ⟨hit, hp⟩) fun h' eb => ⟨rfl, I.turned (t' := s.toks) (fun b o hb q => eb b o hb q) f0 f1 f3 f4 f5⟩
  self := fun A i s Q E st h => let ⟨⟨_, he⟩, _⟩ := st; wpAny_pyIter_enum he h
def yEnum (K : PySem.W.Frag) (ta : TA) : TI := fun σ H R => ta σ H fun vs H1 => ∃ a xs, vs = [.ref a] ∧ SqT K H1 a xs ∧ R (YIte K a) H1
theorem ypi_enum {X : Cx} {e : Expr} {ta : TA} {p pos tpos : Pos} {elts : List Expr} {kk : Nat} (hg : Gl X "enumerate") (hm : X.mg "enumerate" = none) (ha : PA X [e] ta) (hs : starEach [e] X.env = [(false, eval e X.env)] := by rfl) :
    PI X (.Tuple elts kk tpos) (.Call (.Name "enumerate" p) [e] [] pos) (yEnum X.K ta) := by
  refine ⟨fun pins s σ H R I h => ?_⟩
  refine Call_ (ld_blt I hg hm boot_enumerate (PyProof.Rows.callWith_type1 (thn (ha.run pos pins s σ H _ I h) fun us s1 ⟨vs, H1, I1, r1, q1⟩ => ?_) hs rfl))
  obtain ⟨a, xs, ex, hq, q⟩ := q1
  subst ex
  cases r1 with
  | cons r rr =>
    cases rr
    cases r
    obtain ⟨its, rv, p', hz⟩ := I1.tuple hq
    refine ycall_enumerate_tuple (show s1.heap.IsTuple a its.toArray from p') fun h' he hit hsz hk => wpAny_pyIter_enum he ?_
    have I2 : Inv X pins σ H1 { s1 with heap := h' } := I1.kept (t' := s1.toks) hk
    refine ⟨s1.heap.objs.size + 1, [s1.heap.objs.size + 1, s1.heap.objs.size], _, _, H1, rfl, I2, yturn_enum a (s1.heap.objs.size + 1) s1.heap.objs.size, ⟨⟨.none, he⟩, hit, Nat.succ_ne_self _⟩, fun b hb => ?_, q⟩
    have e' : b = s1.heap.objs.size + 1 ∨ b = s1.heap.objs.size := by simpa using hb
    have hle : s1.heap.objs.size ≤ b := by
      rcases e' with z | z
      · rw [z]; exact Nat.le_add_right _ _
      · rw [z]; exact Nat.le_refl _
    exact I1.fpOk hle (I1.hok.fresh hle)
theorem ywalk_enum {K : PySem.W.Frag} {a : Addr} {xs : List V} : Walk (YIte K a) xs.length (fun H => SqT K H a xs) (YPair (fun i => some (.int (i : Nat))) (fun i => xs[i]?)) := by
  refine ⟨fun i _ hi q => ⟨xs, xs[i], q, by simp [hi]⟩, fun _ q => ⟨xs, q, rfl⟩, fun i H v H' _ q y => ?_⟩
  obtain ⟨T, x, h1, h2, h3, h4⟩ := y
  exact ⟨T, .int (i : Nat), x, h1, h2, h3, rfl, h4 xs q⟩
end L2
namespace YP
open PySem PySem.Spec PyProof.Rows L2
def uEnumT (u : UA) : UI := fun ρ R => u ρ fun ds ρ1 => match ds with
  | [.tup l] => R (nums l) ρ1
  | _ => False
theorem fi_enumT {X : Cx} {e : Expr} {u : UA} {p pos tpos : Pos} {elts : List Expr} {kk : Nat} (hg : Gl X "enumerate") (hm : X.mg "enumerate" = none) (ha : FA X [e] u) (hs : starEach [e] X.env = [(false, eval e X.env)] := by rfl) :
    FI X (.Tuple elts kk tpos) (.Call (.Name "enumerate" p) [e] [] pos) (uEnumT u) := ⟨fun ρ R q F H σ0 σ B Q E g => by
  refine to_I (ypi_enum hg hm pa_S hs) (ha ρ _ q F H σ0 σ B _ E fun ds ρ1 vs F1 H1 z G l => ?_)
  unfold uEnumT at z
  split at z
  case h_2 => exact z.elim
  rename_i ds
  cases l with
  | cons l0 l9 =>
  cases l9
  cases l0 with
  | @tup a vs _ h1 l =>
    refine ⟨a, vs, rfl, sqT_mono G.er.sub h1, g _ _ _ F1 H1 z G ?_⟩
    have w := ywalk_enum (K := X.K) (a := a) (xs := vs)
    have e : vs.length = (nums ds).length := by simp [nums, l.len]
    rw [e] at w
    refine w.mono (fun H s => sqT_mono s h1) fun i H x H' hi s ⟨t, x1, y1, e1, e2, e3, e4, e5⟩ => ?_
    obtain ⟨d', ed, rd'⟩ := l.get e5
    have hi' : i < ds.length := (List.getElem?_eq_some_iff.mp ed).1
    refine ⟨.tup [.int (i : Int), d'], ?_, .inr ⟨t, .tup [x1, y1], e3, e2, fun F' s' nF => ?_⟩⟩
    · have ed2 : ds[i] = d' := by
        have := List.getElem?_eq_getElem hi'
        rw [ed] at this
        exact (Option.some.inj this).symm
      simp [nums, hi', ed2]
    · cases e4
      subst e1
      have s2 : Same F' (upd F' t (.tup [.int (i : Nat), y1])) := fun b u q => by rw [upd_ne (ne_of_none q nF)]; exact q
      exact .tup (.of upd_same) (.cons (.int _) (.cons (rd'.mono (s'.trans s2)) .nil))⟩
end YP
namespace YP
open PySem PySem.Spec PyProof.Rows L2 Yard
/-- x, y = a, b of two names: both values stand before either name is set -/
def uPar (i j : Nat) (ua : UA) : US := fun E ρ => ua ρ fun ds ρ1 => match ds with
  | [a, b] => E.nx ((ρ1.set i (.sl false false a)).set j (.sl false false b))
  | _ => False
theorem fs_par {X : Cx} {i j : Nat} {x y : Str} {a b : Expr} {ua : UA} {px py pt pos : Pos} {kt k2 pt2} (hc : X.calm = true) (hN : X.N.Nodup) (hi : X.N[i]? = some x) (hj : X.N[j]? = some y) (hij : i ≠ j)
    (hx : X.env.scope.names.lookup x = some .local) (hy : X.env.scope.names.lookup y = some .local) (ha : FA X [a, b] ua)
    (hw : swappedStores [.Tuple [.Name x px, .Name y py] kt pt] (.Tuple [a, b] k2 pt2) X.env = pure (some [x, y]))
    (hs : swapsWithSole [.Tuple [.Name x px, .Name y py] kt pt] (.Tuple [a, b] k2 pt2) pos.line X.env = pure false := by rfl) :
    FS X (.Assign [.Tuple [.Name x px, .Name y py] kt pt] (.Tuple [a, b] k2 pt2) pos) (uPar i j ua) := ⟨fun E ρ q F H σ0 σ B D er f =>
  to_SS (ps_par hc hN hi hj hij hx hy pa_S hw hs) (ha ρ _ q F H σ0 σ B _ er fun ds ρ1 vs F1 H1 z G rl => by
    cases rl with
    | nil => exact z.elim
    | @cons v l d ds rd rl =>
      cases rl with
      | nil => exact z.elim
      | @cons w l' e ds' re rl' =>
        cases rl' with
        | cons _ _ => exact z.elim
        | nil => exact ⟨v, w, rfl, f.nx _ _ F1 H1 z ⟨G.nx, (G.er.set_val rd).set_val re⟩⟩)⟩
end YP
namespace YP
open PySem PySem.Spec PyProof.Rows L2 Yard
/-- a text told k times -/
def mulS (x : Str) (k : Int) : Str := if k < 1 then Str.empty else if (k == 1 || x.length == 0) = true then x else ⟨(List.replicate k.toNat x.cps).foldl (· ++ ·) #[]⟩
theorem fold_app {α : Type} (a : Array α) : ∀ (n : Nat) (b : Array α), (List.replicate n a).foldl (· ++ ·) b = ⟨b.toList ++ (List.replicate n a.toList).flatten⟩
  | 0, b => by simp
  | n + 1, b => by
    rw [List.replicate_succ, List.foldl_cons, fold_app a n, List.replicate_succ, List.flatten_cons]
    simp
theorem mulS_mem {x : Str} {k : Int} {c : Nat} (h : c ∈ (mulS x k).cps.toList) : c ∈ x.cps.toList := by
  unfold mulS at h
  split at h
  · exact absurd h (by simp [Str.empty])
  split at h
  · exact h
  rw [fold_app] at h
  have h2 : c ∈ (List.replicate k.toNat x.cps.toList).flatten := h
  obtain ⟨m, hm, hx⟩ := List.mem_flatten.mp h2
  rw [List.eq_of_mem_replicate hm] at hx
  exact hx
theorem flat_len {α : Type} (l : List α) : ∀ n : Nat, (List.replicate n l).flatten.length = n * l.length
  | 0 => by simp
  | n + 1 => by rw [List.replicate_succ, List.flatten_cons, List.length_append, flat_len l n, Nat.succ_mul]; omega
theorem mulS_len (x : Str) (k : Int) : (mulS x k).length ≤ k.toNat * x.length := by
  unfold mulS
  split
  · exact Nat.zero_le _
  split
  · have : 1 ≤ k.toNat := by omega
    exact Nat.le_mul_of_pos_left _ this
  · rw [fold_app]
    show ((#[] : Array Nat).toList ++ (List.replicate k.toNat x.cps.toList).flatten).length ≤ k.toNat * x.cps.toList.length
    rw [List.length_append, flat_len]
    exact Nat.le_of_eq (Nat.zero_add _)
theorem mulS_ok {x : Str} {k : Int} (h : PyData.strOk x = true) : PyData.strOk (mulS x k) = true := by
  have e : ∀ y : Str, PyData.strOk y = true ↔ ∀ c ∈ y.cps.toList, c < 1114112 := fun y => by
    show y.cps.all _ = true ↔ _
    rw [← Array.all_toList, List.all_eq_true]
    exact ⟨fun h c hc => of_decide_eq_true (h c hc), fun h c hc => decide_eq_true (h c hc)⟩
  rw [e] at h ⊢
  exact fun c hc => h c (mulS_mem hc)
section
variable {X : Cx}
theorem op_mul_str : OpR X (binaryOp .Mult) (fun x y H Q => ∃ i k, x = V.str i ∧ y = V.int k ∧ k ≤ 1000 ∧ -1000 ≤ k ∧ i.length ≤ 1000 ∧ Q (.str (mulS i k)) H) := by
  intro pins s σ H x y v u Q I rx ry h
  obtain ⟨i, k, rfl, rfl, k1, k0, hl, q⟩ := h
  obtain ⟨t, rfl⟩ := rx
  obtain ⟨t', rfl⟩ := ry
  have sz := sz2
  refine P.mul_str (by rw [decide_eq_false (by omega), decide_eq_false (by omega)] <;> rfl) (fun h1 _ => ?_) (fun h1 _ => ?_) ?_
  · have : (i.length : Int) ≤ (2 ^ 63 - 1) / k := by
      rw [Int.le_ediv_iff_mul_le (by omega)]
      have h2 : (i.length : Int) * k ≤ 1000 * 1000 := Int.mul_le_mul (by omega) k1 (by omega) (by decide)
      omega
    omega
  · have h2 : i.length * k.toNat ≤ 1000 * 1000 := Nat.mul_le_mul hl (by omega)
    show decide _ = false
    exact decide_eq_false (by omega)
  · unfold mulS at q
    split
    · rename_i hk
      rw [if_pos hk] at q
      exact ⟨by decide, .str _, H, I.tok _, ⟨_, rfl⟩, q⟩
    · rename_i hk
      rw [if_neg hk] at q
      split
      · rename_i h2
        rw [if_pos h2] at q
        exact ⟨.str _, H, I, ⟨_, rfl⟩, q⟩
      · rename_i h2
        rw [if_neg h2] at q
        have hz := mulS_len i k
        have h3 : k.toNat * i.length ≤ 1000 * 1000 := Nat.mul_le_mul (by omega) hl
        unfold mulS at hz
        rw [if_neg hk, if_neg h2] at hz
        exact ⟨by show _ ≤ _; omega, .str _, H, I.tok _, ⟨_, rfl⟩, q⟩
def oMulS (d e : D) (T : Rv → Prop) : Prop := match d, e with
  | .str x, .int k => k ≤ 1000 ∧ -1000 ≤ k ∧ x.length ≤ 1000 ∧ T (.val (.str (mulS x k)))
  | _, _ => False
theorem os_mulS : OpS X (binaryOp .Mult) oMulS := .of op_mul_str fun {F H σ0 σ ρ B x y d e T Q} E w1 w2 t g => by
  unfold oMulS at t
  split at t
  · cases w1.str; cases w2.int
    exact ⟨_, _, rfl, rfl, t.1, t.2.1, t.2.2.1, gt_val E g t.2.2.2 (.str _)⟩
  · exact t.elim
end
end YP
set_option maxRecDepth 100000
set_option maxHeartbeats 2000000
/-! The yard's pure layer, part 26: defs at places where no repr is under way; o.m() of no arguments; the law's end there. -/
namespace YP
open PySem PySem.Spec PyProof.Rows L2 Yard
section
variable {P : Program} {w : World} {K : PySem.W.Frag} {mg : Str → Option Value} {base : Heap}
theorem fn_mkG {x qual : Str} {st : Stmt} {f : Addr} {fd : FuncData} {N ps : List Str} {k : Nat} {u : UF} (Fn : L2.Fun K x qual st f fd) (S : FnScope N ps (defScope st)) (hN : ps.length ≤ N.length)
    (body : ∀ (cdv : Value) (A : Around) (outer : List Env) (s : Shared) (H : Hp) (E : XK), A.guards = some [] → Room k (A.deeper (envOfC qual (defScope st) s.heap.objs.size f cdv)) →
      ∃ ub, FB (cxOf CX0 P w K mg base N qual (defScope st) f cdv A outer s H E).nox (defBody st) ub ∧ ∀ ρ R, ρ.length = ps.length → u ρ R → ub (enEnd ps.length R) (enter N.length ρ)) : FnG P w K mg base CX0 (k + 1) f fd ps (PSp K ps.length u) := by
  refine Yard.Fun.okG Fn S (fun vs H Q E h => ?_) fun cdv A outer s H vs Q E hg hr h => ?_
  · obtain ⟨ρ, F, B, R, _, l, _⟩ := h; exact l
  · obtain ⟨ρ, F, B, R, l1, l2, er, hu, g⟩ := h
    obtain ⟨ub, hub, go⟩ := body cdv A outer s H E hg hr
    refine ⟨_, pss_S, hub _ _ (go ρ R l1 hu) F H (vs.map some) _ B _ er.enter ⟨fun ρ' σ' F' H' e G => ?_, fun r ρ' v σ' F' H' e G => ?_, fun _ _ _ _ e _ => e.elim, fun _ _ _ _ e _ => e.elim⟩⟩
    · have hn : ps.length = (vs.map some).length := by rw [List.length_map]; exact l2.symm
      exact g _ _ _ F' H' e G.nx (G.er.back hn) .non (fun _ z => nomatch z)
    · have hn : ps.length = (vs.map some).length := by rw [List.length_map]; exact l2.symm
      obtain ⟨F2, r2, ρ2, hk, nx, er2, rr2, na⟩ := fin_ok (k := fun r ρ2 => R r (YP.back ps.length ρ2)) G.er G.rr e hn
      exact g r2 _ v F2 H' hk (G.nx.trans nx) er2 rr2 na
/-- the law: of a script, True -/
def uLaw : UF := fun ρ R => ∃ ns : List Int, ρ = [dat (.scr ns)] ∧ ns.length ≤ 63 ∧ ∀ ss, R (.val (.bl true)) ss
theorem law_G {k : Nat} {f : Addr} {fd : FuncData} (Fn : FnG P w K mg base CX0 k f fd ["script"] (PSp K 1 uLaw)) : FnG P w K mg base CX0 k f fd ["script"] (spLaw K) := by
  have im : ∀ vs H Q E, spLaw K vs H Q E → PSp K 1 uLaw vs H Q E := by
    rintro vs H Q E ⟨a, ns, rfl, hS, hl, q⟩
    refine ⟨[dat (.scr ns)], H, fun _ => False, fun r _ => r = .val (.bl true), rfl, rfl, ?_, ⟨ns, rfl, hl, fun _ => rfl⟩, fun r ρ' v F' H' hr nx er rr na => ?_⟩
    · refine ⟨rfl, Same.refl _, fun i p d h => ?_, fun i p d h => ?_, fun i j b p q d e h1 h2 h3 h4 => ?_, fun i o d h => ?_, fun b hb => hb.elim⟩
      · match i, h with
        | 0, h => cases h; exact ⟨.ref a, rfl, .scr hS⟩
      · match i, h with
        | 0, h => cases h
      · match i, h1 with
        | 0, h1 => cases h1
      · match i, h with
        | 0, h => cases h
    · subst hr
      have rr : RD K F' v (.bl true) := rr
      cases rr
      exact q H'
  exact ⟨fun vs H Q E h => Fn.cnt vs H Q E (im _ _ _ _ h), fun A fr s H ar us vs Q E a b c d e h => Fn.go A fr s H ar us vs Q E a b c d e (im _ _ _ _ h)⟩
end
/-! ### o.m() -/
theorem fe_meth0 {X : Cx} {o : Expr} {uo : UE} {u : UF} {C : Addr} {m : Str} {k : Nat} {f : Addr} {fd : FuncData} {ps : List Str} {pos apos : Pos} {pl : Sem Bool} (hc : Cls X.K C) (hm : Meth X.K C m f) (Fn : FnOk X.prog X.w X.K X.mg X.base CX0 k f fd ps (PSp X.K ps.length u)) (hr : Room k X.A) (hb : Binds X.K fd ps [])
    (ho : FE X o uo) (hn : 1 = ps.length := by rfl)
    (ht : eval (.Call (.Attribute o m apos) [] [] pos) X.env = (do
      let ov ← eval o X.env
      standAt apos.atName
      let (f, first) ← holding [ov] (getMethod ov m pl)
      callWith pos f first (backTo pos (starEach [] X.env)) (backToKw pos (keywordEach [] X.env))) := by rfl) :
    FE X (.Call (.Attribute o m apos) [] [] pos) (uMeth C m u uo uRNil) := ⟨fun ρ R q F H σ0 σ B Q E g => by
  refine to_S (pe_meth0 (E := fun _ _ _ => False) pe_S hc hm Fn hr hb .nil pass0 ht) (ho ρ _ q F H σ0 σ B _ E fun r ρ1 v F1 H1 z G => ?_)
  obtain ⟨d, w, fs, rfl, hl, n1, z2⟩ := G.er.seen G.rr z
  obtain ⟨a, dx, fv, rfl, h1, rf⟩ := w.obj G.er.sub
  have L : RRs X.K F1 H1 ρ1 σ B [r] [V.ref a] := ⟨G.rr, trivial⟩
  refine ⟨a, dx, fv, rfl, h1, rf.no hl, ?_⟩
  refine ⟨_, F1, bB B ρ1 σ [r], _, by rw [List.length_map]; exact hn, hn, G.er.into L n1, z2, fun q' ss y F' H' hy nx E' rr na => ?_⟩
  have G' := G.er.behind L n1 nx E' rr na
  exact g q' _ y F' H' hy ⟨G.nx.trans G'.nx, G'.er, G'.rr⟩⟩
/-! ### t != u of texts of any length -/
def oNeS (d e : D) (T : Rv → Prop) : Prop := match d, e with
  | .str i, .str j => T (.val (.bl (!decide (i = j))))
  | _, _ => False
theorem os_neS {X : Cx} : OpS X (compareOp .NotEq) oNeS := .of op_ne fun {F H σ0 σ ρ B x y d e T Q} E w1 w2 t g => by
  unfold oNeS at t
  split at t
  · rename_i i j
    cases w1.str; cases w2.str
    refine ⟨rfl, ?_⟩
    have e : decide (V.str i = V.str j) = decide (i = j) := by rw [Bool.eq_iff_iff]; simp
    rw [e]
    exact gt_val E g t (.bl _)
  · exact t.elim
end YP
set_option maxRecDepth 100000
set_option maxHeartbeats 2000000
/-! The yard's pure layer, part 27: t[::-1] of a tuple. -/
namespace L2
open PySem PySem.Spec PyProof.Rows HT
theorem rev_adjust (n : Nat) : Builtin.Slice.sliceAdjust none none (-1) (n : Int) = ((n : Int) - 1, -1) := by
  unfold Builtin.Slice.sliceAdjust
  rfl
theorem rev_places (n : Nat) : Builtin.Slice.slicePlaces ((n : Int) - 1) (-1) (-1) = n := by
  unfold Builtin.Slice.slicePlaces
  have h1 : ¬ ((-1 : Int) > 0) := by omega
  simp only [h1, if_false]
  have e : (- -1 : Int) = 1 := by decide
  simp only [e, Int.ediv_one]
  split <;> omega
theorem rev_pick (xs : Array Value) : ((List.range xs.size).filterMap fun (m : Nat) => xs[(((xs.size : Int) - 1) + (m : Int) * (-1)).toNat]?).toArray = xs.toList.reverse.toArray := by
  have e : ((List.range xs.size).filterMap fun (m : Nat) => xs[(((xs.size : Int) - 1) + (m : Int) * (-1)).toNat]?) = (((List.range xs.size).map fun k => xs.size - 1 - k).filterMap (xs[·]?)) := by
    rw [List.filterMap_map]
    congr 1
    funext m
    have : (((xs.size : Int) - 1) + (m : Int) * (-1)).toNat = xs.size - 1 - m := by omega
    show xs[(((xs.size : Int) - 1) + (m : Int) * (-1)).toNat]? = xs[xs.size - 1 - m]?
    rw [this]
  rw [e, PySem.W.krv_range, List.filterMap_reverse, PySem.W.krv_all]
section
variable {prog : Program} {w : World} {A : Around} {E : Value → Shared → Prop} {s : Shared}
theorem sliceApplied_rev {sl : Addr} {vs : Value} {n : Nat} {Q : Int × Int × Nat → Shared → Prop} (hs : s.heap.IsSliceOf sl .none .none vs) (ps : IsPart vs (some (-1)))
    (h : Q ((n : Int) - 1, -1, n) s) : wpAny (model prog w) A (Builtin.Slice.sliceApplied (.ref sl) (pure (n : Int))) Q E s := by
  obtain ⟨os, hos, hcs, hds⟩ := id hs
  unfold Builtin.Slice.sliceApplied Builtin.Slice.sliceFields
  refine wpAny_bind (wpAny_bind (wpAny_field hos hds (x := .none) rfl (wpAny_bind (wpAny_field hos hds (x := .none) rfl (wpAny_bind (wpAny_field hos hds (x := vs) rfl (wpAny_pure ?_)))))))
  refine wpAny_bind (slicePart_ ps ?_)
  show wpAny _ _ (if ((-1 : Int) == 0) = true then _ else _) _ _ s
  rw [if_neg (by decide)]
  refine wpAny_bind (slicePart_ .none (wpAny_bind (slicePart_ .none (wpAny_bind (wpAny_pure ?_)))))
  show wpAny _ _ (match Builtin.Slice.sliceAdjust none none (-1) (n : Int) with | (lo, hi) => pure (lo, (-1 : Int), Builtin.Slice.slicePlaces lo hi (-1))) _ _ s
  rw [rev_adjust]
  show wpAny _ _ (pure ((n : Int) - 1, (-1 : Int), Builtin.Slice.slicePlaces ((n : Int) - 1) (-1) (-1))) _ _ s
  rw [rev_places]
  exact wpAny_pure h
theorem getItem_tuple_rev {t sl : Addr} {items : Array Value} {vs : Value} {Q : Value → Shared → Prop} (ht : IsTup s.heap t items) (hs : s.heap.IsSliceOf sl .none .none vs) (ps : IsPart vs (some (-1)))
    (h : Q (.ref s.heap.objs.size) { s with heap := s.heap.push { cls := .type "tuple", data := .seq items.toList.reverse.toArray } })
    (hsz : items.size ≤ sizeLine) : wpAny (model prog w) A (getItem (.ref t) (.ref sl)) Q E s := by
  have hrev : sizeOk (.seq items.toList.reverse.toArray) := by
    show items.toList.reverse.toArray.size ≤ sizeLine
    rw [List.size_toArray, List.length_reverse, Array.length_toList]
    exact hsz
  obtain ⟨os, hos, hcs, hds⟩ := id hs
  have hTs : s.TypeIs (.ref sl) "slice" := ⟨os, hos, hcs⟩
  unfold getItem
  try with_reducible refine wpAny_holding ?_
  first | refine wpAny_bind (wpAny_pure ?_) | skip
  refine wpAny_bind (wpAny_sequenceKey ht.typeIs (by decide) ?_)
  refine wpAny_bind (wpAny_callSpecial?_slot (name := Str.ofString "__getitem__") ht.typeIs PyProof.Rows.slot_tuple_getitem
    (wpAny_call_entry PyProof.Rows.slot_tuple_getitem ht.typeIs entry_tuple_getitem ?_ (args_tuple_getitem _ _)))
  show wpAny _ _ (Builtin.Tuple.tupleItemsOf (.ref t) >>= _) _ _ s
  refine wpAny_bind (tupleItemsOf_ ht ?_)
  refine wpAny_bind (wpAny_typeOf hTs ?_)
  rw [if_pos (by decide)]
  refine wpAny_bind (sliceApplied_rev hs ps ?_)
  have hno : ¬ (((items.size : Int) - 1 == 0 && (-1 : Int) == 1 && items.size == items.size) = true) := by
    intro q
    rw [Bool.and_eq_true, Bool.and_eq_true] at q
    exact absurd q.1.2 (by decide)
  show wpAny _ _ (if ((items.size : Int) - 1 == 0 && (-1 : Int) == 1 && items.size == items.size) = true then _ else _) _ _ s
  rw [if_neg hno, rev_pick]
  first
    | exact wpAny_bind (m := Builtin.Tuple.tupleExact _) (wpAny_newObj_type (wpAny_pure ⟨_, rfl, wpAny_pure h⟩) hrev)
    | exact wpAny_bind (m := Builtin.Tuple.tupleExact _) (wpAny_newObj_type (wpAny_bind (wpAny_pure (wpAny_pure ⟨_, rfl, wpAny_pure h⟩))) hrev)
    | exact wpAny_bind (wpAny_bind (m := Builtin.Tuple.tupleExact _) (wpAny_newObj_type (wpAny_pure (wpAny_pure ⟨_, rfl, wpAny_pure h⟩)) hrev))
    | exact wpAny_bind (wpAny_bind (m := Builtin.Tuple.tupleExact _) (wpAny_newObj_type (wpAny_pure ⟨_, rfl, wpAny_pure h⟩) hrev))
end
section
variable {X : Cx}
def tRevT (K : PySem.W.Frag) (te : TE) : TE := fun σ H Q => te σ H fun x H1 => ∃ a xs, x = .ref a ∧ SqT K H1 a xs ∧ ∀ p, H1 p = none → Q (.ref p) (upd H1 p (.tup xs.reverse))
theorem pe_revT {e : Expr} {te : TE} {k : Nat} {p1 p2 p3 pos : Pos} (he : PE X e te) : PE X (.Subscript e (.Slice none none (some (.UnaryOp .USub (.Constant (.int 1) k p1) p2)) p3) pos) (tRevT X.K te) := by
  refine ⟨fun pins s σ H Q I h => ?_⟩
  refine Subscript_ (thn (he.run pins s σ H _ I h) fun v s1 ⟨x, H1, I1, r1, q1⟩ => ?_)
  obtain ⟨a, xs, ex, hx, q⟩ := q1
  subst ex
  cases r1
  have hst : PO X (some (.UnaryOp .USub (.Constant (.int 1) k p1) p2)) (tPart (tUn (rU fun i => .int (-i)) (tC (.int 1)))) := po_some (pe_un un_neg pe_int)
  refine wpAny_Slice (thn (po_none.run pins s1 σ H1 (fun o H2 => o = none ∧ H2 = H1) I1 ⟨rfl, rfl⟩) fun vl s2 ⟨l, H2, I2, pl, el, e2⟩ => ?_)
  subst el e2
  refine thn (po_none.run pins s2 σ H2 (fun o H3 => o = none ∧ H3 = H2) I2 ⟨rfl, rfl⟩) fun vu s3 ⟨u, H3, I3, pu, eu, e3⟩ => ?_
  subst eu e3
  refine thn (hst.run pins s3 σ H3 (fun o H4 => o = some (-1) ∧ H4 = H3) I3 ⟨1, rfl, -1, rfl, rfl, rfl⟩) fun vs s4 ⟨o, H4, I4, ps, eo, e4⟩ => ?_
  subst eo e4
  cases pl
  cases pu
  have I5 : Inv X pins σ H4 { s4 with heap := s4.heap.push { cls := .type "slice", data := .fields #[.none, .none, vs] } } := I4.kept (t' := s4.toks) fun b ob q => Heap.get?_push_of_some _ q
  obtain ⟨its, r, ht, hz⟩ := I5.tuple hx
  have hlen := r.length
  show wpAny (model X.prog X.w) X.A (subscriptTail e (.Slice none none (some (.UnaryOp .USub (.Constant (.int 1) k p1) p2)) p3) (.ref a) (.ref s4.heap.objs.size)) (EP X pins σ Q) X.xe { s4 with heap := s4.heap.push { cls := .type "slice", data := .fields #[.none, .none, vs] } }
  refine tail_any (ops := [.ref a, .ref s4.heap.objs.size]) ht.typeIs (PyProof.Rows.slot_tuple_getitem.lookup) ?_ (by with_unfolding_all rfl)
  refine getItem_tuple_rev ht (Heap.IsSliceOf.new _ .none .none vs) ps ?_ (by rw [List.size_toArray]; omega)
  refine ⟨.ref _, _, I5.laid (t' := s4.toks) (o := .tup xs.reverse) (fun b ob q => Heap.get?_push_of_some _ q) (Nat.le_refl _) ?_, rfl, q _ (I5.hok.fresh (Nat.le_refl _))⟩
  exact ⟨by rw [List.length_reverse]; exact hz, _, r.reverse, IsTup.new _ _⟩
end
end L2
namespace YP
open PySem PySem.Spec PyProof.Rows L2
section
variable {X : Cx} {a : Expr} {ua : UE} {pos p1 p2 p3 : Pos} {k : Nat}
def oRev (d : D) (T : Rv → Prop) : Prop := match d with
  | .tup l => T (.val (.tup l.reverse))
  | _ => False
def uRev (ua : UE) : UE := fun ρ R => ua ρ fun r ρ1 => wv ρ1 r fun d => oRev d fun z => R z ρ1
theorem fe_revT (ha : FE X a ua) : FE X (.Subscript a (.Slice none none (some (.UnaryOp .USub (.Constant (.int 1) k p1) p2)) p3) pos) (uRev ua) := ⟨fun ρ R q F H σ0 σ B Q E g => by
  refine to_S (pe_revT pe_S) (ha ρ _ q F H σ0 σ B _ E fun r ρ1 x F1 H1 t G1 => ?_)
  obtain ⟨d, w1, t⟩ := G1.er.seen G1.rr t
  have g2 : ∀ z v F' H', R z ρ1 → Gt X.K F1 H1 F' H' σ0 ρ1 σ B z v → Q v H' := fun z v F' H' tz G => g z ρ1 v F' H' tz ⟨G1.nx.trans G.nx, G.er, G.rr⟩
  unfold oRev at t
  split at t
  · obtain ⟨c, vs, rfl, h1, l1⟩ := w1.tup G1.er.sub
    exact ⟨c, vs, rfl, h1, gt_tup G1.er g2 t l1.rev⟩
  · exact t.elim⟩
end
end YP
set_option maxRecDepth 100000
set_option maxHeartbeats 2000000
/-! The yard's pure layer, part 28: dicts that are walked: locked while it runs. -/
namespace L2
open PySem PySem.Spec PyProof.Rows
section
variable {X : Cx}
/-- what it gives may be locked from there on -/
def tLk (X : Cx) (t : TE) : TE := fun σ H Q => t σ H fun x H1 => Q x H1 ∨ ∃ d kvs, H1 d = some (.dK kvs) ∧ ∀ od, (∀ o' u', X.H_0 d ≠ some (.frz o' u')) → Q x (upd H1 d (.frz od (.dK kvs)))
theorem pe_lk {e : Expr} {t : TE} (h : PE X e t) : PE X e (tLk X t) := ⟨fun pins s σ H Q I hw => thn (h.run pins s σ H _ I hw) fun v s1 ⟨x, H1, I1, r, q⟩ => by
  rcases q with q | ⟨d, kvs, hd, q⟩
  · exact ⟨x, H1, I1, r, q⟩
  · obtain ⟨od, I2⟩ := I1.lock hd trivial
    exact ⟨x, _, I2, r, q od (I1.nofrz hd trivial)⟩⟩
/-- something that was locked may be opened -/
def unl (X : Cx) (H' : Hp) (k : Hp → Prop) : Prop := k H' ∨ ∃ d od u, H' d = some (.frz od u) ∧ (∀ o' u', X.H_0 d ≠ some (.frz o' u')) ∧ k (upd H' d u)
def unlE (X : Cx) (D : Ends) : Ends := ⟨fun σ' H' => unl X H' (D.nx σ'), fun v H' => unl X H' (D.rt v), fun σ' H' => unl X H' (D.bk σ'), fun σ' H' => unl X H' (D.ct σ')⟩
theorem inv_unl {pins : List (Addr × Obj)} {σ : L2.St} {H : Hp} {s : Shared} {k : Hp → Prop} (I : Inv X pins σ H s) (h : unl X H k) : ∃ H', Inv X pins σ H' s ∧ k H' := by
  rcases h with h | ⟨d, od, u, hd, hn, h⟩
  · exact ⟨H, I, h⟩
  · exact ⟨_, I.unlock hd hn, h⟩
theorem ps_unl {st : Stmt} {t : TS} (h : PS X st t) : PS X st (fun D σ H => t (unlE X D) σ H) := ⟨fun pins s σ H D I hw => thn (h.run pins s σ H _ I hw) fun f s1 q => by
  cases f with
  | next => obtain ⟨σ', H', I2, q⟩ := q; obtain ⟨H2, I3, q⟩ := inv_unl I2 q; exact ⟨σ', _, I3, q⟩
  | brk => obtain ⟨σ', H', I2, q⟩ := q; obtain ⟨H2, I3, q⟩ := inv_unl I2 q; exact ⟨σ', _, I3, q⟩
  | cont => obtain ⟨σ', H', I2, q⟩ := q; obtain ⟨H2, I3, q⟩ := inv_unl I2 q; exact ⟨σ', _, I3, q⟩
  | ret v => obtain ⟨x, σ', H', I2, r, q⟩ := q; obtain ⟨H2, I3, q⟩ := inv_unl I2 q; exact ⟨x, σ', _, I3, r, q⟩⟩
theorem pe_unl {e : Expr} {t : TE} (h : PE X e t) : PE X e (fun σ H Q => t σ H fun v H' => unl X H' (Q v)) := ⟨fun pins s σ H Q I hw => thn (h.run pins s σ H _ I hw) fun v s1 ⟨x, H1, I1, r, q⟩ => by
  obtain ⟨H2, I3, q⟩ := inv_unl I1 q
  exact ⟨x, H2, I3, r, q⟩⟩
theorem takes_unl {W : WX} (tk : Takes X W) : Takes X (fun c dd σ H => unl X H (W c dd σ)) := fun u s' ⟨a, B, sI, pins, σ, H, cls, d, e, I, nb, up, sky, na, os, ag, w⟩ => by
  rcases w with w | ⟨c, od, x, hc, hn, w⟩
  · exact tk u s' ⟨a, B, sI, pins, σ, H, cls, d, e, I, nb, up, sky, na, os, ag, w⟩
  · exact tk u s' ⟨a, B, sI, pins, σ, _, cls, d, e, I.unlock hc hn, nb, up, sky, by rw [upd_ne (fun z => by rw [z, hc] at na; cases na)]; exact na, os, ag, w⟩
end
end L2
namespace YP
open PySem PySem.Spec PyProof.Rows L2
section
variable {K : PySem.W.Frag} {F H : Hp} {d : Addr} {u u' : HO}
theorem rd_kD (k : Key) : RD K F (kV k) (kD k) := by cases k <;> constructor
/-- locked or open -/
def Lkd (u u' : HO) : Prop := ∃ od kvs, (u = .dK kvs ∧ u' = .frz od (.dK kvs)) ∨ (u = .frz od (.dK kvs) ∧ u' = .dK kvs)
theorem Lkd.rd (l : Lkd u u') (h : F d = some u) {b : Addr} {w : HO} (hw : ∀ o x, w ≠ .frz o x) (r : Rd F b w) : Rd (upd F d u') b w := by
  by_cases hb : b = d
  · subst hb
    obtain ⟨od, kvs, ⟨rfl, rfl⟩ | ⟨rfl, rfl⟩⟩ := l
    · rcases r with r | ⟨o, r⟩
      · rw [h] at r; cases r; exact .inr ⟨od, upd_same⟩
      · rw [h] at r; cases r
    · rcases r with r | ⟨o, r⟩
      · rw [h] at r; cases r; exact absurd rfl (hw _ _)
      · rw [h] at r; cases r; exact .inl upd_same
  · rcases r with r | ⟨o, r⟩
    · exact .inl (by rw [upd_ne hb]; exact r)
    · exact .inr ⟨o, by rw [upd_ne hb]; exact r⟩
theorem Lkd.ne (l : Lkd u u') (h : F d = some u) {b : Addr} {w : HO} (r : F b = some w) (h1 : ∀ k, w ≠ .dK k) (h2 : ∀ o k, w ≠ .frz o (.dK k)) : upd F d u' b = some w := by
  rw [upd_ne]
  · exact r
  · rintro rfl
    rw [h] at r; cases r
    obtain ⟨od, kvs, ⟨rfl, _⟩ | ⟨rfl, _⟩⟩ := l
    · exact h1 _ rfl
    · exact h2 _ _ rfl
theorem Lkd.sqT (l : Lkd u u') (h : F d = some u) {b : Addr} {xs : List V} (r : SqT K F b xs) : SqT K (upd F d u') b xs := r.imp (l.rd h (fun _ _ z => nomatch z)) fun h => h
theorem Lkd.sqL (l : Lkd u u') (h : F d = some u) {b : Addr} {xs : List V} (r : SqL K F b xs) : SqL K (upd F d u') b xs := r.imp (l.rd h (fun _ _ z => nomatch z)) fun h => h
theorem Lkd.dk (l : Lkd u u') (h : F d = some u) {b : Addr} {x : List (Key × V)} (r : Rd F b (.dK x)) : Rd (upd F d u') b (.dK x) := l.rd h (fun _ _ z => nomatch z) r
theorem Lkd.lst (l : Lkd u u') (h : F d = some u) {b : Addr} {x : List V} (r : F b = some (.lst x)) : upd F d u' b = some (.lst x) := l.ne h r (fun _ z => nomatch z) (fun _ _ z => nomatch z)
theorem Lkd.ins (l : Lkd u u') (h : F d = some u) {b C dx : Addr} {x : List (Str × V)} (r : F b = some (.ins C dx x)) : upd F d u' b = some (.ins C dx x) := l.ne h r (fun _ z => nomatch z) (fun _ _ z => nomatch z)
theorem Lkd.ek (l : Lkd u u') (h : F d = some u) {b C dd : Addr} (r : F b = some (ExK C dd b)) : upd F d u' b = some (ExK C dd b) := l.ne h r (fun _ z => nomatch z) (fun _ _ z => nomatch z)
theorem Lkd.xd (l : Lkd u u') (h : F d = some u) {b : Addr} {x : List (Str × V)} (r : F b = some (.xd x)) : upd F d u' b = some (.xd x) := l.ne h r (fun _ z => nomatch z) (fun _ _ z => nomatch z)
mutual
theorem RD.re (l : Lkd u u') (h : F d = some u) : ∀ {v : V} {x : D}, RD K F v x → RD K (upd F d u') v x
  | _, _, .non => .non
  | _, _, .bl b => .bl b
  | _, _, .int i => .int i
  | _, _, .str x => .str x
  | _, _, .ty n => .ty n
  | _, _, .ref a => .ref a
  | _, _, .lst e t => .lst (l.lst h e) (t.re l h)
  | _, _, .tup e t => .tup (l.sqT h e) (t.re l h)
  | _, _, .dic e t => .dic (l.dk h e) (t.re l h)
  | _, _, .obj e t => .obj (l.ins h e) (t.re l h)
  | _, _, .exc e t => .exc (l.xd h e) (t.re l h)
  | _, _, .scr e => .scr (l.sqL h e)
  | _, _, .exk g e t => .exk (l.ek h g) (l.xd h e) (t.re l h)
theorem RL.re (l : Lkd u u') (h : F d = some u) : ∀ {vs : List V} {ds : List D}, RL K F vs ds → RL K (upd F d u') vs ds
  | _, _, .nil => .nil
  | _, _, .cons e t => .cons (e.re l h) (t.re l h)
theorem RK.re (l : Lkd u u') (h : F d = some u) : ∀ {vs : List (Key × V)} {ds : List (Key × D)}, RK K F vs ds → RK K (upd F d u') vs ds
  | _, _, .nil => .nil
  | _, _, .cons e t => .cons (e.re l h) (t.re l h)
theorem RF.re (l : Lkd u u') (h : F d = some u) : ∀ {vs : List (Str × V)} {ds : List (Str × D)}, RF K F vs ds → RF K (upd F d u') vs ds
  | _, _, .nil => .nil
  | _, _, .cons e t => .cons (e.re l h) (t.re l h)
end
theorem RO.re (l : Lkd u u') (h : F d = some u) {b : Addr} {x : D} (n : b ≠ d) (r : RO K F H (.ref b) x) : RO K (upd F d u') (upd H d u') (.ref b) x := by
  cases r with
  | lst e t => exact .lst (by rw [upd_ne n]; exact e) (t.re l h)
  | dic e t => exact .dic (by rw [upd_ne n]; exact e) (t.re l h)
  | obj e t => exact .obj (by rw [upd_ne n]; exact e) (t.re l h)
theorem ER.re {σ0 σ : L2.St} {ρ : List Sl} {B : Addr → Prop} (l : Lkd u u') (h : F d = some u) (E : ER K F H σ0 ρ σ B) : ER K (upd F d u') (upd H d u') σ0 ρ σ B := by
  have nF : ∀ b, F b = none → b ≠ d := fun b e z => by subst z; rw [h] at e; cases e
  refine ⟨E.len, fun b w q => ?_, fun i p x q => ?_, fun i p x q => ?_, E.inj, E.par, fun b hb => ?_⟩
  · by_cases hb : b = d
    · subst hb; rw [upd_same] at q; cases q; exact upd_same
    · rw [upd_ne hb] at q; rw [upd_ne hb]; exact E.sub b w q
  · obtain ⟨v, e, rd⟩ := E.fz i p x q
    exact ⟨v, e, rd.re l h⟩
  · obtain ⟨a, e, ro, n, nb⟩ := E.ow i p x q
    exact ⟨a, e, ro.re l h (nF a n), by rw [upd_ne (nF a n)]; exact n, nb⟩
  · obtain ⟨e1, e2⟩ := E.out b hb
    rw [upd_ne (nF b e2), upd_ne (nF b e2)]; exact ⟨e1, e2⟩
theorem RR.re {σ : L2.St} {ρ : List Sl} {B : Addr → Prop} {r : Rv} {v : V} (l : Lkd u u') (h : F d = some u) (e : RR K F H ρ σ B r v) : RR K (upd F d u') (upd H d u') ρ σ B r v := by
  have nF : ∀ b, F b = none → b ≠ d := fun b e z => by subst z; rw [h] at e; cases e
  cases r with
  | val x => exact RD.re l h e
  | own x =>
    obtain ⟨a, rfl, ro, n, nb, ns⟩ := e
    exact ⟨a, rfl, ro.re l h (nF a n), by rw [upd_ne (nF a n)]; exact n, nb, ns⟩
  | «at» i => exact e
end
/-- F2, H2: the same, or with a dict locked -/
structure Lko (X : Cx) (F1 H1 F2 H2 : Hp) : Prop where
  wh : (F2 = F1 ∧ H2 = H1) ∨ ∃ d od kvs, F1 d = some (.dK kvs) ∧ F2 = upd F1 d (.frz od (.dK kvs)) ∧ H2 = upd H1 d (.frz od (.dK kvs)) ∧ ∀ o' u', X.H_0 d ≠ some (.frz o' u')
section
variable {X : Cx} {F1 H1 F2 H2 F' H' : Hp} {σ0 σ : L2.St} {ρ : List Sl} {B : Addr → Prop}
theorem Lko.inn (l : Lko X F1 H1 F2 H2) (E : ER X.K F1 H1 σ0 ρ σ B) : ER X.K F2 H2 σ0 ρ σ B := by
  obtain ⟨rfl, rfl⟩ | ⟨d, od, kvs, h, rfl, rfl, _⟩ := l.wh
  · exact E
  · exact E.re ⟨od, kvs, .inl ⟨rfl, rfl⟩⟩ h
/-- opened again -/
theorem Lko.outG (l : Lko X F1 H1 F2 H2) (sH : Same F1 H1) (bn : ∀ b, B b → F1 b = none) (G : Gd X.K F2 H2 F' H' σ0 ρ σ B) {k : Hp → Prop}
    (g : ∀ F'' H'', Gd X.K F1 H1 F'' H'' σ0 ρ σ B → (∀ r v, RR X.K F' H' ρ σ B r v → RR X.K F'' H'' ρ σ B r v) → (∀ dd f, F' dd = some (.xd f) → F'' dd = some (.xd f)) → (∀ vs ds, RF X.K F' vs ds → RF X.K F'' vs ds) → k H'') : unl X H' k := by
  obtain ⟨rfl, rfl⟩ | ⟨d, od, kvs, h, rfl, rfl, hn⟩ := l.wh
  · exact .inl (g F' H' G (fun _ _ h => h) (fun _ _ h => h) fun _ _ h => h)
  · have e2 : F' d = some (.frz od (.dK kvs)) := G.nx.fz _ _ upd_same
    have lk : Lkd (.frz od (.dK kvs)) (.dK kvs) := ⟨od, kvs, .inr ⟨rfl, rfl⟩⟩
    refine .inr ⟨d, od, .dK kvs, G.er.sub _ _ e2, hn, g (upd F' d (.dK kvs)) _ ⟨⟨fun b w q => ?_, fun b hb => ?_⟩, G.er.re lk e2⟩ (fun r v h => h.re lk e2) (fun dd f q => lk.ne e2 q (fun _ z => nomatch z) (fun _ _ z => nomatch z)) fun vs ds q => q.re lk e2⟩
    · by_cases hb : b = d
      · subst hb; rw [h] at q; cases q; exact upd_same
      · rw [upd_ne hb]
        exact G.nx.fz b w (by rw [upd_ne hb]; exact q)
    · have nb : b ≠ d := fun z => by subst z; rw [bn b hb] at h; cases h
      rw [upd_ne nb, G.nx.out b hb, upd_ne nb]
theorem Lko.outT {σ0' σ' : L2.St} {ρ' : List Sl} (l : Lko X F1 H1 F2 H2) (E0 : ER X.K F1 H1 σ0' ρ' σ' B) {r : Rv} {v : V} {k : V → Hp → Prop} (G : Gt X.K F2 H2 F' H' σ0 ρ σ B r v)
    (g : ∀ F'' H'', Gt X.K F1 H1 F'' H'' σ0 ρ σ B r v → k v H'') : unl X H' (k v) :=
  l.outG E0.sub (fun b hb => (E0.out b hb).2) ⟨G.nx, G.er⟩ fun F'' H'' G2 t _ _ => g F'' H'' ⟨G2.nx, G2.er, t r v G.rr⟩
structure FIL (X : Cx) (tg iter : Expr) (w : UI) : Prop where
  run : ∀ (ρ : List Sl) (R : List D → List Sl → Prop), w ρ R → ∀ (F H : Hp) (σ0 σ : L2.St) (B : Addr → Prop) (Q : It → Hp → Prop), ER X.K F H σ0 ρ σ B →
    (∀ ds ρ' J F1 H1 F2 H2, R ds ρ' → Gd X.K F H F1 H1 σ0 ρ' σ B → Lko X F1 H1 F2 H2 → WD X.K F2 J ds → Q J H2) → tI X tg iter σ H Q
instance {X : Cx} {tg iter : Expr} {w : UI} : CoeFun (FIL X tg iter w) (fun _ => ∀ (ρ : List Sl) (R : List D → List Sl → Prop), w ρ R → ∀ (F H : Hp) (σ0 σ : L2.St) (B : Addr → Prop) (Q : It → Hp → Prop), ER X.K F H σ0 ρ σ B →
  (∀ ds ρ' J F1 H1 F2 H2, R ds ρ' → Gd X.K F H F1 H1 σ0 ρ' σ B → Lko X F1 H1 F2 H2 → WD X.K F2 J ds → Q J H2) → tI X tg iter σ H Q) := ⟨FIL.run⟩
/-- for k in d -/
def uItK (u : UE) : UI := fun ρ R => u ρ fun r ρ1 => wv ρ1 r fun d => match d with
  | .dic l => R (l.map fun p => kD p.1) (frz ρ1 r)
  | _ => False
/-- for k, v in d.items() -/
def uItI (u : UE) : UI := fun ρ R => u ρ fun r ρ1 => wv ρ1 r fun d => match d with
  | .dic l => R (l.map fun p => .tup [kD p.1, p.2]) (frz ρ1 r)
  | _ => False
theorem RK.at {K : PySem.W.Frag} {F : Hp} : ∀ {vs : List (Key × V)} {ds : List (Key × D)} {i : Nat} {k : Key} {v : V}, RK K F vs ds → vs[i]? = some (k, v) → ∃ x, ds[i]? = some (k, x) ∧ RD K F v x
  | _, _, 0, _, _, .cons h _, e => by cases e; exact ⟨_, rfl, h⟩
  | _, _, i + 1, _, _, .cons _ t, e => RK.at (i := i) t e
theorem wd_keys {K : PySem.W.Frag} {F : Hp} {d : Addr} {od : Obj} {kvs : List (Key × V)} {l : List (Key × D)} (h : F d = some (.frz od (.dK kvs))) (r : RK K F kvs l) : WD K F (Itk d od kvs) (l.map fun p => kD p.1) := by
  have w := walk_keys (d := d) (o := od) (kvs := kvs)
  have e : kvs.length = (l.map fun p => kD p.1).length := by rw [List.length_map]; exact r.len
  rw [e] at w
  refine w.mono (fun H s => s _ _ h) fun i H x H' hi s ⟨e1, k, v, e2, e3⟩ => ?_
  obtain ⟨x', e4, _⟩ := r.at e2
  exact ⟨kD k, by rw [List.getElem?_map, e4]; rfl, .inl ⟨e1, by rw [e3]; exact rd_kD k⟩⟩
theorem wd_items {K : PySem.W.Frag} {F : Hp} {d : Addr} {od : Obj} {kvs : List (Key × V)} {l : List (Key × D)} (h : F d = some (.frz od (.dK kvs))) (r : RK K F kvs l) : WD K F (Iti d od kvs) (l.map fun p => .tup [kD p.1, p.2]) := by
  have w := walk_items (d := d) (o := od) (kvs := kvs)
  have e : kvs.length = (l.map fun p => D.tup [kD p.1, p.2]).length := by rw [List.length_map]; exact r.len
  rw [e] at w
  refine w.mono (fun H s => s _ _ h) fun i H x H' hi s ⟨t, x1, y1, e1, e2, e3, e4, e5⟩ => ?_
  dsimp only at e4 e5
  cases ek : kvs[i]? with
  | none => rw [ek] at e4; cases e4
  | some p =>
    obtain ⟨k, v⟩ := p
    rw [ek] at e4 e5
    cases e4; cases e5
    obtain ⟨x', e6, rd⟩ := r.at ek
    refine ⟨.tup [kD k, x'], by rw [List.getElem?_map, e6]; rfl, .inr ⟨t, .tup [kV k, v], e3, e2, fun F' s' nF => ?_⟩⟩
    subst e1
    have s2 : Same F' (upd F' t (.tup [kV k, v])) := fun b u q => by rw [upd_ne (ne_of_none q nF)]; exact q
    exact .tup (.of upd_same) (.cons (rd_kD k) (.cons (rd.mono (s'.trans s2)) .nil))
theorem fil_keys {tg iter : Expr} {u : UE} (h : FE X iter u) : FIL X tg iter (uItK u) := ⟨fun ρ R q F H σ0 σ B Q E g => by
  refine to_I (pi_keys (pe_lk pe_S)) (h ρ _ q F H σ0 σ B _ E fun r ρ1 v F1 H1 z G => ?_)
  obtain ⟨F2, d, n2, E2, rd, z⟩ := G.er.freeze G.rr z
  cases rd with
  | @dic a kvs ds h1 l =>
    rcases h1 with h1 | ⟨od, h1⟩
    · refine .inr ⟨a, kvs, E2.sub _ _ h1, fun od hn => ⟨a, od, rfl, .inl ⟨kvs, upd_same, ?_⟩⟩⟩
      have lk : Lkd (.dK kvs) (.frz od (.dK kvs)) := ⟨od, kvs, .inl ⟨rfl, rfl⟩⟩
      exact g _ _ _ F2 H1 _ _ z ⟨G.nx.trans n2, E2⟩ ⟨.inr ⟨a, od, kvs, h1, rfl, rfl, hn⟩⟩ (wd_keys upd_same (l.re lk h1))
    · exact .inl ⟨a, od, rfl, .inl ⟨kvs, E2.sub _ _ h1, g _ _ _ F2 H1 _ _ z ⟨G.nx.trans n2, E2⟩ ⟨.inl ⟨rfl, rfl⟩⟩ (wd_keys h1 l)⟩⟩
  | _ => exact z.elim⟩
theorem fil_items {e : Expr} {u : UE} {apos cpos tpos : Pos} {elts : List Expr} {kk : Nat} (h : FE X e u) (hbase : attributeBase e "items" X.env (eval e X.env) = eval e X.env := by rfl) (hline : (apos.endLine == cpos.line) = true := by rfl) :
    FIL X (.Tuple elts kk tpos) (.Call (.Attribute e "items" apos) [] [] cpos) (uItI u) := ⟨fun ρ R q F H σ0 σ B Q E g => by
  refine to_I (pi_items (pe_lk pe_S) hbase hline) (h ρ _ q F H σ0 σ B _ E fun r ρ1 v F1 H1 z G => ?_)
  obtain ⟨F2, d, n2, E2, rd, z⟩ := G.er.freeze G.rr z
  cases rd with
  | @dic a kvs ds h1 l =>
    rcases h1 with h1 | ⟨od, h1⟩
    · refine .inr ⟨a, kvs, E2.sub _ _ h1, fun od hn => ⟨a, od, kvs, rfl, upd_same, ?_⟩⟩
      have lk : Lkd (.dK kvs) (.frz od (.dK kvs)) := ⟨od, kvs, .inl ⟨rfl, rfl⟩⟩
      exact g _ _ _ F2 H1 _ _ z ⟨G.nx.trans n2, E2⟩ ⟨.inr ⟨a, od, kvs, h1, rfl, rfl, hn⟩⟩ (wd_items upd_same (l.re lk h1))
    · exact .inl ⟨a, od, kvs, rfl, E2.sub _ _ h1, g _ _ _ F2 H1 _ _ z ⟨G.nx.trans n2, E2⟩ ⟨.inl ⟨rfl, rfl⟩⟩ (wd_items h1 l)⟩
  | _ => exact z.elim⟩
end
section
variable {X : Cx} {st : Stmt} {rest body : List Stmt} {t : US} {e : Expr} {pos : Pos}
theorem fs_forL {tg iter : Expr} {w : UI} {g : UG} (hp : PassesOwn (model X.prog X.w) X.A X.env X.xe) (hc : X.calm = true) (hi : FIL X tg iter w) (hg : FG X none tg g) (hb : FB X body t)
    (hs : ∀ x, foldedSetIterable iter X.env x = pure x := by intro _; rfl) : FS X (.For tg iter body [] pos) (uFor w g t) := ⟨fun E ρ q F H σ0 σ B D er f => by
  refine to_SS (ps_unl (ps_for hp hc pi_S pg_S pss_S hs)) (hi ρ _ q F H σ0 σ B _ er fun ds ρ1 J F0 H0 F1 H1 ⟨W, w0, turn, done⟩ G0 lk wd => ?_)
  have f0 := f.on G0.nx
  have bn : ∀ b, B b → F0 b = none := fun b hb => (G0.er.out b hb).2
  refine for_it wd (fun i σ' H' => ∃ ρ' F', W i ρ' ∧ Gd X.K F1 H1 F' H' σ0 ρ' σ' B) ⟨ρ1, F1, w0, .refl _ _ _, lk.inn G0.er⟩ (fun i σ' H' _ ⟨ρ', F', _, G⟩ => G.nx.fz.trans G.er.sub) ?_ (fun σ' H' ⟨ρ', F', w', G⟩ => lk.outG G0.er.sub bn G fun F'' H'' G2 _ _ _ => f0.nx ρ' σ' F'' H'' (done ρ' w') G2)
  rintro i x σ2 H2 H3 hi ⟨ρ2, F2, w2, G2⟩ y
  obtain ⟨d, F3, e, G3, rd⟩ := yd_er G2.er G2.nx.fz y
  refine hg d ρ2 _ (turn i d ρ2 e w2) F3 H3 σ0 σ2 B x _ G3.er rd fun ρ4 σ4 F4 H4 z G4 _ => ?_
  have n4 := G2.nx.trans (G3.nx.trans G4.nx)
  exact hb _ ρ4 z F4 H4 σ0 σ4 B _ G4.er ⟨fun ρ' σ' F' H' w' G => ⟨ρ', F', w', n4.trans G.nx, G.er⟩,
    fun r ρ' v σ' F' H' y G => lk.outG G0.er.sub bn ⟨n4.trans G.nx, G.er⟩ fun F'' H'' G2 t _ _ => f0.rt r ρ' v σ' F'' H'' y ⟨G2.nx, G2.er, t r v G.rr⟩,
    fun ρ' σ' F' H' y G => lk.outG G0.er.sub bn ⟨n4.trans G.nx, G.er⟩ fun F'' H'' G2 _ _ _ => f0.nx ρ' σ' F'' H'' y G2, fun ρ' σ' F' H' w' G => ⟨ρ', F', w', n4.trans G.nx, G.er⟩⟩⟩
theorem fsx_forL {tg iter : Expr} {w : UI} {g : UG} {t : USX} (hp : PassesOwn (model X.prog X.w) X.A X.env X.xe) (hc : X.calm = true) (hi : FIL X tg iter w) (hg : FG X none tg g) (hb : FBX X body t)
    (hs : ∀ x, foldedSetIterable iter X.env x = pure x := by intro _; rfl) : FSX X (.For tg iter body [] pos) (uForX w g t) := ⟨fun WX tk E ρ q F H σ0 σ B D er f => by
  refine to_SS (ps_unl (ps_for hp hc pi_S pg_S pss_S hs)) (hi ρ _ q F H σ0 σ B _ er fun ds ρ1 J F0 H0 F1 H1 ⟨W, w0, turn, done⟩ G0 lk wd => ?_)
  have f0 := f.on G0.nx
  have bn : ∀ b, B b → F0 b = none := fun b hb => (G0.er.out b hb).2
  refine for_it wd (fun i σ' H' => ∃ ρ' F', W i ρ' ∧ Gd X.K F1 H1 F' H' σ0 ρ' σ' B) ⟨ρ1, F1, w0, .refl _ _ _, lk.inn G0.er⟩ (fun i σ' H' _ ⟨ρ', F', _, G⟩ => G.nx.fz.trans G.er.sub) ?_ (fun σ' H' ⟨ρ', F', w', G⟩ => lk.outG G0.er.sub bn G fun F'' H'' G2 _ _ _ => f0.fol.nx ρ' σ' F'' H'' (done ρ' w') G2)
  rintro i x σ2 H2 H3 hi ⟨ρ2, F2, w2, G2⟩ y
  obtain ⟨d, F3, e, G3, rd⟩ := yd_er G2.er G2.nx.fz y
  refine hg d ρ2 _ (turn i d ρ2 e w2) F3 H3 σ0 σ2 B x _ G3.er rd fun ρ4 σ4 F4 H4 z G4 _ => ?_
  have n4 := G2.nx.trans (G3.nx.trans G4.nx)
  exact hb.run _ (takes_unl tk) _ ρ4 z F4 H4 σ0 σ4 B _ G4.er ⟨⟨fun ρ' σ' F' H' w' G => ⟨ρ', F', w', n4.trans G.nx, G.er⟩,
    fun r ρ' v σ' F' H' y G => lk.outG G0.er.sub bn ⟨n4.trans G.nx, G.er⟩ fun F'' H'' G2 t _ _ => f0.fol.rt r ρ' v σ' F'' H'' y ⟨G2.nx, G2.er, t r v G.rr⟩,
    fun ρ' σ' F' H' y G => lk.outG G0.er.sub bn ⟨n4.trans G.nx, G.er⟩ fun F'' H'' G2 _ _ _ => f0.fol.nx ρ' σ' F'' H'' y G2, fun ρ' σ' F' H' w' G => ⟨ρ', F', w', n4.trans G.nx, G.er⟩⟩,
    fun C fs ρ' σ' F' H' dd vfs y G fd rf => lk.outG G0.er.sub bn ⟨n4.trans G.nx, G.er⟩ fun F'' H'' G2 _ t1 t2 => f0.xc C fs ρ' σ' F'' H'' dd vfs y G2 (t1 _ _ fd) (t2 _ _ rf)⟩⟩
theorem lc_tlL {elt tg iter : Expr} {ifs : List Expr} {scope : Scope} {own : List (Str × Nat)} {w : UI} {g : UG} {tt : UT} {te : UE}
    (hi : FIL X tg iter w) (hK : ∀ (s : Shared) (H : Hp) (C : Addr) (cl : List (Str × Addr)) (fp : List Addr), (X.blk s H scope (compEnvC scope cl C X.env) fp).K = X.K)
    (hg : ∀ (s : Shared) (H : Hp) (C : Addr) (cl : List (Str × Addr)) (fp : List Addr), FG (X.blk s H scope (compEnvC scope cl C X.env) fp) (some (own.map (·.2))) tg g)
    (ht : ∀ (s : Shared) (H : Hp) (C : Addr) (cl : List (Str × Addr)) (fp : List Addr), FTs (X.blk s H scope (compEnvC scope cl C X.env) fp) ifs tt)
    (he : ∀ (s : Shared) (H : Hp) (C : Addr) (cl : List (Str × Addr)) (fp : List Addr), FE (X.blk s H scope (compEnvC scope cl C X.env) fp) elt te)
    {ρ : List Sl} {R : Rv → List Sl → Prop} (q : uLc w g tt te (own.map (·.2)) ρ R) {F H : Hp} {σ0 σ : L2.St} {B : Addr → Prop} {Q : VK} (E : ER X.K F H σ0 ρ σ B)
    (k : ∀ r ρ' v F' H', R r ρ' → Gt X.K F H F' H' σ0 ρ' σ B r v → Q v H') : tLc (tI X tg iter) (bG X scope tg) (bT X scope ifs) (bE X scope elt) (own.map (·.2)) σ H (fun v H' => unl X H' (Q v)) := by
  refine hi ρ _ q F H σ0 σ B _ E fun ds ρ1 J F9 H9 F1 H1 ⟨W, w0, turn, form, done⟩ G0 lk wd D nD => ?_
  have G1 : Gd X.K F1 H1 F1 H1 σ0 ρ1 σ B := ⟨.refl _ _ _, lk.inn G0.er⟩
  have hD : ¬ B D := G1.er.nB nD
  have keepB : ∀ {H : Hp} {o : HO} (c : Addr), B c → upd H D o c = H c := fun c b => upd_ne fun z => by subst z; exact hD b
  refine lc_it wd (fun i H' => ∃ acc vacc ρ' F', W i acc ρ' ∧ ER X.K F' H' σ0 ρ' (L2.wipe σ (own.map (·.2))) (fun c => B c ∨ c = D) ∧ Nx F1 H1 F' H' B ∧ H' D = some (.lst vacc) ∧ RL X.K F' vacc acc) ?_ (fun i H' _ ⟨_, _, _, _, _, E', n', _⟩ => n'.fz.trans E'.sub) ?_ ?_
  · refine ⟨[], [], _, F1, w0, ?_, ?_, upd_same, .nil⟩
    · have E2 := (G1.er.laid (o := .lst []) nD).wipe (own.map (·.2))
      refine ⟨E2.len, E2.sub, E2.fz, fun i p d h => ?_, E2.inj, E2.par, fun c hc => ?_⟩
      · obtain ⟨a, e, ro, n, nb⟩ := E2.ow i p d h
        refine ⟨a, e, ro, n, fun hb => hb.elim nb fun z => ?_⟩
        subst z
        have hs : (L2.wipe σ (own.map (·.2)))[i]? = σ[i]? := wipe_get (wipeS_get h)
        have hj := wipeS_get h
        rw [hs] at e
        -- the slot holds an address that was free
        have gq : ∀ {ρ : List Sl} {vs : List Nat}, i ∉ vs → (wipeS ρ vs)[i]? = ρ[i]? := by
          intro ρ vs
          induction vs with
          | nil => intro _; rfl
          | cons v vs ih =>
            intro hv
            show ((wipeS ρ vs).set v .un)[i]? = _
            rw [List.getElem?_set_ne (fun z => hv (by rw [z]; exact List.mem_cons_self)), ih fun z => hv (List.mem_cons_of_mem _ z)]
        rw [gq hj] at h
        exact G1.er.nS nD i p d h e
      · rcases hc with hc | rfl
        · exact E2.out c hc
        · exact ⟨by rw [upd_same]; exact fun z => (nomatch z), G1.er.free nD⟩
    · exact ⟨Same.refl _, fun c b => keepB c b⟩
  · rintro i x H2 H3 hi ⟨acc, vacc, ρ2, F2, w2, E2, n2, eD, rl⟩ y
    obtain ⟨d, F3, ed, G3, rd⟩ := yd_er E2 n2.fz y
    intro s0 H0 C cl fp
    refine hg s0 H0 C cl fp d ρ2 _ (turn i d acc ρ2 ed w2) F3 H3 σ0 _ _ x _ (by rw [hK]; exact G3.er) (by rw [hK]; exact rd) fun ρ4 σ4 F4 H4 z G4 kp => ?_
    rw [hK] at G4
    have kp' : L2.wipe σ4 (own.map (·.2)) = L2.wipe (L2.wipe σ (own.map (·.2))) (own.map (·.2)) := kp
    have ww : ∀ (l : List Nat) (σ : L2.St), (∀ v ∈ l, v < σ.length → σ[v]? = some none) → L2.wipe σ l = σ := by
      intro l
      induction l with
      | nil => intro σ _; rfl
      | cons v l ih =>
        intro σ h
        show (L2.wipe σ l).set v none = σ
        rw [ih σ fun u hu => h u (List.mem_cons_of_mem _ hu)]
        refine List.ext_getElem? fun j => ?_
        by_cases hj : j = v
        · subst hj
          by_cases hl : j < σ.length
          · rw [List.getElem?_set_self hl, h j List.mem_cons_self hl]
          · rw [List.getElem?_eq_none (by rw [List.length_set]; omega), List.getElem?_eq_none (by omega)]
        · rw [List.getElem?_set_ne (Ne.symm hj)]
    have wn : ∀ (l : List Nat) (σ : L2.St) (v : Nat), v ∈ l → v < σ.length → (L2.wipe σ l)[v]? = some none := by
      intro l
      induction l with
      | nil => intro σ v h; exact nomatch h
      | cons u l ih =>
        intro σ v h hl
        show ((L2.wipe σ l).set u none)[v]? = _
        by_cases e : v = u
        · subst e; exact List.getElem?_set_self (by rw [wipe_length]; exact hl)
        · rw [List.getElem?_set_ne (Ne.symm e)]
          rcases List.mem_cons.mp h with z | z
          · exact absurd z e
          · exact ih σ v z hl
    have w4 : L2.wipe σ4 (own.map (·.2)) = L2.wipe σ (own.map (·.2)) := by
      rw [kp']
      exact ww _ _ fun v hv hl => wn _ _ v hv (by rw [wipe_length] at hl; exact hl)
    refine ⟨w4, ?_⟩
    intro s1 H01 C1 cl1 fp1 pins s' I'
    refine ht s1 H01 C1 cl1 fp1 ρ4 _ z F4 H4 σ0 σ4 _ _ (by rw [hK]; exact G4.er) (fun b ρ5 F5 H5 z5 G5 => ?_) pins s' I'
    rw [hK] at G5
    have n5 : Nx F2 H2 F5 H5 (fun c => B c ∨ c = D) := G3.nx.trans (G4.nx.trans G5.nx)
    have fin : ∀ {ρ6 : List Sl} {F6 H6 : Hp}, ER X.K F6 H6 σ0 ρ6 σ4 (fun c => B c ∨ c = D) → ER X.K F6 H6 σ0 (wipeS ρ6 (own.map (·.2))) (L2.wipe σ (own.map (·.2))) (fun c => B c ∨ c = D) := fun {ρ6 F6 H6} er => by
      have := er.wipe (own.map (·.2))
      rw [w4] at this
      exact this
    have sub5 : ∀ c, B c → B c ∨ c = D := fun c => .inl
    cases b with
    | false =>
      simp only [Bool.false_eq_true, if_false] at z5 ⊢
      exact ⟨acc, vacc, _, F5, z5, fin G5.er, n2.trans (n5.mono sub5), by rw [n5.out D (.inr rfl)]; exact eD, rl.mono n5.fz⟩
    | true =>
      simp only [if_true] at z5 ⊢
      intro s2 H02 C2 cl2 fp2
      refine he s2 H02 C2 cl2 fp2 ρ5 _ z5 F5 H5 σ0 σ4 _ _ (by rw [hK]; exact G5.er) fun r ρ6 yv F6 H6 z6 G6 => ?_
      rw [hK] at G6
      obtain ⟨F7, e7, nn7, E7, rd7, lt7, w7⟩ := G6.er.freeze G6.rr z6
      have n7 : Nx F2 H2 F7 H6 (fun c => B c ∨ c = D) := n5.trans (G6.nx.trans nn7)
      have e6 : H6 D = some (.lst vacc) := by rw [n7.out D (.inr rfl)]; exact eD
      have rl7 := rl.mono n7.fz
      refine ⟨vacc, e6, by rw [rl7.len]; exact lt7, acc ++ [e7], vacc ++ [yv], _, F7, w7, ?_, ?_, upd_same, rl7.snoc rd7⟩
      · have E8 := fin E7
        have fD : F7 D = none := (E7.out D (.inr rfl)).2
        refine ⟨E8.len, fun b u q => by rw [upd_ne (ne_of_none q fD)]; exact E8.sub b u q, E8.fz, fun i p d h => ?_, E8.inj, E8.par, fun c hc => ⟨?_, (E8.out c hc).2⟩⟩
        · obtain ⟨a, ea, ro, n, nb⟩ := E8.ow i p d h
          exact ⟨a, ea, ro.keep (Same.refl _) (upd_ne fun z => nb (.inr z)), n, nb⟩
        · by_cases hc' : c = D
          · subst hc'; rw [upd_same]; exact fun z => (nomatch z)
          · rw [upd_ne hc']; exact (E8.out c hc).1
      · exact ⟨n2.fz.trans n7.fz, fun c b => by rw [keepB c b]; exact (n7.out c (.inl b)).trans (n2.out c b)⟩
  · rintro H' ⟨acc, vacc, ρ', F', w', E', n', eD, rl⟩
    obtain ⟨ρ'', rfl⟩ := form _ _ _ w'
    have E3 := E'.unwipe
    refine lk.outT (F' := F') G0.er (r := .own (.lst acc)) (v := .ref D) (k := Q) ?_ fun F'' H'' G => k _ _ _ F'' H'' (done acc _ w') ⟨G0.nx.trans G.nx, G.er, G.rr⟩
    refine ⟨n', ⟨E3.len, E3.sub, E3.fz, fun i p d h => let ⟨a, e, x, y, z⟩ := E3.ow i p d h; ⟨a, e, x, y, fun b => z (.inl b)⟩, E3.inj, E3.par, fun c b => E3.out c (.inl b)⟩, D, rfl, .lst eD rl, (E3.out D (.inr rfl)).2, hD, fun i p e h z => ?_⟩
    obtain ⟨a, e2, _, _, nb⟩ := E3.ow i p e h
    rw [z] at e2; cases e2
    exact nb (.inr rfl)
theorem fe_lcL {elt tg iter : Expr} {ifs : List Expr} {scope : Scope} {own : List (Str × Nat)} {pos : Pos} {w : UI} {g : UG} {tt : UT} {te : UE} (hc : X.calm = true) (hN : X.N.Nodup) (hi : FIL X tg iter w) (ok : BlkOk X.N X.env.scope scope own)
    (hg : ∀ (s : Shared) (H : Hp) (C : Addr) (cl : List (Str × Addr)) (fp : List Addr), FG (X.blk s H scope (compEnvC scope cl C X.env) fp) (some (own.map (·.2))) tg g)
    (ht : ∀ (s : Shared) (H : Hp) (C : Addr) (cl : List (Str × Addr)) (fp : List Addr), FTs (X.blk s H scope (compEnvC scope cl C X.env) fp) ifs tt)
    (he : ∀ (s : Shared) (H : Hp) (C : Addr) (cl : List (Str × Addr)) (fp : List Addr), FE (X.blk s H scope (compEnvC scope cl C X.env) fp) elt te) (hs : ∀ x, foldedSetIterable iter X.env x = pure x := by intro _; rfl) :
    FE X (.ListComp elt [⟨tg, iter, ifs, 0⟩] scope pos) (uLc w g tt te (own.map (·.2))) := ⟨fun ρ R q F H σ0 σ B Q E k =>
  to_S (pe_unl (pe_lc hc hN pi_S ok pg_bS pts_bS pe_bS hs))
    (lc_tlL hi (fun _ _ _ _ _ => rfl) hg ht he q E k)⟩
end
end YP
set_option maxRecDepth 100000
set_option maxHeartbeats 2000000
/-! The yard's pure layer, part 29: d.update(e), d.clear(), list(d), dict(d), sorted(d). -/
namespace L2
open PySem PySem.Spec PyProof.Rows
section
variable {X : Cx}
theorem kv_merge : ∀ {more : List (Key × V)} {ms : List (Key × Value)} {kvs : List (Key × V)} {vs : List (Key × Value)}, KV more ms → KV kvs vs → KV (mergeK kvs more) (merged vs ms)
  | [], _, _, _, h, r => by cases h; exact r
  | (k, v) :: more, _, kvs, vs, h, r => by
    cases h with
    | @cons _ u _ ms h1 h2 =>
      obtain ⟨k', u⟩ := u
      obtain ⟨e, rv⟩ := h1
      cases e
      exact (show KV (mergeK (putK kvs k v) more) (merged (stored vs k u) ms) from kv_merge h2 (r.put k rv))
theorem putK_le (kvs : List (Key × V)) (k : Key) (v : V) : (putK kvs k v).length ≤ kvs.length + 1 := length_putK kvs k v
theorem mergeK_le : ∀ (more kvs : List (Key × V)), (mergeK kvs more).length ≤ kvs.length + more.length
  | [], kvs => Nat.le_refl _
  | (k, v) :: more, kvs => by
    have a := putK_le kvs k v
    have b : (mergeK kvs ((k, v) :: more)).length ≤ (putK kvs k v).length + more.length := mergeK_le more (putK kvs k v)
    rw [List.length_cons]; omega
theorem mt_clearD : MtR X "dict.clear" (fun x vs H Q => ∃ (a : Addr) (kvs : List (Key × V)), x = .ref a ∧ vs = [] ∧ H a = some (.dK kvs) ∧ Q .non (upd H a (.dK []))) := by
  intro pins s σ H x vs v us Q I rx rv h
  obtain ⟨a, kvs, rfl, rfl, hH, q⟩ := h
  cases rx
  cases rv
  exact d_clear I hH fun s' I' => ⟨.non, _, I', rfl, q⟩
theorem mt_update : MtR X "dict.update" (fun x vs H Q => ∃ (a b : Addr) (kvs more : List (Key × V)), x = .ref a ∧ vs = [.ref b] ∧ a ≠ b ∧ H a = some (.dK kvs) ∧ Rd H b (.dK more) ∧ kvs.length + more.length ≤ sizeLine ∧ Q .non (upd H a (.dK (mergeK kvs more)))) := by
  intro pins s σ H x vs v us Q I rx rv h
  obtain ⟨a, b, kvs, more, rfl, rfl, hab, hH, hB, hz, q⟩ := h
  cases rx
  obtain ⟨u, rfl, ru⟩ := vals1 rv
  cases ru
  obtain ⟨z, hd, vs, rel, dd⟩ := dk_of I.hok hH
  obtain ⟨z2, hd2, vs2, rel2, dd2⟩ := dk_rd I.hok hB
  refine call_meetsIn PySem.F.slot_dict_update dd.typeIs PySem.F.entry_dict_update (PySem.F.args_dict_update_2 _ _) (meets_dict_update (mixKind X.prog X.w) a b hab hd2)
    ⟨vs, vs2, dd, dd2, by rw [← rel.length, ← rel2.length]; exact hz, fun h' dd' _ hs => ?_⟩
  have he : ∃ q, h'.get? a = some q := let ⟨q, _, _, hq, _⟩ := dd'; ⟨q, hq⟩
  have hl : (mergeK kvs more).length ≤ sizeLine := Nat.le_trans (mergeK_le more kvs) hz
  exact ⟨.non, _, d_write (t' := s.toks) I (by rw [hH]; exact True.intro) hs he (dk_new hl hd (kv_merge rel2 rel) dd'), rfl, q⟩
end
end L2
namespace YP
open PySem PySem.Spec PyProof.Rows L2
section
variable {X : Cx}
/-! ### methods that change a dict -/
structure MuK (X : Cx) (id : String) (m : List (Key × D) → List D → (List (Key × D) → D → Prop) → Prop) : Prop where
  ex : ∃ r, MtR X id r ∧ ∀ {F H : Hp} {a : Addr} {us : List (Key × V)} {vs : List V} {l : List (Key × D)} {ds : List D} {T : List (Key × D) → D → Prop} {Q : VK}, Same F H → F a = none → H a = some (.dK us) → RK X.K F us l → RL X.K F vs ds → m l ds T →
    (∀ l' e v us', T l' e → RK X.K F us' l' → RD X.K F v e → Q v (upd H a (.dK us'))) → r (.ref a) vs H Q
def uMuK (m : List (Key × D) → List D → (List (Key × D) → D → Prop) → Prop) (ue : UE) (ua : UA) : UE := fun ρ R => ue ρ fun r ρ1 => ownK ρ1 r fun _ _ _ => ua ρ1 fun ds ρ2 => ownK ρ2 r fun i p l => m l ds fun l' e => R (.val e) (ρ2.set i (.sl true p (.dic l')))
variable {o e : Expr} {es : List Expr} {name : Str} {apos cpos : Pos} {id : String} {m : List (Key × D) → List D → (List (Key × D) → D → Prop) → Prop} {ue : UE} {ua : UA}
theorem fe_muK (mu : MuK X id m) (slot : Slot "dict" name id) (hty : typeOf (.builtin id) = pure (.type "method_descriptor")) (ho : FE X o ue) (ha : FA X (e :: es) ua)
    (hbase : attributeBase o name X.env (eval o X.env) = eval o X.env := by rfl)
    (hfew : ((backTo cpos (starEach (e :: es) X.env)).all (fun x => !x.1) && (backToKw cpos (keywordEach [] X.env)).all (fun x => x.1.isSome)
      && decide ((e :: es).length + ([] : List Keyword).length + (if ([] : List Keyword).isEmpty then 0 else 1) < 30)) = true := by rfl)
    (hline : (apos.endLine == cpos.line) = true := by rfl) (hs : starEach (e :: es) X.env = (false, eval e X.env) :: starEach es X.env := by rfl) (hplain : (backTo cpos (starEach es X.env)).any (·.1) = false := by rfl) :
    FE X (.Call (.Attribute o name apos) (e :: es) [] cpos) (uMuK m ue ua) := ⟨fun ρ R q F H σ0 σ B Q E g => by
  obtain ⟨r, hr, k⟩ := mu.ex
  refine to_S (pe_bm PySem.F.plainAttrs_dict slot hty hr pe_S pa_S hbase hfew hline hs hplain) (ho ρ _ q F H σ0 σ B _ E fun r1 ρ1 x F1 H1 z G => ?_)
  obtain ⟨i, p, l, rfl, e1, z⟩ := ownK_of z
  have si : σ[i]? = some (some x) := G.rr
  obtain ⟨a, e2, ro, _⟩ := G.er.ow i p _ e1
  rw [si] at e2; cases e2
  cases ro with
  | @dic _ us _ h1 l1 =>
    refine ⟨.inr (.inr (.inl ⟨rfl, .inl ⟨us, h1⟩⟩)), ha ρ1 _ z F1 H1 σ0 σ B _ G.er fun ds ρ2 vs F2 H2 z G2 l2 => ?_⟩
    obtain ⟨j, p2, l', e3, e4, z⟩ := ownK_of z
    cases e3
    obtain ⟨a', e5, ro2, nF, _⟩ := G2.er.ow _ _ _ e4
    rw [si] at e5; cases e5
    cases ro2 with
    | @dic _ us2 _ h3 l3 =>
      refine k G2.er.sub nF h3 l3 l2 z fun l'' e v us' t rl rd => ?_
      obtain ⟨E3, n3⟩ := G2.er.wrote e4 si (o := .dK us') (e := .dic l'') (.dic upd_same rl)
      exact g _ _ _ _ _ t ⟨G.nx.trans (G2.nx.trans n3), E3, rd⟩⟩
theorem fe_muK0 (mu : MuK X id m) (slot : Slot "dict" name id) (hty : typeOf (.builtin id) = pure (.type "method_descriptor")) (ho : FE X o ue)
    (hbase : attributeBase o name X.env (eval o X.env) = eval o X.env := by rfl) (hline : (apos.endLine == cpos.line) = true := by rfl) :
    FE X (.Call (.Attribute o name apos) [] [] cpos) (uMuK m ue uNil) := ⟨fun ρ R q F H σ0 σ B Q E g => by
  obtain ⟨r, hr, k⟩ := mu.ex
  refine to_S (pe_bm0 PySem.F.plainAttrs_dict slot hty hr pe_S hbase hline) (ho ρ _ q F H σ0 σ B _ E fun r1 ρ1 x F1 H1 z G => ?_)
  obtain ⟨i, p, l, rfl, e1, z⟩ := ownK_of z
  have si : σ[i]? = some (some x) := G.rr
  obtain ⟨a, e2, ro, nF, _⟩ := G.er.ow i p _ e1
  rw [si] at e2; cases e2
  cases ro with
  | @dic _ us _ h1 l1 =>
    refine ⟨.inr (.inr (.inl ⟨rfl, .inl ⟨us, h1⟩⟩)), ?_⟩
    obtain ⟨j, p2, l', e3, e4, z⟩ := ownK_of (show ownK ρ1 (.at i) (fun i p l => m l [] fun l' e => R (.val e) (ρ1.set i (Sl.sl true p (D.dic l')))) from z)
    cases e3
    rw [e1] at e4; cases e4
    refine k G.er.sub nF h1 l1 .nil z fun l'' e v us' t rl rd => ?_
    obtain ⟨E3, n3⟩ := G.er.wrote e1 si (o := .dK us') (e := .dic l'') (.dic upd_same rl)
    exact g _ _ _ _ _ t ⟨G.nx.trans n3, E3, rd⟩⟩
def mClear (l : List (Key × D)) (ds : List D) (T : List (Key × D) → D → Prop) : Prop := ds = [] ∧ T [] .non
theorem mk_clear : MuK X "dict.clear" mClear := ⟨⟨_, mt_clearD, fun {F H a us vs l ds T Q} s nF h rl rv t g => by
  obtain ⟨rfl, t⟩ := t
  cases rv
  exact ⟨a, us, rfl, rfl, h, g _ _ _ _ t .nil .non⟩⟩⟩
def mUpdate (l : List (Key × D)) (ds : List D) (T : List (Key × D) → D → Prop) : Prop := match ds with
  | [.dic k] => l.length + k.length ≤ sizeLine ∧ T (kmerge l k) .non
  | _ => False
theorem mk_update : MuK X "dict.update" mUpdate := ⟨⟨_, mt_update, fun {F H a us vs l ds T Q} s nF h rl rv t g => by
  unfold mUpdate at t
  split at t
  · cases rv with
    | cons r1 r2 =>
      cases r2
      cases r1 with
      | @dic b zs _ h2 l2 =>
        have hab : a ≠ b := by
          rintro rfl
          rcases h2 with h2 | ⟨_, h2⟩ <;> rw [nF] at h2 <;> cases h2
        exact ⟨a, b, us, zs, rfl, rfl, hab, h, rd_mono s h2, by rw [rl.len, l2.len]; exact t.1, g _ _ _ _ t.2 (RK.merge l2 rl) .non⟩
  · exact t.elim⟩⟩
/-! ### list(d), dict(d), sorted(d) -/
theorem rl_keys {K : PySem.W.Frag} {F : Hp} : ∀ {vs : List (Key × V)} {ds : List (Key × D)}, RK K F vs ds → RL K F (vs.map fun p => kV p.1) (ds.map fun p => kD p.1)
  | _, _, .nil => .nil
  | _, _, @RK.cons _ _ k _ _ _ _ _ t => .cons (rd_kD k) (rl_keys t)
def oListD (ds : List D) (T : Rv → Prop) : Prop := match ds with
  | [.dic l] => T (.own (.lst (l.map fun p => kD p.1)))
  | _ => False
theorem cb_listD (hc : X.calm = true) : CbS X (.type "list") oListD := .of (call_listD hc) fun {F H σ0 σ ρ B vs ds T Q} E w t g => by
  unfold oListD at t
  split at t
  · obtain ⟨v, rfl, w0⟩ := w.one
    obtain ⟨a, us, rfl, h1, l1⟩ := w0.dic E.sub
    exact ⟨a, us, rfl, h1, gt_lst E g t (rl_keys l1)⟩
  · exact t.elim
def oDictD (ds : List D) (T : Rv → Prop) : Prop := match ds with
  | [.dic l] => T (.own (.dic l))
  | _ => False
theorem cb_dictD : CbS X (.type "dict") oDictD := .of call_dictD fun {F H σ0 σ ρ B vs ds T Q} E w t g => by
  unfold oDictD at t
  split at t
  · obtain ⟨v, rfl, w0⟩ := w.one
    obtain ⟨a, us, rfl, h1, l1⟩ := w0.dic E.sub
    exact ⟨a, us, rfl, h1, gt_dic E g t l1⟩
  · exact t.elim
def oSortedD (ds : List D) (T : Rv → Prop) : Prop := match ds with
  | [.dic l] => ∃ ks : List Str, l.map (·.1) = ks.map Sum.inr ∧ ks.length < 64 ∧ ∀ ys, ys.Perm ks → sortedS ys = true → T (.own (.lst (ys.map D.str)))
  | _ => False
theorem rk_keys {K : PySem.W.Frag} {F : Hp} : ∀ {vs : List (Key × V)} {ds : List (Key × D)}, RK K F vs ds → vs.map (·.1) = ds.map (·.1)
  | _, _, .nil => rfl
  | _, _, @RK.cons _ _ k _ _ _ _ _ t => congrArg (k :: ·) (rk_keys t)
theorem rl_ofStrs {K : PySem.W.Frag} {F : Hp} : ∀ ys : List Str, RL K F (ys.map V.str) (ys.map D.str)
  | [] => .nil
  | y :: ys => .cons (.str y) (rl_ofStrs ys)
theorem cb_sortedD (hc : X.calm = true) : CbS X (.builtin "sorted") oSortedD := .of (call_sortedD hc) fun {F H σ0 σ ρ B vs ds T Q} E w t g => by
  unfold oSortedD at t
  split at t
  · obtain ⟨ks, e1, h64, t⟩ := t
    obtain ⟨v, rfl, w0⟩ := w.one
    obtain ⟨a, us, rfl, h1, l1⟩ := w0.dic E.sub
    exact ⟨a, us, ks, rfl, h1, (rk_keys l1).trans e1, h64, fun ys p hp hs => gt_lst E g (t ys hp hs) (rl_ofStrs ys) p⟩
  · exact t.elim
end
end YP
set_option maxRecDepth 100000
set_option maxHeartbeats 2000000
/-! The yard's pure layer, part 30: a caught exception that is kept behind its suite. -/
namespace L2
open PySem PySem.Spec PyProof.Rows
section
variable {X : Cx} {pins : List (Addr × Obj)} {σ : St} {H : Hp} {s : Shared}
/-- what was pinned is tracked -/
theorem Inv.track {a C dd : Addr} {oe : Obj} {vs : Array Value} (I : Inv X ((a, oe) :: pins) σ H s) (z : Zc (.ref C) (some dd) oe) (hd : oe.data = .fields vs) (h0 : X.s_0.heap.get? a = none) (hp : ∀ p ∈ X.pn ++ pins, p.1 ≠ a) : Inv X pins σ (upd H a (YP.ExK C dd a)) s := by
  obtain ⟨ga, na, nL, nF, nc⟩ := I.pin (a, oe) (List.mem_append_right _ List.mem_cons_self)
  have ne0 : ∀ b o, X.s_0.heap.get? b = some o → b ≠ a := fun b o e z => by rw [z, h0] at e; cases e
  have neU : ∀ b u, H b = some u → b ≠ a := fun b u e z => by rw [z, na] at e; cases e
  have neC : ∀ x c, X.env.cells.lookup x = some c → c ≠ a := fun x c e z => by
    obtain ⟨v, o, ho, hc⟩ := I.cell x c e
    rw [z, ga] at ho
    cases ho
    exact nc _ hc
  refine ⟨I.ok, I.os, I.bare, ⟨I.base.keep, I.base.slot, fun b o e n hx => ?_, I.base.there, fun b xs e => ?_, fun b o u e => ?_, fun b ps e => ?_⟩, I.loc, I.cell, ?_, fun x c e => ?_, fun p hm => ?_, fun b u e => ?_, I.len⟩
  · rw [upd_ne (ne0 b o e)]; exact I.base.free b o e n hx
  · have q := I.base.tups b xs e
    rw [upd_ne (neU b _ q)]; exact q
  · have q := I.base.frzs b o u e
    rw [upd_ne (neU b _ q)]; exact q
  · obtain ⟨m, q⟩ := I.base.tbls b ps e
    exact ⟨m, by rw [upd_ne (neU b _ q)]; exact q⟩
  · rw [upd_ne (fun z => nL z.symm)]; exact I.free
  · rw [upd_ne (neC x c e)]; exact I.freeC x c e
  · have hm' : p ∈ X.pn ++ (a, oe) :: pins := by
      rcases List.mem_append.mp hm with h | h
      · exact List.mem_append_left _ h
      · exact List.mem_append_right _ (List.mem_cons_of_mem _ h)
    obtain ⟨e1, e2, e3⟩ := I.pin p hm'
    exact ⟨e1, by rw [upd_ne (hp p hm)]; exact e2, e3⟩
  · by_cases hb : b = a
    · subst hb
      rw [upd_same] at e; cases e
      exact ⟨⟨oe, vs, ga, z, hd⟩, ⟨oe, ga⟩, fun _ _ ⟨o, v, q, r⟩ k => ⟨o, v, k o q, r⟩⟩
    · rw [upd_ne hb] at e
      exact (I.hok b u e).stay (fun c v _ q => q) (fun c q => by rw [upd_ne (neU c _ q)]; exact q) fun c xs q => by rw [upd_ne (neU c _ q)]; exact q
end
/-- what a try wishes whose only clause always holds and whose suite only goes on: behind it the exception is tracked -/
def wKeep (K : PySem.W.Frag) (c : Value) (i : Nat) (ts : Addr → Addr → Addr → TS) (D : Ends) : WX := fun cls d σ H =>
  PySem.W.exmOne K cls c = some true ∧ ∃ C dd, cls = .ref C ∧ d = some dd ∧ ∀ a, H a = none → ts a C dd ⟨fun σ' H' => H' a = none → D.nx (σ'.set i none) (upd H' a (YP.ExK C dd a)), fun _ _ => False, fun _ _ => False, fun _ _ => False⟩ (σ.set i (some (.ref a))) H
section
variable {X : Cx} {x n : Str} {c : Value} {i : Nat} {body suite : List Stmt} {b₀ : Stmt} {np pos pos' : Pos} {tb : WX → TS} {ts : Addr → Addr → Addr → TS}
theorem ps_try_keep (hs : X.stack = X.env :: X.outer) (hf : X.env.frame = some X.env.locals) (hex : X.ex = []) (hN : X.N.Nodup) (hi : X.N[i]? = some n) (hln : X.env.kindOf n = some .local) (hc : Names X x c)
    (hb : ∀ (W : WX) (pn : List (Addr × Obj)) (xe : Value → Shared → Prop), Takes (X.tr pn xe) W → PassesOwn (model X.prog X.w) X.A X.env xe → PSs (X.tr pn xe) body (tb W))
    (hsu : ∀ (a : Addr) (oe : Obj) (C dd : Addr) (pn : List (Addr × Obj)), Zc (.ref C) (some dd) oe → (∃ vs, oe.data = .fields vs) → PSs (X.suite a ((a, oe) :: pn)) (b₀ :: suite) (ts a C dd)) :
    PS X (.Try body [.ExceptHandler (some (.Name x np)) (some n) (b₀ :: suite) pos'] [] [] pos) (fun D σ H => tb (wKeep X.K c i ts D) D σ H) := ⟨fun pins s σ H D I h => by
  have ok := I.ok
  have frames : X.A.frames = some (X.env :: X.outer) := by rw [ok.frames, hs]
  let catching : Value → Shared → Prop := fun e s₁ => wpAny (model X.prog X.w) X.A (noteFrame e X.env) (fun _ s₂ => wpAny (model X.prog X.w) X.A (setFlight e none) (fun _ s₃ =>
    wpAny (model X.prog X.w) X.A (handleBy e X.env [.ExceptHandler (some (.Name x np)) (some n) (b₀ :: suite) pos']) (SP X pins D) X.xe s₃) X.xe s₂) X.xe s₁
  have caught : Takes (X.tr (X.pn ++ pins) catching) (wKeep X.K c i ts D) := by
    rintro u s' ⟨a, B, sI, pins', σ', H', cls, d, rfl, J', nb, up, sky, na, os, ag, hm, C, dd, rfl, rfl, go⟩
    have J : Inv X pins σ' H' sI := J'.ofTry ok
    show wpAny (model X.prog X.w) X.A (noteFrame (.ref a) X.env) _ _ _
    refine Sky.land Zc.steady frames hf (by rw [← hs]; exact sky) fun h3 fl3 up3 => ?_
    obtain ⟨oe3, vs3, he3, hz3, hd3⟩ := fl3.there
    have nfr : a ∉ frs (X.env :: X.outer) := fun z => by
      obtain ⟨_, o', e', hnf⟩ := fl3.2.2.1.mem z
      rw [he3] at e'; cases e'
      exact hnf _ hd3
    have nL : a ≠ X.env.locals := fun z => nfr (List.mem_filterMap.mpr ⟨X.env, List.mem_cons_self, by rw [hf, z]⟩)
    have nF : a ∉ X.fs := fun z => by
      obtain ⟨e, he, q⟩ := List.mem_filterMap.mp z
      exact nfr (List.mem_filterMap.mpr ⟨e, List.mem_cons_of_mem _ he, q⟩)
    -- it was not there ahead of the body's end
    have aI : sI.heap.get? a = none := by
      cases e : sI.heap.get? a with
      | none => rfl
      | some o =>
        have z := nb a o e (by show a ∉ frs X.stack; rw [hs]; exact nfr)
        rw [fl3.2.1] at z; cases z
    have a0 : X.s_0.heap.get? a = none := by
      cases e : X.s_0.heap.get? a with
      | none => rfl
      | some o =>
        obtain ⟨o', z⟩ := J.base.there a o e (by rw [hex]; exact fun z => nomatch z)
        rw [aI] at z; cases z
    have ap : ∀ p ∈ X.pn ++ pins, p.1 ≠ a := fun p hp z => by
      have q := (J.pin p hp).1
      rw [z, aI] at q; cases q
    have J3 : Inv X pins σ' H' { s' with heap := h3 } := J.landed nb fl3.1 (up.trans up3) os ag
    have S3 := J3.suite he3 hd3 na nL nF
    refine wpAny_handleBy_cons (codeAny_handlers_test ?_) (by intro q; cases q)
    have LT : PySem.W.Looks (model X.prog X.w) h3 (typeOf (.ref a)) (.ref C) := fun A Q E s k q => wpAny_typeOf_ref (k _ _ he3) (by rw [hz3.1]; exact q)
    have LM := PySem.W.exm_one (M := model X.prog X.w) S3.kIn LT hm
    have test : ∀ {Q : Value → Shared → Prop} {E : Value → Shared → Prop}, Q c { s' with heap := h3 } → wpAny (model X.prog X.w) (X.A.mark (some (.ref a))) (eval (.Name x np) X.env) Q E { s' with heap := h3 } := fun {Q E} q => by
      obtain ⟨hg, hdbg, hm | ⟨hm, hv, hnn⟩⟩ := hc
      · exact ld_glob (X := X.suite a ((a, oe3) :: (X.pn ++ pins))) S3 hg hm q hdbg
      · exact ld_blt (X := X.suite a ((a, oe3) :: (X.pn ++ pins))) S3 hg hm hv q hnn hdbg
    refine test (LM.here (codeAny_handlers_suite_as (HandSPX.lands_againZ fl3 fun h4 fl4 up4 => ?_)))
    obtain ⟨oe4, vs4, he4, hz4, hd4⟩ := fl4.there
    have J4 : Inv X pins σ' H' { s' with heap := h4 } := J.landed nb fl4.1 ((up.trans up3).trans up4) os ag
    have S4 := J4.suite he4 hd4 na nL nF
    refine store_ok (X := X.suite a ((a, oe4) :: (X.pn ++ pins))) (v := .ref a) S4 hN hi (.inl hln) rfl (fun s5 S5 => ?_) (.inr hln)
    refine wpAny_mono ((hsu a oe4 C dd (X.pn ++ pins) hz4 ⟨_, hd4⟩).run [] s5 _ H' _ S5 (go a na)) (fun f s6 hsp => ?_) (fun _ _ z => False.elim z)
    cases f with
    | next =>
      obtain ⟨σ6, H6, S6, q6⟩ := hsp
      have J6 : Inv X ((a, oe4) :: pins) σ6 H6 s6 := ⟨ok, S6.os, S6.bare, S6.base, S6.loc, S6.cell, S6.free, S6.freeC, fun p hp => S6.pin p (List.mem_append_left _ (by
        show p ∈ (a, oe4) :: (X.pn ++ pins)
        rcases List.mem_append.mp hp with z | z
        · exact List.mem_cons_of_mem _ (List.mem_append_left _ z)
        · rcases List.mem_cons.mp z with z | z
          · rw [z]; exact List.mem_cons_self
          · exact List.mem_cons_of_mem _ (List.mem_append_right _ z))), S6.hok, S6.len⟩
      have h6 : H6 a = none := (J6.pin (a, oe4) (List.mem_append_right _ List.mem_cons_self)).2.1
      exact gone_ok J6 hN hi hln fun s7 J7 => ⟨_, _, J7.track hz4 hd4 a0 ap, q6 h6⟩
    | brk => obtain ⟨_, _, _, q6⟩ := hsp; exact q6.elim
    | cont => obtain ⟨_, _, _, q6⟩ := hsp; exact q6.elim
    | ret u => obtain ⟨_, _, _, _, _, q6⟩ := hsp; exact q6.elim
  refine wpAny_Try_except (wpAny_mono ((hb _ (X.pn ++ pins) catching caught PassesOwn.looking).run [] s σ H D (I.toTry _) h) (fun f s1 hsp => ?_) (fun e s1 he => he))
  cases f with
  | next => obtain ⟨σ', H', J', q⟩ := hsp; exact wpAny_execs_nil ⟨σ', H', J'.ofTry ok, q⟩
  | brk => obtain ⟨σ', H', J', q⟩ := hsp; exact ⟨σ', H', J'.ofTry ok, q⟩
  | cont => obtain ⟨σ', H', J', q⟩ := hsp; exact ⟨σ', H', J'.ofTry ok, q⟩
  | ret u => obtain ⟨v, σ', H', J', r, q⟩ := hsp; exact ⟨v, σ', H', J'.ofTry ok, r, q⟩⟩
end
/-! ### e.f, isinstance(e, c) of it -/
def tXk (C : Addr) (f : Str) (te : TE) : TE := fun σ H Q => te σ H fun x H1 => ∃ (a dd : Addr) (fs : List (Str × V)) (v : V), x = .ref a ∧ H1 a = some (YP.ExK C dd a) ∧ H1 dd = some (.xd fs) ∧ fs.lookup f = some v ∧ Q v H1
theorem inst_exk {X : Cx} {pins : List (Addr × Obj)} {σ : St} {H : Hp} {s : Shared} {a C dd : Addr} {fs : List (Str × V)} (I : Inv X pins σ H s) (ea : H a = some (YP.ExK C dd a)) (ed : H dd = some (.xd fs)) :
    ∃ (oe od : Obj) (mA : Str → Option Value), PySem.W.InstAt s.heap a oe C (some od) ∧ (∀ f, PySem.W.lookIn f od = some (mA f)) ∧ ∀ f, RelO (fs.lookup f) (mA f) := by
  obtain ⟨⟨oe, vs, ga, z, hd⟩, _⟩ := I.hok a _ ea
  have hx : ObjOk X.prog X.w H s.heap dd (.xd fs) := I.hok dd _ ed
  obtain ⟨mA, hns, hr⟩ := hx
  obtain ⟨od, ho, hl⟩ := lookIn_ns hns
  exact ⟨oe, od, mA, ⟨ga, z.1, by unfold PySem.W.notCls; rw [hd] <;> rfl, by rw [z.2]; exact ho⟩, hl, hr⟩
theorem pe_xk {X : Cx} {C : Addr} {e : Expr} {te : TE} {pos : Pos} {n : Str} (T : XfC X.K C) (hno : PySem.W.findIn X.K (.ref C) n = some none) (he : PE X e te) (hb : attributeBase e n X.env (eval e X.env) = eval e X.env := by rfl) :
    PE X (.Attribute e n pos) (tXk C n te) := by
  refine ⟨fun pins s σ H Q I h => ?_⟩
  refine attr_of hb (thn (he.run pins s σ H _ I h) fun u s1 hh => ?_)
  obtain ⟨x, H1, I1, rx, a, dd, fs, v, ex, ea, ed, l, q⟩ := hh
  subst ex
  obtain rfl : u = Value.ref a := rx
  obtain ⟨oe, od, mA, J, hl, hr⟩ := inst_exk I1 ea ed
  obtain ⟨u, hu, ru⟩ := RelO.some_of (v := v) (o := mA n) (by rw [← l]; exact hr n)
  exact HandSPX.exc_get I1.kIn J T.ga T.gg T.exC (PySem.W.findObj_own T.hdC hno rfl (by rw [hl, hu])) (handed_of ru) ⟨v, H1, I1.tok _, ru, q⟩
def rIsK (K : PySem.W.Frag) (C : Addr) : List V → Hp → VK → Prop := fun xs H Q => ∃ (a dd : Addr) (c : V) (cv : Value) (b : Bool) (vfs : List (Str × V)), xs = [.ref a, c] ∧ (∀ u, RelV c u → u = cv) ∧ PySem.W.kitOne K (.ref C) cv = some b ∧ H a = some (YP.ExK C dd a) ∧ H dd = some (.xd vfs) ∧ Q (.bl b) H
theorem call_isK {X : Cx} {C : Addr} (T : ExcC X.K C) : CallR X (.builtin "isinstance") (rIsK X.K C) := by
  intro pins s σ H xs us Q I r h
  obtain ⟨a, dd, c, cv, b, vfs, rfl, hcv, e, ea, ed, q⟩ := h
  cases r with
  | cons rx rr =>
    cases rr with
    | cons rt rr =>
      cases rr
      cases rx
      have ec := hcv _ rt
      subst ec
      obtain ⟨oe, od, mA, J, hl, hr⟩ := inst_exk I ea ed
      exact PySem.W.kia_one (PySem.W.ykitx_exc T.hg T.hk T.hs T.hd T.ha T.hn T.ht T.hm) I.kIn ⟨_, J⟩ e (fun z => nomatch z) fun tk => ⟨.bl b, H, I.kept (t' := tk) fun _ _ z => z, rfl, q⟩
end L2
namespace YP
open PySem PySem.Spec PyProof.Rows L2
def uXk (C : Addr) (f : Str) (ue : UE) : UE := fun ρ R => ue ρ fun r ρ1 => wv ρ1 r fun d => ∃ a dd fs x, d = .exk a dd C fs ∧ fs.lookup f = some x ∧ R (.val x) ρ1
theorem fe_xk {X : Cx} {C : Addr} {e : Expr} {ue : UE} {pos : Pos} {f : Str} (T : XfC X.K C) (hno : PySem.W.findIn X.K (.ref C) f = some none) (he : FE X e ue) (hb : attributeBase e f X.env (eval e X.env) = eval e X.env := by rfl) : FE X (.Attribute e f pos) (uXk C f ue) := ⟨fun ρ R q F H σ0 σ B Q E g => by
  refine to_S (pe_xk T hno pe_S hb) (he ρ _ q F H σ0 σ B _ E fun r ρ1 v F1 H1 z G => ?_)
  obtain ⟨d, w, a, dd, fs, x, rfl, hl, z⟩ := G.er.seen G.rr z
  obtain ⟨rfl, ea, vfs, fd, rf⟩ := w.exk
  obtain ⟨y, e, rd⟩ := rf.lookup hl
  exact ⟨a, dd, vfs, y, rfl, G.er.sub _ _ ea, G.er.sub _ _ fd, e, g (.val x) ρ1 y F1 H1 z ⟨G.nx, G.er, rd⟩⟩⟩
def uIsK (K : PySem.W.Frag) (C : Addr) (cv : Value) (ue : UE) : UE := fun ρ R => ue ρ fun r ρ1 => wv ρ1 r fun d => ∃ a dd fs b, d = .exk a dd C fs ∧ PySem.W.kitOne K (.ref C) cv = some b ∧ R (.val (.bl b)) ρ1
theorem fe_isK {X : Cx} {C : Addr} {e t : Expr} {c : V} {cv : Value} {ue : UE} {p pos : Pos} (T : ExcC X.K C) (hg : Gl X "isinstance") (hm : X.mg "isinstance" = none)
    (he : FE X e ue) (ht : PE X t (tC c)) (hcv : ∀ u, RelV c u → u = cv)
    (hs : starEach [e, t] X.env = (false, eval e X.env) :: starEach [t] X.env := by rfl) (hs2 : starEach [t] X.env = (false, eval t X.env) :: starEach [] X.env := by rfl) (hpl : (backTo pos (starEach [t] X.env)).any (·.1) = false := by rfl) :
    FE X (.Call (.Name "isinstance" p) [e, t] [] pos) (uIsK X.K C cv ue) := ⟨fun ρ R q F H σ0 σ B Q E g => by
  refine to_S (pe_callB (call_isK T) hg hm (by decide +kernel) (pa_cons pe_S (pa_cons ht pa_nil hs2) hs) (by decide) (by decide) hs hpl) (he ρ _ q F H σ0 σ B _ E fun r ρ1 v F1 H1 z G => ?_)
  obtain ⟨d, w, a, dd, fs, b, rfl, hk, z⟩ := G.er.seen G.rr z
  obtain ⟨rfl, ea, vfs, fd, rf⟩ := w.exk
  exact ⟨a, dd, c, cv, b, vfs, rfl, hcv, hk, G.er.sub _ _ ea, G.er.sub _ _ fd, g _ _ _ _ _ z ⟨G.nx, G.er, .bl _⟩⟩⟩
/-- try: .., except x as n: .. where the exception stays in slot j -/
def uTryK (K : PySem.W.Frag) (c : Value) (i j : Nat) (PC : Addr → Prop) (tb : USX) (ts : Addr → Addr → Addr → US) : US := fun E ρ =>
  tb ⟨E, fun C fs ρ1 => PySem.W.exmOne K (.ref C) c = some true ∧ PC C ∧ ∀ a dd, ts a dd C ⟨fun ρ2 => ∃ fs', ρ2[j]? = some (.sl false false (.exc a dd C fs')) ∧ E.nx ((ρ2.set i .un).set j (.sl false false (.exk a dd C fs'))), fun _ _ => False, fun _ => False, fun _ => False⟩ (ρ1.set i (.sl false false (.exc a dd C fs)))⟩ ρ
theorem ER.promote {K : PySem.W.Frag} {F H : Hp} {σ0 σ : L2.St} {ρ : List Sl} {B : Addr → Prop} {j : Nat} {a dd C : Addr} {fs : List (Str × D)} (E : ER K F H σ0 ρ σ B) (ea : F a = some (ExK C dd a)) (h : ρ[j]? = some (.sl false false (.exc a dd C fs))) : ER K F H σ0 (ρ.set j (.sl false false (.exk a dd C fs))) σ B := by
  obtain ⟨v, ev, rd⟩ := E.fz j _ _ h
  have hl : j < ρ.length := (List.getElem?_eq_some_iff.mp h).1
  have at_ : ∀ (k : Nat) s, (ρ.set j (Sl.sl false false (.exk a dd C fs)))[k]? = some s → (k = j ∧ s = .sl false false (.exk a dd C fs)) ∨ (k ≠ j ∧ ρ[k]? = some s) := fun k s e => by
    by_cases hj : k = j
    · subst hj; rw [List.getElem?_set_self hl] at e; cases e; exact .inl ⟨rfl, rfl⟩
    · rw [List.getElem?_set_ne (Ne.symm hj)] at e; exact .inr ⟨hj, e⟩
  refine ⟨by rw [List.length_set]; exact E.len, E.sub, fun k p d q => ?_, fun k p d q => ?_, fun k l b p q d e h1 h2 => ?_, fun k o d q => ?_, E.out⟩
  · rcases at_ _ _ q with ⟨rfl, y⟩ | ⟨_, y⟩
    · cases y
      cases rd with
      | exc fd rf => exact ⟨_, ev, .exk ea fd rf⟩
    · exact E.fz k p d y
  · rcases at_ _ _ q with ⟨rfl, y⟩ | ⟨_, y⟩
    · cases y
    · exact E.ow k p d y
  · rcases at_ _ _ h1 with ⟨rfl, y⟩ | ⟨_, y⟩
    · cases y
    · rcases at_ _ _ h2 with ⟨rfl, z⟩ | ⟨_, z⟩
      · cases z
      · exact E.inj k l b p q d e y z
  · rcases at_ _ _ q with ⟨rfl, y⟩ | ⟨_, y⟩
    · cases y
    · exact E.par k o d y
theorem fs_tryK {X : Cx} {x n : Str} {c : Value} {i : Nat} {body suite : List Stmt} {b₀ : Stmt} {np pos pos' : Pos} {tb : USX} {ts : Addr → Addr → Addr → US} (j : Nat) (PC : Addr → Prop) (hij : i ≠ j) (hs : X.stack = X.env :: X.outer) (hf : X.env.frame = some X.env.locals) (hex : X.ex = []) (hN : X.N.Nodup) (hi : X.N[i]? = some n) (hln : X.env.kindOf n = some .local) (hc : Names X x c)
    (hb : ∀ (pn : List (Addr × Obj)) (xe : Value → Shared → Prop), PassesOwn (model X.prog X.w) X.A X.env xe → FBX (X.tr pn xe) body tb)
    (hsu : ∀ (a : Addr) (oe : Obj) (C dd : Addr) (pn : List (Addr × Obj)), PC C → Zc (.ref C) (some dd) oe → (∃ vs, oe.data = .fields vs) → FB (X.suite a ((a, oe) :: pn)) (b₀ :: suite) (ts a dd C)) :
    FS X (.Try body [.ExceptHandler (some (.Name x np)) (some n) (b₀ :: suite) pos'] [] [] pos) (uTryK X.K c i j PC tb ts) := ⟨fun E ρ q F H σ0 σ B D er f => by
  refine to_SS (ps_try_keep (tb := fun W' D σ H => ∀ (pn : List (Addr × Obj)) (xe : Value → Shared → Prop), Takes (X.tr pn xe) W' → PassesOwn (model X.prog X.w) X.A X.env xe → tBs (X.tr pn xe) body D σ H)
    (ts := fun a C dd D σ H => ∀ (oe : Obj) (pn : List (Addr × Obj)), Zc (.ref C) (some dd) oe → (∃ vs, oe.data = .fields vs) → tBs (X.suite a ((a, oe) :: pn)) (b₀ :: suite) D σ H)
    hs hf hex hN hi hln hc (fun W' pn xe tk' hp => ⟨fun pins s σ H D I h => h pn xe tk' hp pins s I⟩) (fun a oe C dd pn hz hd => ⟨fun pins s σ H D I h => h oe pn hz hd pins s I⟩)) fun pn xe tk' hp => ?_
  refine (hb pn xe hp).run _ tk' _ ρ q F H σ0 σ B D er ⟨f, fun C fs ρ1 σ1 F1 H1 dd vfs ⟨z1, z2, z3⟩ G fd rf => ⟨z1, C, dd, rfl, rfl, fun a na oe pn' hz hd => ?_⟩⟩
  have f1 := f.on G.nx
  refine hsu a oe C dd pn' z2 hz hd _ _ (z3 a dd) F1 H1 σ0 _ B _ (G.er.set_val (.exc fd rf)) ⟨fun ρ' σ' F' H' ⟨fs', e, y⟩ G' np => ?_, fun _ _ _ _ _ _ e => e.elim, fun _ _ _ _ e => e.elim, fun _ _ _ _ e => e.elim⟩
  obtain ⟨E2, n2⟩ := G'.er.unset (v := i) (x := none) |>.laid_val (o := ExK C dd a) np
  refine f1.nx _ _ _ _ y ⟨G'.nx.trans n2, E2.promote upd_same ?_⟩
  rw [List.getElem?_set_ne hij]; exact e⟩
end YP
set_option maxRecDepth 100000
set_option maxHeartbeats 2000000
/-! The yard's pure layer, part 31: one's own dict, walked by its pairs, and one's own again behind it. -/
namespace YP
open PySem PySem.Spec PyProof.Rows L2
section
variable {K : PySem.W.Frag} {F H : Hp} {σ0 σ : L2.St} {ρ : List Sl} {B : Addr → Prop} {i : Nat} {p : Bool} {a : Addr} {l : List (Key × D)} {kvs : List (Key × V)} {od : Obj}
def lB (B : Addr → Prop) (a : Addr) : Addr → Prop := fun b => B b ∨ b = a
theorem at_set {s : Sl} (hl : i < ρ.length) (j : Nat) (t : Sl) (e : (ρ.set i s)[j]? = some t) : (j = i ∧ t = s) ∨ (j ≠ i ∧ ρ[j]? = some t) := by
  by_cases hj : j = i
  · subst hj; rw [List.getElem?_set_self hl] at e; cases e; exact .inl ⟨rfl, rfl⟩
  · rw [List.getElem?_set_ne (Ne.symm hj)] at e; exact .inr ⟨hj, e⟩
theorem ER.borrow (E : ER K F H σ0 ρ σ B) (h : ρ[i]? = some (.sl true p (.dic l))) (es : σ[i]? = some (some (V.ref a))) : ER K F (upd H a (.frz od (.dK kvs))) σ0 (ρ.set i (.sl false p (.ref a))) σ (lB B a) := by
  have hl : i < ρ.length := (List.getElem?_eq_some_iff.mp h).1
  obtain ⟨a', e1, ro, nF, nB⟩ := E.ow i p _ h
  rw [es] at e1; cases e1
  have neF : ∀ b u, F b = some u → b ≠ a := fun b u q z => by subst z; rw [nF] at q; cases q
  refine ⟨by rw [List.length_set]; exact E.len, fun b u q => ?_, fun j p' d q => ?_, fun j p' d q => ?_, fun j k b p1 q1 d e h1 h2 h3 h4 => ?_, fun j o d q => ?_, fun b hb => ?_⟩
  · rw [upd_ne (neF b u q)]; exact E.sub b u q
  · rcases at_set hl j _ q with ⟨rfl, y⟩ | ⟨_, y⟩
    · cases y; exact ⟨_, es, .ref a⟩
    · exact E.fz j p' d y
  · rcases at_set hl j _ q with ⟨rfl, y⟩ | ⟨hj, y⟩
    · cases y
    · obtain ⟨b, e, ro2, n2, nb2⟩ := E.ow j p' d y
      have hb : b ≠ a := fun z => by subst z; exact hj (E.inj j i b p' p d _ y h e es)
      exact ⟨b, e, ro2.keep (Same.refl _) (upd_ne hb), n2, fun z => z.elim nb2 hb⟩
  · rcases at_set hl j _ h1 with ⟨rfl, y⟩ | ⟨_, y⟩
    · cases y
    · rcases at_set hl k _ h2 with ⟨rfl, z⟩ | ⟨_, z⟩
      · cases z
      · exact E.inj j k b p1 q1 d e y z h3 h4
  · rcases at_set hl j _ q with ⟨rfl, y⟩ | ⟨_, y⟩
    · cases y; exact E.par _ _ _ h
    · exact E.par j o d y
  · rcases hb with hb | rfl
    · rw [upd_ne (fun z => by subst z; exact nB hb)]; exact E.out b hb
    · exact ⟨by rw [upd_same]; exact fun z => (nomatch z), nF⟩
theorem ER.back' {F' H' : Hp} {ρ' : List Sl} {σ' : L2.St} (G : Gd K F (upd H a (.frz od (.dK kvs))) F' H' σ0 ρ' σ' (lB B a)) (nB : ¬ B a) (rk : RK K F kvs l) (h : ρ'[i]? = some (.sl false p (.ref a))) :
    H' a = some (.frz od (.dK kvs)) ∧ Gd K F H F' (upd H' a (.dK kvs)) σ0 (ρ'.set i (.sl true p (.dic l))) σ' B := by
  have E := G.er
  have hl : i < ρ'.length := (List.getElem?_eq_some_iff.mp h).1
  have ha : H' a = some (.frz od (.dK kvs)) := by rw [G.nx.out a (.inr rfl), upd_same]
  have nF : F' a = none := (E.out a (.inr rfl)).2
  have neF : ∀ b u, F' b = some u → b ≠ a := fun b u q z => by subst z; rw [nF] at q; cases q
  have neB : ∀ b, B b → b ≠ a := fun b hb z => by subst z; exact nB hb
  obtain ⟨v, es, rd⟩ := E.fz i p _ h
  cases rd
  refine ⟨ha, ⟨G.nx.fz, fun b hb => ?_⟩, ⟨by rw [List.length_set]; exact E.len, fun b u q => ?_, fun j p' d q => ?_, fun j p' d q => ?_, fun j k b p1 q1 d e h1 h2 h3 h4 => ?_, fun j o d q => ?_, fun b hb => ?_⟩⟩
  · rw [upd_ne (neB b hb), G.nx.out b (.inl hb), upd_ne (neB b hb)]
  · rw [upd_ne (neF b u q)]; exact E.sub b u q
  · rcases at_set hl j _ q with ⟨rfl, y⟩ | ⟨_, y⟩
    · cases y
    · exact E.fz j p' d y
  · rcases at_set hl j _ q with ⟨rfl, y⟩ | ⟨_, y⟩
    · cases y
      exact ⟨a, es, .dic upd_same (rk.mono G.nx.fz), nF, nB⟩
    · obtain ⟨b, e, ro2, n2, nb2⟩ := E.ow j p' d y
      exact ⟨b, e, ro2.keep (Same.refl _) (upd_ne fun z => nb2 (.inr z)), n2, fun z => nb2 (.inl z)⟩
  · have ow_ : ∀ (j : Nat) (p' : Bool) (d : D), ρ'[j]? = some (Sl.sl true p' d) → σ'[j]? ≠ some (some (V.ref a)) := fun j p' d y z => by
      obtain ⟨b, e, _, _, nb2⟩ := E.ow j p' d y
      rw [z] at e; cases e
      exact nb2 (.inr rfl)
    rcases at_set hl j _ h1 with ⟨rfl, y⟩ | ⟨_, y⟩
    · rcases at_set hl k _ h2 with ⟨rfl, z⟩ | ⟨_, z⟩
      · rfl
      · rw [es] at h3; cases h3
        exact absurd h4 (ow_ k _ _ z)
    · rcases at_set hl k _ h2 with ⟨rfl, z⟩ | ⟨_, z⟩
      · rw [es] at h4; cases h4
        exact absurd h3 (ow_ j _ _ y)
      · exact E.inj j k b p1 q1 d e y z h3 h4
  · rcases at_set hl j _ q with ⟨rfl, y⟩ | ⟨_, y⟩
    · cases y; exact E.par _ _ _ h
    · exact E.par j o d y
  · rw [upd_ne (neB b hb)]; exact E.out b (.inl hb)
theorem wd_itemsB (d : Addr) (r : RK K F kvs l) : Walk (Iti d od kvs) (l.map fun p => D.tup [kD p.1, p.2]).length (fun H => H d = some (.frz od (.dK kvs))) (YD K F (l.map fun p => .tup [kD p.1, p.2])) := by
  have w := walk_items (d := d) (o := od) (kvs := kvs)
  have e : kvs.length = (l.map fun p => D.tup [kD p.1, p.2]).length := by rw [List.length_map]; exact r.len
  rw [e] at w
  refine w.mono (fun H s => s) fun i H x H' hi s ⟨t, x1, y1, e1, e2, e3, e4, e5⟩ => ?_
  dsimp only at e4 e5
  cases ek : kvs[i]? with
  | none => rw [ek] at e4; cases e4
  | some p =>
    obtain ⟨k, v⟩ := p
    rw [ek] at e4 e5
    cases e4; cases e5
    obtain ⟨x', e6, rd⟩ := r.at ek
    refine ⟨.tup [kD k, x'], by rw [List.getElem?_map, e6]; rfl, .inr ⟨t, .tup [kV k, v], e3, e2, fun F' s' nF => ?_⟩⟩
    subst e1
    have s2 : Same F' (upd F' t (.tup [kV k, v])) := fun b u q => by rw [upd_ne (ne_of_none q nF)]; exact q
    exact .tup (.of upd_same) (.cons (rd_kD k) (.cons (rd.mono (s'.trans s2)) .nil))
end
def bkS (i : Nat) (p : Bool) (l : List (Key × D)) (a : Addr) (k : List Sl → Prop) : List Sl → Prop := fun ρ => ρ[i]? = some (.sl false p (.ref a)) ∧ k (ρ.set i (.sl true p (.dic l)))
/-- for k, v in name.items(), the dict at slot i one's own: not read within -/
def uForB (i : Nat) (g : UG) (tb : USX) : USX := fun E ρ => ∃ p l, ρ[i]? = some (.sl true p (.dic l)) ∧ ∀ a, ∃ W : Nat → List Sl → Prop, W 0 (ρ.set i (.sl false p (.ref a))) ∧
  (∀ k d ρ, (l.map fun p => D.tup [kD p.1, p.2])[k]? = some d → W k ρ → g d ρ fun ρ2 => tb ⟨⟨W (k + 1), fun _ _ => False, bkS i p l a E.en.nx, W (k + 1)⟩, fun C fs => bkS i p l a (E.xc C fs)⟩ ρ2) ∧ ∀ ρ, W (l.map fun p => D.tup [kD p.1, p.2]).length ρ → bkS i p l a E.en.nx ρ
theorem fsx_forB {X : Cx} {i : Nat} {n : Str} {p0 apos cpos tpos pos : Pos} {elts : List Expr} {kk : Nat} {body : List Stmt} {g : UG} {t : USX} (hp : PassesOwn (model X.prog X.w) X.A X.env X.xe) (hc : X.calm = true) (hv : FE X (.Name n p0) (uVar i))
    (hg : FG X none (.Tuple elts kk tpos) g) (hb : FBX X body t) (hbase : attributeBase (.Name n p0) "items" X.env (eval (.Name n p0) X.env) = eval (.Name n p0) X.env := by rfl) (hline : (apos.endLine == cpos.line) = true := by rfl)
    (hs : ∀ x, foldedSetIterable (.Call (.Attribute (.Name n p0) "items" apos) [] [] cpos) X.env x = pure x := by intro _; rfl) : FSX X (.For (.Tuple elts kk tpos) (.Call (.Attribute (.Name n p0) "items" apos) [] [] cpos) body [] pos) (uForB i g t) := ⟨fun WX tk E ρ q F H σ0 σ B D er f => by
  obtain ⟨p, l, hi, q⟩ := q
  obtain ⟨a, es, ro, nF, nB⟩ := er.ow i p _ hi
  obtain ⟨W, w0, turn, done⟩ := q a
  refine to_SS (ps_unl (ps_for hp hc (pi_items (pe_lk pe_S) hbase hline) pg_S pss_S hs)) (hv ρ (fun r ρ1 => r = .at i ∧ ρ1 = ρ) ?_ F H σ0 σ B _ er fun r ρ1 v F1 H1 hz G => ?_)
  · unfold uVar
    rw [hi]
    exact ⟨rfl, rfl⟩
  obtain ⟨rfl, rfl⟩ := hz
  have ev : σ[i]? = some (some v) := G.rr
  rw [es] at ev; cases ev
  obtain ⟨a', es', ro1, nF1, _⟩ := G.er.ow i p _ hi
  rw [es] at es'; cases es'
  cases ro1 with
  | @dic _ kvs _ ha rk =>
  refine .inr ⟨a, kvs, ha, fun od hn => ⟨a, od, kvs, rfl, upd_same, ?_⟩⟩
  have f0 := f.on G.nx
  have E2 := G.er.borrow (od := od) (kvs := kvs) hi es
  have back : ∀ {ρ' : List Sl} {σ' : L2.St} {F' H' : Hp} {k : Hp → Prop}, Gd X.K F1 (upd H1 a (.frz od (.dK kvs))) F' H' σ0 ρ' σ' (lB B a) → ρ'[i]? = some (.sl false p (.ref a)) → (∀ H'', Gd X.K F1 H1 F' H'' σ0 (ρ'.set i (.sl true p (.dic l))) σ' B → k H'') → unl X H' k := fun G' e g' => by
    obtain ⟨h1, G2⟩ := ER.back' G' nB rk e
    exact .inr ⟨a, od, .dK kvs, h1, hn, g' _ G2⟩
  refine for_it (wd_itemsB (od := od) a rk) (fun k σ' H' => ∃ ρ' F', W k ρ' ∧ Gd X.K F1 (upd H1 a (.frz od (.dK kvs))) F' H' σ0 ρ' σ' (lB B a)) ⟨_, F1, w0, .refl _ _ _, E2⟩ (fun k σ' H' _ ⟨ρ', F', _, G'⟩ => by rw [G'.nx.out a (.inr rfl), upd_same]) ?_ (fun σ' H' ⟨ρ', F', w', G'⟩ => ?_)
  · rintro k x σ2 H2 H3 hk ⟨ρ2, F2, w2, G2⟩ y
    obtain ⟨d, F3, e, G3, rd⟩ := yd_er G2.er G2.nx.fz y
    refine hg d ρ2 _ (turn k d ρ2 e w2) F3 H3 σ0 σ2 (lB B a) x _ G3.er rd fun ρ4 σ4 F4 H4 z G4 _ => ?_
    have n4 := G2.nx.trans (G3.nx.trans G4.nx)
    exact hb.run _ (takes_unl tk) _ ρ4 z F4 H4 σ0 σ4 (lB B a) _ G4.er ⟨⟨fun ρ' σ' F' H' w' G => ⟨ρ', F', w', n4.trans G.nx, G.er⟩, fun _ _ _ _ _ _ e => e.elim,
      fun ρ' σ' F' H' ⟨e, y⟩ G => back ⟨n4.trans G.nx, G.er⟩ e fun H'' G5 => f0.fol.nx _ σ' F' H'' y G5, fun ρ' σ' F' H' w' G => ⟨ρ', F', w', n4.trans G.nx, G.er⟩⟩,
      fun C fs ρ' σ' F' H' dd vfs ⟨e, y⟩ G fd rf => back ⟨n4.trans G.nx, G.er⟩ e fun H'' G5 => f0.xc C fs _ σ' F' H'' dd vfs y G5 fd rf⟩
  · obtain ⟨e, y⟩ := done ρ' w'
    exact back G' e fun H'' G5 => f0.fol.nx _ σ' F' H'' y G5⟩
section
variable {P : Program} {w : World} {K : PySem.W.Frag} {mg : Str → Option Value} {base : Heap}
theorem fn_mkJ {x qual : Str} {st : Stmt} {f C : Addr} {fd : FuncData} {N ps : List Str} {k n : Nat} {u : UFI} (Fn : L2.Fun K x qual st f fd) (S : FnScope N ps (defScope st)) (hN : ps.length ≤ N.length) (hp : ps.length = n + 1)
    (body : ∀ (cdv : Value) (A : Around) (outer : List Env) (s : Shared) (H : Hp) (E : XK), Room k (A.deeper (envOfC qual (defScope st) s.heap.objs.size f cdv)) →
      ∃ ub, FBO (cxOf (L2.CX P w) P w K mg base N qual (defScope st) f cdv A outer s H E) C (defBody st) ub ∧ ∀ a ρ R RX, ρ.length = n → u ρ R RX → ub (enEndI n R RX) [] (enter N.length (.sl false false (.ref a) :: ρ))) : FnOk P w K mg base (L2.CX P w) (k + 1) f fd ps (PSpI K C n u) := by
  refine Fn.okX S (fun vs H Q E h => ?_) fun cdv A outer s H vs Q E hr h => ?_
  · obtain ⟨a, ws, ρ, F, B, R, RX, rfl, l1, l2, _⟩ := h
    rw [hp, List.length_cons, l2]
  · obtain ⟨a, ws, ρ, F, B, R, RX, rfl, l1, l2, er, go, hu, g, gx⟩ := h
    obtain ⟨ub, hub, gub⟩ := body cdv A outer s H E hr
    have hn : n + 1 = ((V.ref a :: ws).map some).length := by rw [List.length_map, List.length_cons, l2]
    have hl : 0 < N.length := by omega
    refine ⟨_, pss_S, hub.run (fun cls d _ H => E cls d H) (takes_of rfl rfl rfl rfl) _ _ _ (gub a ρ R RX l1 hu) F H (((V.ref a) :: ws).map some) _ B a [] _ rfl er.enter go ⟨fun _ _ _ _ _ _ e _ => e.elim, fun fs ρ' σ' F' H' e nx er' rd => ?_, fun C' fs ρ' σ' F' H' dd vfs e G fd rf => ?_⟩⟩
    · obtain ⟨s0, hs⟩ := back_tail (n := n) (ρ := ρ')
      have eb := er'.back hn
      rw [hs] at eb
      exact g fs _ F' H' e nx (eb.tl fun _ h => h) rd
    · obtain ⟨s0, hs⟩ := back_tail (n := n) (ρ := ρ')
      have eb := G.er.back hn
      rw [hs] at eb
      exact gx C' fs _ dd vfs F' H' e G.nx (eb.tl fun _ h => h) fd rf
end
end YP
set_option maxRecDepth 100000
set_option maxHeartbeats 2000000
/-! The yard's pure layer, part 32: t * k, k not below 0. -/
namespace YP
open PySem PySem.Spec PyProof.Rows L2 Yard
theorem tuple_mulZ (l : Addr) (items : Array Value) (n : Nat) (dd : Option Addr) (sl : Array (Option Value)) (x : Int) (u : Tok) (c0 : (decide (x < -(2 ^ 63)) || decide (x ≥ 2 ^ 63)) = false) (c1 : (items.isEmpty || x == 1) = false) (c2 : (decide (x ≤ 0) || items.isEmpty) = true) :
    Meets (Builtin.«tuple.__mul__» ⟨[.ref l, .int x u], []⟩) (fun _ R s => s.heap.get? l = some { cls := .type "tuple", dict := dd, data := .seq items n, slots := sl } ∧
      R (.ok (.ret (Value.ref s.heap.objs.size))) { s with heap := s.heap.push { cls := Value.type "tuple", data := Data.seq #[] }, toks := s.toks }) :=
  .of_wp fun prog w A R s h => by
    obtain ⟨hp, g, d, tk, os⟩ := s
    obtain ⟨hl, h⟩ := h
    have f1 := AutoSeq1.idx_int
    wp_walk using wpAny_loadPart' hl
    repeat (first
      | (refine wpAny_ite_false (decide_eq_false (by rw [c0]; exact Bool.false_ne_true)) ?_; wp_walk using wpAny_loadPart' hl)
      | (refine wpAny_ite_false (decide_eq_false (by rw [c1]; exact Bool.false_ne_true)) ?_; wp_walk using wpAny_loadPart' hl)
      | (refine wpAny_ite_true (decide_eq_true c2) ?_; wp_walk using wpAny_loadPart' hl)
      | (refine wpAny_ite_false (decide_eq_false (Nat.not_lt.mpr (Nat.zero_le _))) ?_; wp_walk using wpAny_loadPart' hl))
    exact ⟨_, rfl, h⟩
theorem op_repZ {X : Cx} : OpR X (binaryOp .Mult) (fun x y H Q => ∃ l xs, x = V.ref l ∧ y = V.int 0 ∧ SqT X.K H l xs ∧ xs ≠ [] ∧ ∀ p, H p = none → Q (.ref p) (upd H p (.tup []))) := by
  intro pins s σ H x y v u Q I rx ry h
  obtain ⟨l, xs, rfl, rfl, hT, hne, q⟩ := h
  cases rx
  obtain ⟨t, rfl⟩ := ry
  obtain ⟨its, r, ⟨⟨cls, dd, data, sl⟩, ho, hc, n, hd⟩, hs⟩ := I.tuple hT
  simp only at hc hd
  subst hc hd
  have c0 : (decide ((0 : Int) < -(2 ^ 63)) || decide ((0 : Int) ≥ 2 ^ 63)) = false := by decide
  have c1 : (its.toArray.isEmpty || (0 : Int) == 1) = false := by
    cases r with
    | nil => exact absurd rfl hne
    | cons _ _ => rfl
  have c2 : (decide ((0 : Int) ≤ 0) || its.toArray.isEmpty) = true := rfl
  refine wpAny_binaryOp_repeat_ref (T := "tuple") (U := "int") (by decide) ⟨_, ho, rfl⟩ (fun s' => typeIs_int s' 0 t) noFill_tuple_mul F.fills_int_mul F.slot_int_rmul repeat_tuple F.slot_int_index.lookup
    (call_meets F.slot_int_rmul (typeIs_int s 0 t) F.entry_int_rmul (F.args_int_rmul_2 _ _) (int_rmul_tuple 0 t l its.toArray n dd sl)
      ⟨ho, rfl, ⟨_, ho, rfl⟩, call_meets F.slot_tuple_mul ⟨_, ho, rfl⟩ F.entry_tuple_mul (F.args_tuple_mul_2 _ _) (tuple_mulZ l its.toArray n dd sl 0 t c0 c1 c2) ⟨ho, ?_⟩⟩)
  exact ⟨.ref s.heap.objs.size, _, I.laid (t' := s.toks) (o := .tup []) (fun b ob q => Heap.get?_push_of_some _ q) (Nat.le_refl _) ⟨Nat.zero_le _, [], .nil, IsTup.new _ _⟩, rfl, q _ (I.hok.fresh (Nat.le_refl _))⟩
def oMulY (d e : D) (T : Rv → Prop) : Prop := match d, e with
  | .tup l, .int k => 0 ≤ k ∧ k ≤ 1000 ∧ l.length ≤ 1000 ∧ T (.val (.tup (told l k)))
  | _, _ => False
theorem os_mulY {X : Cx} : OpS X (binaryOp .Mult) oMulY := .of (OpR.or op_repT (OpR.or op_repS op_repZ)) fun {F H σ0 σ ρ B x y d e T Q} E w1 w2 t g => by
  unfold oMulY at t
  split at t
  · rename_i l k
    obtain ⟨a, vs, e1, h1, l1⟩ := w1.tup E.sub
    subst e1
    cases w2.int
    by_cases hn : vs = [] ∨ k = 1
    · refine .inr (.inl ⟨a, k, vs, rfl, rfl, h1, hn, by omega, by omega, ?_⟩)
      have e : told l k = l := by
        rcases hn with z | z
        · subst z; cases l1; exact told_nil k
        · subst z; exact told_one l
      have t2 := t.2.2.2
      rw [e] at t2
      rcases w1 with w | w
      · exact gt_val E g t2 w
      · cases w
    · by_cases hk : k = 0
      · subst hk
        exact .inr (.inr ⟨a, vs, rfl, rfl, h1, fun z => hn (.inl z), gt_tup E g t.2.2.2 .nil⟩)
      · exact .inl ⟨a, k, vs, rfl, rfl, h1, fun z => hn (.inl z), by have := fun z => hn (.inr z); omega, t.2.1, by rw [l1.len]; exact t.2.2.1, gt_tup E g t.2.2.2 (l1.told k)⟩
  · exact t.elim
end YP
set_option maxRecDepth 100000
set_option maxHeartbeats 2000000
/-! The yard's pure layer, part 33: o.m(e, ..) that may raise. -/
namespace L2
open PySem PySem.Spec PyProof.Rows
section
variable {X : Cx} {CX : CXT} {k : Nat} {f C : Addr} {fd : FuncData} {ps : List Str} {sp : Sp} {E : St → XK} {m : Str} {pos apos : Pos} {e o : Expr} {es : List Expr} {ta : TE} {t : TA}
def tMethX (C : Addr) (m : Str) (sp : Sp) (E : St → XK) (ta : TE) (t : TA) : TE := fun σ H Q => ta σ H fun x H1 => ∃ a dx fs, x = .ref a ∧ H1 a = some (.ins C dx fs) ∧ fs.lookup m = none ∧ t σ H1 fun vs H2 => sp (x :: vs) H2 Q (E σ)
theorem pe_methX {pl : Sem Bool} (he : PE X o ta) (c : Cls X.K C) (hm : Meth X.K C m f) (F : FnOk X.prog X.w X.K X.mg X.base CX k f fd ps sp) (hr : Room k X.A) (hb : Binds X.K fd ps []) (hx : ∀ σ, PassesAt CX X σ (E σ)) (ha : PA X (e :: es) t)
    (hst : starEach (e :: es) X.env = (false, eval e X.env) :: starEach es X.env := by rfl) (hpl : (backTo pos (starEach es X.env)).any (·.1) = false := by rfl)
    (ht : eval (.Call (.Attribute o m apos) (e :: es) [] pos) X.env = (do
      let ov ← eval o X.env
      standAt apos.atName
      let (f, first) ← holding [ov] (getMethod ov m pl)
      callWith pos f first (backTo pos (starEach (e :: es) X.env)) (backToKw pos (keywordEach [] X.env))) := by rfl) :
    PE X (.Call (.Attribute o m apos) (e :: es) [] pos) (tMethX C m sp E ta t) := ⟨fun pins s σ H Q I h => by
  refine PySem.W.methodCall_KW (pl := pl) (thn (he.run pins s σ H _ I h) fun u s1 ⟨x, H1, I1, rx, a, dx, fs, ex, ea, l, q⟩ => ?_) ht
  subst ex
  obtain rfl : u = Value.ref a := rx
  refine getmeth_ok I1 ea c hm l ?_
  refine PySem.W.callWith_K (first := [.ref a]) (h₀ := X.base) I.ok.mod.kin hm.kp (thn (ha.run pos pins s1 σ H1 _ I1 q) fun us s2 ⟨vs, H2, I2, r, q2⟩ => ⟨I2.kIn, ?_⟩) hst hpl
  exact run_fnS (us := .ref a :: us) (vs := .ref a :: vs) F hr hb (hx σ) I2 (.cons rfl r) q2⟩
end
end L2
namespace YP
open PySem PySem.Spec PyProof.Rows L2
def uMethX (C : Addr) (m : Str) (u : UFX) (ue : UE) (ua : UR) : UEX := fun ρ R RX => ue ρ fun r ρ1 => wv ρ1 r fun d => ∃ fs, d = .obj C fs ∧ fs.lookup m = none ∧
  ua ρ1 fun rs ρ2 => (ats (r :: rs)).Nodup ∧ u ((r :: rs).map (slOf ρ2)) (fun q ss => R q (wb ρ2 (r :: rs) ss)) fun C' fs' ss => RX C' fs' (wb ρ2 (r :: rs) ss)
theorem fex_meth {X : Cx} {o e : Expr} {es : List Expr} {uo : UE} {ua : UR} {u : UFX} {C : Addr} {m : Str} {k : Nat} {f : Addr} {fd : FuncData} {ps : List Str} {pos apos : Pos} {pl : Sem Bool} (hc : Cls X.K C) (hm : Meth X.K C m f) (Fn : FnOk X.prog X.w X.K X.mg X.base (L2.CX X.prog X.w) k f fd ps (PSpX X.K ps.length u)) (hr : Room k X.A) (hb : Binds X.K fd ps [])
    (ho : FE X o uo) (ha : FR X (e :: es) ua) (hn : (e :: es).length + 1 = ps.length := by rfl)
    (hst : starEach (e :: es) X.env = (false, eval e X.env) :: starEach es X.env := by rfl) (hpl : (backTo pos (starEach es X.env)).any (·.1) = false := by rfl)
    (ht : eval (.Call (.Attribute o m apos) (e :: es) [] pos) X.env = (do
      let ov ← eval o X.env
      standAt apos.atName
      let (f, first) ← holding [ov] (getMethod ov m pl)
      callWith pos f first (backTo pos (starEach (e :: es) X.env)) (backToKw pos (keywordEach [] X.env))) := by rfl) :
    FEX X (.Call (.Attribute o m apos) (e :: es) [] pos) (uMethX C m u uo ua) := ⟨fun W tk ρ R RX q F H σ0 σ B Q E g gx => by
  refine to_S (pe_methX (E := WE W) pe_S hc hm Fn hr hb (fun σ => passAt tk σ) pa_S hst hpl ht) (ho ρ _ q F H σ0 σ B _ E fun r ρ1 v F1 H1 z G => ?_)
  obtain ⟨d, w, fs, rfl, hl, z⟩ := G.er.seen G.rr z
  obtain ⟨a, dx, fv, rfl, h1, rf⟩ := w.obj G.er.sub
  refine ⟨a, dx, fv, rfl, h1, rf.no hl, ha ρ1 _ z F1 H1 σ0 σ (hB B r (.ref a)) _ (G.er.hold G.rr) fun rs ρ2 vs F2 H2 ⟨n1, z2⟩ G2 l ll => ?_⟩
  have E2 := G2.er.unhold
  have L : RRs X.K F2 H2 ρ2 σ B (r :: rs) (V.ref a :: vs) := ⟨G.rr.held G.er G2.er G2.nx, l⟩
  have lv := l.len
  have ln : (r :: rs).length = ps.length := by rw [← hn]; show rs.length + 1 = _; rw [ll]
  refine ⟨_, F2, bB B ρ2 σ (r :: rs), _, _, by rw [List.length_map]; exact ln, by show vs.length + 1 = _; rw [← lv, ll]; exact hn, E2.into L n1, z2, fun q' ss y F' H' hy nx E' rr na => ?_, fun C' fs' ss dd vfs F' H' y nx E' fd rf => ?_⟩
  · have G' := E2.behind L n1 nx E' rr na
    exact g q' _ y F' H' hy ⟨G.nx.trans ((G2.nx.mono hB_sub).trans G'.nx), G'.er, G'.rr⟩
  · have G' := E2.behind (r := .val .non) (v := .non) L n1 nx E' (show RD X.K F' .non .non from .non) (fun _ z => nomatch z)
    exact gx C' fs' _ F' H' dd vfs y ⟨G.nx.trans ((G2.nx.mono hB_sub).trans G'.nx), G'.er⟩ fd rf⟩
end YP
set_option maxRecDepth 100000
set_option maxHeartbeats 2000000
/-! The yard's pure layer, part 34: C(e, ..) without keywords' values. -/
namespace YP
open PySem PySem.Spec PyProof.Rows L2
theorem kb_pos {K : PySem.W.Frag} {fd : FuncData} {ps : List Str} {n : Nat} (h : Binds K fd ps []) (hn : ps.length = n := by rfl) : KBn K fd ps n [] (fun us _ => us) (fun vs _ => vs) := ⟨fun s us ws kin l1 l2 => by
  cases ws with
  | cons _ _ => cases l2
  | nil =>
    have b := h s us kin (by rw [List.append_nil, l1, hn])
    rw [List.append_nil] at b
    exact b, fun h _ => h⟩
theorem rrs_prefix {K : PySem.W.Frag} {F H : Hp} {ρ : List Sl} {σ : L2.St} : ∀ {B : Addr → Prop} {rs : List Rv} {vs : List V} {qs : List Rv} {zs : List V}, rs.length = vs.length → RRs K F H ρ σ B (rs ++ qs) (vs ++ zs) → RRs K F H ρ σ B rs vs
  | _, [], [], _, _, _, _ => trivial
  | _, [], _ :: _, _, _, h, _ => nomatch h
  | _, _ :: _, [], _, _, h, _ => nomatch h
  | _, _ :: _, _ :: _, _, _, hl, h => ⟨h.1, rrs_prefix (Nat.succ.inj hl) h.2⟩
def posR : List Rv → List Rv → List Rv := fun rs _ => rs
theorem gr_pos {K : PySem.W.Frag} : GR K (fun vs _ => vs) posR := ⟨fun {F H ρ σ B rs qs vs zs} hl h => ⟨vs, fun _ => rfl, rrs_prefix hl h⟩⟩
end YP
set_option maxRecDepth 100000
set_option maxHeartbeats 2000000
/-! The yard's pure layer, part 35: == and != of dicts. -/
namespace YP
open PySem PySem.Spec PyProof.Rows L2
def eqKs : List (Key × D) → List (Key × D) → Bool
  | [], _ => true
  | (k, d) :: r, l => match kget l k with
    | none => false
    | some e => eqD d e && eqKs r l
def eqK (k l : List (Key × D)) : Bool := k.length == l.length && eqKs k l
theorem kget_mem {l : List (Key × D)} {k : Key} {d : D} (h : kget l k = some d) : (k, d) ∈ l := by
  unfold kget at h
  cases e : l.find? fun kv => decide (kv.1 = k) with
  | none => rw [e] at h; cases h
  | some p =>
    rw [e] at h; cases h
    have a := List.mem_of_find?_eq_some e
    have b := List.find?_some e
    have b : p.1 = k := of_decide_eq_true b
    rw [← b]; exact a
section
variable {X : Cx} {pins : List (Addr × Obj)} {σ : L2.St} {F H : Hp} {s : Shared}
theorem hits_data {A : Around} (I : Inv X pins σ H s) (sF : Same F H) (hu : A.units + 64 < cLine) {ls : List (Key × V)} {vb : List (Key × Value)} {dl : List (Key × D)} (rb : KV ls vb) (kb : RK X.K F ls dl) (ob : ∀ p ∈ dl, okD p.2 = true) :
    ∀ {ks : List (Key × V)} {va : List (Key × Value)} {dk : List (Key × D)}, KV ks va → RK X.K F ks dk → (∀ p ∈ dk, okD p.2 = true) → PySem.W.KeqHits A s vb va (eqKs dk dl)
  | [], _, [], h, _, _ => by cases h; exact .nil
  | [], _, _ :: _, _, r, _ => nomatch r
  | _ :: _, _, [], _, r, _ => nomatch r
  | (k, v) :: ks, _, (k0, d) :: dk, h, r0, o => by
    have r0' := r0
    cases r0' with
    | cons r t =>
    cases h with
    | @cons _ q _ va h1 h2 =>
      obtain ⟨k', u⟩ := q
      obtain ⟨e, ru⟩ := h1
      have e : k = k' := e
      subst e
      have od := o (k, d) List.mem_cons_self
      have od : okD d = true := od
      have rest := hits_data I sF hu rb kb ob h2 t fun p hp => o p (List.mem_cons_of_mem _ hp)
      rcases kb.get (k := k) with ⟨z1, z2⟩ | ⟨v', d', z1, z2, rd⟩
      · have hn : valueAt vb k = none := RelO.none_of (by rw [← z1]; exact rb.val k)
        have ee : eqKs ((k, d) :: dk) dl = false := by unfold eqKs; rw [z2]
        rw [ee]; exact .miss hn
      · obtain ⟨y, hy, ry⟩ := RelO.some_of (v := v') (o := valueAt vb k) (by rw [← z1]; exact rb.val k)
        have od' : okD d' = true := ob (k, d') (kget_mem z2)
        obtain ⟨as, ra, _⟩ := r.reads I sF (okD_p od) ru
        obtain ⟨bs, rb', _⟩ := rd.reads I sF (okD_p od') ry
        have ee : eqKs ((k, d) :: dk) dl = (eqD d d' && eqKs dk dl) := by
          show (match kget dl k with | none => false | some e => eqD d e && eqKs dk dl) = _
          rw [z2]
        rw [ee]
        exact .hit hy (SeqAt.eqAt_reads (toP d) (toP d') A s u y as bs ra rb' (SeqAt.canLay_of_shaped (okD_s od)) (SeqAt.canLay_of_shaped (okD_s od')) (SeqAt.room_of_shaped (okD_s od) hu)) rest
end
def rEqDk (K : PySem.W.Frag) : R2 := fun x y H Q => ∃ a b ks ls F dk dl, x = .ref a ∧ y = .ref b ∧ Rd H a (.dK ks) ∧ Rd H b (.dK ls) ∧ Same F H ∧ RK K F ks dk ∧ RK K F ls dl ∧ (∀ p ∈ dk, okD p.2 = true) ∧ (∀ p ∈ dl, okD p.2 = true) ∧ Q (.bl (eqK dk dl)) H
def rNeDk (K : PySem.W.Frag) : R2 := fun x y H Q => ∃ a b ks ls F dk dl, x = .ref a ∧ y = .ref b ∧ Rd H a (.dK ks) ∧ Rd H b (.dK ls) ∧ Same F H ∧ RK K F ks dk ∧ RK K F ls dl ∧ (∀ p ∈ dk, okD p.2 = true) ∧ (∀ p ∈ dl, okD p.2 = true) ∧ Q (.bl (!eqK dk dl)) H
theorem op_eqDk {X : Cx} (hu : X.A.units + 65 < cLine) : OpR X (compareOp .Eq) (rEqDk X.K) := by
  intro pins s σ H x y v u Q I rx ry h
  obtain ⟨a, b, ks, ls, F, dk, dl, rfl, rfl, ea, eb, sF, ka, kb, oa, ob, q⟩ := h
  obtain rfl : v = Value.ref a := rx
  obtain rfl : u = Value.ref b := ry
  obtain ⟨_, ya, va, ra, da⟩ := dk_rd I.hok ea
  obtain ⟨_, yb, vb, rb, db⟩ := dk_rd I.hok eb
  have hla : va.length = dk.length := by rw [← ra.length]; exact ka.len
  have hlb : vb.length = dl.length := by rw [← rb.length]; exact kb.len
  have hu1 : X.A.in1.units + 64 < cLine := by show X.A.units + 1 + 64 < cLine; omega
  exact PySem.W.keq_eq (knd := mixKind X.prog X.w) (r := eqKs dk dl) ya yb da db (by omega) (fun _ => hits_data I sF hu1 rb kb ob ra ka oa) (fin_bl I q (by rw [hla, hlb]; rfl))
theorem op_neDk {X : Cx} (hu : X.A.units + 65 < cLine) : OpR X (compareOp .NotEq) (rNeDk X.K) := by
  intro pins s σ H x y v u Q I rx ry h
  obtain ⟨a, b, ks, ls, F, dk, dl, rfl, rfl, ea, eb, sF, ka, kb, oa, ob, q⟩ := h
  obtain rfl : v = Value.ref a := rx
  obtain rfl : u = Value.ref b := ry
  obtain ⟨_, ya, va, ra, da⟩ := dk_rd I.hok ea
  obtain ⟨_, yb, vb, rb, db⟩ := dk_rd I.hok eb
  have hla : va.length = dk.length := by rw [← ra.length]; exact ka.len
  have hlb : vb.length = dl.length := by rw [← rb.length]; exact kb.len
  have hu1 : X.A.in1.units + 64 < cLine := by show X.A.units + 1 + 64 < cLine; omega
  exact PySem.W.keq_ne (knd := mixKind X.prog X.w) (r := eqKs dk dl) ya yb da db (by omega) (fun _ => hits_data I sF hu1 rb kb ob ra ka oa) (fin_bl I q (by rw [hla, hlb]; rfl))
def okKs (l : List (Key × D)) : Prop := ∀ p ∈ l, okD p.2 = true
def oEqK (d e : D) (T : Rv → Prop) : Prop := match d, e with
  | .dic k, .dic l => okKs k ∧ okKs l ∧ T (.val (.bl (eqK k l)))
  | _, _ => False
def oNeK (d e : D) (T : Rv → Prop) : Prop := match d, e with
  | .dic k, .dic l => okKs k ∧ okKs l ∧ T (.val (.bl (!eqK k l)))
  | _, _ => False
theorem os_eqK {X : Cx} (hu : X.A.units + 65 < cLine) : OpS X (compareOp .Eq) oEqK := .of (op_eqDk hu) fun {F H σ0 σ ρ B x y d e T Q} E w1 w2 t g => by
  unfold oEqK at t
  split at t
  · obtain ⟨a, ks, rfl, h1, r1⟩ := w1.dic E.sub
    obtain ⟨b, ls, rfl, h2, r2⟩ := w2.dic E.sub
    exact ⟨a, b, ks, ls, F, _, _, rfl, rfl, h1, h2, E.sub, r1, r2, t.1, t.2.1, gt_val E g t.2.2 (.bl _)⟩
  · exact t.elim
theorem os_neK {X : Cx} (hu : X.A.units + 65 < cLine) : OpS X (compareOp .NotEq) oNeK := .of (op_neDk hu) fun {F H σ0 σ ρ B x y d e T Q} E w1 w2 t g => by
  unfold oNeK at t
  split at t
  · obtain ⟨a, ks, rfl, h1, r1⟩ := w1.dic E.sub
    obtain ⟨b, ls, rfl, h2, r2⟩ := w2.dic E.sub
    exact ⟨a, b, ks, ls, F, _, _, rfl, rfl, h1, h2, E.sub, r1, r2, t.1, t.2.1, gt_val E g t.2.2 (.bl _)⟩
  · exact t.elim
end YP
set_option maxRecDepth 100000
set_option maxHeartbeats 2000000
/-! The yard's pure layer, part 36: a == b of objects with an own == (whatever it tells). -/
namespace L2
open PySem PySem.Spec PyProof.Rows
/-- the own comparison's def is called; neg: its answer is turned -/
def rOwn (C : Addr) (neg : Bool) (sp : Sp) : R2 := fun x y H Q => ∃ a b dx fs, x = .ref a ∧ y = .ref b ∧ H a = some (.ins C dx fs) ∧ ((∃ dy gs, H b = some (.ins C dy gs)) ∨ ∃ kvs, Rd H b (.dK kvs)) ∧ sp [x, y] H (fun v H' => ∃ c, v = .bl c ∧ Q (.bl (neg ^^ c)) H') fun _ _ _ => False
theorem sub_dict {K : PySem.W.Frag} {C : Addr} : PySem.W.subIn K (.type "dict") (.ref C) = some false := by
  have e : fastBuiltinMro "dict" = some [.type "dict", .type "object"] := by decide +kernel
  show (fastBuiltinMro "dict").map (·.contains (.ref C)) = some false
  rw [e]
  first
    | rfl
    | simp
theorem own_type {X : Cx} {pins : List (Addr × Obj)} {σ : St} {H : Hp} {s : Shared} {C b : Addr} (I : Inv X pins σ H s) (h : (∃ dy gs, H b = some (.ins C dy gs)) ∨ ∃ kvs, Rd H b (.dK kvs)) :
    ∃ tb, PySem.W.Looks (model X.prog X.w) s.heap (typeOf (.ref b)) tb ∧ PySem.W.notFirst X.K C tb = true := by
  rcases h with ⟨dy, gs, h⟩ | ⟨kvs, h⟩
  · obtain ⟨mB, J', _⟩ := ins_get I.hok h
    obtain ⟨od', J', _⟩ := J'.look
    exact ⟨.ref C, J'.type, by simp [PySem.W.notFirst]⟩
  · obtain ⟨_, _, vs, rel, dd⟩ := dk_rd I.hok h
    obtain ⟨o, ho, hc⟩ := dd.typeIs
    exact ⟨.type "dict", fun A Q E s' k q => wpAny_typeOf_ref (k _ _ ho) (by rw [hc]; exact q), by unfold PySem.W.notFirst; rw [sub_dict]; simp⟩
section
variable {X : Cx} {k : Nat} {C f : Addr} {fd : FuncData} {ps : List Str} {sp : Sp}
theorem op_ownEq (F : FnOk X.prog X.w X.K X.mg X.base CX0 k f fd ps sp) (hr : Room k X.A) (hs : PySem.W.findIn X.K (.ref C) "__eq__" = some (some (.ref f))) (hf : PySem.W.isFn X.K (.ref f) = true) (hb : Binds X.K fd ps []) : OpR X (compareOp .Eq) (rOwn C false sp) := by
  intro pins s σ H x y v u Q I rx ry h
  obtain ⟨a, b, dx, fs, rfl, rfl, ha, hb', hsp⟩ := h
  obtain rfl : v = Value.ref a := rx
  obtain rfl : u = Value.ref b := ry
  obtain ⟨mA, J, _⟩ := ins_get I.hok ha
  obtain ⟨od, J, _⟩ := J.look
  obtain ⟨tb, ht, hn⟩ := own_type I hb'
  obtain ⟨m, hF⟩ := I.fr
  show wpAny (model X.prog X.w) X.A (richCompare .Eq (.ref a) (.ref b)) (EP X pins σ Q) X.xe s
  refine PySem.W.cmp_K (op := .Eq) (tb := tb) hr.units0 hF I.ok.mod.kin J ht hn hs hf ?_
  have r2 : Vals [V.ref a, V.ref b] [Value.ref a, Value.ref b] := .cons rfl (.cons rfl .nil)
  have hl := F.len _ _ _ _ hsp
  refine wpAny_call (codeAny_mono (F.run X.A X.stack s H ⟨[.ref a, .ref b], []⟩ [.ref a, .ref b] [.ref a, .ref b] _ _ hr I.env0 (by
    have := hb s [.ref a, .ref b] I.kIn (by simpa using hl)
    simpa using this) r2 hsp) fun r s' hq => ?_)
  cases r with
  | error e => exact pass0 pins σ H s e s' I hq
  | ok fl =>
    cases fl with
    | ret w =>
      obtain ⟨z, H', I', rz, c, ez, q⟩ := I.after hq
      subst ez
      cases rz
      rw [Bool.false_xor] at q
      exact ⟨.bl c, H', I', rfl, q⟩
    | next => exact False.elim hq
    | brk => exact False.elim hq
    | cont => exact False.elim hq
end
end L2
namespace YP
open PySem PySem.Spec PyProof.Rows L2
section
variable {X : Cx} {a b : Expr} {ua ub : UE} {C : Addr} {u : UF} {neg : Bool} {pos : Pos} {F H : Hp} {σ0 σ : L2.St} {ρ : List Sl} {B : Addr → Prop}
def uOwn (C : Addr) (neg : Bool) (u : UF) (ua ub : UE) : UE := fun ρ R => ua ρ fun r ρ1 => ub ρ1 fun q ρ2 => wv ρ2 r fun d => wv ρ2 q fun e => (∃ fs, d = .obj C fs ∧ ((∃ gs, e = .obj C gs) ∨ ∃ l, e = .dic l)) ∧ (ats [r, q]).Nodup ∧
  u ([r, q].map (slOf ρ2)) fun z ss => ∃ c, z = .val (.bl c) ∧ R (.val (.bl (neg ^^ c))) (wb ρ2 [r, q] ss)
theorem own_bin {f : Value → Value → Sem Value} (ho : OpR X f (rOwn C neg (PSp X.K 2 u))) (ha : FE X a ua) (hb : FE X b ub) {R : Rv → List Sl → Prop} {Q : VK} (h : uOwn C neg u ua ub ρ R) (E : ER X.K F H σ0 ρ σ B)
    (g : ∀ r ρ' v F' H', R r ρ' → Gt X.K F H F' H' σ0 ρ' σ B r v → Q v H') : ∃ r : R2, OpR X f r ∧ tS X a σ H fun x H1 => tS X b σ H1 fun y H2 => r x y H2 Q := by
  refine ⟨_, ho, FE.two ha hb h E (fun x y H2 => rOwn C neg (PSp X.K 2 u) x y H2 Q) fun r q ρ2 x y F2 H2 t n2 E2 r1 r2 => ?_⟩
  have r2' := r2.weak hB_sub
  obtain ⟨d, w1, t⟩ := E2.seen r1 t
  obtain ⟨e, w2, t⟩ := E2.seen r2' t
  obtain ⟨⟨fs, rfl, hy⟩, nd, hu⟩ := t
  obtain ⟨a1, dx, fv, rfl, h1, _⟩ := w1.obj E2.sub
  obtain ⟨b1, rfl, h2⟩ : ∃ b1, y = .ref b1 ∧ ((∃ dy gs, H2 b1 = some (.ins C dy gs)) ∨ ∃ kvs, Rd H2 b1 (.dK kvs)) := by
    rcases hy with ⟨gs, rfl⟩ | ⟨l, rfl⟩
    · obtain ⟨b1, dy, gv, rfl, h2, _⟩ := w2.obj E2.sub
      exact ⟨b1, rfl, .inl ⟨dy, gv, h2⟩⟩
    · obtain ⟨b1, kvs, rfl, h2, _⟩ := w2.dic E2.sub
      exact ⟨b1, rfl, .inr ⟨kvs, h2⟩⟩
  have L : RRs X.K F2 H2 ρ2 σ B [r, q] [V.ref a1, V.ref b1] := ⟨r1, r2, trivial⟩
  refine ⟨a1, b1, dx, fv, rfl, rfl, h1, h2, _, F2, bB B ρ2 σ [r, q], _, rfl, rfl, E2.into L nd, hu, fun z ss v F' H' hz nx E' rr na => ?_⟩
  obtain ⟨c, rfl, hR⟩ := hz
  have rc : RD X.K F' v (.bl c) := rr
  cases rc
  have G' := E2.behind L nd nx E' (r := .val (.bl (neg ^^ c))) (v := .bl (neg ^^ c)) (show RD X.K F' (.bl (neg ^^ c)) (.bl (neg ^^ c)) from .bl _) (fun _ z => nomatch z)
  exact ⟨c, rfl, g _ _ _ F' H' hR ⟨n2.trans G'.nx, G'.er, G'.rr⟩⟩
theorem fe_own {op : CmpOp} (ho : OpR X (compareOp op) (rOwn C neg (PSp X.K 2 u))) (ha : FE X a ua) (hb : FE X b ub) (hm : behindInMarks op b = false := by rfl) : FE X (.Compare a [op] [b] pos) (uOwn C neg u ua ub) := ⟨fun ρ R q F H σ0 σ B Q E g => by
  obtain ⟨r, hr, t⟩ := own_bin ho ha hb q E g
  exact to_S (pe_cmpR hr pe_S pe_S hm) t⟩
theorem ft_own {op : CmpOp} (ho : OpR X (compareOp op) (rOwn C neg (PSp X.K 2 u))) (ha : FE X a ua) (hb : FE X b ub) (hm : behindInMarks op b = false := by rfl) : FT X (.Compare a [op] [b] pos) (fun ρ R => uOwn C neg u ua ub ρ (isB R)) := ⟨fun ρ R q F H σ0 σ B Q E g => by
  obtain ⟨r, hr, t⟩ := own_bin (Q := fun x H' => ∃ k, x = .bl k ∧ Q k H') ho ha hb q E fun r ρ' v F' H' h G => by
    unfold isB at h
    split at h
    · rename_i c
      have rr : RD X.K F' v (.bl c) := G.rr
      cases rr
      exact ⟨c, rfl, g c ρ' F' H' h ⟨G.nx, G.er⟩⟩
    · exact h.elim
  exact to_ST (pt_cmpR hr pe_S pe_S hm) t⟩
end
end YP
set_option maxRecDepth 100000
set_option maxHeartbeats 2000000
/-! The yard's pure layer, part 37: a != b of an object with an own == and no own !=. -/
namespace OwnNe
open PySem PySem.Spec PyProof.Rows PySem.Builtin
section
variable {M : Model} {prog : Program} {w : World} {A : Around} {E : Value → Shared → Prop} {s : Shared} {K : PySem.W.Frag} {x y C f : Addr} {ox : Obj} {od : Option Obj} {tb : Value}
theorem ifBound_objNe {args : List Value} {Q : Option Value → Shared → Prop} (X : K.In s.heap) (I : PySem.W.InstAt s.heap x ox C od) (hs : PySem.W.findIn K (.ref C) "__ne__" = some (some (.builtin "object.__ne__")))
    (h : wpAny M A (call (.builtin "object.__ne__") (.ref x :: args)) (fun v => Q (some v)) E s) : wpAny M A (callSpecialIfBound? (.ref x) "__ne__" args) Q E s := by
  simp only [callSpecialIfBound?, bindSpecialIfBound?]
  refine wpAny_holding (wpAny_bind (wpAny_bind (wpAny_bind (I.type.here ((PySem.W.looks_findIn X hs).here ?_)))))
  refine wpAny_bind (wpAny_askSetting (wpAny_ite ?_))
  have fin : wpAny M A (call (.builtin "object.__ne__") ([.ref x] ++ args) >>= fun v => pure (some v)) Q E s := wpAny_bind (wpAny_mono h (fun v s' h' => wpAny_pure h') fun _ _ h' => h')
  split
  · exact wpAny_bind (wpAny_of_eq (F.cmp_object.ne.bind _) (wpAny_pure (by exact fin)))
  · exact wpAny_tryCatch (wpAny_bind (wpAny_of_eq (F.cmp_object.ne.bind _) (wpAny_pure (by exact fin))))
theorem entry_ne {Q : Fin → Shared → Prop} (hu : A.units < cLine) (X : K.In s.heap) (I : PySem.W.InstAt s.heap x ox C od) (hs : PySem.W.findIn K (.ref C) "__eq__" = some (some (.ref f))) (hf : PySem.W.isFn K (.ref f) = true)
    (h : wpAny M A (call (.ref f) [.ref x, .ref y]) (fun v s' => ∃ c, v = .bool c ∧ Q (.done (.ret (.bool (!c)))) s') E s) : wpAny M A (Builtin.«object.__ne__» ⟨[.ref x, .ref y], []⟩) Q E s := by
  unfold Builtin.«object.__ne__»
  repeat (first
    | with_reducible refine wpAny_cRoomFor hu ?_
    | (refine wpAny_bind (m := callSpecialIfBound? (.ref x) (Str.ofString "__eq__") [.ref y])
        (PySem.W.ifBound_K X I hs hf (wpAny_mono h (fun r s' hr => by
          obtain ⟨b, rfl, hq⟩ := hr
          repeat (first | exact hq | exact wpAny_pure hq | exact wpAny_truthy_bool hq | (refine wpAny_bind (m := truthy (.bool _)) (wpAny_truthy_bool ?_)) | wp_step)) fun _ _ e => e)))
    | wp_step)
theorem ne_K {Q : Value → Shared → Prop} (hu : A.units + 1 < cLine) (X : K.In s.heap) (I : PySem.W.InstAt s.heap x ox C od) (hb : PySem.W.Looks (model prog w) s.heap (typeOf (.ref y)) tb) (hn : PySem.W.notFirst K C tb = true)
    (hne : PySem.W.findIn K (.ref C) "__ne__" = some (some (.builtin "object.__ne__"))) (hm : PySem.W.mroIn K C (.type "object") = some true) (hs : PySem.W.findIn K (.ref C) "__eq__" = some (some (.ref f))) (hf : PySem.W.isFn K (.ref f) = true)
    (h : wpAny (model prog w) A.in1 (call (.ref f) [.ref x, .ref y]) (fun v s' => ∃ c, v = .bool c ∧ Q (.bool (!c)) s') E s) : wpAny (model prog w) A (richCompare .NotEq (.ref x) (.ref y)) Q E s := by
  have cal : wpAny (model prog w) A (call (.builtin "object.__ne__") [.ref x, .ref y]) (fun v s' => ∃ c, v = .bool c ∧ Q v s') E s :=
    wpAny_call (codeAny_call_builtin F.cmp_object.ne.plain F.cmpEntry_ne (PySem.W.check_slot F.cmpKind_ne F.cmpSplit_ne (I.type.andThen (PySem.W.looks_mroIn X hm)) (F.cmpArgs_ne _ _)
      (entry_ne (A := A.in1) hu X I hs hf (wpAny_mono h (fun v s' hv => by
        obtain ⟨c, rfl, hq⟩ := hv
        first
          | exact ⟨c, rfl, _, rfl, hq⟩
          | exact ⟨c, rfl, ⟨_, rfl, hq⟩⟩
          | exact ⟨c, rfl, wpAny_pure ⟨_, rfl, hq⟩⟩) fun _ _ e => e))))
  have one : wpAny (model prog w) A (tryCompare (.ref x) "__ne__" (.ref y)) (fun r s' => ∃ v, r = some v ∧ Q v s') E s := by
    unfold tryCompare
    refine wpAny_bind (ifBound_objNe X I hne (wpAny_mono cal (fun v s' hv => ?_) fun _ _ e => e))
    obtain ⟨c, rfl, hq⟩ := hv
    exact wpAny_pure ⟨_, rfl, hq⟩
  unfold richCompare
  simp only [oneThing_ref]
  refine wpAny_holding (wpAny_bind (wpAny_cRoomFor (by omega) ?_))
  refine wpAny_bind (I.type.here (wpAny_bind (hb.here ?_)))
  split
  · rename_i q
    have e : PySem.W.subIn K tb (.ref C) = some false := by
      rcases Bool.or_eq_true_iff.mp hn with e | e
      · rw [beq_iff_eq.mp e] at q; simp at q
      · exact beq_iff_eq.mp e
    refine wpAny_bind ((PySem.W.looks_subIn X e).here ?_)
    simp only [Bool.false_eq_true, if_false]
    refine wpAny_bind (wpAny_mono one (fun r s' z => ?_) fun _ _ e => e)
    obtain ⟨v, rfl, hq⟩ := z
    exact wpAny_pure hq
  · refine wpAny_bind (wpAny_pure ?_)
    simp only [Bool.false_eq_true, if_false]
    refine wpAny_bind (wpAny_mono one (fun r s' z => ?_) fun _ _ e => e)
    obtain ⟨v, rfl, hq⟩ := z
    exact wpAny_pure hq
end
end OwnNe
namespace L2
open PySem PySem.Spec PyProof.Rows
theorem op_ownNe {X : Cx} {k : Nat} {C f : Addr} {fd : FuncData} {ps : List Str} {sp : Sp} (F : FnOk X.prog X.w X.K X.mg X.base CX0 k f fd ps sp) (hr : Room (k + 1) X.A) (hne : PySem.W.findIn X.K (.ref C) "__ne__" = some (some (.builtin "object.__ne__"))) (hm : PySem.W.mroIn X.K C (.type "object") = some true)
    (hs : PySem.W.findIn X.K (.ref C) "__eq__" = some (some (.ref f))) (hf : PySem.W.isFn X.K (.ref f) = true) (hb : Binds X.K fd ps []) : OpR X (compareOp .NotEq) (rOwn C true sp) := by
  intro pins s σ H x y v u Q I rx ry h
  obtain ⟨a, b, dx, fs, rfl, rfl, ha, hb', hsp⟩ := h
  obtain rfl : v = Value.ref a := rx
  obtain rfl : u = Value.ref b := ry
  obtain ⟨mA, J, _⟩ := ins_get I.hok ha
  obtain ⟨od, J, _⟩ := J.look
  obtain ⟨tb, ht, hn⟩ := own_type I hb'
  show wpAny (model X.prog X.w) X.A (richCompare .NotEq (.ref a) (.ref b)) (EP X pins σ Q) X.xe s
  have hr1 : Room k X.A.in1 := hr.in1
  have hu : X.A.units + 1 < cLine := hr1.units0
  refine OwnNe.ne_K hu I.kIn J ht hn hne hm hs hf ?_
  have r2 : Vals [V.ref a, V.ref b] [Value.ref a, Value.ref b] := .cons rfl (.cons rfl .nil)
  have hl := F.len _ _ _ _ hsp
  have e0 : Env0 X.prog X.w X.K X.mg X.base X.A.in1 X.stack s H := by
    have e := I.env0
    exact ⟨e.frames, e.mod, e.bs, e.bsz, e.funs, e.frf, e.hok, e.bare⟩
  refine wpAny_call (codeAny_mono (F.run X.A.in1 X.stack s H ⟨[.ref a, .ref b], []⟩ [.ref a, .ref b] [.ref a, .ref b] _ _ hr1 e0 (by
    have := hb s [.ref a, .ref b] I.kIn (by simpa using hl)
    simpa using this) r2 hsp) fun r s' hq => ?_)
  cases r with
  | error e => exact pass0 pins σ H s e s' I hq
  | ok fl =>
    cases fl with
    | ret w =>
      obtain ⟨z, H', I', rz, c, ez, q⟩ := I.after hq
      subst ez
      cases rz
      rw [Bool.true_xor] at q
      exact ⟨c, rfl, .bl (!c), H', I', rfl, q⟩
    | next => exact False.elim hq
    | brk => exact False.elim hq
    | cont => exact False.elim hq
end L2
set_option maxRecDepth 100000
set_option maxHeartbeats 2000000
/-! The yard's pure layer, part 38: isinstance(x, C), C an own class. -/
namespace YP
open PySem PySem.Spec PyProof.Rows L2
/-- what of a class is asked by isinstance of its objects -/
structure IsO (K : PySem.W.Frag) (C : Addr) : Prop where
  cl : Cls K C
  ha : PySem.W.findIn K (.ref C) "__class__" = some (some (.builtin "object.__class__"))
  hn : PySem.W.specialIn K (.builtin "object.__class__") "__get__" = some (some (.builtin "getset_descriptor.__get__"))
  ht : PySem.W.takesIn K (.builtin "object.__class__") = some true
  hm : PySem.W.mroIn K C (.type "object") = some true
  hy : PySem.W.typeIn K (.ref C) = some (.type "type")
def oIsiO (K : PySem.W.Frag) (ds : List D) (T : Rv → Prop) : Prop := match ds with
  | [.obj C _, .ref c] => ∃ b, IsO K C ∧ PySem.W.kitOne K (.ref C) (.ref c) = some b ∧ T (.val (.bl b))
  | [d, .ref c] => ∃ n b, tyD d = some n ∧ PySem.W.kitOne K (.type n) (.ref c) = some b ∧ T (.val (.bl b))
  | _ => False
theorem cb_isiO {X : Cx} : CbS X (.builtin "isinstance") (oIsiO X.K) := .of call_isi fun {F H σ0 σ ρ B vs ds T Q} E w t g => by
  unfold oIsiO at t
  split at t
  · obtain ⟨b, io, hk, t⟩ := t
    obtain ⟨v, u, rfl, w1, w2⟩ := w.two
    cases w2.ref
    obtain ⟨a, dx, fv, rfl, h1, _⟩ := w1.obj E.sub
    exact ⟨_, _, _, _, b, rfl, .own _, .base (.ins h1 io.cl io.ha io.hn io.ht io.hm), hk, gt_val E g t (.bl _)⟩
  · obtain ⟨n, b, h1, hk, t⟩ := t
    obtain ⟨v, u, rfl, w1, w2⟩ := w.two
    cases w2.ref
    exact ⟨v, _, _, _, b, rfl, .own _, w1.tyx E.sub h1, hk, gt_val E g t (.bl _)⟩
  · exact t.elim
theorem kit_self {K : PySem.W.Frag} {c : Addr} : PySem.W.kitOne K (.ref c) (.ref c) = some true := by
  unfold PySem.W.kitOne
  rw [if_pos (by simp)]
theorem sub_no {K : PySem.W.Frag} {C : Addr} {n : String} (hn : n ∈ ["NoneType", "bool", "int", "str", "list", "tuple", "dict"]) : PySem.W.subIn K (.type n) (.ref C) = some false := by
  have key : ∀ ms : List Value, (∀ m ∈ ms, ∃ T, m = .type T) → ms.contains (.ref C) = false := fun ms h => by
    rw [List.contains_eq_any_beq, List.any_eq_false]
    intro m hm
    obtain ⟨T, rfl⟩ := h m hm
    simp
  have e : ∃ ms, fastBuiltinMro n = some ms ∧ ∀ m ∈ ms, ∃ T, m = Value.type T := by
    simp only [List.mem_cons, List.not_mem_nil, or_false] at hn
    rcases hn with rfl | rfl | rfl | rfl | rfl | rfl | rfl
    · exact ⟨[.type "NoneType", .type "object"], by decide +kernel, by simp⟩
    · exact ⟨[.type "bool", .type "int", .type "object"], by decide +kernel, by simp⟩
    · exact ⟨[.type "int", .type "object"], by decide +kernel, by simp⟩
    · exact ⟨[.type "str", .type "object"], by decide +kernel, by simp⟩
    · exact ⟨[.type "list", .type "object"], by decide +kernel, by simp⟩
    · exact ⟨[.type "tuple", .type "object"], by decide +kernel, by simp⟩
    · exact ⟨[.type "dict", .type "object"], by decide +kernel, by simp⟩
  obtain ⟨ms, e1, e2⟩ := e
  show (fastBuiltinMro n).map (·.contains (.ref C)) = some false
  rw [e1]
  show some (ms.contains (.ref C)) = some false
  rw [key ms e2]
theorem kit_no {K : PySem.W.Frag} {C : Addr} {n : String} {e : D} (io : IsO K C) (h : tyD e = some n) : PySem.W.kitOne K (.type n) (.ref C) = some false := by
  have hn : n ∈ ["NoneType", "bool", "int", "str", "list", "tuple", "dict"] := by
    cases e <;> cases h <;> decide
  obtain ⟨cd, hc, _⟩ := PySem.W.any_some io.cl.hd
  unfold PySem.W.kitOne
  rw [if_neg (by simp)]
  show (if ((PySem.W.clsIn K C).isSome && PySem.W.typeIn K (.ref C) == some (.type "type")) = true then PySem.W.subIn K (.type n) (.ref C) else none) = _
  rw [hc, io.hy, if_pos (by simp), sub_no hn]
end YP
set_option maxRecDepth 100000
set_option maxHeartbeats 2000000
/-! The yard's pure layer, part 39: x in a list, where each item is unlike by an own == that is asked turned about. -/
namespace InG
open PySem PySem.Spec PyProof.Rows GQ PySem.SeqAt MeetsSeq MeetsSeq2 MeetsSeq3 SeqRoads2
section
variable {prog : Program} {w : World} {A : Around} {R : Result → Shared → Prop} {E : Value → Shared → Prop}
theorem in_loopG (l : Addr) (x : Value) (N : Nat) (I : Nat → Shared → Prop)
    (hl : ∀ i s, I i s → ∃ (items : Array Value) (n : Nat), s.heap.get? l = some { cls := .type "list", data := .seq items n } ∧ items.size = N ∧ ∀ (h1 : i < items.size), wpAny (model prog w) A.in1 (eqBool items[i] x) (fun r s' => r = false ∧ I (i + 1) s') (fun e s' => R (.error e) s') s)
    (fin : ∀ s, I N s → R (.ok (.ret (.bool false))) s) (k : Nat) :
    ∀ i : Nat, N - i = k → i ≤ N → ∀ s, I i s → wpAny (model prog w) A.in1 (Builtin.«list.__contains__.loop» ⟨[.ref l, x, rawInt i], []⟩) (FinOf prog w A R) (fun e s' => R (.error e) s') s := by
  induction k with
  | zero =>
    intro i hk hi s h
    obtain ⟨items, n, hl1, hs1, _⟩ := hl _ _ h
    have hi' : i = N := by omega
    have hR : R (.ok (.ret (.bool false))) s := fin s (hi' ▸ h)
    obtain ⟨hp, g, d, tk, os⟩ := s
    wp_walk using wpAny_loadPart' hl1
    have hi1 : items[((i : Nat) : Int).toNat]? = none := by simp; omega
    rw [hi1]
    wp_walk using wpAny_loadPart' hl1
    exact hR
  | succ k ih =>
    intro i hk hi s h
    obtain ⟨items, n, hl1, hs1, turn⟩ := hl _ _ h
    have hlt : i < items.size := by omega
    have ht := turn hlt
    obtain ⟨hp, g, d, tk, os⟩ := s
    wp_walk using wpAny_loadPart' hl1
    have hi1 : items[((i : Nat) : Int).toNat]? = some items[i] := by simp [hlt]
    have hc : ((i : Int) + 1) = ((i + 1 : Nat) : Int) := by omega
    rw [hi1]
    refine wpAny_bind (wpAny_mono ht (fun r s2 h2 => ?_) fun _ _ x => x)
    obtain ⟨hr, h2⟩ := h2
    subst hr
    have hrec := ih (i + 1) (by omega) (by omega) s2 h2
    obtain ⟨hp2, g2, d2, tk2, os2⟩ := s2
    wp_walk
    rw [hc]
    exact ⟨plainId_quiet plain_contains_loop _, codeAny_builtin entry_contains_loop (by
      rw [Around.under_plainId plain_contains_loop _]
      exact hrec)⟩
end
end InG
set_option maxRecDepth 100000
set_option maxHeartbeats 2000000
/-! The yard's pure layer, part 40: u == x where u's own == declines and x's is asked turned about. -/
namespace InG
open PySem PySem.Spec PyProof.Rows
section
variable {prog : Program} {w : World} {A : Around} {E : Value → Shared → Prop} {s : Shared} {K : PySem.W.Frag} {x C f : Addr} {ox : Obj} {od : Option Obj}
theorem rc_turned {u : Value} {T : String} {id : String} {Q : Value → Shared → Prop} (hu : A.units < cLine) (X : K.In s.heap) (I : PySem.W.InstAt s.heap x ox C od) (hT : s.TypeIs u T) (h1 : oneThing? .Eq u (.ref x) = none) (hsub : PySem.W.subIn K (.ref C) (.type T) = some false)
    (dec : wpAny (model prog w) A (tryCompare u "__eq__" (.ref x)) (fun r s' => r = none ∧ s' = s) E s) (hs : PySem.W.findIn K (.ref C) "__eq__" = some (some (.ref f))) (hf : PySem.W.isFn K (.ref f) = true)
    (h : wpAny (model prog w) A (call (.ref f) [.ref x, u]) (PySem.W.CmpBack Q) E s) : wpAny (model prog w) A (richCompare .Eq u (.ref x)) Q E s := by
  have one : wpAny (model prog w) A (tryCompare (.ref x) "__eq__" u) (fun r s' => ∃ v, r = some v ∧ Q v s') E s := by
    unfold tryCompare
    refine wpAny_bind (PySem.W.ifBound_K X I hs hf (wpAny_mono h (fun v s' hv => ?_) fun _ _ e => e))
    cases v <;> first | exact hv.elim | exact wpAny_pure ⟨_, rfl, hv⟩
  unfold richCompare
  simp only [h1, cmpInfo_Eq]
  refine wpAny_holding (wpAny_bind (wpAny_cRoomFor hu ?_))
  refine wpAny_bind (wpAny_typeOf hT ?_)
  refine wpAny_bind (I.type.here ?_)
  split
  · refine wpAny_bind ((PySem.W.looks_subIn X hsub).here ?_)
    simp only [Bool.false_eq_true, if_false, Bool.not_false, if_true]
    refine wpAny_bind (m := tryCompare u _ (.ref x)) (wpAny_mono dec (fun r s1 z => ?_) fun _ _ e => e)
    obtain ⟨z1, z2⟩ := z
    subst z1
    subst z2
    refine wpAny_bind (m := tryCompare (.ref x) _ u) (wpAny_mono one (fun r s2 z => ?_) fun _ _ e => e)
    obtain ⟨v, rfl, hq⟩ := z
    exact wpAny_pure hq
  · rename_i q
    exact absurd (by simp) q
end
end InG
namespace InG
open PySem PySem.Spec PyProof.Rows PySem.SeqAt
section
variable {prog : Program} {w : World} {A : Around} {E : Value → Shared → Prop} {s : Shared} {K : PySem.W.Frag} {x C f : Addr} {ox : Obj} {od : Option Obj}
theorem eqB_turned {u : Value} {T : String} {Q : Bool → Shared → Prop} (hu : A.units < cLine) (X : K.In s.heap) (I : PySem.W.InstAt s.heap x ox C od) (hT : s.TypeIs u T) (hne : (u == .ref x) = false) (h1 : oneThing? .Eq u (.ref x) = none) (hsub : PySem.W.subIn K (.ref C) (.type T) = some false)
    (dec : wpAny (model prog w) A (tryCompare u "__eq__" (.ref x)) (fun r s' => r = none ∧ s' = s) E s) (hs : PySem.W.findIn K (.ref C) "__eq__" = some (some (.ref f))) (hf : PySem.W.isFn K (.ref f) = true)
    (h : wpAny (model prog w) A (call (.ref f) [.ref x, u]) (fun v s' => ∃ c, v = .bool c ∧ Q c s') E s) : wpAny (model prog w) A (eqBool u (.ref x)) Q E s := by
  unfold eqBool
  refine wpAny_holding ?_
  refine wpAny_ite_split (fun hab => absurd hab (by rw [hne]; exact Bool.false_ne_true)) (fun _ => ?_)
  dsimp only
  split
  · rename_i e
    exact nomatch (Prod.mk.inj e).2
  refine wpAny_bind (rc_turned (id := "") hu X I hT h1 hsub dec hs hf (wpAny_mono h (fun v s' hv => ?_) fun _ _ e => e))
  obtain ⟨c, rfl, hq⟩ := hv
  exact wpAny_truthy_bool hq
end
end InG
set_option maxRecDepth 100000
set_option maxHeartbeats 2000000
/-! The yard's pure layer, part 41: built-in == that declines an instance. -/
namespace InG
open PySem PySem.Spec PyProof.Rows PySem.SeqAt
open AutoSeq1 (wpAny_loadPart')
theorem int_declines_ins (b : Int) (u : Tok) (l : Addr) (c dx : Addr) :
    Meets (Builtin.«int.__eq__» ⟨[.int b u, .ref l], []⟩) (fun _ R s => s.heap.get? l = some ({ cls := .ref c, dict := some dx, data := .plain } : Obj) ∧ R (.ok (.ret .notImplemented)) s) :=
  .of_wp fun prog w A R s h => by obtain ⟨hp, g, d, tk, os⟩ := s; obtain ⟨hl, h⟩ := h; wp_walk using wpAny_loadPart' hl, wpAny_load hl; exact ⟨_, rfl, h⟩
theorem str_declines_ins (b : Str) (u : Tok) (l : Addr) (c dx : Addr) :
    Meets (Builtin.«str.__eq__» ⟨[.str b u, .ref l], []⟩) (fun _ R s => s.heap.get? l = some ({ cls := .ref c, dict := some dx, data := .plain } : Obj) ∧ R (.ok (.ret .notImplemented)) s) :=
  .of_wp fun prog w A R s h => by obtain ⟨hp, g, d, tk, os⟩ := s; obtain ⟨hl, h⟩ := h; wp_walk using wpAny_loadPart' hl, wpAny_load hl; exact ⟨_, rfl, h⟩
theorem tc_int {prog : Program} {w : World} {A : Around} {E : Value → Shared → Prop} {s : Shared} {b : Int} {u : Tok} {l c dx : Addr} (hl : s.heap.get? l = some (PySem.W.instObj c dx)) : wpAny (model prog w) A (tryCompare (.int b u) "__eq__" (.ref l)) (fun r s' => r = none ∧ s' = s) E s :=
  wpAny_tryCompare_declines (typeIs_int s b u) PySem.F.slot_int_eq (call_meets PySem.F.slot_int_eq (typeIs_int s b u) PySem.F.entry_int_eq (PySem.F.args_int_eq_2 _ _) (int_declines_ins b u l c dx) ⟨hl, rfl, rfl, rfl⟩)
theorem tc_str {prog : Program} {w : World} {A : Around} {E : Value → Shared → Prop} {s : Shared} {b : Str} {u : Tok} {l c dx : Addr} (hl : s.heap.get? l = some (PySem.W.instObj c dx)) : wpAny (model prog w) A (tryCompare (.str b u) "__eq__" (.ref l)) (fun r s' => r = none ∧ s' = s) E s :=
  wpAny_tryCompare_declines (T := "str") rfl PySem.F.slot_str_eq (call_meets PySem.F.slot_str_eq rfl PySem.F.entry_str_eq (PySem.F.args_str_eq_2 _ _) (str_declines_ins b u l c dx) ⟨hl, rfl, rfl, rfl⟩)
theorem tc_none {prog : Program} {w : World} {A : Around} {E : Value → Shared → Prop} {s : Shared} {l : Addr} : wpAny (model prog w) A (tryCompare .none "__eq__" (.ref l)) (fun r s' => r = none ∧ s' = s) E s :=
  wpAny_tryCompare_declines (show s.TypeIs .none "NoneType" from rfl) F.slot_NoneType_eq_refl (call_gives F.slot_NoneType_eq_refl rfl F.entry_NoneType_eq (F.args_NoneType_eq_2 _ _) (NoneType___eq___none_ref_0 l) ⟨rfl, rfl, rfl⟩)
end InG
namespace InG
open PySem PySem.Spec PyProof.Rows PySem.SeqAt
theorem tc_dict {prog : Program} {w : World} {A : Around} {E : Value → Shared → Prop} {s : Shared} {K : PySem.W.Frag} {a l C : Addr} {ox : Obj} {od : Option Obj} {κ : Type} [DecidableEq κ] {knd : KeyKind prog w κ} {ka : List (κ × Value)} (da : s.heap.DictOf knd a ka) (X : K.In s.heap) (I : PySem.W.InstAt s.heap l ox C od)
    (hsub : PySem.W.subIn K (.ref C) (.type "dict") = some false) : wpAny (model prog w) A (tryCompare (.ref a) "__eq__" (.ref l)) (fun r s' => r = none ∧ s' = s) E s := by
  refine wpAny_tryCompare_declines da.typeIs PySem.F.slot_dict_eq (wpAny_call_entry PySem.F.slot_dict_eq da.typeIs PySem.F.entry_dict_eq ?_ (PySem.F.args_dict_eq_2 _ _))
  show wpAny _ _ (Builtin.Dict.dictSlotArgs "__eq__" ⟨[.ref a, .ref l], []⟩ >>= _) _ _ s
  refine wpAny_bind ?_
  unfold Builtin.Dict.dictSlotArgs
  refine wpAny_bind (wpAny_notOrdered_dict da.typeIs ?_)
  show wpAny _ _ (pure (Value.ref a, Value.ref l)) _ _ s
  refine wpAny_pure ?_
  have sub : PySem.W.Looks (model prog w) s.heap (isInstance (.ref l) (.type "dict")) false := I.type.andThen (PySem.W.looks_subIn X hsub)
  refine wpAny_bind (sub.here ?_)
  simp only [Bool.not_false, if_true]
  exact wpAny_bind (wpAny_rule (wpAny_pure ⟨_, rfl, by simp⟩))
end InG
set_option maxRecDepth 100000
set_option maxHeartbeats 2000000
/-! The yard's pure layer, part 42: x in l by in_loopG. -/
namespace InG
open PySem PySem.Spec PyProof.Rows GQ PySem.SeqAt MeetsSeq MeetsSeq2 MeetsSeq3 SeqRoads2
open AutoSeq1 (wpAny_loadPart')
section
variable {prog : Program} {w : World} {A : Around} {E : Value → Shared → Prop} {s : Shared}
def Turns (prog : Program) (w : World) (l : Addr) (x : Value) (N : Nat) (I : Nat → Shared → Prop) (A : Around) (E : Value → Shared → Prop) : Prop :=
  ∀ i s, I i s → ∃ (items : Array Value) (n : Nat), s.heap.get? l = some { cls := .type "list", data := .seq items n } ∧ items.size = N ∧ ∀ (h1 : i < items.size), wpAny (model prog w) A.in1 (eqBool items[i] x) (fun r s' => r = false ∧ I (i + 1) s') E s
theorem list_inG (l : Addr) (x : Value) (N : Nat) (I : Nat → Shared → Prop) : MeetsIn prog w (Builtin.«list.__contains__» ⟨[.ref l, x], []⟩)
    (fun A R s => Turns prog w l x N I A (fun e s' => R (.error e) s') ∧ (∀ s, I N s → R (.ok (.ret (.bool false))) s) ∧ I 0 s) := by
  intro A R s h
  obtain ⟨hl, fin, h0⟩ := h
  have hrec := in_loopG (A := A) (R := R) l x N I hl fin _ 0 rfl (Nat.zero_le _) s h0
  obtain ⟨items, n, hl1, hs1, _⟩ := hl _ _ h0
  obtain ⟨hp, g, d, tk, os⟩ := s
  wp_walk using wpAny_loadPart' hl1
  exact ⟨plainId_quiet plain_contains_loop _, codeAny_builtin entry_contains_loop (by
    rw [Around.under_plainId plain_contains_loop _]
    exact hrec)⟩
theorem in_listG {l : Addr} {x : Value} {Q : Value → Shared → Prop} (N : Nat) (I : Nat → Shared → Prop) (hT : s.TypeIs (.ref l) "list") (hl : Turns prog w l x N I A E) (fin : ∀ s, I N s → Q (.bool false) s) (h0 : I 0 s) :
    wpAny (model prog w) A (compareOp .In x (.ref l)) Q E s := by
  show wpAny _ A (do return .bool (← contains (.ref l) x)) Q E s
  refine wpAny_bind (wpAny_contains_slot hT F.slot_list_contains (wpAny_mono (call_meetsIn F.slot_list_contains hT F.entry_list_contains (F.args_list_contains_2 _ _) (list_inG l x N I) (Q := fun v s' => v = .bool false ∧ I N s') ⟨hl, fun s h => ⟨rfl, h⟩, h0⟩) (fun v s' hv => ?_) fun _ _ e => e))
  obtain ⟨rfl, hq⟩ := hv
  exact wpAny_truthy_bool (wpAny_pure (fin _ hq))
end
end InG
set_option maxRecDepth 100000
set_option maxHeartbeats 2000000
/-! The yard's pure layer, part 43: x in [..], x with an own == that is unlike each. -/
namespace L2
open PySem PySem.Spec PyProof.Rows
/-- None, a number, a text, a dict -/
def DeclV (H : Hp) (z : V) : Prop := z = .non ∨ (∃ i, z = .int i) ∨ (∃ t, z = .str t) ∨ ∃ d kvs, z = .ref d ∧ Rd H d (.dK kvs)
def rInOwn (C : Addr) (sp : Sp) : R2 := fun x y H Q => ∃ (p l : Addr) (xs : List V) (G : Nat → Hp → Prop), x = .ref p ∧ y = .ref l ∧ G 0 H ∧
  (∀ i H', G i H' → (∃ dx fs, H' p = some (.ins C dx fs)) ∧ H' l = some (.lst xs) ∧ ∀ z, xs[i]? = some z → DeclV H' z ∧ sp [.ref p, z] H' (fun v H'' => v = .bl false ∧ G (i + 1) H'') fun _ _ _ => False) ∧ ∀ H', G xs.length H' → Q (.bl false) H'
theorem op_inOwn {X : Cx} {k : Nat} {C f : Addr} {fd : FuncData} {ps : List Str} {sp : Sp} (F : FnOk X.prog X.w X.K X.mg X.base CX0 k f fd ps sp) (hr : Room (k + 1) X.A) (hsub : ∀ T ∈ ["NoneType", "int", "str", "dict"], PySem.W.subIn X.K (.ref C) (.type T) = some false)
    (hs : PySem.W.findIn X.K (.ref C) "__eq__" = some (some (.ref f))) (hf : PySem.W.isFn X.K (.ref f) = true) (hb : Binds X.K fd ps []) : OpR X (compareOp .In) (rInOwn C sp) := by
  intro pins s σ H x y v u Q I rx ry h
  obtain ⟨p, l, xs, G, rfl, rfl, g0, turn, fin⟩ := h
  obtain rfl : v = Value.ref p := rx
  obtain rfl : u = Value.ref l := ry
  have hr1 : Room k X.A.in1 := hr.in1
  obtain ⟨_, hl0, _⟩ := turn 0 H g0
  obtain ⟨z0, its0, n0, r0, len0, e0⟩ := I.lstM hl0
  refine InG.in_listG xs.length (fun i s' => ∃ H', Inv X pins σ H' s' ∧ G i H') ⟨_, e0, rfl⟩ ?_ (fun s' ⟨H', I', g⟩ => ⟨.bl false, H', I', rfl, fin H' g⟩) ⟨H, I, g0⟩
  rintro i s' ⟨H', I', gi⟩
  obtain ⟨⟨dx, fs, hp⟩, hl, tz⟩ := turn i H' gi
  obtain ⟨z1, its, n, r, len, e⟩ := I'.lstM hl
  refine ⟨its.toArray, n, e, by rw [List.size_toArray]; exact len.symm, fun h1 => ?_⟩
  have hi : i < xs.length := by rw [List.size_toArray] at h1; omega
  have hz : xs[i]? = some xs[i] := List.getElem?_eq_getElem hi
  obtain ⟨dz, hsp⟩ := tz _ hz
  obtain ⟨uu, e1, ru⟩ := r.get hz
  have eu : its.toArray[i] = uu := by
    have : its[i]? = some its[i] := List.getElem?_eq_getElem (by rw [List.size_toArray] at h1; exact h1)
    rw [e1] at this
    simpa using (Option.some.inj this).symm
  rw [eu]
  generalize xs[i] = z at hsp dz ru
  obtain ⟨mA, J0, _⟩ := ins_get I'.hok hp
  obtain ⟨od, J, _⟩ := J0.look
  obtain ⟨_, _, _, hobj, _⟩ := (show ObjOk X.prog X.w H' s'.heap p (.ins C dx fs) from I'.hok p _ hp)
  have cal : wpAny (model X.prog X.w) X.A.in1 (call (.ref f) [.ref p, uu]) (fun v s2 => ∃ c, v = .bool c ∧ (c = false ∧ ∃ H'', Inv X pins σ H'' s2 ∧ G (i + 1) H'')) X.xe s' := by
    have r2 : Vals [V.ref p, z] [Value.ref p, uu] := .cons rfl (.cons ru .nil)
    have hlen := F.len _ _ _ _ hsp
    have e0 : Env0 X.prog X.w X.K X.mg X.base X.A.in1 X.stack s' H' := by
      have e := I'.env0
      exact ⟨e.frames, e.mod, e.bs, e.bsz, e.funs, e.frf, e.hok, e.bare⟩
    refine wpAny_call (codeAny_mono (F.run X.A.in1 X.stack s' H' ⟨[.ref p, uu], []⟩ [.ref p, uu] [.ref p, z] _ _ hr1 e0 (by
      have := hb s' [.ref p, uu] I'.kIn (by simpa using hlen)
      simpa using this) r2 hsp) fun r s2 hq => ?_)
    cases r with
    | error e => exact pass0 pins σ H' s' e s2 I' hq
    | ok fl =>
      cases fl with
      | ret w =>
        obtain ⟨zz, H2, I2, rz, ez, g2⟩ := I'.after hq
        subst ez
        cases rz
        exact ⟨false, rfl, rfl, H2, I2, g2⟩
      | next => exact False.elim hq
      | brk => exact False.elim hq
      | cont => exact False.elim hq
  have hu : X.A.in1.units < cLine := hr1.units0
  rcases dz with rfl | ⟨j, rfl⟩ | ⟨t, rfl⟩ | ⟨d, kvs, rfl, hd⟩
  · cases (show uu = Value.none from ru)
    exact InG.eqB_turned hu I'.kIn J (T := "NoneType") rfl rfl rfl (hsub _ (by simp)) InG.tc_none hs hf cal
  · obtain ⟨tk, rfl⟩ := (show ∃ t, uu = Value.int j t from ru)
    exact InG.eqB_turned hu I'.kIn J (T := "int") rfl rfl rfl (hsub _ (by simp)) (InG.tc_int hobj) hs hf cal
  · obtain ⟨tk, rfl⟩ := (show ∃ t', uu = Value.str t t' from ru)
    exact InG.eqB_turned hu I'.kIn J (T := "str") rfl rfl rfl (hsub _ (by simp)) (InG.tc_str hobj) hs hf cal
  · cases (show uu = Value.ref d from ru)
    obtain ⟨_, _, vs, rel, dd⟩ := dk_rd I'.hok hd
    have hne : d ≠ p := by
      rintro rfl
      rcases hd with hd | ⟨_, hd⟩ <;> rw [hp] at hd <;> cases hd
    exact InG.eqB_turned hu I'.kIn J (T := "dict") dd.typeIs (by simpa using hne) rfl (hsub _ (by simp)) (InG.tc_dict dd I'.kIn J (hsub _ (by simp))) hs hf cal
end L2
set_option maxRecDepth 100000
set_option maxHeartbeats 2000000
/-! The yard's pure layer, part 44: x in [..] as a reading. -/
namespace YP
open PySem PySem.Spec PyProof.Rows L2
def declD : D → Bool
  | .non => true
  | .int _ => true
  | .str _ => true
  | .dic _ => true
  | _ => false
section
variable {X : Cx} {a b : Expr} {ua ub : UE} {C : Addr} {u : UF} {pos : Pos} {F H : Hp} {σ0 σ : L2.St} {ρ : List Sl} {B : Addr → Prop}
def uInOwn (C : Addr) (u : UF) (ua ub : UE) : UE := fun ρ R => ua ρ fun r ρ1 => ub ρ1 fun q ρ2 => ∃ fs ds, r = .val (.obj C fs) ∧ q = .own (.lst ds) ∧ (∀ z ∈ ds, declD z = true) ∧
  (∀ z ∈ ds, u [Sl.sl false false (.obj C fs), Sl.sl false false z] fun z' _ => z' = .val (.bl false)) ∧ R (.val (.bl false)) ρ2
theorem declV_of {K : PySem.W.Frag} {F H : Hp} {v : V} {z : D} (s : Same F H) (h : RD K F v z) (e : declD z = true) : DeclV H v := by
  cases h with
  | non => exact .inl rfl
  | int i => exact .inr (.inl ⟨i, rfl⟩)
  | str x => exact .inr (.inr (.inl ⟨x, rfl⟩))
  | dic h t => exact .inr (.inr (.inr ⟨_, _, rfl, rd_mono s h⟩))
  | _ => cases e
theorem inOwn_bin (ho : OpR X (compareOp .In) (rInOwn C (PSp X.K 2 u))) (ha : FE X a ua) (hb : FE X b ub) {R : Rv → List Sl → Prop} {Q : VK} (h : uInOwn C u ua ub ρ R) (E : ER X.K F H σ0 ρ σ B)
    (g : ∀ r ρ' v F' H', R r ρ' → Gt X.K F H F' H' σ0 ρ' σ B r v → Q v H') : ∃ r : R2, OpR X (compareOp .In) r ∧ tS X a σ H fun x H1 => tS X b σ H1 fun y H2 => r x y H2 Q := by
  refine ⟨_, ho, FE.two ha hb h E (fun x y H2 => rInOwn C (PSp X.K 2 u) x y H2 Q) fun r q ρ2 x y F2 H2 t n2 E2 r1 r2 => ?_⟩
  obtain ⟨fs, ds, rfl, rfl, dc, hu, hR⟩ := t
  have rx : RD X.K F2 x (.obj C fs) := r1
  have r2' : RR X.K F2 H2 ρ2 σ B (.own (.lst ds)) y := r2
  have E3 := E2.hold r2'
  obtain ⟨l, rfl, ro, nF, nB, _⟩ := r2'
  have rx0 := rx
  cases rx with
  | @obj p _ dx fv _ hp rf =>
  cases ro with
  | @lst _ vs _ hl rl =>
  refine ⟨p, l, vs, fun i H' => ∃ F', Gd X.K F2 H2 F' H' σ0 ρ2 σ (hB B (.own (.lst ds)) (.ref l)), rfl, rfl, ⟨F2, .refl _ _ _, E3⟩, ?_, fun H' ⟨F', G⟩ => g _ ρ2 _ F' H' hR ⟨n2.trans (G.nx.mono hB_sub), G.er.unhold, .bl _⟩⟩
  rintro i H' ⟨F', G⟩
  refine ⟨⟨dx, fv, G.er.sub _ _ (G.nx.fz _ _ hp)⟩, by rw [G.nx.out l (.inr rfl)]; exact hl, fun z hz => ?_⟩
  obtain ⟨d, hd, rd⟩ := rl.get hz
  have dm := List.mem_of_getElem? hd
  have rd' := rd.mono G.nx.fz
  have rp := rx0.mono G.nx.fz
  refine ⟨declV_of G.er.sub rd' (dc d dm), ?_⟩
  have L : RRs X.K F' H' ρ2 σ (hB B (.own (.lst ds)) (.ref l)) [.val (.obj C fs), .val d] [V.ref p, z] := ⟨rp, rd', trivial⟩
  refine ⟨_, F', bB (hB B (.own (.lst ds)) (.ref l)) ρ2 σ [.val (.obj C fs), .val d], _, rfl, rfl, G.er.into L List.nodup_nil, hu d dm, fun z' ss v F'' H'' hz' nx E' rr na => ?_⟩
  subst hz'
  have rc : RD X.K F'' v (.bl false) := rr
  cases rc
  have G' := G.er.behind L List.nodup_nil nx E' rr na
  have ew : wb ρ2 [.val (.obj C fs), .val d] ss = ρ2 := wb_no (rs := [.val (.obj C fs), .val d]) ss rfl
  rw [ew] at G'
  exact ⟨rfl, F'', G.nx.trans G'.nx, G'.er⟩
theorem fe_inOwn (ho : OpR X (compareOp .In) (rInOwn C (PSp X.K 2 u))) (ha : FE X a ua) (hb : FE X b ub) (hm : behindInMarks .In b = false := by rfl) : FE X (.Compare a [.In] [b] pos) (uInOwn C u ua ub) := ⟨fun ρ R q F H σ0 σ B Q E g => by
  obtain ⟨r, hr, t⟩ := inOwn_bin ho ha hb q E g
  exact to_S (pe_cmpR hr pe_S pe_S hm) t⟩
theorem ft_inOwn (ho : OpR X (compareOp .In) (rInOwn C (PSp X.K 2 u))) (ha : FE X a ua) (hb : FE X b ub) (hm : behindInMarks .In b = false := by rfl) : FT X (.Compare a [.In] [b] pos) (fun ρ R => uInOwn C u ua ub ρ (isB R)) := ⟨fun ρ R q F H σ0 σ B Q E g => by
  obtain ⟨r, hr, t⟩ := inOwn_bin (Q := fun x H' => ∃ k, x = .bl k ∧ Q k H') ho ha hb q E fun r ρ' v F' H' h G => by
    unfold isB at h
    split at h
    · rename_i c
      have rr : RD X.K F' v (.bl c) := G.rr
      cases rr
      exact ⟨c, rfl, g c ρ' F' H' h ⟨G.nx, G.er⟩⟩
    · exact h.elim
  exact to_ST (pt_cmpR hr pe_S pe_S hm) t⟩
end
end YP
set_option maxRecDepth 100000
set_option maxHeartbeats 2000000
/-! The yard's pure layer, part 45: name = [.. for k in d ..] on one line, d a dict. -/
namespace YP
open PySem PySem.Spec PyProof.Rows L2
section
variable {X : Cx}
theorem fs_setLcL {i : Nat} {y : Str} {py : Pos} {elt tg iter : Expr} {ifs : List Expr} {scope : Scope} {own : List (Str × Nat)} {pos spos : Pos} {w : UI} {g : UG} {tt : UT} {te : UE} (hc : X.calm = true) (hN : X.N.Nodup) (hy : X.N[i]? = some y) (hyl : X.env.scope.names.lookup y = some .local)
    (hsw : swapsWith (.ListComp elt [⟨tg, iter, ifs, 0⟩] scope pos) (some (.Name y py)) spos.line X.env = pure true) (hi : FIL X tg iter w) (ok : BlkOk X.N X.env.scope scope own)
    (hg : ∀ (s : Shared) (H : Hp) (C : Addr) (cl : List (Str × Addr)) (fp : List Addr), FG (X.blk s H scope (compEnvC scope cl C X.env) fp) (some (own.map (·.2))) tg g)
    (ht : ∀ (s : Shared) (H : Hp) (C : Addr) (cl : List (Str × Addr)) (fp : List Addr), FTs (X.blk s H scope (compEnvC scope cl C X.env) fp) ifs tt)
    (he : ∀ (s : Shared) (H : Hp) (C : Addr) (cl : List (Str × Addr)) (fp : List Addr), FE (X.blk s H scope (compEnvC scope cl C X.env) fp) elt te) (hs : ∀ x, foldedSetIterable iter X.env x = pure x := by intro _; rfl) :
    FS X (.Assign [.Name y py] (.ListComp elt [⟨tg, iter, ifs, 0⟩] scope pos) spos) (uSet i (uLc w g tt te (own.map (·.2)))) := ⟨fun E ρ q F H σ0 σ B D er f => by
  refine to_SS (ps_unl (ps_setLc hc hN hy hyl hsw pi_S ok pg_bS pts_bS pe_bS hs)) ?_
  refine lc_tlL hi (fun _ _ _ _ _ => rfl) hg ht he q er fun r ρ1 v F1 H1 z G => ?_
  obtain ⟨F2, ρ2, n2, er2, z⟩ := G.er.put G.rr z
  exact f.nx ρ2 _ F2 H1 z ⟨G.nx.trans n2, er2⟩⟩
end
end YP
set_option maxRecDepth 100000
set_option maxHeartbeats 2000000
/-! The yard's pure layer, part 46: the law's end over a pure promise. -/
namespace YP
open PySem PySem.Spec PyProof.Rows L2 Yard
theorem law_O {P : Program} {w : World} {K : PySem.W.Frag} {mg : Str → Option Value} {base : Heap} {CX : CXT} {k : Nat} {f : Addr} {fd : FuncData} (Fn : FnOk P w K mg base CX k f fd ["script"] (PSp K 1 uLaw)) : FnOk P w K mg base CX k f fd ["script"] (spLaw K) := by
  refine Fn.imp fun vs H Q E ⟨a, ns, e, hS, hl, q⟩ => ?_
  subst e
  refine ⟨[dat (.scr ns)], H, fun _ => False, fun r _ => r = .val (.bl true), rfl, rfl, ?_, ⟨ns, rfl, hl, fun _ => rfl⟩, fun r ρ' v F' H' hr nx er rr na => ?_⟩
  · refine ⟨rfl, Same.refl _, fun i p d h => ?_, fun i p d h => ?_, fun i j b p q d e h1 h2 h3 h4 => ?_, fun i o d h => ?_, fun b hb => hb.elim⟩
    · match i, h with
      | 0, h => cases h; exact ⟨.ref a, rfl, .scr hS⟩
    · match i, h with
      | 0, h => cases h
    · match i, h1 with
      | 0, h1 => cases h1
    · match i, h with
      | 0, h => cases h
  · subst hr
    have rr : RD K F' v (.bl true) := rr
    cases rr
    exact q H'
end YP
set_option maxRecDepth 100000
set_option maxHeartbeats 2000000
/-! The yard's pure layer, part 47: things of one's own within things of one's own: they are named by their addresses and kept aside. -/
namespace YP
open PySem PySem.Spec PyProof.Rows L2
/-- what is kept aside: by its address, what stands there; only this def may reach it -/
abbrev Gh := Addr → Option D
def g0 : Gh := fun _ => none
def gput (g : Gh) (a : Addr) (d : D) : Gh := fun b => if b = a then some d else g b
theorem gput_same {g : Gh} {a : Addr} {d : D} : gput g a d a = some d := if_pos rfl
theorem gput_ne {g : Gh} {a b : Addr} {d : D} (h : b ≠ a) : gput g a d b = g b := if_neg h
def asB (B : Addr → Prop) (g : Gh) : Addr → Prop := fun a => B a ∨ g a ≠ none
structure EG (K : PySem.W.Frag) (F H : Hp) (σ0 : L2.St) (ρ : List Sl) (σ : L2.St) (B : Addr → Prop) (g : Gh) : Prop where
  er : ER K F H σ0 ρ σ (asB B g)
  gs : ∀ a d, g a = some d → RO K F H (.ref a) d ∧ ¬ B a
structure GG (K : PySem.W.Frag) (F H F' H' : Hp) (σ0 : L2.St) (ρ : List Sl) (σ : L2.St) (B : Addr → Prop) (g : Gh) : Prop where
  nx : Nx F H F' H' B
  eg : EG K F' H' σ0 ρ σ B g
section
variable {K : PySem.W.Frag} {F F' H H' F1 : Hp} {σ0 σ σ' : L2.St} {ρ ρ' ρ1 : List Sl} {B : Addr → Prop} {g g' g1 : Gh} {a : Addr} {d d' : D}
theorem some_ne {α : Type} {o : Option α} {x : α} (h : o = some x) : o ≠ none := fun z => by rw [h] at z; cases z
theorem EG.out (E : EG K F H σ0 ρ σ B g) (h : g a = some d) : F a = none := (E.er.out a (.inr (some_ne h))).2
theorem EG.go (E : EG K F H σ0 ρ σ B g) (G : Gd K F H F' H' σ0 ρ' σ' (asB B g)) : GG K F H F' H' σ0 ρ' σ' B g :=
  ⟨G.nx.mono fun _ => .inl, G.er, fun a d h => let ⟨ro, nb⟩ := E.gs a d h; ⟨ro.keep G.nx.fz (G.nx.out a (.inr (some_ne h))), nb⟩⟩
theorem ER.g0 (E : ER K F H σ0 ρ σ B) : EG K F H σ0 ρ σ B g0 := ⟨E.less fun c h => h.elim (fun h => h) fun z => absurd rfl z, fun _ _ h => nomatch h⟩
theorem EG.plain (E : EG K F H σ0 ρ σ B g) : ER K F H σ0 ρ σ B := E.er.less fun _ => .inl
/-- what is kept aside is written -/
theorem EG.wrote {o : HO} (E : EG K F H σ0 ρ σ B g) (h : g a = some d) (ro : RO K F (upd H a o) (.ref a) d') : EG K F (upd H a o) σ0 ρ σ B (gput g a d') ∧ Nx F H F (upd H a o) B := by
  have fa := E.out h
  obtain ⟨_, nB⟩ := E.gs a d h
  have ge : ∀ c, asB B (gput g a d') c → asB B g c := fun c hc => by
    rcases hc with hc | hc
    · exact .inl hc
    · by_cases e : c = a
      · subst e; exact .inr (some_ne h)
      · rw [gput_ne e] at hc; exact .inr hc
  refine ⟨⟨⟨E.er.len, fun b u q => ?_, E.er.fz, fun i p e q => ?_, E.er.inj, E.er.par, fun c hc => ⟨?_, (E.er.out c (ge c hc)).2⟩⟩, fun b e hb => ?_⟩, Same.refl _, fun c hc => upd_ne fun z => by subst z; exact nB hc⟩
  · rw [upd_ne (ne_of_none q fa)]; exact E.er.sub b u q
  · obtain ⟨b, e1, r1, n1, n2⟩ := E.er.ow i p e q
    have ne : b ≠ a := fun z => by subst z; exact n2 (.inr (some_ne h))
    exact ⟨b, e1, r1.keep (Same.refl _) (upd_ne ne), n1, fun z => n2 (ge b z)⟩
  · by_cases e : c = a
    · subst e; rw [upd_same]; exact fun z => nomatch z
    · rw [upd_ne e]; exact (E.er.out c (ge c hc)).1
  · by_cases ne : b = a
    · subst ne; rw [gput_same] at hb; cases hb; exact ⟨ro, nB⟩
    · rw [gput_ne ne] at hb
      obtain ⟨r1, n1⟩ := E.gs b e hb
      exact ⟨r1.keep (Same.refl _) (upd_ne ne), n1⟩
/-- a new thing of one's own is kept aside -/
theorem EG.aside {v : V} (E : EG K F H σ0 ρ σ B g) (h : RR K F H ρ σ (asB B g) (.own d) v) : ∃ a, v = .ref a ∧ g a = none ∧ EG K F H σ0 ρ σ B (gput g a d) := by
  have E2 := E.er.hold h
  obtain ⟨a, rfl, ro, n, nb, ns⟩ := h
  have ga : g a = none := Classical.byContradiction fun z => nb (.inr z)
  refine ⟨a, rfl, ga, E2.less fun c hc => ?_, fun b e hb => ?_⟩
  · rcases hc with hc | hc
    · exact .inl (.inl hc)
    · by_cases e : c = a
      · exact .inr (by rw [e])
      · rw [gput_ne e] at hc; exact .inl (.inr hc)
  · by_cases ne : b = a
    · subst ne; rw [gput_same] at hb; cases hb; exact ⟨ro, fun z => nb (.inl z)⟩
    · rw [gput_ne ne] at hb; exact E.gs b e hb
end
/-! ### what is kept aside, put into the data -/
mutual
inductive Res (g : Gh) : D → D → Prop
  | id {d : D} : Res g d d
  | ref {a : Addr} {d d' : D} : g a = some d → Res g d d' → Res g (.ref a) d'
  | lst {l l' : List D} : ResL g l l' → Res g (.lst l) (.lst l')
  | tup {l l' : List D} : ResL g l l' → Res g (.tup l) (.tup l')
  | dic {l l' : List (Key × D)} : ResK g l l' → Res g (.dic l) (.dic l')
  | obj {C : Addr} {l l' : List (Str × D)} : ResF g l l' → Res g (.obj C l) (.obj C l')
inductive ResL (g : Gh) : List D → List D → Prop
  | nil : ResL g [] []
  | cons {d d' : D} {l l' : List D} : Res g d d' → ResL g l l' → ResL g (d :: l) (d' :: l')
inductive ResK (g : Gh) : List (Key × D) → List (Key × D) → Prop
  | nil : ResK g [] []
  | cons {k : Key} {d d' : D} {l l' : List (Key × D)} : Res g d d' → ResK g l l' → ResK g ((k, d) :: l) ((k, d') :: l')
inductive ResF (g : Gh) : List (Str × D) → List (Str × D) → Prop
  | nil : ResF g [] []
  | cons {k : Str} {d d' : D} {l l' : List (Str × D)} : Res g d d' → ResF g l l' → ResF g ((k, d) :: l) ((k, d') :: l')
end
section
variable {K : PySem.W.Frag} {F H F1 : Hp} {g : Gh}
theorem RO.stay {a : Addr} {d : D} (s : Same F F1) (e : F1 a = H a) (h : RO K F H (.ref a) d) : RD K F1 (.ref a) d := by
  cases h with
  | lst h t => exact .lst (e.trans h) (t.mono s)
  | dic h t => exact .dic (.of (e.trans h)) (t.mono s)
  | obj h t => exact .obj (e.trans h) (t.mono s)
mutual
theorem Res.rd (s : Same F F1) (hg : ∀ a d, g a = some d → RO K F H (.ref a) d ∧ F1 a = H a) : ∀ {v : V} {d d' : D}, Res g d d' → RD K F v d → RD K F1 v d'
  | _, _, _, .id, r => r.mono s
  | v, _, _, .ref (a := a) (d := d) e h, r => by
    have ev : v = .ref a := by cases r; rfl
    subst ev
    exact Res.ro s hg h (hg a d e).1 (hg a d e).2
  | v, _, _, .lst h, r => by
    cases r with
    | lst h1 t => exact .lst (s _ _ h1) (ResL.rl s hg h t)
  | v, _, _, .tup h, r => by
    cases r with
    | tup h1 t => exact .tup (sqT_mono s h1) (ResL.rl s hg h t)
  | v, _, _, .dic h, r => by
    cases r with
    | dic h1 t => exact .dic (rd_mono s h1) (ResK.rk s hg h t)
  | v, _, _, .obj h, r => by
    cases r with
    | obj h1 t => exact .obj (s _ _ h1) (ResF.rf s hg h t)
theorem Res.ro (s : Same F F1) (hg : ∀ a d, g a = some d → RO K F H (.ref a) d ∧ F1 a = H a) : ∀ {a : Addr} {d d' : D}, Res g d d' → RO K F H (.ref a) d → F1 a = H a → RD K F1 (.ref a) d'
  | _, _, _, .id, r, e => r.stay s e
  | _, _, _, .ref _ _, r, _ => by cases r
  | _, _, _, .lst h, r, e => by
    cases r with
    | lst h1 t => exact .lst (e.trans h1) (ResL.rl s hg h t)
  | _, _, _, .tup _, r, _ => by cases r
  | _, _, _, .dic h, r, e => by
    cases r with
    | dic h1 t => exact .dic (.of (e.trans h1)) (ResK.rk s hg h t)
  | _, _, _, .obj h, r, e => by
    cases r with
    | obj h1 t => exact .obj (e.trans h1) (ResF.rf s hg h t)
theorem ResL.rl (s : Same F F1) (hg : ∀ a d, g a = some d → RO K F H (.ref a) d ∧ F1 a = H a) : ∀ {vs : List V} {l l' : List D}, ResL g l l' → RL K F vs l → RL K F1 vs l'
  | _, _, _, .nil, r => by cases r; exact .nil
  | _, _, _, .cons h t, r => by
    cases r with
    | cons r1 r2 => exact .cons (Res.rd s hg h r1) (ResL.rl s hg t r2)
theorem ResK.rk (s : Same F F1) (hg : ∀ a d, g a = some d → RO K F H (.ref a) d ∧ F1 a = H a) : ∀ {vs : List (Key × V)} {l l' : List (Key × D)}, ResK g l l' → RK K F vs l → RK K F1 vs l'
  | _, _, _, .nil, r => by cases r; exact .nil
  | _, _, _, .cons h t, r => by
    cases r with
    | cons r1 r2 => exact .cons (Res.rd s hg h r1) (ResK.rk s hg t r2)
theorem ResF.rf (s : Same F F1) (hg : ∀ a d, g a = some d → RO K F H (.ref a) d ∧ F1 a = H a) : ∀ {vs : List (Str × V)} {l l' : List (Str × D)}, ResF g l l' → RF K F vs l → RF K F1 vs l'
  | _, _, _, .nil, r => by cases r; exact .nil
  | _, _, _, .cons h t, r => by
    cases r with
    | cons r1 r2 => exact .cons (Res.rd s hg h r1) (ResF.rf s hg t r2)
end
/-- one's own, its parts put in -/
theorem Res.own (s : Same F F1) (hg : ∀ a d, g a = some d → RO K F H (.ref a) d ∧ F1 a = H a) {a : Addr} {d d' : D} (h : Res g d d') (r : RO K F H (.ref a) d) : RO K F1 H (.ref a) d' := by
  cases h with
  | id => exact r.keep s rfl
  | ref _ _ => cases r
  | lst h => cases r with | lst h1 t => exact .lst h1 (ResL.rl s hg h t)
  | tup _ => cases r
  | dic h => cases r with | dic h1 t => exact .dic h1 (ResK.rk s hg h t)
  | obj h => cases r with | obj h1 t => exact .obj h1 (ResF.rf s hg h t)
end
theorem ResL.refl {g : Gh} : ∀ {l : List D}, ResL g l l
  | [] => .nil
  | _ :: _ => .cons .id ResL.refl
theorem ResL.app {g : Gh} {l l' : List D} (h : ResL g l l') : ∀ {k k' : List D}, ResL g k k' → ResL g (l ++ k) (l' ++ k') := fun t => match h with
  | .nil => t
  | .cons h1 h2 => .cons h1 (h2.app t)
/-! ### a view: everything stays, for the time being -/
inductive Vw (g : Gh) : List Sl → List Sl → Prop
  | nil : Vw g [] []
  | un {s : Sl} {ρ ρ1 : List Sl} : Vw g ρ ρ1 → Vw g (s :: ρ) (.un :: ρ1)
  | sl {o p : Bool} {d d' : D} {ρ ρ1 : List Sl} : Res g d d' → Vw g ρ ρ1 → Vw g (.sl o p d :: ρ) (.sl false p d' :: ρ1)
theorem Vw.len {g : Gh} : ∀ {ρ ρ1 : List Sl}, Vw g ρ ρ1 → ρ1.length = ρ.length
  | _, _, .nil => rfl
  | _, _, .un h => congrArg (· + 1) h.len
  | _, _, .sl _ h => congrArg (· + 1) h.len
theorem Vw.at_ {g : Gh} : ∀ {ρ ρ1 : List Sl} {i : Nat} {o p : Bool} {d' : D}, Vw g ρ ρ1 → ρ1[i]? = some (.sl o p d') → o = false ∧ ∃ o' d, ρ[i]? = some (.sl o' p d) ∧ Res g d d'
  | _, _, _, _, _, _, .nil, e => nomatch e
  | _, _, 0, _, _, _, .un _, e => nomatch e
  | _, _, i + 1, _, _, _, .un h, e => Vw.at_ (i := i) h e
  | _, _, 0, _, _, _, .sl r _, e => by cases e; exact ⟨rfl, _, _, rfl, r⟩
  | _, _, i + 1, _, _, _, .sl _ h, e => Vw.at_ (i := i) h e
section
variable {K : PySem.W.Frag} {F F' H H' : Hp} {σ0 σ : L2.St} {ρ ρ' ρ1 : List Sl} {B : Addr → Prop} {g : Gh}
open Classical in
theorem EG.look (E : EG K F H σ0 ρ σ B g) (w : Vw g ρ ρ1) : ∃ F1, ER K F1 H σ0 ρ1 σ B ∧ (∀ F' H' ρ', Gd K F1 H F' H' σ0 ρ' σ B → GG K F H F H' σ0 ρ σ B g) := by
  let P : Addr → Prop := fun a => g a ≠ none ∨ ∃ (i : Nat) (p : Bool) (d : D), ρ[i]? = some (.sl true p d) ∧ σ[i]? = some (some (V.ref a))
  let F1 : Hp := fun a => if P a then H a else F a
  have pF : ∀ a, P a → F a = none ∧ ¬ B a ∧ ∃ o, H a = some o := fun a h => by
    rcases h with h | ⟨i, p, d, e1, e2⟩
    · obtain ⟨d, e⟩ := Option.ne_none_iff_exists'.mp h
      obtain ⟨ro, nb⟩ := E.gs a d e
      obtain ⟨b, o, eb, ho⟩ := ro.there
      cases eb
      exact ⟨E.out e, nb, o, ho⟩
    · obtain ⟨b, e3, ro, n, nb⟩ := E.er.ow i p d e1
      rw [e2] at e3; cases e3
      obtain ⟨b, o, eb, ho⟩ := ro.there
      cases eb
      exact ⟨n, fun z => nb (.inl z), o, ho⟩
  have f1 : ∀ a, P a → F1 a = H a := fun a h => if_pos h
  have f2 : ∀ a, ¬ P a → F1 a = F a := fun a h => if_neg h
  have s1 : Same F F1 := fun b u q => by
    rw [f2 b fun h => by rw [(pF b h).1] at q; cases q]; exact q
  have s2 : Same F1 H := fun b u q => by
    by_cases h : P b
    · rw [f1 b h] at q; exact q
    · rw [f2 b h] at q; exact E.er.sub b u q
  have hg : ∀ a d, g a = some d → RO K F H (.ref a) d ∧ F1 a = H a := fun a d h => ⟨(E.gs a d h).1, f1 a (.inl (some_ne h))⟩
  refine ⟨F1, ⟨w.len.trans E.er.len, s2, fun i p d' e => ?_, fun i p d' e => ?_, fun i j a p q d e h1 => ?_, fun i o d' e => ?_, fun a hb => ?_⟩, fun F' H' ρ' G => ?_⟩
  · obtain ⟨_, o', d, e1, r⟩ := w.at_ e
    cases o' with
    | false =>
      obtain ⟨v, e2, rd⟩ := E.er.fz i p d e1
      exact ⟨v, e2, r.rd s1 hg rd⟩
    | true =>
      obtain ⟨a, e2, ro, _⟩ := E.er.ow i p d e1
      exact ⟨_, e2, r.ro s1 hg ro (f1 a (.inr ⟨i, p, d, e1, e2⟩))⟩
  · cases (w.at_ e).1
  · cases (w.at_ h1).1
  · obtain ⟨_, o', d, e1, _⟩ := w.at_ e
    exact E.er.par i o' d e1
  · have np : ¬ P a := fun h => (pF a h).2.1 hb
    exact ⟨(E.er.out a (.inl hb)).1, by rw [f2 a np]; exact (E.er.out a (.inl hb)).2⟩
  · have keep : ∀ a, P a → H' a = H a := fun a h => by
      obtain ⟨_, _, o, ho⟩ := pF a h
      have e1 : F1 a = some o := by rw [f1 a h]; exact ho
      rw [ho]
      exact G.er.sub a o (G.nx.fz a o e1)
    refine ⟨⟨Same.refl _, G.nx.out⟩, ⟨E.er.len, fun b u q => G.er.sub b u (G.nx.fz b u (s1 b u q)), E.er.fz, fun i p d e => ?_, E.er.inj, E.er.par, fun a hb => ⟨?_, (E.er.out a hb).2⟩⟩, fun a d h => ?_⟩
    · obtain ⟨a, e2, ro, n, nb⟩ := E.er.ow i p d e
      exact ⟨a, e2, ro.keep (Same.refl _) (keep a (.inr ⟨i, p, d, e, e2⟩)), n, nb⟩
    · rcases hb with hb' | hb'
      · rw [G.nx.out a hb']; exact (E.er.out a (.inl hb')).1
      · rw [keep a (.inl hb')]; exact (E.er.out a (.inr hb')).1
    · obtain ⟨ro, nb⟩ := E.gs a d h
      exact ⟨ro.keep (Same.refl _) (keep a (.inl (some_ne h))), nb⟩
end
/-! ### what was kept aside stays from now on -/
inductive Rls (g : Gh) : List Sl → List Sl → Prop
  | nil : Rls g [] []
  | un {s : Sl} {ρ ρ1 : List Sl} : Rls g ρ ρ1 → Rls g (s :: ρ) (.un :: ρ1)
  | sl {o p : Bool} {d d' : D} {ρ ρ1 : List Sl} : Res g d d' → Rls g ρ ρ1 → Rls g (.sl o p d :: ρ) (.sl o p d' :: ρ1)
theorem Rls.len {g : Gh} : ∀ {ρ ρ1 : List Sl}, Rls g ρ ρ1 → ρ1.length = ρ.length
  | _, _, .nil => rfl
  | _, _, .un h => congrArg (· + 1) h.len
  | _, _, .sl _ h => congrArg (· + 1) h.len
theorem Rls.at_ {g : Gh} : ∀ {ρ ρ1 : List Sl} {i : Nat} {o p : Bool} {d' : D}, Rls g ρ ρ1 → ρ1[i]? = some (.sl o p d') → ∃ d, ρ[i]? = some (.sl o p d) ∧ Res g d d'
  | _, _, _, _, _, _, .nil, e => nomatch e
  | _, _, 0, _, _, _, .un _, e => nomatch e
  | _, _, i + 1, _, _, _, .un h, e => Rls.at_ (i := i) h e
  | _, _, 0, _, _, _, .sl r _, e => by cases e; exact ⟨_, rfl, r⟩
  | _, _, i + 1, _, _, _, .sl _ h, e => Rls.at_ (i := i) h e
/-- g without those that g1 still keeps -/
def gLess (g g1 : Gh) : Gh := fun a => match g1 a with
  | some _ => none
  | none => g a
section
variable {K : PySem.W.Frag} {F F' H H' : Hp} {σ0 σ : L2.St} {ρ ρ' ρ1 : List Sl} {B : Addr → Prop} {g g1 : Gh}
open Classical in
theorem EG.release (E : EG K F H σ0 ρ σ B g) (h1 : ∀ a d, g1 a = some d → g a = some d) (w : Rls (gLess g g1) ρ ρ1) : ∃ F1, GG K F H F1 H σ0 ρ1 σ B g1 ∧ ∀ v d d', RD K F v d → Res (gLess g g1) d d' → RD K F1 v d' := by
  let P : Addr → Prop := fun a => gLess g g1 a ≠ none
  have gl : ∀ a d, gLess g g1 a = some d → g a = some d ∧ g1 a = none := fun a d h => by
    unfold gLess at h
    cases e : g1 a with
    | none => rw [e] at h; exact ⟨h, rfl⟩
    | some x => rw [e] at h; cases h
  let F1 : Hp := fun a => if P a then H a else F a
  have pF : ∀ a, P a → ∃ d, g a = some d ∧ g1 a = none := fun a h => by
    obtain ⟨d, e⟩ := Option.ne_none_iff_exists'.mp h
    exact ⟨d, gl a d e⟩
  have f1 : ∀ a, P a → F1 a = H a := fun a h => if_pos h
  have f2 : ∀ a, ¬ P a → F1 a = F a := fun a h => if_neg h
  have s1 : Same F F1 := fun b u q => by
    rw [f2 b fun h => by obtain ⟨d, e, _⟩ := pF b h; rw [E.out e] at q; cases q]; exact q
  have s2 : Same F1 H := fun b u q => by
    by_cases h : P b
    · rw [f1 b h] at q; exact q
    · rw [f2 b h] at q; exact E.er.sub b u q
  have hg : ∀ a d, gLess g g1 a = some d → RO K F H (.ref a) d ∧ F1 a = H a := fun a d h => ⟨(E.gs a d (gl a d h).1).1, f1 a (some_ne h)⟩
  have asB1 : ∀ c, asB B g1 c → asB B g c := fun c h => by
    rcases h with h | h
    · exact .inl h
    · obtain ⟨d, e⟩ := Option.ne_none_iff_exists'.mp h
      exact .inr (some_ne (h1 c d e))
  refine ⟨F1, ⟨⟨s1, fun _ _ => rfl⟩, ⟨w.len.trans E.er.len, s2, fun i p d' e => ?_, fun i p d' e => ?_, fun i j a p q d e x1 x2 x3 x4 => ?_, fun i o d' e => ?_, fun a hb => ?_⟩, fun a d h => ?_⟩, fun v d d' rd r => r.rd s1 hg rd⟩
  · obtain ⟨d, e1, r⟩ := w.at_ e
    obtain ⟨v, e2, rd⟩ := E.er.fz i p d e1
    exact ⟨v, e2, r.rd s1 hg rd⟩
  · obtain ⟨d, e1, r⟩ := w.at_ e
    obtain ⟨a, e2, ro, n, nb⟩ := E.er.ow i p d e1
    have np : ¬ P a := fun h => by obtain ⟨d, e, _⟩ := pF a h; exact nb (.inr (some_ne e))
    exact ⟨a, e2, r.own s1 hg ro, by rw [f2 a np]; exact n, fun z => nb (asB1 a z)⟩
  · obtain ⟨_, y1, _⟩ := w.at_ x1
    obtain ⟨_, y2, _⟩ := w.at_ x2
    exact E.er.inj i j a p q _ _ y1 y2 x3 x4
  · obtain ⟨d, e1, _⟩ := w.at_ e
    exact E.er.par i o d e1
  · have hb' := asB1 a hb
    refine ⟨(E.er.out a hb').1, ?_⟩
    have np : ¬ P a := fun h => by
      obtain ⟨d, e, e1⟩ := pF a h
      rcases hb with hb | hb
      · exact (E.gs a d e).2 hb
      · exact hb e1
    rw [f2 a np]; exact (E.er.out a hb').2
  · obtain ⟨ro, nb⟩ := E.gs a d (h1 a d h)
    exact ⟨ro.keep s1 rfl, nb⟩
end
end YP
set_option maxRecDepth 100000
set_option maxHeartbeats 2000000
/-! The yard's pure layer, part 48: statements beside what is kept aside. -/
namespace YP
open PySem PySem.Spec PyProof.Rows L2
structure EnG where
  nx : List Sl → Gh → Prop
  rt : Rv → List Sl → Gh → Prop
  bk : List Sl → Gh → Prop
  ct : List Sl → Gh → Prop
  xc : Addr → List (Str × D) → List Sl → Gh → Prop
def EnG.at_ (E : EnG) (g : Gh) : EnX := ⟨{ nx := fun ρ => E.nx ρ g, rt := fun r ρ => E.rt r ρ g, bk := fun ρ => E.bk ρ g, ct := fun ρ => E.ct ρ g }, fun C fs ρ => E.xc C fs ρ g⟩
structure FolG (K : PySem.W.Frag) (F H : Hp) (σ0 : L2.St) (B : Addr → Prop) (E : EnG) (D : Ends) (W : WX) : Prop where
  nx : ∀ ρ' g' σ' F' H', E.nx ρ' g' → GG K F H F' H' σ0 ρ' σ' B g' → D.nx σ' H'
  rt : ∀ r ρ' g' v σ' F' H', E.rt r ρ' g' → GG K F H F' H' σ0 ρ' σ' B g' → RR K F' H' ρ' σ' (asB B g') r v → D.rt v H'
  bk : ∀ ρ' g' σ' F' H', E.bk ρ' g' → GG K F H F' H' σ0 ρ' σ' B g' → D.bk σ' H'
  ct : ∀ ρ' g' σ' F' H', E.ct ρ' g' → GG K F H F' H' σ0 ρ' σ' B g' → D.ct σ' H'
  xc : ∀ C fs ρ' g' σ' F' H' dd vfs, E.xc C fs ρ' g' → GG K F H F' H' σ0 ρ' σ' B g' → F' dd = some (.xd vfs) → RF K F' vfs fs → W (.ref C) (some dd) σ' H'
theorem FolG.on {K : PySem.W.Frag} {F H F1 H1 : Hp} {σ0 : L2.St} {B : Addr → Prop} {E : EnG} {D : Ends} {W : WX} (f : FolG K F H σ0 B E D W) (n : Nx F H F1 H1 B) : FolG K F1 H1 σ0 B E D W :=
  ⟨fun ρ' g' σ' F' H' e G => f.nx ρ' g' σ' F' H' e ⟨n.trans G.nx, G.eg⟩, fun r ρ' g' v σ' F' H' e G rr => f.rt r ρ' g' v σ' F' H' e ⟨n.trans G.nx, G.eg⟩ rr,
    fun ρ' g' σ' F' H' e G => f.bk ρ' g' σ' F' H' e ⟨n.trans G.nx, G.eg⟩, fun ρ' g' σ' F' H' e G => f.ct ρ' g' σ' F' H' e ⟨n.trans G.nx, G.eg⟩,
    fun C fs ρ' g' σ' F' H' dd vfs e G => f.xc C fs ρ' g' σ' F' H' dd vfs e ⟨n.trans G.nx, G.eg⟩⟩
theorem FolG.at_ {K : PySem.W.Frag} {F H : Hp} {σ0 σ : L2.St} {ρ : List Sl} {B : Addr → Prop} {E : EnG} {D : Ends} {W : WX} {g : Gh} (f : FolG K F H σ0 B E D W) (eg : EG K F H σ0 ρ σ B g) : FolX K F H σ0 (asB B g) (E.at_ g) D W :=
  ⟨⟨fun ρ' σ' F' H' e G => f.nx ρ' g σ' F' H' e (eg.go G), fun r ρ' v σ' F' H' e G => f.rt r ρ' g v σ' F' H' e (eg.go ⟨G.nx, G.er⟩) G.rr, fun ρ' σ' F' H' e G => f.bk ρ' g σ' F' H' e (eg.go G), fun ρ' σ' F' H' e G => f.ct ρ' g σ' F' H' e (eg.go G)⟩,
    fun C fs ρ' σ' F' H' dd vfs e G => f.xc C fs ρ' g σ' F' H' dd vfs e (eg.go G)⟩
abbrev USG := EnG → List Sl → Gh → Prop
structure FSG (X : Cx) (st : Stmt) (u : USG) : Prop where
  run : ∀ (W : WX), Takes X W → ∀ (E : EnG) (ρ : List Sl) (g : Gh), u E ρ g → ∀ (F H : Hp) (σ0 σ : L2.St) (B : Addr → Prop) (D : Ends), EG X.K F H σ0 ρ σ B g → FolG X.K F H σ0 B E D W → tSS X st D σ H
structure FBG (X : Cx) (sts : List Stmt) (u : USG) : Prop where
  run : ∀ (W : WX), Takes X W → ∀ (E : EnG) (ρ : List Sl) (g : Gh), u E ρ g → ∀ (F H : Hp) (σ0 σ : L2.St) (B : Addr → Prop) (D : Ends), EG X.K F H σ0 ρ σ B g → FolG X.K F H σ0 B E D W → tBs X sts D σ H
abbrev UEG := List Sl → Gh → (Rv → List Sl → Gh → Prop) → Prop
structure FEG (X : Cx) (e : Expr) (u : UEG) : Prop where
  run : ∀ (ρ : List Sl) (g : Gh) (R : Rv → List Sl → Gh → Prop), u ρ g R → ∀ (F H : Hp) (σ0 σ : L2.St) (B : Addr → Prop) (Q : VK), EG X.K F H σ0 ρ σ B g →
    (∀ r ρ' g' v F' H', R r ρ' g' → GG X.K F H F' H' σ0 ρ' σ B g' → RR X.K F' H' ρ' σ (asB B g') r v → Q v H') → tS X e σ H Q
abbrev UTG := List Sl → Gh → (Bool → List Sl → Gh → Prop) → Prop
structure FTG (X : Cx) (e : Expr) (u : UTG) : Prop where
  run : ∀ (ρ : List Sl) (g : Gh) (R : Bool → List Sl → Gh → Prop), u ρ g R → ∀ (F H : Hp) (σ0 σ : L2.St) (B : Addr → Prop) (Q : Bool → Hp → Prop), EG X.K F H σ0 ρ σ B g →
    (∀ b ρ' g' F' H', R b ρ' g' → GG X.K F H F' H' σ0 ρ' σ B g' → Q b H') → tST X e σ H Q
section
variable {X : Cx} {st : Stmt} {rest body : List Stmt} {t u : USG} {e : Expr} {pos : Pos}
theorem GG.refl {K : PySem.W.Frag} {F H : Hp} {σ0 σ : L2.St} {ρ : List Sl} {B : Addr → Prop} {g : Gh} (E : EG K F H σ0 ρ σ B g) : GG K F H F H σ0 ρ σ B g := ⟨.refl _ _ _, E⟩
/-! ### those that don't touch it -/
def uLG (u : USX) : USG := fun E ρ g => u (E.at_ g) ρ
theorem fsg_x {u : USX} (h : FSX X st u) : FSG X st (uLG u) := ⟨fun W tk E ρ g q F H σ0 σ B D er f => h.run W tk (E.at_ g) ρ q F H σ0 σ _ D er.er (f.at_ er)⟩
theorem fbg_x {u : USX} (h : FBX X rest u) : FBG X rest (uLG u) := ⟨fun W tk E ρ g q F H σ0 σ B D er f => h.run W tk (E.at_ g) ρ q F H σ0 σ _ D er.er (f.at_ er)⟩
def uEG (u : UE) : UEG := fun ρ g R => u ρ fun r ρ1 => R r ρ1 g
theorem feg_e {u : UE} (h : FE X e u) : FEG X e (uEG u) := ⟨fun ρ g R q F H σ0 σ B Q E k => h ρ _ q F H σ0 σ _ Q E.er fun r ρ' v F' H' z G => k r ρ' g v F' H' z (E.go ⟨G.nx, G.er⟩) G.rr⟩
def uTG (u : UT) : UTG := fun ρ g R => u ρ fun b ρ1 => R b ρ1 g
theorem ftg_t {u : UT} (h : FT X e u) : FTG X e (uTG u) := ⟨fun ρ g R q F H σ0 σ B Q E k => h ρ _ q F H σ0 σ _ Q E.er fun b ρ' F' H' z G => k b ρ' g F' H' z (E.go G)⟩
/-! ### looks: what is kept aside is seen within the data, for the time being -/
def uLookT (u : UT) : UTG := fun ρ g R => ∃ ρ1, Vw g ρ ρ1 ∧ u ρ1 fun b _ => R b ρ g
theorem ftg_look {u : UT} (h : FT X e u) : FTG X e (uLookT u) := ⟨fun ρ g R q F H σ0 σ B Q E k => by
  obtain ⟨ρ1, w, q⟩ := q
  obtain ⟨F1, E1, back⟩ := E.look w
  exact h ρ1 _ q F1 H σ0 σ B Q E1 fun b ρ' F' H' z G => k b ρ g F H' z (back F' H' ρ' G)⟩
def atomD : D → Bool
  | .non => true
  | .bl _ => true
  | .int _ => true
  | .str _ => true
  | .ty _ => true
  | _ => false
theorem atom_rd {K : PySem.W.Frag} {F F' : Hp} {v : V} {d : D} (h : atomD d = true) (r : RD K F' v d) : RD K F v d := by
  cases d with
  | non => cases r; exact .non
  | bl b => cases r; exact .bl b
  | int b => cases r; exact .int b
  | str b => cases r; exact .str b
  | ty b => cases r; exact .ty b
  | _ => cases h
def uLook (u : UE) : UEG := fun ρ g R => ∃ ρ1, Vw g ρ ρ1 ∧ u ρ1 fun r _ => ∃ d, r = .val d ∧ atomD d = true ∧ R (.val d) ρ g
theorem feg_look {u : UE} (h : FE X e u) : FEG X e (uLook u) := ⟨fun ρ g R q F H σ0 σ B Q E k => by
  obtain ⟨ρ1, w, q⟩ := q
  obtain ⟨F1, E1, back⟩ := E.look w
  refine h ρ1 _ q F1 H σ0 σ B Q E1 fun r ρ' v F' H' z G => ?_
  obtain ⟨d, rfl, ha, z⟩ := z
  exact k _ ρ g v F H' z (back F' H' ρ' ⟨G.nx, G.er⟩) (atom_rd ha G.rr)⟩
/-! ### rows of statements, branches, loops -/
def uNextG : USG := fun E ρ g => E.nx ρ g
def uSeqG (t u : USG) : USG := fun E ρ g => t { E with nx := u E } ρ g
theorem fbg_nil : FBG X [] uNextG := ⟨fun W tk E ρ g q F H σ0 σ B D er f => to_Bs pss_nil (f.nx ρ g σ F H q (.refl er))⟩
theorem fbg_cons (h1 : FSG X st t) (h2 : FBG X rest u) : FBG X (st :: rest) (uSeqG t u) := ⟨fun W tk E ρ g q F H σ0 σ B D er f =>
  to_Bs (pss_cons ps_S pss_S) (h1.run W tk _ ρ g q F H σ0 σ B _ er ⟨fun ρ' g' σ' F' H' z G => h2.run W tk E ρ' g' z F' H' σ0 σ' B D G.eg (f.on G.nx), f.rt, f.bk, f.ct, f.xc⟩)⟩
theorem fbg_one (h1 : FSG X st t) : FBG X [st] t := ⟨fun W tk E ρ g q F H σ0 σ B D er f => to_Bs (pss_one ps_S) (h1.run W tk E ρ g q F H σ0 σ B D er f)⟩
def uIfG (c : UTG) (t u : USG) : USG := fun E ρ g => c ρ g fun b ρ1 g1 => if b = true then t E ρ1 g1 else u E ρ1 g1
theorem fsg_if {c : Expr} {a b : List Stmt} {tc : UTG} (hc : FTG X c tc) (ha : FBG X a t) (hb : FBG X b u) : FSG X (.If c a b pos) (uIfG tc t u) := ⟨fun W tk E ρ g q F H σ0 σ B D er f => by
  refine to_SS (ps_if pt_S pss_S pss_S) (hc.run ρ g _ q F H σ0 σ B _ er fun c ρ1 g1 F1 H1 z G => ?_)
  cases c with
  | true => exact ha.run W tk E ρ1 g1 z F1 H1 σ0 σ B D G.eg (f.on G.nx)
  | false => exact hb.run W tk E ρ1 g1 z F1 H1 σ0 σ B D G.eg (f.on G.nx)⟩
def uForG (w : UI) (k : UG) (tb : USG) : USG := fun E ρ g => w ρ fun ds ρ1 => ∃ W : Nat → List Sl → Gh → Prop, W 0 ρ1 g ∧ (∀ i d ρ g, ds[i]? = some d → W i ρ g →
  k d ρ fun ρ2 => tb { E with nx := W (i + 1), ct := W (i + 1), bk := E.nx } ρ2 g) ∧ ∀ ρ g, W ds.length ρ g → E.nx ρ g
theorem fsg_for {tg iter : Expr} {w : UI} {k : UG} (hp : PassesOwn (model X.prog X.w) X.A X.env X.xe) (hc : X.calm = true) (hi : FI X tg iter w) (hg : FG X none tg k) (hb : FBG X body t)
    (hs : ∀ x, foldedSetIterable iter X.env x = pure x := by intro _; rfl) : FSG X (.For tg iter body [] pos) (uForG w k t) := ⟨fun WX tk E ρ g q F H σ0 σ B D er f => by
  refine to_SS (ps_for hp hc pi_S pg_S pss_S hs) (hi ρ _ q F H σ0 σ _ _ er.er fun ds ρ1 J F1 H1 ⟨W, w0, turn, done⟩ G1 wd => ?_)
  have E1 := er.go G1
  refine for_it wd (fun i σ' H' => ∃ ρ' F' g', W i ρ' g' ∧ GG X.K F1 H1 F' H' σ0 ρ' σ' B g') ⟨ρ1, F1, g, w0, .refl E1.eg⟩ (fun i σ' H' _ ⟨ρ', F', g', _, G⟩ => G.nx.fz.trans G.eg.er.sub) ?_ (fun σ' H' ⟨ρ', F', g', w', G⟩ => f.nx ρ' g' σ' F' H' (done ρ' g' w') ⟨E1.nx.trans G.nx, G.eg⟩)
  rintro i x σ2 H2 H3 hi ⟨ρ2, F2, g2, w2, G2⟩ y
  obtain ⟨d, F3, e, G3, rd⟩ := yd_er G2.eg.er G2.nx.fz y
  have E3 := G2.eg.go G3
  refine hg d ρ2 _ (turn i d ρ2 g2 e w2) F3 H3 σ0 σ2 _ x _ G3.er rd fun ρ4 σ4 F4 H4 z G4 _ => ?_
  have E4 := E3.eg.go G4
  have n4 := G2.nx.trans (E3.nx.trans E4.nx)
  have f4 := f.on (E1.nx.trans n4)
  exact hb.run WX tk _ ρ4 g2 z F4 H4 σ0 σ4 B _ E4.eg ⟨fun ρ' g' σ' F' H' w' G => ⟨ρ', F', g', w', n4.trans G.nx, G.eg⟩, f4.rt, f4.nx, fun ρ' g' σ' F' H' w' G => ⟨ρ', F', g', w', n4.trans G.nx, G.eg⟩, f4.xc⟩⟩
def uWhileG (c : UTG) (tb : USG) : USG := fun E ρ g => ∃ W : Nat → List Sl → Gh → Prop, (∃ m, W m ρ g) ∧ ∀ m ρ g, W m ρ g →
  c ρ g fun b ρ1 g1 => if b = true then tb { E with nx := fun ρ2 g2 => ∃ m', m' < m ∧ W m' ρ2 g2, ct := fun ρ2 g2 => ∃ m', m' < m ∧ W m' ρ2 g2, bk := E.nx } ρ1 g1 else E.nx ρ1 g1
theorem fsg_while {c : Expr} {tc : UTG} (hp : PassesOwn (model X.prog X.w) X.A X.env X.xe) (hc : FTG X c tc) (hb : FBG X body t) : FSG X (.While c body [] pos) (uWhileG tc t) := ⟨fun WX tk E ρ g q F H σ0 σ B D er f => by
  obtain ⟨W, ⟨m0, w0⟩, turn⟩ := q
  refine to_SS (ps_while hp pt_S pss_S) ⟨fun m σ' H' => ∃ ρ' F' g', W m ρ' g' ∧ GG X.K F H F' H' σ0 ρ' σ' B g', ⟨m0, ρ, F, g, w0, .refl er⟩, ?_⟩
  rintro m σ1 H1 ⟨ρ1, F1, g1, w1, G1⟩
  refine hc.run ρ1 g1 _ (turn m ρ1 g1 w1) F1 H1 σ0 σ1 B _ G1.eg fun b ρ2 g2 F2 H2 z G2 => ?_
  cases b with
  | false => exact f.nx ρ2 g2 σ1 F2 H2 z ⟨G1.nx.trans G2.nx, G2.eg⟩
  | true =>
    refine ⟨fun σ' H' => ∃ m', m' < m ∧ ∃ ρ' F' g', W m' ρ' g' ∧ GG X.K F H F' H' σ0 ρ' σ' B g', fun σ' H' h => h, ?_⟩
    have n2 := G1.nx.trans G2.nx
    have f2 := f.on n2
    exact hb.run WX tk _ ρ2 g2 z F2 H2 σ0 σ1 B _ G2.eg ⟨fun ρ' g' σ' F' H' ⟨m', l, w⟩ G => ⟨m', l, ρ', F', g', w, n2.trans G.nx, G.eg⟩, f2.rt, f2.nx, fun ρ' g' σ' F' H' ⟨m', l, w⟩ G => ⟨m', l, ρ', F', g', w, n2.trans G.nx, G.eg⟩, f2.xc⟩⟩
/-! ### statements over expressions that touch it -/
def uDropG (ue : UEG) : USG := fun E ρ g => ue ρ g fun _ ρ1 g1 => E.nx ρ1 g1
theorem fsg_expr {ue : UEG} (he : FEG X e ue) (hs : swapsWith e none pos.line X.env = pure false := by rfl) : FSG X (.Expr e pos) (uDropG ue) := ⟨fun W tk E ρ g q F H σ0 σ B D er f =>
  to_SS (ps_expr pe_S hs) (he.run ρ g _ q F H σ0 σ B _ er fun r ρ1 g1 v F1 H1 z G _ => f.nx ρ1 g1 σ F1 H1 z G)⟩
def uRetG (ue : UEG) : USG := fun E ρ g => ue ρ g E.rt
theorem fsg_ret {ue : UEG} (he : FEG X e ue) : FSG X (.Return (some e) pos) (uRetG ue) := ⟨fun W tk E ρ g q F H σ0 σ B D er f =>
  to_SS (ps_ret pe_S) (he.run ρ g _ q F H σ0 σ B _ er fun r ρ1 g1 v F1 H1 z G rr => f.rt r ρ1 g1 v σ F1 H1 z G rr)⟩
def uSetG (i : Nat) (ue : UEG) : USG := fun E ρ g => ue ρ g fun r ρ1 g1 => put ρ1 i r fun ρ2 => E.nx ρ2 g1
theorem fsg_set {i : Nat} {ue : UEG} (h : PS X st (tAsg (tS X e) (gName i))) (he : FEG X e ue) : FSG X st (uSetG i ue) := ⟨fun W tk E ρ g q F H σ0 σ B D er f =>
  to_SS h (he.run ρ g _ q F H σ0 σ B _ er fun r ρ1 g1 v F1 H1 z G rr => by
    obtain ⟨F2, ρ2, n2, er2, z⟩ := G.eg.er.put rr z
    have G2 := G.eg.go ⟨n2, er2⟩
    exact f.nx ρ2 g1 _ F2 H1 z ⟨G.nx.trans G2.nx, G2.eg⟩)⟩
/-- name = e, a new thing of one's own: from now on it is kept aside -/
def uNewG (i : Nat) (ue : UE) : USG := fun E ρ g => ue ρ fun r ρ1 => match r with
  | .own d => ∀ a, g a = none → E.nx (ρ1.set i (.sl false false (.ref a))) (gput g a d)
  | _ => False
theorem fsg_new {i : Nat} {ue : UE} (h : PS X st (tAsg (tS X e) (gName i))) (he : FE X e ue) : FSG X st (uNewG i ue) := ⟨fun W tk E ρ g q F H σ0 σ B D er f =>
  to_SS h (he ρ _ q F H σ0 σ _ _ er.er fun r ρ1 v F1 H1 z G => by
    split at z
    · rename_i d
      have G1 := er.go ⟨G.nx, G.er⟩
      obtain ⟨a, rfl, ga, E2⟩ := G1.eg.aside G.rr
      have E3 := E2.er.set_val (i := i) (v := .ref a) (d := .ref a) (.ref a)
      exact f.nx _ _ _ F1 H1 (z a ga) ⟨G1.nx, E3, E2.gs⟩
    · exact z.elim)⟩
end
end YP
set_option maxRecDepth 100000
set_option maxHeartbeats 2000000
/-! The yard's pure layer, part 49: what is kept aside is changed, is taken back, stays. -/
namespace YP
open PySem PySem.Spec PyProof.Rows L2
section
variable {X : Cx} {o e : Expr} {es : List Expr} {name : Str} {apos cpos pos : Pos} {id : String} {m : List D → List D → (List D → D → Prop) → Prop} {mK : List (Key × D) → List D → (List (Key × D) → D → Prop) → Prop} {ue : UE} {ua : UA}
/-! ### methods -/
def uMuG (m : List D → List D → (List D → D → Prop) → Prop) (ue : UE) (ua : UA) : UEG := fun ρ g R => ue ρ fun r ρ1 => ∃ a l, r = .val (.ref a) ∧ g a = some (.lst l) ∧ ua ρ1 fun ds ρ2 => m l ds fun l' e => R (.val e) ρ2 (gput g a (.lst l'))
theorem feg_mu (mu : MuS X id m) (slot : Slot "list" name id) (hty : typeOf (.builtin id) = pure (.type "method_descriptor")) (ho : FE X o ue) (ha : FA X (e :: es) ua)
    (hbase : attributeBase o name X.env (eval o X.env) = eval o X.env := by rfl)
    (hfew : ((backTo cpos (starEach (e :: es) X.env)).all (fun x => !x.1) && (backToKw cpos (keywordEach [] X.env)).all (fun x => x.1.isSome)
      && decide ((e :: es).length + ([] : List Keyword).length + (if ([] : List Keyword).isEmpty then 0 else 1) < 30)) = true := by rfl)
    (hline : (apos.endLine == cpos.line) = true := by rfl) (hs : starEach (e :: es) X.env = (false, eval e X.env) :: starEach es X.env := by rfl) (hplain : (backTo cpos (starEach es X.env)).any (·.1) = false := by rfl) :
    FEG X (.Call (.Attribute o name apos) (e :: es) [] cpos) (uMuG m ue ua) := ⟨fun ρ g R q F H σ0 σ B Q E k => by
  obtain ⟨r, hr, kk⟩ := mu.ex
  refine to_S (pe_bm PySem.F.plainAttrs_list slot hty hr pe_S pa_S hbase hfew hline hs hplain) (ho ρ _ q F H σ0 σ _ _ E.er fun r1 ρ1 x F1 H1 z G => ?_)
  obtain ⟨a, l, rfl, ga, z⟩ := z
  have rx : RD X.K F1 x (.ref a) := G.rr
  cases rx
  have E1 := E.go ⟨G.nx, G.er⟩
  obtain ⟨ro, _⟩ := E1.eg.gs a _ ga
  cases ro with
  | @lst _ us _ h1 l1 =>
    refine ⟨.inl ⟨rfl, us, .of h1⟩, ha ρ1 _ z F1 H1 σ0 σ _ _ E1.eg.er fun ds ρ2 vs F2 H2 z G2 l2 => ?_⟩
    have E2 := E1.eg.go G2
    obtain ⟨ro2, _⟩ := E2.eg.gs a _ ga
    cases ro2 with
    | @lst _ us2 _ h3 l3 =>
      refine kk E2.eg.er.sub h3 l3 l2 z fun l'' e v us' t rl rd => ?_
      obtain ⟨E3, n3⟩ := E2.eg.wrote ga (o := .lst us') (d' := .lst l'') (.lst upd_same rl)
      exact k _ _ _ v F2 _ t ⟨E1.nx.trans (E2.nx.trans n3), E3⟩ rd⟩
theorem feg_mu0 (mu : MuS X id m) (slot : Slot "list" name id) (hty : typeOf (.builtin id) = pure (.type "method_descriptor")) (ho : FE X o ue)
    (hbase : attributeBase o name X.env (eval o X.env) = eval o X.env := by rfl) (hline : (apos.endLine == cpos.line) = true := by rfl) :
    FEG X (.Call (.Attribute o name apos) [] [] cpos) (uMuG m ue uNil) := ⟨fun ρ g R q F H σ0 σ B Q E k => by
  obtain ⟨r, hr, kk⟩ := mu.ex
  refine to_S (pe_bm0 PySem.F.plainAttrs_list slot hty hr pe_S hbase hline) (ho ρ _ q F H σ0 σ _ _ E.er fun r1 ρ1 x F1 H1 z G => ?_)
  obtain ⟨a, l, rfl, ga, z⟩ := z
  have rx : RD X.K F1 x (.ref a) := G.rr
  cases rx
  have E1 := E.go ⟨G.nx, G.er⟩
  obtain ⟨ro, _⟩ := E1.eg.gs a _ ga
  cases ro with
  | @lst _ us _ h1 l1 =>
    refine ⟨.inl ⟨rfl, us, .of h1⟩, ?_⟩
    have z : m l [] fun l' e => R (.val e) ρ1 (gput g a (.lst l')) := z
    refine kk E1.eg.er.sub h1 l1 .nil z fun l'' e v us' t rl rd => ?_
    obtain ⟨E3, n3⟩ := E1.eg.wrote ga (o := .lst us') (d' := .lst l'') (.lst upd_same rl)
    exact k _ _ _ v F1 _ t ⟨E1.nx.trans n3, E3⟩ rd⟩
def uMuKG (m : List (Key × D) → List D → (List (Key × D) → D → Prop) → Prop) (ue : UE) (ua : UA) : UEG := fun ρ g R => ue ρ fun r ρ1 => ∃ a l, r = .val (.ref a) ∧ g a = some (.dic l) ∧ ua ρ1 fun ds ρ2 => m l ds fun l' e => R (.val e) ρ2 (gput g a (.dic l'))
theorem feg_muK (mu : MuK X id mK) (slot : Slot "dict" name id) (hty : typeOf (.builtin id) = pure (.type "method_descriptor")) (ho : FE X o ue) (ha : FA X (e :: es) ua)
    (hbase : attributeBase o name X.env (eval o X.env) = eval o X.env := by rfl)
    (hfew : ((backTo cpos (starEach (e :: es) X.env)).all (fun x => !x.1) && (backToKw cpos (keywordEach [] X.env)).all (fun x => x.1.isSome)
      && decide ((e :: es).length + ([] : List Keyword).length + (if ([] : List Keyword).isEmpty then 0 else 1) < 30)) = true := by rfl)
    (hline : (apos.endLine == cpos.line) = true := by rfl) (hs : starEach (e :: es) X.env = (false, eval e X.env) :: starEach es X.env := by rfl) (hplain : (backTo cpos (starEach es X.env)).any (·.1) = false := by rfl) :
    FEG X (.Call (.Attribute o name apos) (e :: es) [] cpos) (uMuKG mK ue ua) := ⟨fun ρ g R q F H σ0 σ B Q E k => by
  obtain ⟨r, hr, kk⟩ := mu.ex
  refine to_S (pe_bm PySem.F.plainAttrs_dict slot hty hr pe_S pa_S hbase hfew hline hs hplain) (ho ρ _ q F H σ0 σ _ _ E.er fun r1 ρ1 x F1 H1 z G => ?_)
  obtain ⟨a, l, rfl, ga, z⟩ := z
  have rx : RD X.K F1 x (.ref a) := G.rr
  cases rx
  have E1 := E.go ⟨G.nx, G.er⟩
  obtain ⟨ro, _⟩ := E1.eg.gs a _ ga
  cases ro with
  | @dic _ us _ h1 l1 =>
    refine ⟨.inr (.inr (.inl ⟨rfl, .inl ⟨us, h1⟩⟩)), ha ρ1 _ z F1 H1 σ0 σ _ _ E1.eg.er fun ds ρ2 vs F2 H2 z G2 l2 => ?_⟩
    have E2 := E1.eg.go G2
    obtain ⟨ro2, _⟩ := E2.eg.gs a _ ga
    cases ro2 with
    | @dic _ us2 _ h3 l3 =>
      refine kk E2.eg.er.sub (E2.eg.out ga) h3 l3 l2 z fun l'' e v us' t rl rd => ?_
      obtain ⟨E3, n3⟩ := E2.eg.wrote ga (o := .dK us') (d' := .dic l'') (.dic upd_same rl)
      exact k _ _ _ v F2 _ t ⟨E1.nx.trans (E2.nx.trans n3), E3⟩ rd⟩
/-- l.append(e), e a new thing of one's own: it is kept aside, too -/
def uAppN (uo ue : UE) : USG := fun E ρ g => uo ρ fun r ρ1 => ∃ a l, r = .val (.ref a) ∧ g a = some (.lst l) ∧ ue ρ1 fun q ρ2 => match q with
  | .own d => l.length < sizeLine ∧ ∀ b, g b = none → E.nx ρ2 (gput (gput g b d) a (.lst (l ++ [.ref b])))
  | _ => False
theorem fsg_appN {ue uo : UE} (ho : FE X o uo) (he : FE X e ue)
    (hbase : attributeBase o ("append" : Str) X.env (eval o X.env) = eval o X.env := by rfl)
    (hfew : ((backTo cpos (starEach [e] X.env)).all (fun x => !x.1) && (backToKw cpos (keywordEach [] X.env)).all (fun x => x.1.isSome)
      && decide (([e] : List Expr).length + ([] : List Keyword).length + (if ([] : List Keyword).isEmpty then 0 else 1) < 30)) = true := by rfl)
    (hline : (apos.endLine == cpos.line) = true := by rfl) (hs : starEach [e] X.env = (false, eval e X.env) :: starEach [] X.env := by rfl) (hplain : (backTo cpos (starEach [] X.env)).any (·.1) = false := by rfl)
    (hsw : swapsWith (.Call (.Attribute o ("append" : Str) apos) [e] [] cpos) none pos.line X.env = pure false := by rfl) :
    FSG X (.Expr (.Call (.Attribute o ("append" : Str) apos) [e] [] cpos) pos) (uAppN uo ue) := ⟨fun W tk E ρ g q F H σ0 σ B D er f => by
  obtain ⟨r, hr, kk⟩ := (mu_append (X := X)).ex
  refine to_SS (ps_expr pe_S hsw) ?_
  refine to_S (pe_bm PySem.F.plainAttrs_list PySem.F.slot_list_append PySem.F.type_list_append hr pe_S pa_S hbase hfew hline hs hplain) (ho ρ _ q F H σ0 σ _ _ er.er fun r1 ρ1 x F1 H1 z G => ?_)
  obtain ⟨a, l, rfl, ga, z⟩ := z
  have rx : RD X.K F1 x (.ref a) := G.rr
  cases rx
  have E1 := er.go ⟨G.nx, G.er⟩
  obtain ⟨ro, _⟩ := E1.eg.gs a _ ga
  cases ro with
  | @lst _ us _ h1 l1 =>
    refine ⟨.inl ⟨rfl, us, .of h1⟩, to_A (pa_cons pe_S pa_S hs) (he ρ1 _ z F1 H1 σ0 σ _ _ E1.eg.er fun q ρ2 y F2 H2 z G2 => to_A pa_nil ?_)⟩
    split at z
    · rename_i d
      have E2 := E1.eg.go ⟨G2.nx, G2.er⟩
      obtain ⟨b, rfl, gb, E3⟩ := E2.eg.aside G2.rr
      have ne : a ≠ b := fun z => by subst z; rw [gb] at ga; cases ga
      have ga3 : gput g b d a = some (.lst l) := by rw [gput_ne ne]; exact ga
      obtain ⟨ro2, _⟩ := E3.gs a _ ga3
      cases ro2 with
      | @lst _ us2 _ h3 l3 =>
        refine kk (T := fun l' e => l' = l ++ [.ref b]) E3.er.sub h3 l3 (.cons (.ref b) .nil) ⟨z.1, rfl⟩ fun l'' e v us' t rl rd => ?_
        subst t
        obtain ⟨E4, n4⟩ := E3.wrote ga3 (o := .lst us') (d' := .lst (l ++ [.ref b])) (.lst upd_same rl)
        exact f.nx _ _ σ F2 _ (z.2 b gb) ⟨E1.nx.trans (E2.nx.trans n4), E4⟩
    · exact z.elim⟩
/-! ### stores to places -/
def uPutKG (uv uo ui : UE) : USG := fun E ρ g => uv ρ fun r ρ1 => wv ρ1 r fun d => uo (frz ρ1 r) fun q ρ2 => ui ρ2 fun s ρ3 => wv ρ3 s fun e => ∃ a l k, q = .val (.ref a) ∧ g a = some (.dic l) ∧ keyD e = some k ∧ l.length < sizeLine ∧ E.nx ρ3 (gput g a (.dic (kput l k d)))
theorem fsg_putK {v i : Expr} {uv uo ui : UE} {pos' : Pos} (hu : X.A.units + 1 < cLine) (hv : FE X v uv) (ho : FE X o uo) (hi : FE X i ui) (hs : swapsWith v (some (.Subscript o i pos')) pos.line X.env = pure false := by rfl) : FSG X (.Assign [.Subscript o i pos'] v pos) (uPutKG uv uo ui) := ⟨fun W tk E ρ g q F H σ0 σ B D er f => by
  refine to_SS (ps_dput hu pe_S pe_S pe_S hs) (hv ρ _ q F H σ0 σ _ _ er.er fun r ρ1 x F1 H1 z G => ?_)
  have E1 := er.go ⟨G.nx, G.er⟩
  obtain ⟨F2, d, n2, E2, rd, z⟩ := G.er.freeze G.rr z
  have E2 := E1.eg.go ⟨n2, E2⟩
  refine ho _ _ z F2 H1 σ0 σ _ _ E2.eg.er fun q ρ2 y F3 H3 z G3 => ?_
  have E3 := E2.eg.go ⟨G3.nx, G3.er⟩
  refine hi ρ2 _ z F3 H3 σ0 σ (hB (asB B g) q y) _ (G3.er.hold G3.rr) fun s ρ3 w F4 H4 z G4 => ?_
  have E4 := E3.eg.go (σ' := σ) (ρ' := ρ3) (F' := F4) (H' := H4) ⟨G4.nx.mono hB_sub, G4.er.unhold⟩
  obtain ⟨e, we, z⟩ := E4.eg.er.seen (G4.rr.weak hB_sub) z
  obtain ⟨a, l, k, rfl, ga, ek, hl, z⟩ := z
  have rq : RD X.K F3 y (.ref a) := G3.rr
  cases rq
  obtain ⟨ro, _⟩ := E4.eg.gs a _ ga
  cases ro with
  | @dic _ kvs _ h1 rk =>
    cases keyD_v we ek
    have rd4 := rd.mono (G3.nx.fz.trans G4.nx.fz)
    obtain ⟨E5, n5⟩ := E4.eg.wrote ga (o := .dK (putK kvs k x)) (d' := .dic (kput l k d)) (.dic upd_same (rk.put rd4))
    exact ⟨a, _, rfl, .k h1 (by rw [rk.len]; exact hl), f.nx _ _ _ F4 _ z ⟨E1.nx.trans (E2.nx.trans (E3.nx.trans (E4.nx.trans n5))), E5⟩⟩⟩
def uPutLG (uv uo ui : UE) : USG := fun E ρ g => uv ρ fun r ρ1 => wv ρ1 r fun d => uo (frz ρ1 r) fun q ρ2 => ui ρ2 fun s ρ3 => ∃ a l k j, q = .val (.ref a) ∧ s = .val (.int k) ∧ g a = some (.lst l) ∧ ixN l.length k = some j ∧ E.nx ρ3 (gput g a (.lst (l.set j d)))
theorem fsg_putL {st : Stmt} {v i : Expr} {uv uo ui : UE} (h : PS X st (tAsg (tS X v) (gSub (tS X o) (tS X i) rSetL))) (hv : FE X v uv) (ho : FE X o uo) (hi : FE X i ui) : FSG X st (uPutLG uv uo ui) := ⟨fun W tk E ρ g q F H σ0 σ B D er f => by
  refine to_SS h (hv ρ _ q F H σ0 σ _ _ er.er fun r ρ1 x F1 H1 z G => ?_)
  have E1 := er.go ⟨G.nx, G.er⟩
  obtain ⟨F2, d, n2, E2, rd, z⟩ := G.er.freeze G.rr z
  have E2 := E1.eg.go ⟨n2, E2⟩
  refine ho _ _ z F2 H1 σ0 σ _ _ E2.eg.er fun q ρ2 y F3 H3 z G3 => ?_
  have E3 := E2.eg.go ⟨G3.nx, G3.er⟩
  refine hi ρ2 _ z F3 H3 σ0 σ (hB (asB B g) q y) _ (G3.er.hold G3.rr) fun s ρ3 w F4 H4 z G4 => ?_
  have E4 := E3.eg.go (σ' := σ) (ρ' := ρ3) (F' := F4) (H' := H4) ⟨G4.nx.mono hB_sub, G4.er.unhold⟩
  obtain ⟨a, l, k, j, rfl, rfl, ga, ej, z⟩ := z
  have rq : RD X.K F3 y (.ref a) := G3.rr
  cases rq
  have rs : RD X.K F4 w (.int k) := G4.rr
  cases rs
  obtain ⟨ro, _⟩ := E4.eg.gs a _ ga
  cases ro with
  | @lst _ us _ h1 l1 =>
    refine ⟨a, us, k, j, rfl, rfl, h1, by rw [l1.len]; exact ej, ?_⟩
    have rd4 := rd.mono (G3.nx.fz.trans G4.nx.fz)
    obtain ⟨E5, n5⟩ := E4.eg.wrote ga (o := .lst (us.set j x)) (d' := .lst (l.set j d)) (.lst upd_same (l1.set j rd4))
    exact f.nx _ _ _ F4 _ z ⟨E1.nx.trans (E2.nx.trans (E3.nx.trans (E4.nx.trans n5))), E5⟩⟩
end
/-! ### between statements -/
section
variable {K : PySem.W.Frag} {F H : Hp} {σ0 σ : L2.St} {ρ : List Sl} {B : Addr → Prop} {g : Gh} {i : Nat} {p : Bool} {a : Addr} {d : D}
theorem set_at {ρ : List Sl} {i j : Nat} {s t : Sl} (hl : i < ρ.length) (e : (ρ.set i s)[j]? = some t) : (j = i ∧ t = s) ∨ (j ≠ i ∧ ρ[j]? = some t) := by
  by_cases hj : j = i
  · subst hj; rw [List.getElem?_set_self hl] at e; cases e; exact .inl ⟨rfl, rfl⟩
  · rw [List.getElem?_set_ne (Ne.symm hj)] at e; exact .inr ⟨hj, e⟩
theorem EG.put_aside (E : EG K F H σ0 ρ σ B g) (h : ρ[i]? = some (.sl true p d)) : ∃ a, g a = none ∧ EG K F H σ0 (ρ.set i (.sl false p (.ref a))) σ B (gput g a d) := by
  have hl : i < ρ.length := (List.getElem?_eq_some_iff.mp h).1
  obtain ⟨a, es, ro, n, nb⟩ := E.er.ow i p d h
  have ga : g a = none := Classical.byContradiction fun z => nb (.inr z)
  have ge : ∀ c, asB B (gput g a d) c → asB B g c ∨ c = a := fun c hc => by
    rcases hc with hc | hc
    · exact .inl (.inl hc)
    · by_cases e : c = a
      · exact .inr e
      · rw [gput_ne e] at hc; exact .inl (.inr hc)
  refine ⟨a, ga, ⟨by rw [List.length_set]; exact E.er.len, E.er.sub, fun j q x e => ?_, fun j q x e => ?_, fun j k b q1 q2 x y e1 e2 e3 e4 => ?_, fun j o x e => ?_, fun c hc => ?_⟩, fun b x hb => ?_⟩
  · rcases set_at hl e with ⟨rfl, z⟩ | ⟨_, z⟩
    · cases z; exact ⟨_, es, .ref a⟩
    · exact E.er.fz j q x z
  · rcases set_at hl e with ⟨_, z⟩ | ⟨hj, z⟩
    · cases z
    · obtain ⟨b, e1, r1, n1, nb1⟩ := E.er.ow j q x z
      refine ⟨b, e1, r1, n1, fun w => ?_⟩
      rcases ge b w with w | w
      · exact nb1 w
      · subst w; exact hj (E.er.inj j i b _ _ _ _ z h e1 es)
  · rcases set_at hl e1 with ⟨_, z⟩ | ⟨_, z⟩
    · cases z
    · rcases set_at hl e2 with ⟨_, z2⟩ | ⟨_, z2⟩
      · cases z2
      · exact E.er.inj j k b _ _ _ _ z z2 e3 e4
  · rcases set_at hl e with ⟨rfl, z⟩ | ⟨_, z⟩
    · cases z; exact E.er.par j true d h
    · exact E.er.par j o x z
  · rcases ge c hc with w | w
    · exact E.er.out c w
    · subst w
      obtain ⟨_, o, ev, ho⟩ := ro.there
      cases ev
      exact ⟨some_ne ho, n⟩
  · by_cases ne : b = a
    · subst ne; rw [gput_same] at hb; cases hb; exact ⟨ro, fun z => nb (.inl z)⟩
    · rw [gput_ne ne] at hb; exact E.gs b x hb
def gdel (g : Gh) (a : Addr) : Gh := fun b => if b = a then none else g b
theorem EG.take (E : EG K F H σ0 ρ σ B g) (h : ρ[i]? = some (.sl false p (.ref a))) (ga : g a = some d) : EG K F H σ0 (ρ.set i (.sl true p d)) σ B (gdel g a) := by
  have hl : i < ρ.length := (List.getElem?_eq_some_iff.mp h).1
  obtain ⟨v, es, rd⟩ := E.er.fz i p _ h
  cases rd
  obtain ⟨ro, nB⟩ := E.gs a d ga
  have gl : ∀ c, asB B (gdel g a) c → asB B g c ∧ c ≠ a := fun c hc => by
    rcases hc with hc | hc
    · exact ⟨.inl hc, fun z => by subst z; exact nB hc⟩
    · by_cases e : c = a
      · exact absurd (if_pos e) hc
      · have e1 : gdel g a c = g c := if_neg e
        rw [e1] at hc; exact ⟨.inr hc, e⟩
  refine ⟨⟨by rw [List.length_set]; exact E.er.len, E.er.sub, fun j q x e => ?_, fun j q x e => ?_, fun j k b q1 q2 x y e1 e2 e3 e4 => ?_, fun j o x e => ?_, fun c hc => E.er.out c (gl c hc).1⟩, fun b x hb => ?_⟩
  · rcases set_at hl e with ⟨_, z⟩ | ⟨_, z⟩
    · cases z
    · exact E.er.fz j q x z
  · rcases set_at hl e with ⟨rfl, z⟩ | ⟨hj, z⟩
    · cases z; exact ⟨a, es, ro, E.out ga, fun w => (gl a w).2 rfl⟩
    · obtain ⟨b, e1, r1, n1, nb1⟩ := E.er.ow j q x z
      exact ⟨b, e1, r1, n1, fun w => nb1 (gl b w).1⟩
  · rcases set_at hl e1 with ⟨rfl, z⟩ | ⟨hj, z⟩
    · cases z
      rcases set_at hl e2 with ⟨rfl, z2⟩ | ⟨hk, z2⟩
      · rfl
      · obtain ⟨b2, e5, _, _, nb2⟩ := E.er.ow k q2 y z2
        rw [e4] at e5; cases e5
        rw [es] at e3; cases e3
        exact absurd (.inr (some_ne ga)) nb2
    · obtain ⟨b1, e5, _, _, nb1⟩ := E.er.ow j q1 x z
      rw [e3] at e5; cases e5
      rcases set_at hl e2 with ⟨rfl, z2⟩ | ⟨hk, z2⟩
      · cases z2
        rw [es] at e4; cases e4
        exact absurd (.inr (some_ne ga)) nb1
      · exact E.er.inj j k b _ _ _ _ z z2 e3 e4
  · rcases set_at hl e with ⟨rfl, z⟩ | ⟨_, z⟩
    · cases z; exact E.er.par j false _ h
    · exact E.er.par j o x z
  · by_cases ne : b = a
    · subst ne
      have : gdel g b b = none := if_pos rfl
      rw [this] at hb; cases hb
    · have e1 : gdel g a b = g b := if_neg ne
      rw [e1] at hb; exact E.gs b x hb
end
section
variable {X : Cx} {rest : List Stmt} {u : USG} {i : Nat}
def uAside (i : Nat) (u : USG) : USG := fun E ρ g => ∃ p d, ρ[i]? = some (.sl true p d) ∧ ∀ a, g a = none → u E (ρ.set i (.sl false p (.ref a))) (gput g a d)
theorem fbg_aside (i : Nat) (h : FBG X rest u) : FBG X rest (uAside i u) := ⟨fun W tk E ρ g q F H σ0 σ B D er f => by
  obtain ⟨p, d, e, z⟩ := q
  obtain ⟨a, ga, E2⟩ := er.put_aside e
  exact h.run W tk E _ _ (z a ga) F H σ0 σ B D E2 f⟩
def uTake (i : Nat) (u : USG) : USG := fun E ρ g => ∃ p a d, ρ[i]? = some (.sl false p (.ref a)) ∧ g a = some d ∧ u E (ρ.set i (.sl true p d)) (gdel g a)
theorem fbg_take (i : Nat) (h : FBG X rest u) : FBG X rest (uTake i u) := ⟨fun W tk E ρ g q F H σ0 σ B D er f => by
  obtain ⟨p, a, d, e, ga, z⟩ := q
  exact h.run W tk E _ _ z F H σ0 σ B D (er.take e ga) f⟩
def uRel (u : USG) : USG := fun E ρ g => ∃ ρ1 g1, (∀ a d, g1 a = some d → g a = some d) ∧ Rls (gLess g g1) ρ ρ1 ∧ u E ρ1 g1
theorem fbg_rel (h : FBG X rest u) : FBG X rest (uRel u) := ⟨fun W tk E ρ g q F H σ0 σ B D er f => by
  obtain ⟨ρ1, g1, h1, w, z⟩ := q
  obtain ⟨F1, G, _⟩ := er.release h1 w
  exact h.run W tk E _ _ z F1 H σ0 σ B D G.eg (f.on G.nx)⟩
end
end YP
set_option maxRecDepth 100000
set_option maxHeartbeats 2000000
/-! The yard's pure layer, part 50: defs beside what is kept aside; results with things of one's own in them. -/
namespace YP
open PySem PySem.Spec PyProof.Rows L2 Yard
/-! ### a block that keeps things aside, for itself -/
def EnX.toG (E : EnX) : EnG := ⟨fun ρ _ => E.en.nx ρ, fun r ρ _ => E.en.rt r ρ, fun ρ _ => E.en.bk ρ, fun ρ _ => E.en.ct ρ, fun C fs ρ _ => E.xc C fs ρ⟩
theorem FolX.toG {K : PySem.W.Frag} {F H : Hp} {σ0 : L2.St} {B : Addr → Prop} {E : EnX} {D : Ends} {W : WX} (f : FolX K F H σ0 B E D W) : FolG K F H σ0 B E.toG D W :=
  ⟨fun ρ' g' σ' F' H' e G => f.fol.nx ρ' σ' F' H' e ⟨G.nx, G.eg.plain⟩, fun r ρ' g' v σ' F' H' e G rr => f.fol.rt r ρ' v σ' F' H' e ⟨G.nx, G.eg.plain, rr.weak fun _ => .inl⟩,
    fun ρ' g' σ' F' H' e G => f.fol.bk ρ' σ' F' H' e ⟨G.nx, G.eg.plain⟩, fun ρ' g' σ' F' H' e G => f.fol.ct ρ' σ' F' H' e ⟨G.nx, G.eg.plain⟩,
    fun C fs ρ' g' σ' F' H' dd vfs e G => f.xc C fs ρ' σ' F' H' dd vfs e ⟨G.nx, G.eg.plain⟩⟩
def uGX (u : USG) : USX := fun E ρ => u E.toG ρ g0
theorem fbx_g {X : Cx} {rest : List Stmt} {u : USG} (h : FBG X rest u) : FBX X rest (uGX u) := ⟨fun W tk E ρ q F H σ0 σ B D er f => h.run W tk E.toG ρ g0 q F H σ0 σ B D er.g0 f.toG⟩
theorem fb_g {X : Cx} {rest : List Stmt} {u : USG} (h : FBG X rest u) : FB X rest (fun E ρ => uGX u ⟨E, fun _ _ _ => False⟩ ρ) := ⟨fun E ρ q F H σ0 σ B D er f =>
  (fbx_g h).run (fun _ _ _ _ => False) takes0 ⟨E, fun _ _ _ => False⟩ ρ q F H σ0 σ B D er ⟨f, fun _ _ _ _ _ _ _ _ z => z.elim⟩⟩
/-! ### a def that may raise, and tells things of one's own -/
abbrev UFG := List Sl → (Rv → List Sl → Gh → Prop) → (Addr → List (Str × D) → List Sl → Prop) → Prop
def PSpG (K : PySem.W.Frag) (n : Nat) (u : UFG) : Sp := fun vs H Q E => ∃ ρ F B R RX, ρ.length = n ∧ vs.length = n ∧ ER K F H [] ρ (vs.map some) B ∧ u ρ R RX ∧
  (∀ r ρ' g' v F' H', R r ρ' g' → Nx F H F' H' B → EG K F' H' [] ρ' (vs.map some) B g' → RR K F' H' ρ' (vs.map some) (asB B g') r v → (∀ i, r ≠ .at i) → Q v H') ∧
  ∀ C fs ρ' dd vfs F' H', RX C fs ρ' → Nx F H F' H' B → ER K F' H' [] ρ' (vs.map some) B → F' dd = some (.xd vfs) → RF K F' vfs fs → E (.ref C) (some dd) H'
def enEndG (n : Nat) (R : Rv → List Sl → Gh → Prop) (RX : Addr → List (Str × D) → List Sl → Prop) : EnG :=
  ⟨fun ρe g => R (.val .non) (back n ρe) g, fun r ρe g => fin ρe r fun r ρ2 => R r (back n ρ2) g, fun _ _ => False, fun _ _ => False, fun C fs ρe _ => RX C fs (back n ρe)⟩
section
variable {P : Program} {w : World} {K : PySem.W.Frag} {mg : Str → Option Value} {base : Heap}
theorem fn_mkg {x qual : Str} {st : Stmt} {f : Addr} {fd : FuncData} {N ps : List Str} {k : Nat} {u : UFG} (Fn : Fun K x qual st f fd) (S : FnScope N ps (defScope st)) (hN : ps.length ≤ N.length)
    (body : ∀ (cdv : Value) (A : Around) (outer : List Env) (s : Shared) (H : Hp) (E : XK), Room k (A.deeper (envOfC qual (defScope st) s.heap.objs.size f cdv)) →
      ∃ ub, FBG (cxOf (L2.CX P w) P w K mg base N qual (defScope st) f cdv A outer s H E) (defBody st) ub ∧ ∀ ρ R RX, ρ.length = ps.length → u ρ R RX → ub (enEndG ps.length R RX) (enter N.length ρ) g0) : FnOk P w K mg base (L2.CX P w) (k + 1) f fd ps (PSpG K ps.length u) := by
  refine Fn.okX S (fun vs H Q E h => ?_) fun cdv A outer s H vs Q E hr h => ?_
  · obtain ⟨ρ, F, B, R, RX, _, l, _⟩ := h; exact l
  · obtain ⟨ρ, F, B, R, RX, l1, l2, er, hu, g, gx⟩ := h
    obtain ⟨ub, hub, go⟩ := body cdv A outer s H E hr
    have hn : ps.length = (vs.map some).length := by rw [List.length_map]; exact l2.symm
    refine ⟨_, pss_S, hub.run (fun cls d _ H => E cls d H) (takes_of rfl rfl rfl rfl) _ _ g0 (go ρ R RX l1 hu) F H (vs.map some) _ B _ er.enter.g0 ⟨fun ρ' g' σ' F' H' e G => ?_, fun r ρ' g' v σ' F' H' e G rr => ?_, fun _ _ _ _ _ e _ => e.elim, fun _ _ _ _ _ e _ => e.elim, fun C fs ρ' g' σ' F' H' dd vfs e G fd rf => ?_⟩⟩
    · exact g _ _ g' _ F' H' e G.nx ⟨G.eg.er.back hn, G.eg.gs⟩ .non (fun _ z => nomatch z)
    · obtain ⟨F2, r2, ρ2, hk, nx, er2, rr2, na⟩ := fin_ok (k := fun r ρ2 => R r (YP.back ps.length ρ2) g') G.eg.er rr e hn
      exact g r2 _ g' v F2 H' hk (G.nx.trans (nx.mono fun _ => .inl)) ⟨er2, fun a d ha => let ⟨ro, nb⟩ := G.eg.gs a d ha; ⟨ro.keep nx.fz rfl, nb⟩⟩ rr2 na
    · exact gx C fs _ dd vfs F' H' e G.nx (G.eg.plain.back hn) fd rf
theorem gLess_g0 (g : Gh) : gLess g g0 = g := funext fun _ => rfl
/-- what it tells stays from now on -/
def uRelF (u : UFG) : UFX := fun ρ R RX => u ρ (fun r ρ' g' => ∃ d d' ρ1, r = .val d ∧ Res g' d d' ∧ Rls g' ρ' ρ1 ∧ R (.val d') ρ1) RX
theorem fn_rel {CX : CXT} {k n : Nat} {f : Addr} {fd : FuncData} {ps : List Str} {u : UFG} (Fn : FnOk P w K mg base CX k f fd ps (PSpG K n u)) : FnOk P w K mg base CX k f fd ps (PSpX K n (uRelF u)) := by
  refine Fn.imp fun vs H Q E h => ?_
  obtain ⟨ρ, F, B, R, RX, l1, l2, er, hu, g, gx⟩ := h
  refine ⟨ρ, F, B, _, RX, l1, l2, er, hu, fun r ρ' g' v F' H' ⟨d, d', ρ1, er', rs, rl, hR⟩ nx eg rr na => ?_, gx⟩
  subst er'
  obtain ⟨F1, G, hres⟩ := eg.release (g1 := g0) (fun _ _ h => nomatch h) (by rw [gLess_g0]; exact rl)
  exact g _ ρ1 v F1 H' hR (nx.trans G.nx) G.eg.plain (hres v d d' rr (by rw [gLess_g0]; exact rs)) (fun _ z => nomatch z)
end
/-! ### its call, where nothing is raised: what it tells of one's own is kept aside -/
def gadd (g g2 : Gh) : Gh := fun a => match g2 a with
  | some d => some d
  | none => g a
def uCallG (u : UFG) (ua : UR) : UEG := fun ρ g R => ua ρ fun rs ρ1 => (ats rs).Nodup ∧ u (rs.map (slOf ρ1)) (fun r ss g2 => (∃ d, r = .val d) ∧ R r (wb ρ1 rs ss) (gadd g g2)) fun _ _ _ => False
theorem feg_callG {X : Cx} {ea : Expr} {es : List Expr} {pf pos : Pos} {x : Str} {u : UFG} {ua : UR} {k : Nat} {f : Addr} {fd : FuncData} {ps : List Str} (Fn : FnOk X.prog X.w X.K X.mg X.base (L2.CX X.prog X.w) k f fd ps (PSpG X.K ps.length u)) (hr : Room k X.A) (hg : Gl X x) (hm : X.mg x = some (.ref f)) (hk : PySem.W.keepIn X.K (.ref f) = true) (hb : Binds X.K fd ps [])
    (ha : FR X (ea :: es) ua) (hn : (ea :: es).length = ps.length := by rfl) (hdb : (x == ("__debug__" : Str)) = false := by decide) (he : starEach (ea :: es) X.env = (false, eval ea X.env) :: starEach es X.env := by rfl) (hpl : (backTo pos (starEach es X.env)).any (·.1) = false := by rfl) :
    FEG X (.Call (.Name x pf) (ea :: es) [] pos) (uCallG u ua) := ⟨fun ρ g R q F H σ0 σ B Q E kk => by
  refine to_S (pe_callS Fn hr hg hm hk hb (E := WE (fun _ _ _ _ => False)) (fun σ => passAt takes0 σ) pa_S hdb he hpl) (ha ρ _ q F H σ0 σ _ _ E.er fun rs ρ1 vs F1 H1 ⟨n1, z⟩ G l ll => ?_)
  have E1 := E.go G
  have ln := ll.trans hn
  have lv := l.len
  refine ⟨_, F1, bB (asB B g) ρ1 σ rs, _, _, by rw [List.length_map]; exact ln, by rw [← lv, ln], G.er.into l n1, z, fun r ss g2 v F' H' y nx EG' rr na => ?_, fun C fs ss dd vfs F' H' y nx E' fd rf => y.elim⟩
  obtain ⟨⟨d, rfl⟩, y⟩ := y
  have G' := G.er.behind l n1 nx EG'.plain (rr.weak fun _ => .inl) na
  have ga2 : ∀ a x, gadd g g2 a = some x → g2 a = some x ∨ (g2 a = none ∧ g a = some x) := fun a x h => by
    unfold gadd at h
    cases e : g2 a with
    | none => rw [e] at h; exact .inr ⟨rfl, h⟩
    | some z => rw [e] at h; exact .inl h
  have asB2 : ∀ c, asB B (gadd g g2) c → asB B g c ∨ g2 c ≠ none := fun c h => by
    rcases h with h | h
    · exact .inl (.inl h)
    · obtain ⟨x, e⟩ := Option.ne_none_iff_exists'.mp h
      rcases ga2 c x e with e | ⟨_, e⟩
      · exact .inr (some_ne e)
      · exact .inl (.inr (some_ne e))
  have apart : ∀ (j : Nat) p e a, (wb ρ1 rs ss)[j]? = some (Sl.sl true p e) → σ[j]? = some (some (V.ref a)) → g2 a = none := fun j p e a h1 h2 => by
    refine Classical.byContradiction fun hne => ?_
    obtain ⟨x, ex⟩ := Option.ne_none_iff_exists'.mp hne
    by_cases hj : j ∈ ats rs
    · obtain ⟨m, em⟩ := mem_ats hj
      have hm' : m < rs.length := (List.getElem?_eq_some_iff.mp em).1
      have ls : ss.length = rs.length := by rw [EG'.er.len, List.length_map, lv]
      have es' : ss[m]? = some (ss[m]'(by omega)) := List.getElem?_eq_getElem (by omega)
      have ev : vs[m]? = some (vs[m]'(by omega)) := List.getElem?_eq_getElem (by omega)
      have hjl : j < ρ1.length := by
        have := (List.getElem?_eq_some_iff.mp h1).1
        rw [wb_len] at this; exact this
      rw [wb_in n1 em es' hjl] at h1
      have h1 := Option.some.inj h1
      have rj : σ[j]? = some (some (vs[m]'(by omega))) := l.at_ em ev
      generalize ss[m]'(by omega) = s at es' h1
      cases s with
      | un => simp only [wb1] at h1; cases h1
      | sl o2 q2 d2 =>
        cases zr : ρ1[j]? with
        | none => rw [zr] at h1; simp only [wb1] at h1; cases h1
        | some t =>
          cases t with
          | un => rw [zr] at h1; simp only [wb1] at h1; cases h1
          | sl o3 p3 d3 =>
            rw [zr] at h1; simp only [wb1] at h1
            cases h1
            obtain ⟨b, e5, _, _, nb⟩ := EG'.er.ow m q2 e es'
            rw [List.getElem?_map, ev] at e5
            have e5 := Option.some.inj (Option.some.inj e5)
            rw [rj] at h2
            have h2 := Option.some.inj (Option.some.inj h2)
            rw [e5] at h2
            cases h2
            exact nb (.inr hne)
    · rw [wb_out hj] at h1
      exact (EG'.gs a x ex).2 (.inr ⟨j, p, e, h1, hj, h2⟩)
  refine kk _ _ (gadd g g2) v F' H' y ⟨E1.nx.trans (G'.nx.mono fun _ => .inl), ⟨G'.er.len, G'.er.sub, G'.er.fz, fun j p e h => ?_, G'.er.inj, G'.er.par, fun c hc => ?_⟩, fun a x h => ?_⟩ rr
  · obtain ⟨a, e1, ro, n, nb⟩ := G'.er.ow j p e h
    refine ⟨a, e1, ro, n, fun hc => ?_⟩
    rcases asB2 a hc with hc | hc
    · exact nb hc
    · exact hc (apart j p e a h e1)
  · rcases asB2 c hc with hc | hc
    · exact G'.er.out c hc
    · exact EG'.er.out c (.inr hc)
  · rcases ga2 a x h with e | ⟨_, e⟩
    · obtain ⟨ro, nb⟩ := EG'.gs a x e
      exact ⟨ro, fun z => nb (.inl (.inl z))⟩
    · obtain ⟨ro, nb⟩ := E1.eg.gs a x e
      exact ⟨ro.keep G'.nx.fz (G'.nx.out a (.inr (some_ne e))), nb⟩⟩
end YP
set_option maxRecDepth 100000
set_option maxHeartbeats 2000000
/-! The yard's pure layer, part 51: texts cut, f-texts, str and int of texts, texts in order, a dict's truth. -/
namespace YP
open PySem PySem.Spec PyProof.Rows L2 Yard
section
variable {X : Cx} {o e a : Expr} {uo ue ua : UE} {apos cpos pos : Pos}
/-! ### x.split(sep) -/
def uSplit (uo ue : UE) : UE := fun ρ R => uo ρ fun r ρ1 => ∃ x, r = .val (.str x) ∧ ue ρ1 fun q ρ2 => ∃ s, q = .val (.str s) ∧ (s.length == 0) = false ∧ x.length + 2 ≤ sizeLine ∧ R (.own (.lst ((Txt.split x s).map D.str))) ρ2
theorem fe_split (ho : FE X o uo) (he : FE X e ue) (hs : starEach [e] X.env = [(false, eval e X.env)] := by rfl) (hbase : attributeBase o "split" X.env (eval o X.env) = eval o X.env := by rfl) (hline : (apos.endLine == cpos.line) = true := by rfl) :
    FE X (.Call (.Attribute o "split" apos) [e] [] cpos) (uSplit uo ue) := ⟨fun ρ R q F H σ0 σ B Q E g => by
  refine to_S (pe_split pe_S pe_S hs hbase hline) (ho ρ _ q F H σ0 σ B _ E fun r ρ1 v F1 H1 z G => ?_)
  obtain ⟨x, rfl, z⟩ := z
  have rr : RD X.K F1 v (.str x) := G.rr
  cases rr
  refine ⟨⟨x, rfl⟩, he ρ1 _ z F1 H1 σ0 σ B _ G.er fun q ρ2 u F2 H2 z G2 => ?_⟩
  obtain ⟨s, rfl, h1, h2, z⟩ := z
  have rs : RD X.K F2 u (.str s) := G2.rr
  cases rs
  refine ⟨x, s, rfl, rfl, h1, h2, fun p np => ?_⟩
  exact g _ _ _ _ _ z ⟨G.nx.trans (G2.nx.trans (nx_new G2.er np)), G2.er.laid np, G2.er.laid_own np (.lst upd_same (strs_rl _))⟩⟩
/-! ### str(x), int(text) -/
def oStr (ds : List D) (T : Rv → Prop) : Prop := match ds with
  | [.int i] => i.natAbs.log2 < 1920 ∧ T (.val (.str (toString i)))
  | [.str x] => T (.val (.str x))
  | _ => False
theorem cb_str : CbS X (.type "str") oStr := .of (CallR.or call_str_int SkE.call_str_str) fun {F H σ0 σ ρ B vs ds T Q} E w t g => by
  unfold oStr at t
  split at t
  · obtain ⟨v, rfl, w0⟩ := w.one
    cases w0.int
    exact .inl ⟨_, rfl, t.1, gt_val E g t.2 (.str _)⟩
  · obtain ⟨v, rfl, w0⟩ := w.one
    cases w0.str
    exact .inr ⟨_, rfl, gt_val E g t (.str _)⟩
  · exact t.elim
def oIntS (ds : List D) (T : Rv → Prop) : Prop := match ds with
  | [.str x] => ∃ n, PySem.intText? x = some n ∧ x.length ≤ 640 ∧ T (.val (.int n))
  | _ => False
theorem cb_intS : CbS X (.type "int") oIntS := .of call_int_str fun {F H σ0 σ ρ B vs ds T Q} E w t g => by
  unfold oIntS at t
  split at t
  · obtain ⟨n, e1, e2, t⟩ := t
    obtain ⟨v, rfl, w0⟩ := w.one
    cases w0.str
    exact ⟨_, n, rfl, e1, e2, gt_val E g t (.int _)⟩
  · exact t.elim
/-! ### texts in order -/
def oGtS (d e : D) (T : Rv → Prop) : Prop := match d, e with
  | .str i, .str j => T (.val (.bl (decide (j.cps.toList < i.cps.toList))))
  | _, _ => False
theorem os_gtS : OpS X (compareOp .Gt) oGtS := .of op_gt_str fun {F H σ0 σ ρ B x y d e T Q} E w1 w2 t g => by
  unfold oGtS at t
  split at t
  · cases w1.str; cases w2.str
    exact ⟨_, _, rfl, rfl, gt_val E g t (.bl _)⟩
  · exact t.elim
def oLeS (d e : D) (T : Rv → Prop) : Prop := match d, e with
  | .str i, .str j => T (.val (.bl (!decide (j.cps.toList < i.cps.toList))))
  | _, _ => False
theorem os_leS : OpS X (compareOp .LtE) oLeS := .of op_le_str fun {F H σ0 σ ρ B x y d e T Q} E w1 w2 t g => by
  unfold oLeS at t
  split at t
  · cases w1.str; cases w2.str
    exact ⟨_, _, rfl, rfl, gt_val E g t (.bl _)⟩
  · exact t.elim
/-! ### a dict's truth -/
theorem tru_K : TruR X (fun x H Q => ∃ p kvs, x = .ref p ∧ Rd H p (.dK kvs) ∧ Q (!kvs.isEmpty) H) := by
  intro pins s σ H x v Q I rx h
  obtain ⟨p, kvs, rfl, hd, q⟩ := h
  cases rx
  exact d_truth I hd fun s' I' => ⟨H, I', q⟩
def uTruK (u : UE) : UT := fun ρ R => u ρ fun r ρ1 => wv ρ1 r fun d => ∃ l, d = .dic l ∧ R (!l.isEmpty) ρ1
theorem ft_truK (ha : FE X a ua) (he : ∀ whole, isTrue a X.env whole = (do let v ← whole; standAt a.pos; holding [v] (truthy v)) := by intro _; rfl) : FT X a (uTruK ua) := ⟨fun ρ R q F H σ0 σ B Q E g => by
  refine to_ST (pt_truthR pe_S tru_K he) (ha ρ _ q F H σ0 σ B _ E fun r ρ1 v F1 H1 h G => ?_)
  obtain ⟨d, w, l, rfl, h⟩ := G.er.seen G.rr h
  obtain ⟨p, kvs, rfl, h1, rk⟩ := w.dic G.er.sub
  have e : kvs.isEmpty = l.isEmpty := by cases rk <;> rfl
  exact ⟨p, kvs, rfl, h1, by rw [e]; exact g _ ρ1 F1 H1 h ⟨G.nx, G.er⟩⟩⟩
/-! ### f'..' -/
def uFmt (ue : UE) : UE := fun ρ R => ue ρ fun r ρ1 => (∃ y : Str, r = .val (.str y) ∧ y.length ≤ sizeLine ∧ R (.val (.str y)) ρ1) ∨ ∃ i : Int, r = .val (.int i) ∧ i.natAbs.log2 < 1920 ∧ R (.val (.str (toString i))) ρ1
theorem fe_fmt (he : FE X e ue) : FE X (.FormattedValue e (-1) none pos) (uFmt ue) := ⟨fun ρ R q F H σ0 σ B Q E g => by
  refine to_S (pe_fmt pe_S) (he ρ _ q F H σ0 σ B _ E fun r ρ1 v F1 H1 z G => ?_)
  rcases z with ⟨y, rfl, h1, z⟩ | ⟨i, rfl, h1, z⟩
  · have rr : RD X.K F1 v (.str y) := G.rr
    cases rr
    exact .inl ⟨y, rfl, h1, g _ _ _ F1 H1 z ⟨G.nx, G.er, .str y⟩⟩
  · have rr : RD X.K F1 v (.int i) := G.rr
    cases rr
    exact .inr ⟨i, rfl, h1, g _ _ _ F1 H1 z ⟨G.nx, G.er, .str _⟩⟩⟩
abbrev UJ := Str → List Sl → (Str → List Sl → Prop) → Prop
structure FJ (X : Cx) (es : List Expr) (u : UJ) : Prop where
  run : ∀ (acc : Str) (ρ : List Sl) (R : Str → List Sl → Prop), u acc ρ R → ∀ (F H : Hp) (σ0 σ : L2.St) (B : Addr → Prop) (Q : Str → Hp → Prop), ER X.K F H σ0 ρ σ B →
    (∀ out ρ' F' H', R out ρ' → Gd X.K F H F' H' σ0 ρ' σ B → Q out H') → tJs (es.map (tS X)) acc σ H Q
def uJNil : UJ := fun acc ρ R => R acc ρ
def uJCons (ue : UE) (u : UJ) : UJ := fun acc ρ R => ue ρ fun r ρ1 => ∃ y : Str, r = .val (.str y) ∧ (acc ++ y).length ≤ sizeLine ∧ u (acc ++ y) ρ1 R
theorem fj_nil : FJ X [] uJNil := ⟨fun acc ρ R q F H σ0 σ B Q E g => g acc ρ F H q ⟨.refl _ _ _, E⟩⟩
theorem fj_cons {es : List Expr} {u : UJ} (he : FE X e ue) (hr : FJ X es u) : FJ X (e :: es) (uJCons ue u) := ⟨fun acc ρ R q F H σ0 σ B Q E g =>
  he ρ _ q F H σ0 σ B _ E fun r ρ1 v F1 H1 z G => by
    obtain ⟨y, rfl, h1, z⟩ := z
    have rr : RD X.K F1 v (.str y) := G.rr
    cases rr
    exact ⟨y, rfl, h1, hr.run _ ρ1 R z F1 H1 σ0 σ B Q G.er fun out ρ' F' H' y G' => g out ρ' F' H' y ⟨G.nx.trans G'.nx, G'.er⟩⟩⟩
theorem pj_S : ∀ es : List Expr, PJ X es (es.map (tS X))
  | [] => .nil
  | _ :: es => .cons pe_S (pj_S es)
def uJs (u : UJ) : UE := fun ρ R => u Str.empty ρ fun out ρ1 => R (.val (.str out)) ρ1
theorem fe_js {v1 v2 : Expr} {rest : List Expr} {u : UJ} (h : FJ X (v1 :: v2 :: rest) u) : FE X (.JoinedStr (v1 :: v2 :: rest) pos) (uJs u) := ⟨fun ρ R q F H σ0 σ B Q E g =>
  to_S (pe_joined (pj_S _)) (h.run _ ρ _ q F H σ0 σ B _ E fun out ρ' F' H' z G => g _ _ _ F' H' z ⟨G.nx, G.er, .str _⟩)⟩
end
end YP
set_option maxRecDepth 100000
set_option maxHeartbeats 4000000
/-! The yard's pure layer, part 52: for k, (a, b) in enumerate(zip(s, t)), s and t tuples. -/
namespace PySem
open Sem (wp)
open RZ (nextOf_tuple_item nextOf_tuple_end)
open AutoSeq1 (wpAny_loadPart')
/-- a zip, its tuple handed out or not -/
abbrev IsZ (h : Heap) (z TI TO : Addr) (v : Value) (f : Bool) : Prop :=
  h.get? z = some { cls := .type "zip", dict := none, data := .fields #[v, .bool f, .bool false, .ref TI, .ref TO], slots := #[] }
def HoldV (v : Value) : Prop := v = .none ∨ ∃ T : Addr, v = rawInt T
section
variable {prog : Program} {w : World} {A : Around} {E : Value → Shared → Prop} {s : Shared}
theorem yz_alive {a : Addr} {Q : Option Obj → Shared → Prop} (h : Q (s.heap.get? a) s) : wpAny (model prog w) A (loadIfAlive a) Q E s := fun _ _ _ => h
theorem yz_free {z TI TO : Addr} {v : Value} {f : Bool} {Q : Bool → Shared → Prop} (hz : IsZ s.heap z TI TO v f) (hv : HoldV v)
    (h : ∀ b f' h', IsZ h' z TI TO v f' → Heap.SameBut z s.heap h' → Q b { s with heap := h' }) : wpAny (model prog w) A (Builtin.SmallTypes.ownedTupleIsFree (.ref z)) Q E s := by
  unfold Builtin.SmallTypes.ownedTupleIsFree
  rcases hv with rfl | ⟨T, rfl⟩
  · exact wpAny_bind (wpAny_field hz rfl (x := .none) rfl (wpAny_pure (h true f s.heap hz (Heap.SameBut.refl _ _))))
  refine wpAny_bind (wpAny_field hz rfl (x := rawInt T) rfl ?_)
  show wpAny _ _ (loadIfAlive ((T : Int).toNat) >>= _) _ _ _
  rw [Int.toNat_natCast]
  refine wpAny_bind (yz_alive ?_)
  cases hT : s.heap.get? T with
  | none =>
    simp only [Option.isNone_none, if_true]
    exact wpAny_pure (h true f s.heap hz (Heap.SameBut.refl _ _))
  | some oT =>
    simp only [Option.isNone_some, Bool.false_eq_true, if_false]
    refine wpAny_bind (wpAny_field hz rfl (x := .bool f) rfl ?_)
    cases f with
    | true =>
      rw [if_neg (show ¬ ((Value.bool true != Value.bool true) = true) from Bool.false_ne_true)]
      exact wpAny_pure (h false true s.heap hz (Heap.SameBut.refl _ _))
    | false =>
      rw [if_pos (show (Value.bool false != Value.bool true) = true from rfl)]
      exact wpAny_bind (wpAny_setField_rec hz (by simp) fun h₁ hz₁ hs₁ => wpAny_pure (h false true h₁ hz₁ hs₁))
theorem yz_item {z TI TO i1 i2 l1 l2 : Addr} {k1 k2 : Nat} {xs ys : Array Value} {x y a b v : Value} {f : Bool} {Q : Value → Shared → Prop} (D : ZipApart z TI TO i1 i2 l1 l2)
    (hz : IsZ s.heap z TI TO v f) (hv : HoldV v) (hTI : IsPair s.heap TI (.ref i1) (.ref i2)) (hTO : IsPair s.heap TO a b)
    (h1 : s.heap.IsTupleIter i1 l1 k1) (h2 : s.heap.IsTupleIter i2 l2 k2) (hl1 : s.heap.IsTuple l1 xs) (hl2 : s.heap.IsTuple l2 ys) (hx : xs[k1]? = some x) (hy : ys[k2]? = some y)
    (hQ : ∀ h' v' f' a' b', IsZ h' z TI TO v' f' → HoldV v' → IsPair h' TO a' b' → h'.IsTupleIter i1 l1 (k1 + 1) → h'.IsTupleIter i2 l2 (k2 + 1) → IsPair h' s.heap.objs.size x y → h'.objs.size = s.heap.objs.size + 1 →
      (∀ c o, c ≠ z → c ≠ TO → c ≠ i1 → c ≠ i2 → s.heap.get? c = some o → h'.get? c = some o) → Q (.ref s.heap.objs.size) { s with heap := h' }) :
    wpAny (model prog w) A (Builtin.«zip.__next__» ⟨[.ref z], []⟩) (fun fin s' => ∃ v, fin = .done (.ret v) ∧ Q v s') E s := by
  show wpAny _ _ (field (.ref z) 2 >>= _) _ _ _
  refine wpAny_bind (wpAny_field hz rfl (x := .bool false) rfl ?_)
  show wpAny _ _ (field (.ref z) 3 >>= _) _ _ _
  refine wpAny_bind (wpAny_field hz rfl (x := .ref TI) rfl ?_)
  refine wpAny_bind (wpAny_seqItems hTI rfl ?_)
  show wpAny _ _ (Builtin.SmallTypes.ownedTupleIsFree (.ref z) >>= _) _ _ _
  refine wpAny_bind (yz_free hz hv fun fr f0 h₀ hz₀ hs₀ => ?_)
  cases fr with
  | false =>
    simp only [Bool.false_eq_true, if_false]
    refine wpAny_bind ?_
    rw [← Array.forIn_toList]
    simp only [List.forIn_cons, List.forIn_nil]
    refine wpAny_bind (wpAny_bind (wpAny_holding ?_))
    show wpAny _ _ (Builtin.SmallTypes.nextOf (.ref i1) >>= _) _ _ _
    refine wpAny_bind (nextOf_tuple_item (s := { s with heap := h₀ }) (h1.extBut hs₀.extBut D.i1z) (hl1.extBut hs₀.extBut D.l1z) hx fun h₂ h1₂ hs₂ => wpAny_pure ?_)
    refine wpAny_pure ?_
    refine wpAny_bind (wpAny_bind (wpAny_holding ?_))
    show wpAny _ _ (Builtin.SmallTypes.nextOf (.ref i2) >>= _) _ _ _
    refine wpAny_bind (nextOf_tuple_item (s := { s with heap := h₂ }) ((h2.extBut hs₀.extBut D.i2z).extBut hs₂.extBut D.i12.symm) ((hl2.extBut hs₀.extBut D.l2z).extBut hs₂.extBut D.l2i1) hy fun h₃ h2₃ hs₃ => wpAny_pure ?_)
    refine wpAny_pure (wpAny_pure ?_)
    show wpAny _ _ (newTuple [x, y] >>= _) _ _ _
    refine wpAny_bind (wpAny_newTuple ?_)
    have hsz : h₃.objs.size = s.heap.objs.size := by rw [hs₃.1, hs₂.1, hs₀.1]
    have hz₃ : IsZ h₃ z TI TO v f0 := hs₃.extBut _ _ D.i2z.symm (hs₂.extBut _ _ D.i1z.symm hz₀)
    have hk : ∀ c o, c ≠ z → c ≠ i1 → c ≠ i2 → s.heap.get? c = some o → h₃.get? c = some o := fun c o c1 c2 c3 e => hs₃.extBut _ _ c3 (hs₂.extBut _ _ c2 (hs₀.extBut _ _ c1 e))
    have h1₃ : h₃.IsTupleIter i1 l1 (k1 + 1) := h1₂.extBut hs₃.extBut D.i12
    refine wpAny_pure ⟨_, rfl, ?_⟩
    show Q (.ref h₃.objs.size) _
    have hp : IsPair (h₃.push { cls := .type "tuple", data := .seq #[x, y] }) h₃.objs.size x y := Heap.get?_push_size _ rfl
    have hz4 : (h₃.push { cls := .type "tuple", data := .seq #[x, y] }).objs.size = h₃.objs.size + 1 := Heap.size_push ..
    rw [hsz] at hp hz4 ⊢
    exact hQ _ _ _ a b (Heap.get?_push_of_some _ hz₃) hv (Heap.get?_push_of_some _ (hk TO _ D.TOz D.TOi1 D.TOi2 hTO)) (h1₃.at fun o e => Heap.get?_push_of_some _ e) (h2₃.at fun o e => Heap.get?_push_of_some _ e) hp hz4 fun c o c1 _ c2 c3 e => Heap.get?_push_of_some _ (hk c o c1 c2 c3 e)
  | true =>
    simp only [if_true]
    refine wpAny_bind (wpAny_rule ?_)
    refine wpAny_bind (wpAny_field hz₀ rfl (x := .ref TO) rfl ?_)
    refine wpAny_bind (wpAny_setField_rec hz₀ (by simp) fun h₁ hz₁ hs₁ => ?_)
    replace hz₁ : IsZ h₁ z TI TO .ellipsis f0 := hz₁
    refine wpAny_bind ?_
    simp only [List.zipIdx_cons, List.zipIdx_nil, List.forIn_cons, List.forIn_nil]
    refine wpAny_bind (wpAny_bind (wpAny_onRaise ?_))
    show wpAny _ _ (Builtin.SmallTypes.nextOf (.ref i1) >>= _) _ _ _
    have q1 : h₁.IsTupleIter i1 l1 k1 := (h1.extBut hs₀.extBut D.i1z).extBut hs₁.extBut D.i1z
    have p1 : h₁.IsTuple l1 xs := (hl1.extBut hs₀.extBut D.l1z).extBut hs₁.extBut D.l1z
    have q2 : h₁.IsTupleIter i2 l2 k2 := (h2.extBut hs₀.extBut D.i2z).extBut hs₁.extBut D.i2z
    have p2 : h₁.IsTuple l2 ys := (hl2.extBut hs₀.extBut D.l2z).extBut hs₁.extBut D.l2z
    have hTO₁ : IsPair h₁ TO a b := hs₁.extBut _ _ D.TOz (hs₀.extBut _ _ D.TOz hTO)
    refine wpAny_bind (nextOf_tuple_item (s := { s with heap := h₁ }) q1 p1 hx fun h₂ h1₂ hs₂ => wpAny_pure ?_)
    have hTO₂ : IsPair h₂ TO a b := hs₂.extBut _ _ D.TOi1 hTO₁
    refine wpAny_bind (wpAny_seqItems hTO₂ rfl ?_)
    refine wpAny_bind (wpAny_updateSeq_pair hTO₂ fun h₃ hTO₃ hs₃ => ?_)
    replace hTO₃ : IsPair h₃ TO x b := hTO₃
    refine wpAny_bind (wpAny_letGo (wpAny_pure ?_))
    refine wpAny_bind (wpAny_bind (wpAny_onRaise ?_))
    show wpAny _ _ (Builtin.SmallTypes.nextOf (.ref i2) >>= _) _ _ _
    refine wpAny_bind (nextOf_tuple_item (s := { s with heap := h₃ }) ((q2.extBut hs₂.extBut D.i12.symm).extBut hs₃.extBut D.TOi2.symm)
      ((p2.extBut hs₂.extBut D.l2i1).extBut hs₃.extBut D.l2TO) hy fun h₄ h2₄ hs₄ => wpAny_pure ?_)
    have hTO₄ : IsPair h₄ TO x b := hs₄.extBut _ _ D.TOi2 hTO₃
    refine wpAny_bind (wpAny_seqItems hTO₄ rfl ?_)
    refine wpAny_bind (wpAny_updateSeq_pair hTO₄ fun h₅ hTO₅ hs₅ => ?_)
    replace hTO₅ : IsPair h₅ TO x y := hTO₅
    refine wpAny_bind (wpAny_letGo (wpAny_pure (wpAny_pure ?_)))
    refine wpAny_bind (wpAny_seqItems hTO₅ rfl ?_)
    refine wpAny_bind (wpAny_newTuple ?_)
    have hsz : h₅.objs.size = s.heap.objs.size := by rw [hs₅.1, hs₄.1, hs₃.1, hs₂.1, hs₁.1, hs₀.1]
    have hz₅ : IsZ h₅ z TI TO .ellipsis f0 := hs₅.extBut _ _ D.TOz.symm (hs₄.extBut _ _ D.i2z.symm (hs₃.extBut _ _ D.TOz.symm (hs₂.extBut _ _ D.i1z.symm hz₁)))
    have hk₅ : ∀ c o, c ≠ z → c ≠ TO → c ≠ i1 → c ≠ i2 → s.heap.get? c = some o → h₅.get? c = some o := fun c o c1 c2 c3 c4 e =>
      hs₅.extBut _ _ c2 (hs₄.extBut _ _ c4 (hs₃.extBut _ _ c2 (hs₂.extBut _ _ c3 (hs₁.extBut _ _ c1 (hs₀.extBut _ _ c1 e)))))
    have h1₅ : h₅.IsTupleIter i1 l1 (k1 + 1) := ((h1₂.extBut hs₃.extBut D.TOi1.symm).extBut hs₄.extBut D.i12).extBut hs₅.extBut D.TOi1.symm
    have h2₅ : h₅.IsTupleIter i2 l2 (k2 + 1) := h2₄.extBut hs₅.extBut D.TOi2.symm
    have hzlt : z < h₅.objs.size := Heap.lt_size hz₅
    show wpAny _ _ (Builtin.SmallTypes.ownedTupleHandOut (.ref z) (.ref h₅.objs.size) >>= _) _ _ _
    refine wpAny_bind ?_
    unfold Builtin.SmallTypes.ownedTupleHandOut
    have hz₆ : IsZ (h₅.push { cls := .type "tuple", data := .seq #[x, y] }) z TI TO .ellipsis f0 := Heap.get?_push_of_some _ hz₅
    refine wpAny_bind (wpAny_setField_rec hz₆ (by simp) fun h₇ hz₇ hs₇ => ?_)
    replace hz₇ : IsZ h₇ z TI TO (rawInt h₅.objs.size) f0 := hz₇
    refine wpAny_setField_rec hz₇ (by simp) fun h₈ hz₈ hs₈ => ?_
    replace hz₈ : IsZ h₈ z TI TO (rawInt h₅.objs.size) false := hz₈
    have up : ∀ c o, c ≠ z → h₅.get? c = some o → h₈.get? c = some o := fun c o c1 e => hs₈.extBut _ _ c1 (hs₇.extBut _ _ c1 (Heap.get?_push_of_some _ e))
    have hT₈ : IsPair h₈ h₅.objs.size x y := hs₈.extBut _ _ (Nat.ne_of_gt hzlt) (hs₇.extBut _ _ (Nat.ne_of_gt hzlt) (Heap.get?_push_size _ rfl))
    have hz8 : h₈.objs.size = h₅.objs.size + 1 := by rw [hs₈.1, hs₇.1, Heap.size_push]
    rw [hsz] at hz₈ hT₈ hz8
    refine wpAny_pure ⟨_, rfl, ?_⟩
    show Q (.ref h₅.objs.size) _
    rw [hsz]
    exact hQ h₈ _ _ x y hz₈ (.inr ⟨_, rfl⟩) (up _ _ D.TOz hTO₅) (h1₅.at fun o e => up _ o D.i1z e) (h2₅.at fun o e => up _ o D.i2z e) hT₈ hz8 fun c o c1 c2 c3 c4 e => up c o c1 (hk₅ c o c1 c2 c3 c4 e)
theorem yz_end {z TI TO i1 i2 l1 l2 : Addr} {k1 k2 : Nat} {xs ys : Array Value} {a b v : Value} {f : Bool} {Q : Fin → Shared → Prop} (hh : A.handled = none) (D : ZipApart z TI TO i1 i2 l1 l2)
    (hz : IsZ s.heap z TI TO v f) (hv : HoldV v) (hTI : IsPair s.heap TI (.ref i1) (.ref i2)) (hTO : IsPair s.heap TO a b)
    (h1 : s.heap.IsTupleIter i1 l1 k1) (h2 : s.heap.IsTupleIter i2 l2 k2) (hl1 : s.heap.IsTuple l1 xs) (hl2 : s.heap.IsTuple l2 ys) (hend : xs[k1]? = none ∨ ys[k2]? = none)
    (hE : ∀ h' e, (∀ c o, c ≠ z → c ≠ TO → c ≠ i1 → c ≠ i2 → s.heap.get? c = some o → h'.get? c = some o) → (∃ o, h'.get? e = some o ∧ o.cls = .type "StopIteration") → E (.ref e) { s with heap := h' }) :
    wpAny (model prog w) A (Builtin.«zip.__next__» ⟨[.ref z], []⟩) Q E s := by
  show wpAny _ _ (field (.ref z) 2 >>= _) _ _ _
  refine wpAny_bind (wpAny_field hz rfl (x := .bool false) rfl ?_)
  show wpAny _ _ (field (.ref z) 3 >>= _) _ _ _
  refine wpAny_bind (wpAny_field hz rfl (x := .ref TI) rfl ?_)
  refine wpAny_bind (wpAny_seqItems hTI rfl ?_)
  show wpAny _ _ (Builtin.SmallTypes.ownedTupleIsFree (.ref z) >>= _) _ _ _
  refine wpAny_bind (yz_free hz hv fun fr f0 h₀ hz₀ hs₀ => ?_)
  cases fr with
  | false =>
    simp only [Bool.false_eq_true, if_false]
    refine wpAny_bind ?_
    rw [← Array.forIn_toList]
    simp only [List.forIn_cons, List.forIn_nil]
    refine wpAny_bind (wpAny_bind (wpAny_holding ?_))
    show wpAny _ _ (Builtin.SmallTypes.nextOf (.ref i1) >>= _) _ _ _
    cases hx : xs[k1]? with
    | none =>
      refine wpAny_bind (nextOf_tuple_end (s := { s with heap := h₀ }) hh (h1.extBut hs₀.extBut D.i1z) (hl1.extBut hs₀.extBut D.l1z) hx fun h₂ e hs₂ he => ?_)
      exact hE h₂ e (fun c o c1 _ c2 _ x => hs₂ _ _ c2 (hs₀.extBut _ _ c1 x)) he
    | some x =>
      have hy : ys[k2]? = none := by rcases hend with h | h; rw [hx] at h; cases h; exact h
      refine wpAny_bind (nextOf_tuple_item (s := { s with heap := h₀ }) (h1.extBut hs₀.extBut D.i1z) (hl1.extBut hs₀.extBut D.l1z) hx fun h₂ h1₂ hs₂ => wpAny_pure ?_)
      refine wpAny_pure ?_
      refine wpAny_bind (wpAny_bind (wpAny_holding ?_))
      show wpAny _ _ (Builtin.SmallTypes.nextOf (.ref i2) >>= _) _ _ _
      refine wpAny_bind (nextOf_tuple_end (s := { s with heap := h₂ }) hh ((h2.extBut hs₀.extBut D.i2z).extBut hs₂.extBut D.i12.symm) ((hl2.extBut hs₀.extBut D.l2z).extBut hs₂.extBut D.l2i1) hy fun h₃ e hs₃ he => ?_)
      exact hE h₃ e (fun c o c1 _ c2 c3 x => hs₃ _ _ c3 (hs₂.extBut _ _ c2 (hs₀.extBut _ _ c1 x))) he
  | true =>
    simp only [if_true]
    refine wpAny_bind (wpAny_rule ?_)
    refine wpAny_bind (wpAny_field hz₀ rfl (x := .ref TO) rfl ?_)
    refine wpAny_bind (wpAny_setField_rec hz₀ (by simp) fun h₁ hz₁ hs₁ => ?_)
    replace hz₁ : IsZ h₁ z TI TO .ellipsis f0 := hz₁
    refine wpAny_bind ?_
    simp only [List.zipIdx_cons, List.zipIdx_nil, List.forIn_cons, List.forIn_nil]
    refine wpAny_bind (wpAny_bind (wpAny_onRaise ?_))
    show wpAny _ _ (Builtin.SmallTypes.nextOf (.ref i1) >>= _) _ _ _
    have q1 : h₁.IsTupleIter i1 l1 k1 := (h1.extBut hs₀.extBut D.i1z).extBut hs₁.extBut D.i1z
    have p1 : h₁.IsTuple l1 xs := (hl1.extBut hs₀.extBut D.l1z).extBut hs₁.extBut D.l1z
    have q2 : h₁.IsTupleIter i2 l2 k2 := (h2.extBut hs₀.extBut D.i2z).extBut hs₁.extBut D.i2z
    have p2 : h₁.IsTuple l2 ys := (hl2.extBut hs₀.extBut D.l2z).extBut hs₁.extBut D.l2z
    have hTO₁ : IsPair h₁ TO a b := hs₁.extBut _ _ D.TOz (hs₀.extBut _ _ D.TOz hTO)
    cases hx : xs[k1]? with
    | none =>
      refine wpAny_bind (nextOf_tuple_end (s := { s with heap := h₁ }) hh q1 p1 hx fun h₂ e hs₂ he => ?_)
      obtain ⟨oe, hoe, hce⟩ := he
      have hz₂ : IsZ h₂ z TI TO .ellipsis f0 := hs₂ _ _ D.i1z.symm hz₁
      have hez : e ≠ z := fun x => by subst x; rw [hz₂] at hoe; cases hoe; simp at hce
      refine wpAny_setField_rec hz₂ (by simp) fun h₃ _ hs₃ => hE h₃ e (fun c o c1 _ c3 _ x => hs₃.extBut _ _ c1 (hs₂ _ _ c3 (hs₁.extBut _ _ c1 (hs₀.extBut _ _ c1 x)))) ⟨oe, hs₃.extBut _ _ hez hoe, hce⟩
    | some x =>
      have hy : ys[k2]? = none := by rcases hend with h | h; rw [hx] at h; cases h; exact h
      refine wpAny_bind (nextOf_tuple_item (s := { s with heap := h₁ }) q1 p1 hx fun h₂ h1₂ hs₂ => wpAny_pure ?_)
      have hTO₂ : IsPair h₂ TO a b := hs₂.extBut _ _ D.TOi1 hTO₁
      refine wpAny_bind (wpAny_seqItems hTO₂ rfl ?_)
      refine wpAny_bind (wpAny_updateSeq_pair hTO₂ fun h₃ hTO₃ hs₃ => ?_)
      refine wpAny_bind (wpAny_letGo (wpAny_pure ?_))
      refine wpAny_bind (wpAny_bind (wpAny_onRaise ?_))
      show wpAny _ _ (Builtin.SmallTypes.nextOf (.ref i2) >>= _) _ _ _
      refine wpAny_bind (nextOf_tuple_end (s := { s with heap := h₃ }) hh ((q2.extBut hs₂.extBut D.i12.symm).extBut hs₃.extBut D.TOi2.symm)
        ((p2.extBut hs₂.extBut D.l2i1).extBut hs₃.extBut D.l2TO) hy fun h₄ e hs₄ he => ?_)
      obtain ⟨oe, hoe, hce⟩ := he
      have hz₄ : IsZ h₄ z TI TO .ellipsis f0 := hs₄ _ _ D.i2z.symm (hs₃.extBut _ _ D.TOz.symm (hs₂.extBut _ _ D.i1z.symm hz₁))
      have hez : e ≠ z := fun x => by subst x; rw [hz₄] at hoe; cases hoe; simp at hce
      refine wpAny_setField_rec hz₄ (by simp) fun h₅ _ hs₅ => hE h₅ e (fun c o c1 c2 c3 c4 x => hs₅.extBut _ _ c1 (hs₄ _ _ c4 (hs₃.extBut _ _ c2 (hs₂.extBut _ _ c3 (hs₁.extBut _ _ c1 (hs₀.extBut _ _ c1 x)))))) ⟨oe, hs₅.extBut _ _ hez hoe, hce⟩
end
section
variable {prog : Program} {w : World} {A : Around} {E : Value → Shared → Prop} {s : Shared}
/-- enumerate(zip(s, t)): its next pair; h₁: the heap when zip has given -/
theorem yez_item {e z TI TO i1 i2 l1 l2 : Addr} {k1 k2 : Nat} {c : Int} {xs ys : Array Value} {x y a b v old : Value} {f : Bool} {Q : Option Value → Shared → Prop} (D : ZipApart z TI TO i1 i2 l1 l2)
    (he : IsEnum s.heap e z c old) (ez : e ≠ z) (eTO : e ≠ TO) (e1 : e ≠ i1) (e2 : e ≠ i2)
    (hz : IsZ s.heap z TI TO v f) (hv : HoldV v) (hTI : IsPair s.heap TI (.ref i1) (.ref i2)) (hTO : IsPair s.heap TO a b)
    (h1 : s.heap.IsTupleIter i1 l1 k1) (h2 : s.heap.IsTupleIter i2 l2 k2) (hl1 : s.heap.IsTuple l1 xs) (hl2 : s.heap.IsTuple l2 ys) (hx : xs[k1]? = some x) (hy : ys[k2]? = some y)
    (hQ : ∀ h₁ h' tk v' f' a' b', IsZ h₁ z TI TO v' f' → HoldV v' → IsPair h₁ TO a' b' → h₁.IsTupleIter i1 l1 (k1 + 1) → h₁.IsTupleIter i2 l2 (k2 + 1) → IsPair h₁ s.heap.objs.size x y → h₁.objs.size = s.heap.objs.size + 1 →
      (∀ c o, c ≠ z → c ≠ TO → c ≠ i1 → c ≠ i2 → s.heap.get? c = some o → h₁.get? c = some o) →
      IsEnumOut h' e z (c + 1) (.ref s.heap.objs.size) (s.heap.objs.size + 1) → h'.get? (s.heap.objs.size + 1) = some { cls := .type "tuple", data := .seq #[.int c tk, .ref s.heap.objs.size] } →
      (∀ b o, b ≠ e → h₁.get? b = some o → h'.get? b = some o) → Q (some (.ref (s.heap.objs.size + 1))) { s with heap := h', toks := tk + 1 }) :
    wpAny (model prog w) A (pyNext (.ref e)) Q E s := by
  have hTe : s.TypeIs (.ref e) "enumerate" := ⟨_, he, rfl⟩
  unfold pyNext
  refine wpAny_bind (wpAny_attempt (wpAny_callSpecial?_slot (name := Str.ofString "__next__") hTe F.slot_enumerate_next
    (wpAny_call_entry F.slot_enumerate_next hTe F.entry_enumerate_next ?_ (F.args_enumerate_next_1 _))))
  obtain ⟨hp, g, d, tk, os⟩ := s
  show wpAny _ _ (field (.ref e) 2 >>= _) _ _ _
  refine wpAny_bind (wpAny_field he rfl (x := .ref z) rfl ?_)
  show wpAny _ _ (Builtin.SmallTypes.nextOf (.ref z) >>= _) _ _ _
  refine wpAny_bind ?_
  have hTz : Shared.TypeIs ⟨hp, g, d, tk, os⟩ (.ref z) "zip" := ⟨_, hz, rfl⟩
  unfold Builtin.SmallTypes.nextOf
  refine wpAny_bind (wpAny_callSpecial?_slot (name := Str.ofString "__next__") hTz F.slot_zip_next
    (wpAny_call_entry F.slot_zip_next hTz F.entry_zip_next
      (yz_item D hz hv hTI hTO h1 h2 hl1 hl2 hx hy fun h₁ v' f' a' b' z1 z2 z3 z4 z5 z6 z7 z8 => wpAny_pure ?_) (F.args_zip_next_1 _)))
  replace z7 : h₁.objs.size = hp.objs.size + 1 := z7
  have he₁ : IsEnum h₁ e z c old := z8 e _ ez eTO e1 e2 he
  show wpAny _ _ (field (.ref e) 3 >>= _) _ _ ⟨h₁, g, d, tk, os⟩
  refine wpAny_bind (wpAny_field he₁ rfl (x := rawInt c) rfl ?_)
  show wpAny _ _ (field (.ref e) 4 >>= _) _ _ ⟨h₁, g, d, tk, os⟩
  refine wpAny_bind (wpAny_field he₁ rfl (x := .none) rfl ?_)
  show wpAny _ _ (mkInt c >>= _) _ _ ⟨h₁, g, d, tk, os⟩
  refine wpAny_bind (wpAny_mkInt ?_)
  show wpAny _ _ (setField (.ref e) 3 (rawInt (c + 1)) >>= _) _ _ ⟨h₁, g, d, tk + 1, os⟩
  refine wpAny_bind (wpAny_setField_rec he₁ (by simp) fun h₂ he₂ hs₂ => ?_)
  replace hs₂ : Heap.SameBut e h₁ h₂ := hs₂
  replace he₂ : IsEnum h₂ e z (c + 1) old := he₂
  show wpAny _ _ (setField (.ref e) 4 .none >>= _) _ _ ⟨h₂, g, d, tk + 1, os⟩
  refine wpAny_bind (wpAny_setField_rec he₂ (by simp) fun h₃ he₃ hs₃ => ?_)
  replace hs₃ : Heap.SameBut e h₂ h₃ := hs₃
  replace he₃ : IsEnum h₃ e z (c + 1) old := he₃
  show wpAny _ _ (newTuple [.int c tk, .ref hp.objs.size] >>= _) _ _ ⟨h₃, g, d, tk + 1, os⟩
  refine wpAny_bind (wpAny_newTuple ?_)
  have he₄ : IsEnum (h₃.push { cls := .type "tuple", data := .seq #[.int c tk, .ref hp.objs.size] }) e z (c + 1) old := Heap.get?_push_of_some _ he₃
  generalize hh₄ : h₃.push { cls := .type "tuple", data := .seq #[.int c tk, .ref hp.objs.size] } = h₄ at he₄
  have hsz : h₃.objs.size = hp.objs.size + 1 := by rw [hs₃.1, hs₂.1, z7]
  have hel : e < hp.objs.size := Heap.lt_size he
  have ht₄ : h₄.get? (hp.objs.size + 1) = some { cls := .type "tuple", data := .seq #[.int c tk, .ref hp.objs.size] } := by rw [← hh₄, ← hsz]; exact Heap.get?_push_size _ rfl
  have hk₄ : ∀ b o, b ≠ e → h₁.get? b = some o → h₄.get? b = some o := fun b o hbe hb => by
    rw [← hh₄]; exact Heap.get?_push_of_some _ (hs₃.extBut b o hbe (hs₂.extBut b o hbe hb))
  show wpAny _ _ (Builtin.SmallTypes.ownedTupleIsFree (.ref e) >>= _) _ _ ⟨h₄, g, d, tk + 1, os⟩
  rw [hsz]
  refine wpAny_bind ?_
  unfold Builtin.SmallTypes.ownedTupleIsFree
  refine wpAny_bind (wpAny_field he₄ rfl (x := .none) rfl (wpAny_pure ?_))
  simp only [if_true]
  refine wpAny_bind (wpAny_rule ?_)
  refine wpAny_bind (wpAny_field he₄ rfl (x := old) rfl ?_)
  refine wpAny_bind (wpAny_setField_rec he₄ (by simp) fun h₅ he₅ hs₅ => ?_)
  replace hs₅ : Heap.SameBut e h₄ h₅ := hs₅
  replace he₅ : IsEnum h₅ e z (c + 1) (.ref hp.objs.size) := he₅
  show wpAny _ _ (Builtin.SmallTypes.ownedTupleHandOut (.ref e) (.ref (hp.objs.size + 1)) >>= _) _ _ ⟨h₅, g, d, tk + 1, os⟩
  refine wpAny_bind ?_
  unfold Builtin.SmallTypes.ownedTupleHandOut
  refine wpAny_bind (wpAny_setField_rec he₅ (by simp) fun h₆ he₆ hs₆ => ?_)
  replace hs₆ : Heap.SameBut e h₅ h₆ := hs₆
  replace he₆ : IsEnumOut h₆ e z (c + 1) (.ref hp.objs.size) (hp.objs.size + 1) := he₆
  refine wpAny_setField_rec he₆ (by simp) fun h₇ he₇ hs₇ => ?_
  replace hs₇ : Heap.SameBut e h₆ h₇ := hs₇
  replace he₇ : IsEnumOut h₇ e z (c + 1) (.ref hp.objs.size) (hp.objs.size + 1) := he₇
  refine wpAny_bind (wpAny_letGo (wpAny_pure ⟨_, rfl, wpAny_pure (hQ h₁ h₇ tk v' f' a' b' z1 z2 z3 z4 z5 z6 z7 z8 he₇ ?_ ?_)⟩))
  · exact hs₇.extBut _ _ (Nat.ne_of_gt (Nat.lt_succ_of_lt hel)) (hs₆.extBut _ _ (Nat.ne_of_gt (Nat.lt_succ_of_lt hel)) (hs₅.extBut _ _ (Nat.ne_of_gt (Nat.lt_succ_of_lt hel)) ht₄))
  · exact fun b o hbe hb => hs₇.extBut b o hbe (hs₆.extBut b o hbe (hs₅.extBut b o hbe (hk₄ b o hbe hb)))
theorem yez_end {e z TI TO i1 i2 l1 l2 : Addr} {k1 k2 : Nat} {c : Int} {xs ys : Array Value} {a b v old : Value} {f : Bool} {Q : Option Value → Shared → Prop} (hh : A.handled = none) (D : ZipApart z TI TO i1 i2 l1 l2)
    (he : IsEnum s.heap e z c old) (hz : IsZ s.heap z TI TO v f) (hv : HoldV v) (hTI : IsPair s.heap TI (.ref i1) (.ref i2)) (hTO : IsPair s.heap TO a b)
    (h1 : s.heap.IsTupleIter i1 l1 k1) (h2 : s.heap.IsTupleIter i2 l2 k2) (hl1 : s.heap.IsTuple l1 xs) (hl2 : s.heap.IsTuple l2 ys) (hend : xs[k1]? = none ∨ ys[k2]? = none)
    (hQ : ∀ h', (∀ c o, c ≠ z → c ≠ TO → c ≠ i1 → c ≠ i2 → s.heap.get? c = some o → h'.get? c = some o) → Q none { s with heap := h' }) :
    wpAny (model prog w) A (pyNext (.ref e)) Q E s := by
  have hTe : s.TypeIs (.ref e) "enumerate" := ⟨_, he, rfl⟩
  unfold pyNext
  refine wpAny_bind (wpAny_attempt (wpAny_callSpecial?_slot (name := Str.ofString "__next__") hTe F.slot_enumerate_next
    (wpAny_call_entry F.slot_enumerate_next hTe F.entry_enumerate_next ?_ (F.args_enumerate_next_1 _))))
  show wpAny _ _ (field (.ref e) 2 >>= _) _ _ _
  refine wpAny_bind (wpAny_field he rfl (x := .ref z) rfl ?_)
  show wpAny _ _ (Builtin.SmallTypes.nextOf (.ref z) >>= _) _ _ _
  refine wpAny_bind ?_
  have hTz : s.TypeIs (.ref z) "zip" := ⟨_, hz, rfl⟩
  unfold Builtin.SmallTypes.nextOf
  refine wpAny_bind (wpAny_callSpecial?_slot (name := Str.ofString "__next__") hTz F.slot_zip_next
    (wpAny_call_entry F.slot_zip_next hTz F.entry_zip_next
      (yz_end hh D hz hv hTI hTO h1 h2 hl1 hl2 hend fun h' ex hk hx => ?_) (F.args_zip_next_1 _)))
  obtain ⟨o, ho, hc⟩ := hx
  refine wpAny_bind (wpAny_isInstance (T := "StopIteration") (b := true) ⟨o, ho, hc⟩ isSubtype_stop ?_)
  exact wpAny_pure (hQ _ hk)
theorem ymeets_enumerate_newZ (z TI TO : Addr) (v : Value) :
    Meets (Builtin.«enumerate.__new__» ⟨[.type "enumerate", .ref z], []⟩) (fun _ R s => IsZip s.heap z TI TO v ∧
      R (.ok (.ret (.ref s.heap.objs.size))) { s with heap := s.heap.push { cls := .type "enumerate", data := .fields #[.none, .bool false, .ref z, rawInt 0, .none, .none] } }) :=
  .of_wp fun prog w A R s h => by
    obtain ⟨hp, g, d, tk, os⟩ := s; obtain ⟨hl, h⟩ := h
    have hsub := sub_enumerate
    have hL : IsZip (Shared.heap ⟨hp, g, d, tk, os⟩) z TI TO v := hl
    wp_walk using wpAny_loadPart' hl
    refine wpAny_stack_any fun st => wpAny_pure ?_
    split
    · rename_i c _ _ _ _ _
      cases (c == Value.type "enumerate")
      · wp_walk using wpAny_loadPart' hl, wpAny_pyIter_zip hL
        exact ⟨_, rfl, h⟩
      · wp_walk using wpAny_loadPart' hl, wpAny_pyIter_zip hL
        exact ⟨_, rfl, h⟩
    · wp_walk using wpAny_loadPart' hl, wpAny_pyIter_zip hL
      exact ⟨_, rfl, h⟩
theorem ycall_enumerate_zip {z TI TO : Addr} {v : Value} {Q : Value → Shared → Prop} (hz : IsZip s.heap z TI TO v)
    (h : ∀ h', IsEnum h' s.heap.objs.size z 0 .none → h'.objs.size = s.heap.objs.size + 1 → (∀ b o, s.heap.get? b = some o → h'.get? b = some o) → Q (.ref s.heap.objs.size) { s with heap := h' }) :
    wpAny (model prog w) A (call (.type "enumerate") [.ref z]) Q E s := by
  refine callType_new F.called_enumerate (by decide) (F.typeCall_enumerate_1 _) (F.newCall_enumerate_1 _) (fun obj => F.args_object_init_2 obj _) F.entry_enumerate_new
    (ymeets_enumerate_newZ z TI TO v) ⟨hz, ?_⟩
  have he : IsEnum (s.heap.push { cls := .type "enumerate", data := .fields #[.none, .bool false, .ref z, rawInt 0, .none, .none] }) s.heap.objs.size z 0 .none := Heap.get?_push_size _ rfl
  exact ⟨⟨_, he, rfl⟩, h _ he (Heap.size_push ..) fun b o x => Heap.get?_push_of_some _ x⟩
end
end PySem
namespace L2
open PySem PySem.Spec PyProof.Rows
/-- the tuples at a and b, the items in new pairs, these in new pairs with their numbers -/
def YIez (K : PySem.W.Frag) (a b : Addr) : It :=
  ⟨fun i H => ∃ (xs ys : List V) (x y : V), SqT K H a xs ∧ SqT K H b ys ∧ xs[i]? = some x ∧ ys[i]? = some y,
    fun i H v H' => ∃ T U x y, v = .ref U ∧ H T = none ∧ H U = none ∧ T ≠ U ∧ H' = upd (upd H T (.tup [x, y])) U (.tup [.int (i : Nat), .ref T]) ∧ (∀ xs, SqT K H a xs → xs[i]? = some x) ∧ ∀ ys, SqT K H b ys → ys[i]? = some y,
    fun i H => ∃ xs ys : List V, SqT K H a xs ∧ SqT K H b ys ∧ (xs.length ≤ i ∨ ys.length ≤ i)⟩
theorem yturn_ez {P : Program} {w : World} {K : PySem.W.Frag} {elts : List Expr} {kk : Nat} {tpos : Pos} {e a b z TI TO i1 i2 : Addr} (D : ZipApart z TI TO i1 i2 a b) (ez : e ≠ z) (eTI : e ≠ TI) (eTO : e ≠ TO) (e1 : e ≠ i1) (e2 : e ≠ i2) :
    Turn P w K (.Tuple elts kk tpos) (YIez K a b) [e, z, TI, TO, i1, i2] e (fun i h => (∃ old, IsEnum h e z ((i : Nat) : Int) old) ∧ (∃ v f, IsZ h z TI TO v f ∧ HoldV v) ∧ IsPair h TI (.ref i1) (.ref i2) ∧ (∃ x y, IsPair h TO x y) ∧ h.IsTupleIter i1 a i ∧ h.IsTupleIter i2 b i) where
  mem := by simp
  obj := fun i h st c hc => by
    obtain ⟨⟨old, he⟩, ⟨v, f, hz, hv⟩, hTI, ⟨x, y, hTO⟩, ⟨o1, q1, _, d1⟩, ⟨o2, q2, _, d2⟩⟩ := st
    have e' : c = e ∨ c = z ∨ c = TI ∨ c = TO ∨ c = i1 ∨ c = i2 := by simpa using hc
    rcases e' with q | q | q | q | q | q
    · rw [q]; exact ⟨_, he, fun v q => nomatch q⟩
    · rw [q]; exact ⟨_, hz, fun v q => nomatch q⟩
    · rw [q]; exact ⟨_, hTI, fun v q => nomatch q⟩
    · rw [q]; exact ⟨_, hTO, fun v q => nomatch q⟩
    · rw [q]; exact ⟨o1, q1, fun v q => by rw [d1] at q; cases q⟩
    · rw [q]; exact ⟨o2, q2, fun v q => by rw [d2] at q; cases q⟩
  keep := fun i h h' st k => by
    obtain ⟨⟨old, he⟩, ⟨v, f, hz, hv⟩, hTI, ⟨x, y, hTO⟩, h1, h2⟩ := st
    exact ⟨⟨old, k e (by simp) _ he⟩, ⟨v, f, k z (by simp) _ hz, hv⟩, k TI (by simp) _ hTI, ⟨x, y, k TO (by simp) _ hTO⟩, h1.at fun o q => k i1 (by simp) o q, h2.at fun o q => k i2 (by simp) o q⟩
  item := by
    intro X hP hw hK hc i pins s σ H E I hf st hg
    subst hP hw hK
    obtain ⟨⟨old, he⟩, ⟨v, f, hz, hv⟩, hTI, ⟨x0, y0, hTO⟩, h1, h2⟩ := st
    obtain ⟨xs, ys, x, y, hqx, hqy, hx, hy⟩ := hg
    obtain ⟨its, rv, p, _⟩ := I.tuple hqx
    obtain ⟨its2, rv2, p2, _⟩ := I.tuple hqy
    obtain ⟨u, hu, ru⟩ := rv.get hx
    obtain ⟨u2, hu2, ru2⟩ := rv2.get hy
    have hzl : z < s.heap.objs.size := Heap.lt_size hz
    have hel : e < s.heap.objs.size := Heap.lt_size he
    refine yez_item D he ez eTO e1 e2 hz hv hTI hTO h1 h2 p p2 (x := u) (y := u2) (by simpa using hu) (by simpa using hu2) fun h₁ h' tk v' f' a' b' z1 z2 z3 z4 z5 z6 z7 z8 ho hT hk => ?_
    refine ⟨_, rfl, wpAny_letOwnedTupleGo_enum (s := { s with heap := h', toks := tk + 1 }) ho fun h'' he' sb => ?_⟩
    have hn1 : H s.heap.objs.size = none := I.hok.fresh (Nat.le_refl _)
    have hn2 : H (s.heap.objs.size + 1) = none := I.hok.fresh (Nat.le_succ _)
    have hlt : ∀ c ∈ [e, z, TI, TO, i1, i2], c < s.heap.objs.size := fun c hc => by
      have e' : c = e ∨ c = z ∨ c = TI ∨ c = TO ∨ c = i1 ∨ c = i2 := by simpa using hc
      rcases e' with q | q | q | q | q | q
      · rw [q]; exact hel
      · rw [q]; exact hzl
      · rw [q]; exact Heap.lt_size hTI
      · rw [q]; exact Heap.lt_size hTO
      · rw [q]; obtain ⟨_, e1, _⟩ := h1; exact Heap.lt_size e1
      · rw [q]; obtain ⟨_, e2, _⟩ := h2; exact Heap.lt_size e2
    have new1 : ObjOk X.prog X.w (upd H s.heap.objs.size (.tup [x, y])) h₁ s.heap.objs.size (.tup [x, y]) :=
      ⟨by show 2 ≤ sizeLine; decide, [u, u2], .cons ru (.cons ru2 .nil), ⟨_, z6, rfl, _, rfl⟩⟩
    have I1 : Inv X pins σ (upd H s.heap.objs.size (.tup [x, y])) { s with heap := h₁, toks := s.toks } :=
      I.turnedNew (ch := [z, TO, i1, i2]) (fun c o hb q => z8 c o (fun q' => hb (by simp [q'])) (fun q' => hb (by simp [q'])) (fun q' => hb (by simp [q'])) (fun q' => hb (by simp [q'])) q)
        (fun c hc => hf c (by
          have e' : c = z ∨ c = TO ∨ c = i1 ∨ c = i2 := by simpa using hc
          rcases e' with q | q | q | q <;> simp [q])) (Nat.le_refl _) new1
    have hT2 : h''.get? (s.heap.objs.size + 1) = some { cls := .type "tuple", data := .seq #[.int i tk, .ref s.heap.objs.size] } := (sb.2 _ (Nat.ne_of_gt (Nat.lt_succ_of_lt hel))).trans hT
    have new2 : ObjOk X.prog X.w (upd (upd H s.heap.objs.size (.tup [x, y])) (s.heap.objs.size + 1) (.tup [.int (i : Nat), .ref s.heap.objs.size])) h'' (s.heap.objs.size + 1) (.tup [.int (i : Nat), .ref s.heap.objs.size]) :=
      ⟨by show 2 ≤ sizeLine; decide, [.int i tk, .ref s.heap.objs.size], .cons ⟨_, rfl⟩ (.cons rfl .nil), ⟨_, hT2, rfl, _, rfl⟩⟩
    have I2 : Inv X pins σ (upd (upd H s.heap.objs.size (.tup [x, y])) (s.heap.objs.size + 1) (.tup [.int (i : Nat), .ref s.heap.objs.size])) { s with heap := h'', toks := tk + 1 } := by
      refine I1.turnedNew (h' := h'') (t' := tk + 1) (ch := [e]) (fun c o hb q => (sb.2 c (fun q' => hb (by simp [q']))).trans (hk c o (fun q' => hb (by simp [q'])) q)) (fun c hc => ?_) (by show h₁.objs.size ≤ _; rw [z7]; exact Nat.le_refl _) new2
      have ec : c = e := by simpa using hc
      subst ec
      have f0 := hf c (by simp)
      exact ⟨by rw [upd_ne (Nat.ne_of_lt hel)]; exact f0.1, f0.2⟩
    refine ⟨.ref (s.heap.objs.size + 1), _, I2, rfl, ⟨s.heap.objs.size, s.heap.objs.size + 1, x, y, rfl, hn1, hn2, Nat.ne_of_lt (Nat.lt_succ_self _), rfl, fun l hl => by rw [I.tuple_inj hl hqx]; exact hx, fun l hl => by rw [I.tuple_inj hl hqy]; exact hy⟩, ⟨⟨.ref s.heap.objs.size, ?_⟩, ⟨v', f', ?_, z2⟩, ?_, ⟨a', b', ?_⟩, ?_, ?_⟩, fun c hcm => ?_⟩
    · have e1 : ((i + 1 : Nat) : Int) = (i : Int) + 1 := by omega
      rw [e1]; exact he'
    · exact (sb.2 _ ez.symm).trans (hk _ _ ez.symm z1)
    · exact (sb.2 _ eTI.symm).trans (hk _ _ eTI.symm (z8 _ _ D.TIz D.TITO D.TIi1 D.TIi2 hTI))
    · exact (sb.2 _ eTO.symm).trans (hk _ _ eTO.symm z3)
    · exact z4.at fun o q => (sb.2 _ e1.symm).trans (hk _ _ e1.symm q)
    · exact z5.at fun o q => (sb.2 _ e2.symm).trans (hk _ _ e2.symm q)
    · have l := hlt c hcm
      rw [upd_ne (Nat.ne_of_lt (Nat.lt_succ_of_lt l)), upd_ne (Nat.ne_of_lt l)]
      exact (hf c hcm).1
  done := by
    intro X hP hw hK hc i pins s σ H E I hf st hg
    subst hP hw hK
    obtain ⟨⟨old, he⟩, ⟨v, f, hz, hv⟩, hTI, ⟨x0, y0, hTO⟩, h1, h2⟩ := st
    obtain ⟨xs, ys, hqx, hqy, hend⟩ := hg
    obtain ⟨its, rv, p, _⟩ := I.tuple hqx
    obtain ⟨its2, rv2, p2, _⟩ := I.tuple hqy
    have l1 := rv.length
    have l2 := rv2.length
    have he' : its.toArray[i]? = none ∨ its2.toArray[i]? = none := by
      rcases hend with q | q
      · exact .inl (by simp; omega)
      · exact .inr (by simp; omega)
    exact yez_end (I.ok.hd hc) D he hz hv hTI hTO h1 h2 p p2 he' fun h' hk => ⟨rfl, I.turnedL (t' := s.toks) (ch := [e, z, TI, TO, i1, i2]) (fun c o hb q =>
      hk c o (fun q' => hb (by simp [q'])) (fun q' => hb (by simp [q'])) (fun q' => hb (by simp [q'])) (fun q' => hb (by simp [q'])) q) hf⟩
  self := fun A i s Q E st h => let ⟨⟨_, he⟩, _⟩ := st; wpAny_pyIter_enum he h
def yEz (K : PySem.W.Frag) (ta : TA) : TI := fun σ H R => ta σ H fun vs H1 => ∃ a b xs ys, vs = [.ref a, .ref b] ∧ SqT K H1 a xs ∧ SqT K H1 b ys ∧ R (YIez K a b) H1
theorem ypi_ez {X : Cx} {e e2 : Expr} {ta : TA} {p p0 pos pos0 tpos : Pos} {elts : List Expr} {kk : Nat} (hg0 : Gl X "enumerate") (hm0 : X.mg "enumerate" = none) (hg : Gl X "zip") (hm : X.mg "zip" = none) (ha : PA X [e, e2] ta)
    (hs : starEach [e, e2] X.env = (false, eval e X.env) :: starEach [e2] X.env := by rfl) (hpl : (backTo pos (starEach [e2] X.env)).any (·.1) = false := by rfl)
    (hs0 : starEach [Expr.Call (.Name "zip" p) [e, e2] [] pos] X.env = [(false, eval (Expr.Call (.Name "zip" p) [e, e2] [] pos) X.env)] := by rfl) :
    PI X (.Tuple elts kk tpos) (.Call (.Name "enumerate" p0) [.Call (.Name "zip" p) [e, e2] [] pos] [] pos0) (yEz X.K ta) := by
  refine ⟨fun pins s σ H R I h => ?_⟩
  refine Call_ (ld_blt I hg0 hm0 boot_enumerate (PyProof.Rows.callWith_type1 ?_ hs0 rfl))
  rw [hs0]
  refine Calls.spliced_cons ?_
  refine Call_ (ld_blt I hg hm PyProof.Rows.boot_zip (PyProof.Rows.callWith_type1 (thn (ha.run pos pins s σ H _ I h) fun us s1 ⟨vs, H1, I1, r1, q1⟩ => ?_) hs hpl))
  obtain ⟨a, b, xs, ys, ex, hqx, hqy, q⟩ := q1
  subst ex
  cases r1 with
  | cons r rr =>
    cases rr with
    | cons r' rr =>
      cases rr
      cases r
      cases r'
      obtain ⟨its, rv, p1, _⟩ := I1.tuple hqx
      obtain ⟨its2, rv2, p2, _⟩ := I1.tuple hqy
      obtain ⟨o1, ho1, _⟩ := id p1
      obtain ⟨o2, ho2, _⟩ := id p2
      refine RZ.call_zipT (show s1.heap.IsTuple a its.toArray from p1) (show s1.heap.IsTuple b its2.toArray from p2) fun h' hz hTI hTO h1 h2 hsz hk => ?_
      refine Calls.spliced_nil ?_
      refine ycall_enumerate_zip (s := { s1 with heap := h' }) hz fun h'' he hsz2 hk2 => wpAny_pyIter_enum he ?_
      have I2 : Inv X pins σ H1 { s1 with heap := h'' } := I1.kept (t' := s1.toks) fun c o x => hk2 c o (hk c o x)
      have N5 : h'.objs.size = s1.heap.objs.size + 5 := hsz
      have he' : IsEnum h'' (s1.heap.objs.size + 5) (s1.heap.objs.size + 4) 0 .none := by rw [← N5]; exact he
      have n54 : s1.heap.objs.size + 5 ≠ s1.heap.objs.size + 4 := by omega
      have n52 : s1.heap.objs.size + 5 ≠ s1.heap.objs.size + 2 := by omega
      have n53 : s1.heap.objs.size + 5 ≠ s1.heap.objs.size + 3 := by omega
      have n50 : s1.heap.objs.size + 5 ≠ s1.heap.objs.size := by omega
      have n51 : s1.heap.objs.size + 5 ≠ s1.heap.objs.size + 1 := by omega
      have fresh : ∀ c, c ∈ [s1.heap.objs.size + 5, s1.heap.objs.size + 4, s1.heap.objs.size + 2, s1.heap.objs.size + 3, s1.heap.objs.size, s1.heap.objs.size + 1] → FpOk X pins H1 c := fun c hcm => by
        have e' : c = s1.heap.objs.size + 5 ∨ c = s1.heap.objs.size + 4 ∨ c = s1.heap.objs.size + 2 ∨ c = s1.heap.objs.size + 3 ∨ c = s1.heap.objs.size ∨ c = s1.heap.objs.size + 1 := by simpa using hcm
        have hle : s1.heap.objs.size ≤ c := by omega
        exact I1.fpOk hle (I1.hok.fresh hle)
      refine ⟨s1.heap.objs.size + 5, [s1.heap.objs.size + 5, s1.heap.objs.size + 4, s1.heap.objs.size + 2, s1.heap.objs.size + 3, s1.heap.objs.size, s1.heap.objs.size + 1], _, _, H1, by rw [← N5], I2,
        yturn_ez (PySem.W.ktu_apart s1.heap.objs.size a b (Heap.lt_size ho1) (Heap.lt_size ho2)) n54 n52 n53 n50 n51, ⟨⟨_, he'⟩, ⟨.none, false, hk2 _ _ hz, .inl rfl⟩, hk2 _ _ hTI, ⟨_, _, hk2 _ _ hTO⟩, h1.at fun o q => hk2 _ _ q, h2.at fun o q => hk2 _ _ q⟩, fresh, q⟩
/-- what is given at a turn -/
def YE (K : PySem.W.Frag) (a b : Addr) (xs ys : List V) : Nat → Hp → V → Hp → Prop := fun i H v H' => ∃ T U x y, v = .ref U ∧ H T = none ∧ H U = none ∧ T ≠ U ∧ H' = upd (upd H T (.tup [x, y])) U (.tup [.int (i : Nat), .ref T]) ∧ xs[i]? = some x ∧ ys[i]? = some y
theorem ywalk_ez {K : PySem.W.Frag} {a b : Addr} {xs ys : List V} {n : Nat} (hn : n = min xs.length ys.length) : Walk (YIez K a b) n (fun H => SqT K H a xs ∧ SqT K H b ys) (YE K a b xs ys) := by
  subst hn
  refine ⟨fun i H hi q => ⟨xs, ys, xs[i]'(by omega), ys[i]'(by omega), q.1, q.2, List.getElem?_eq_getElem _, List.getElem?_eq_getElem _⟩, fun H q => ⟨xs, ys, q.1, q.2, by omega⟩, fun i H v H' _ q y => ?_⟩
  obtain ⟨T, U, x, y, h1, h2, h3, h4, h5, h6, h7⟩ := y
  exact ⟨T, U, x, y, h1, h2, h3, h4, h5, h6 xs q.1, h7 ys q.2⟩
end L2
namespace YP
open PySem PySem.Spec PyProof.Rows L2
def zipD (l m : List D) : List D := nums (List.zipWith (fun a b => D.tup [a, b]) l m)
def uEz (u : UA) : UI := fun ρ R => u ρ fun ds ρ1 => match ds with
  | [.tup l, .tup m] => R (zipD l m) ρ1
  | _ => False
theorem fs_forEz {X : Cx} {e e2 : Expr} {ua : UA} {p p0 pos1 pos0 tpos pos : Pos} {elts : List Expr} {kk : Nat} {g : UG} {t : US} {body : List Stmt} (hp : PassesOwn (model X.prog X.w) X.A X.env X.xe) (hc : X.calm = true)
    (hg0 : Gl X "enumerate") (hm0 : X.mg "enumerate" = none) (hgz : Gl X "zip") (hm : X.mg "zip" = none) (ha : FA X [e, e2] ua) (hg : FG X none (.Tuple elts kk tpos) g) (hb : FB X body t)
    (hs1 : starEach [e, e2] X.env = (false, eval e X.env) :: starEach [e2] X.env := by rfl) (hpl : (backTo pos1 (starEach [e2] X.env)).any (·.1) = false := by rfl)
    (hs0 : starEach [Expr.Call (.Name "zip" p) [e, e2] [] pos1] X.env = [(false, eval (Expr.Call (.Name "zip" p) [e, e2] [] pos1) X.env)] := by rfl)
    (hs : ∀ x, foldedSetIterable (.Call (.Name "enumerate" p0) [.Call (.Name "zip" p) [e, e2] [] pos1] [] pos0) X.env x = pure x := by intro _; rfl) :
    FS X (.For (.Tuple elts kk tpos) (.Call (.Name "enumerate" p0) [.Call (.Name "zip" p) [e, e2] [] pos1] [] pos0) body [] pos) (uFor (uEz ua) g t) := ⟨fun E ρ q F H σ0 σ B DE er f => by
  refine to_SS (ps_for hp hc pi_S pg_S pss_S hs) ?_
  refine to_I (ypi_ez hg0 hm0 hgz hm pa_S hs1 hpl hs0) (ha ρ _ q F H σ0 σ B _ er fun ds ρ1 vs F1 H1 z G1 l => ?_)
  split at z
  case h_2 => exact z.elim
  rename_i dl dm
  obtain ⟨W, w0, turn, done⟩ := z
  cases l with
  | cons l0 l9 =>
  cases l9 with
  | cons l1 l9 =>
  cases l9
  cases l0 with
  | @tup a xs _ ha1 la =>
  cases l1 with
  | @tup b ys _ hb1 lb =>
  refine ⟨a, b, xs, ys, rfl, sqT_mono G1.er.sub ha1, sqT_mono G1.er.sub hb1, ?_⟩
  have wl : (zipD dl dm).length = min xs.length ys.length := by simp [zipD, nums, la.len, lb.len]
  have wd := ywalk_ez (K := X.K) (a := a) (b := b) (xs := xs) (ys := ys) wl
  refine for_it wd (fun i σ' H' => ∃ ρ' F', W i ρ' ∧ Gd X.K F1 H1 F' H' σ0 ρ' σ' B) ⟨ρ1, F1, w0, .refl _ _ _, G1.er⟩ (fun i σ' H' _ ⟨ρ', F', _, G⟩ => ⟨sqT_mono (G.nx.fz.trans G.er.sub) ha1, sqT_mono (G.nx.fz.trans G.er.sub) hb1⟩) ?_ (fun σ' H' ⟨ρ', F', w', G⟩ => f.nx ρ' σ' F' H' (done ρ' w') ⟨G1.nx.trans G.nx, G.er⟩)
  rintro i x σ2 H2 H3 hi ⟨ρ2, F2, w2, G2⟩ y
  obtain ⟨T, U, v1, v2, rfl, nT, nU, tu, rfl, g1, g2⟩ := y
  obtain ⟨d1, e1, r1⟩ := la.get g1
  obtain ⟨d2, e2', r2⟩ := lb.get g2
  obtain ⟨Ea, na⟩ := G2.er.laid_val (o := .tup [v1, v2]) nT
  have nU2 : upd H2 T (.tup [v1, v2]) U = none := by rw [upd_ne tu.symm]; exact nU
  obtain ⟨Eb, nb⟩ := Ea.laid_val (o := .tup [.int (i : Nat), .ref T]) nU2
  have s2 : Same F1 F2 := G2.nx.fz
  have rdT : RD X.K (upd (upd F2 T (.tup [v1, v2])) U (.tup [.int (i : Nat), .ref T])) (.ref T) (.tup [d1, d2]) :=
    .tup (.of (by rw [upd_ne tu]; exact upd_same)) (.cons (r1.mono (s2.trans (na.fz.trans nb.fz))) (.cons (r2.mono (s2.trans (na.fz.trans nb.fz))) .nil))
  have rdU : RD X.K (upd (upd F2 T (.tup [v1, v2])) U (.tup [.int (i : Nat), .ref T])) (.ref U) (.tup [.int (i : Int), .tup [d1, d2]]) := .tup (.of upd_same) (.cons (.int _) (.cons rdT .nil))
  have ei : (zipD dl dm)[i]? = some (.tup [.int (i : Int), .tup [d1, d2]]) := by
    have h1 : (List.zipWith (fun a b => D.tup [a, b]) dl dm)[i]? = some (.tup [d1, d2]) := by rw [List.getElem?_zipWith, e1, e2']
    have hi' : i < (List.zipWith (fun a b => D.tup [a, b]) dl dm).length := (List.getElem?_eq_some_iff.mp h1).1
    have h2 : (List.zipWith (fun a b => D.tup [a, b]) dl dm)[i] = .tup [d1, d2] := by
      have := List.getElem?_eq_getElem hi'
      rw [h1] at this
      exact (Option.some.inj this).symm
    unfold zipD nums
    rw [List.getElem?_map, List.getElem?_range hi']
    show some (D.tup [D.int ↑i, (List.zipWith (fun a b => D.tup [a, b]) dl dm).getD i D.non]) = _
    rw [show (List.zipWith (fun a b => D.tup [a, b]) dl dm).getD i D.non = D.tup [d1, d2] from by rw [List.getD_eq_getElem?_getD, h1]; rfl]
  refine hg _ ρ2 _ (turn i _ ρ2 ei w2) _ _ σ0 σ2 B _ _ Eb rdU fun ρ4 σ4 F4 H4 z4 G4 _ => ?_
  have n4 := G2.nx.trans (na.trans (nb.trans G4.nx))
  have f4 := f.on (G1.nx.trans n4)
  exact hb _ ρ4 z4 F4 H4 σ0 σ4 B _ G4.er ⟨fun ρ' σ' F' H' w' G => ⟨ρ', F', w', n4.trans G.nx, G.er⟩, f4.rt, f4.nx, fun ρ' σ' F' H' w' G => ⟨ρ', F', w', n4.trans G.nx, G.er⟩⟩⟩
end YP
set_option maxRecDepth 100000
set_option maxHeartbeats 4000000
/-! The yard's pure layer, part 53: sorted of texts, of a dict's texts, however many; zip of two tuples. -/
namespace SrtO
open PySem PyProof.Rows Srt
section
variable {prog : Program} {w : World} {A : Around} {E : Value → Shared → Prop} {s : Shared}
def sv : Value → PySem.Str
  | .str x _ => x
  | _ => PySem.Str.empty
def ltSv (v u : Value) : Bool := decide ((sv v).cps.toList < (sv u).cps.toList)
theorem swo_str : Swo ltSv := by
  refine ⟨fun x y h => ?_, fun x y z h1 h2 => ?_⟩
  · have a := of_decide_eq_true (p := (sv x).cps.toList < (sv y).cps.toList) h
    exact decide_eq_false (p := (sv y).cps.toList < (sv x).cps.toList) fun b => List.lt_irrefl _ (List.lt_trans a b)
  · have a := of_decide_eq_false (p := (sv y).cps.toList < (sv x).cps.toList) h1
    have b := of_decide_eq_false (p := (sv z).cps.toList < (sv y).cps.toList) h2
    refine decide_eq_false (p := (sv z).cps.toList < (sv x).cps.toList) fun c => ?_
    exact List.not_lt.mpr (List.le_trans (List.not_lt.mp a) (List.not_lt.mp b)) c
theorem strs_mem : ∀ {vs : List Value} {ns : List PySem.Str}, StrsAre vs ns → ∀ v ∈ vs, ∃ i t, v = Value.str i t
  | _, _, .nil, v, h => absurd h (by simp)
  | _, _, .cons n t r, v, h => by
    rcases List.mem_cons.mp h with e | h
    · exact ⟨n, t, e⟩
    · exact strs_mem r v h
theorem strs_sv : ∀ {vs : List Value}, (∀ v ∈ vs, ∃ i t, v = Value.str i t) → StrsAre vs (vs.map sv)
  | [], _ => .nil
  | v :: vs, h => by
    obtain ⟨i, t, e⟩ := h v List.mem_cons_self
    subst e
    exact .cons i t (strs_sv fun u hu => h u (List.mem_cons_of_mem _ hu))
theorem sv_strs : ∀ {vs : List Value} {ns : List PySem.Str}, StrsAre vs ns → vs.map sv = ns
  | _, _, .nil => rfl
  | _, _, .cons n t r => congrArg (n :: ·) (sv_strs r)
theorem str_cmp {vs : List Value} {ns : List PySem.Str} (hI : StrsAre vs ns) : Cmp prog w A s oneType' (fun p => p.1 ∈ vs) (lt2 ltSv) := by
  intro p q hm hm'
  obtain ⟨a, t, e⟩ := strs_mem hI _ hm
  obtain ⟨b, u, e'⟩ := strs_mem hI _ hm'
  show wpAny (model prog w) A (keyLt' oneType' p.1 q.1) (fun r s' => s' = s ∧ r = ltSv p.1 q.1) (fun _ _ => False) s
  rw [e, e', keyLt'_oneType]
  exact oneLt_str ⟨rfl, rfl⟩
theorem strs_sortable {a : Addr} {vs : List Value} {ns : List PySem.Str} (hI : StrsAre vs ns) (h2 : 2 ≤ vs.length) : SortableO prog w A s a vs ltSv := by
  intro h' _
  refine ⟨oneType', fun Q E hq => ?_, str_cmp hI⟩
  match vs, hI, h2 with
  | v1 :: v2 :: rest, hI, _ =>
    rw [keyKind_strs hI]
    exact wpAny_pure hq
  | [], _, h => exact absurd h (by decide)
  | [v], _, h => exact absurd h (by simp)
/-- texts that do not fall -/
def Asc (ys : List PySem.Str) : Prop := ys.Pairwise fun x y => ¬ (y.cps.toList < x.cps.toList)
theorem strs_out {vs out : List Value} {ns : List PySem.Str} (hI : StrsAre vs ns) (hs : Srtd ltSv out) (hb : Stb ltSv out vs) : StrsAre out (out.map sv) ∧ (out.map sv).Perm ns ∧ Asc (out.map sv) := by
  refine ⟨strs_sv fun v hv => strs_mem hI v (hb.perm.mem_iff.mp hv), ?_, ?_⟩
  · have q := hb.perm.map sv
    rw [sv_strs hI] at q
    exact q
  · exact List.pairwise_map.mpr (hs.imp fun {x y} h => of_decide_eq_false (p := (sv y).cps.toList < (sv x).cps.toList) h)
end
end SrtO
namespace YP
open PySem PySem.Spec PyProof.Rows L2
section
variable {X : Cx}
theorem cr_sortedSA : CallR X (.builtin "sorted") (fun vs H Q => ∃ (a : Addr) (ns : List Str), vs = [V.ref a] ∧ SqL X.K H a (ns.map V.str) ∧
    ∀ (ns' : List Str) (p : Addr), ns'.Perm ns → SrtO.Asc ns' → H p = none → Q (.ref p) (upd H p (.lst (ns'.map V.str)))) := by
  intro pins s σ H vs us Q I r h
  obtain ⟨a, ns, rfl, hs, q⟩ := h
  obtain ⟨its, rv, hl, hz⟩ := I.list hs
  rw [Vals.ref1 r]
  have hi := rv.strs
  refine SrtO.sorted_ord SrtO.swo_str hl.isList (by rw [← rv.length]; exact hz) (fun h2 h₁ a' _ _ => SrtO.strs_sortable hi h2) fun out h1 h2 => ?_
  obtain ⟨k1, k2, k3⟩ := SrtO.strs_out hi h1 h2
  obtain ⟨ep, he'⟩ := PyProof.Rows.sortedAll_at s.heap its out.toArray
  have hlen : ((out.map SrtO.sv).map V.str).length ≤ sizeLine := by
    rw [List.length_map, k2.length_eq]
    rw [List.length_map] at hz
    exact hz
  exact ⟨.ref _, upd H (s.heap.objs.size + 1) (.lst ((out.map SrtO.sv).map V.str)), I.laid (t' := s.toks) (fun _ _ => PyProof.Rows.sortedAll_old) (Nat.le_succ _) ⟨hlen, out, ep, vals_of_strs k1, he'⟩, rfl, q _ _ k2 k3 (I.hok.fresh (Nat.le_succ _))⟩
theorem call_sortedDA (hcalm : X.calm = true) : CallR X (.builtin "sorted") (fun xs H Q => ∃ (a : Addr) (kvs : List (Key × V)) (ks : List Str), xs = [.ref a] ∧ Rd H a (.dK kvs) ∧ kvs.map (·.1) = ks.map Sum.inr ∧ ks.length ≤ sizeLine ∧
    ∀ ys p, ys.Perm ks → SrtO.Asc ys → H p = none → Q (.ref p) (upd H p (.lst (ys.map V.str)))) := by
  intro pins s σ H xs us Q I r q
  obtain ⟨a, kvs, ks, ex, hd, hks, h64, q⟩ := q
  subst ex
  obtain ⟨u, eu, rx⟩ := vals1 r
  subst eu
  cases rx
  obtain ⟨z, lo, vs, rel, dd⟩ := dk_rd I.hok hd
  obtain ⟨ep, hat⟩ := dd.dictAt
  have hkeys : vs.map (·.1) = ks.map Sum.inr := rel.keys.symm.trans hks
  have hl : vs.length = ks.length := by
    have e := congrArg List.length hkeys
    rw [List.length_map, List.length_map] at e
    exact e
  have h16 : vs.length ≤ sizeLine := by rw [hl]; exact h64
  refine Calls.call_function_entry PyProof.Rows.kind_sorted PyProof.Rows.plain_sorted PyProof.Rows.entry_sorted (PyProof.Rows.args_sorted1 _) ?_
  unfold Builtin.«sorted»
  refine wpAny_bind (m := checkCount "sorted" 1 1 _) (wpAny_pure ?_)
  refine wpAny_bind (PySem.W.kdu_collect (A := X.A.in1) (PySem.W.kdl_dict (knd := mixKind X.prog X.w) (kvs := vs) (ep := ep) lo) (I.ok.hd hcalm) hat h16 fun h' tk acc hk hacc => ?_)
  have hal : acc.toList.length = ks.length := by rw [Array.length_toList, hacc.1, hl]
  have hS : StrsAre acc.toList ks := strs_at hal fun j v e => by
    obtain ⟨k, x, e1, e2⟩ := hacc.2 j v (by rw [← Array.getElem?_toList]; exact e)
    have e3 : (vs.map (·.1))[j]? = some k := by rw [List.getElem?_map, e1]; all_goals rfl
    rw [hkeys, List.getElem?_map] at e3
    cases e4 : ks[j]? with
    | none => rw [e4] at e3; cases e3
    | some y =>
      rw [e4] at e3
      have e5 : Sum.inr y = k := Option.some.inj e3
      subst e5
      obtain ⟨t, ev⟩ := Value.isStrOf_shape (x := y) (v := v) e2
      exact ⟨y, t, rfl, ev⟩
  have I1 : Inv X pins σ H { s with heap := h', toks := tk } := I.kept hk
  refine wpAny_bind (wpAny_newList ?_ (by rw [hal]; exact h64))
  have hoL : (h'.push (seqObj "list" acc.toList.toArray 0)).get? h'.objs.size = some (seqObj "list" acc.toList.toArray 0) := Heap.get?_push_size _ rfl
  show wpAny _ _ _ _ _ { s with heap := h'.push (seqObj "list" acc.toList.toArray 0), toks := tk }
  refine wpAny_bind (wpAny_holding (wpAny_call_entry PyProof.Rows.slot_list_sort ⟨_, hoL, rfl⟩ PyProof.Rows.entry_list_sort
    (SrtO.list_sort_ord (s := { s with heap := h'.push (seqObj "list" acc.toList.toArray 0), toks := tk }) SrtO.swo_str hoL (by rw [hal]; exact h64) (fun h2 => SrtO.strs_sortable hS h2) fun out h1 h2 => ⟨_, rfl, ?_⟩)
    (PyProof.Rows.args_list_sort _)))
  obtain ⟨g1, g2, g3⟩ := SrtO.strs_out hS h1 h2
  obtain ⟨e', he'⟩ := PyProof.Rows.sortedHeap_at (vs := acc.toList) (out := out.toArray) hoL
  have hlen : ((out.map SrtO.sv).map V.str).length ≤ sizeLine := by
    rw [List.length_map, g2.length_eq]
    exact h64
  refine wpAny_pure ⟨_, rfl, .ref h'.objs.size, upd H h'.objs.size (.lst ((out.map SrtO.sv).map V.str)), I1.laid (t' := tk) (fun b u e => ?_) (Nat.le_refl _)
    (show ObjOk X.prog X.w _ _ _ (.lst ((out.map SrtO.sv).map V.str)) from ⟨hlen, out, e', vals_of_strs g1, he'⟩), rfl, q _ _ g2 g3 (I1.hok.fresh (Nat.le_refl _))⟩
  have hb : b < h'.objs.size := Heap.lt_size e
  rw [PyProof.Rows.sortedHeap_old (Nat.ne_of_lt hb) (by rw [size_push']; exact Nat.lt_succ_of_lt hb)]
  exact Heap.get?_push_of_some _ e
def oSortedA (ds : List D) (T : Rv → Prop) : Prop := match ds with
  | [.lst l] => ∃ xs : List Str, l = xs.map D.str ∧ ∀ ys : List Str, ys.Perm xs → SrtO.Asc ys → T (.own (.lst (ys.map D.str)))
  | _ => False
theorem cb_sortedA : CbS X (.builtin "sorted") oSortedA := .of cr_sortedSA fun {F H σ0 σ ρ B vs ds T Q} E w t g => by
  unfold oSortedA at t
  split at t
  · obtain ⟨xs, rfl, t⟩ := t
    obtain ⟨v, rfl, w0⟩ := w.one
    obtain ⟨a, us, rfl, h1, l1⟩ := w0.lst E.sub
    cases rl_strs l1
    exact ⟨a, xs, rfl, .of h1, fun ys p pm so np => gt_lst E g (t ys pm so) (strs_rl ys) p np⟩
  · exact t.elim
def oSortedDA (ds : List D) (T : Rv → Prop) : Prop := match ds with
  | [.dic l] => ∃ ks : List Str, l.map (·.1) = ks.map Sum.inr ∧ ks.length ≤ sizeLine ∧ ∀ ys, ys.Perm ks → SrtO.Asc ys → T (.own (.lst (ys.map D.str)))
  | _ => False
theorem cb_sortedDA (hc : X.calm = true) : CbS X (.builtin "sorted") oSortedDA := .of (call_sortedDA hc) fun {F H σ0 σ ρ B vs ds T Q} E w t g => by
  unfold oSortedDA at t
  split at t
  · obtain ⟨ks, e1, h64, t⟩ := t
    obtain ⟨v, rfl, w0⟩ := w.one
    obtain ⟨a, us, rfl, h1, l1⟩ := w0.dic E.sub
    exact ⟨a, us, ks, rfl, h1, (rk_keys l1).trans e1, h64, fun ys p hp hs => gt_lst E g (t ys hp hs) (rl_ofStrs ys) p⟩
  · exact t.elim
/-! ### zip of two tuples -/
def zip2 (l m : List D) : List D := List.zipWith (fun a b => D.tup [a, b]) l m
def uZip (u : UA) : UI := fun ρ R => u ρ fun ds ρ1 => match ds with
  | [.tup l, .tup m] => R (zip2 l m) ρ1
  | _ => False
theorem fi_zip {e e2 : Expr} {u : UA} {p pos tpos : Pos} {elts : List Expr} {kk : Nat} (hg : Gl X "zip") (hm : X.mg "zip" = none) (ha : FA X [e, e2] u)
    (hs : starEach [e, e2] X.env = (false, eval e X.env) :: starEach [e2] X.env := by rfl) (hpl : (backTo pos (starEach [e2] X.env)).any (·.1) = false := by rfl) :
    FI X (.Tuple elts kk tpos) (.Call (.Name "zip" p) [e, e2] [] pos) (uZip u) := ⟨fun ρ R q F H σ0 σ B Q E g => by
  refine to_I (RZ.pi_zipA hg hm pa_S hs hpl) (ha ρ _ q F H σ0 σ B _ E fun ds ρ1 vs F1 H1 z G l => ?_)
  split at z
  case h_2 => exact z.elim
  rename_i dl dm
  cases l with
  | cons l0 l9 =>
  cases l9 with
  | cons l1 l9 =>
  cases l9
  cases l0 with
  | @tup a xs _ ha1 la =>
  cases l1 with
  | @tup b ys _ hb1 lb =>
  refine ⟨a, b, xs, ys, rfl, .inr ⟨sqT_mono G.er.sub ha1, sqT_mono G.er.sub hb1, g _ _ _ F1 H1 z G ?_⟩⟩
  have wl : (zip2 dl dm).length = min xs.length ys.length := by simp [zip2, la.len, lb.len]
  refine ⟨fun i H hi s => ?_, fun H s => ?_, fun i H v H' hi s y => ?_⟩
  · have hi1 : i < xs.length := by omega
    have hi2 : i < ys.length := by omega
    exact ⟨xs, ys, xs[i], ys[i], sqT_mono s ha1, sqT_mono s hb1, List.getElem?_eq_getElem hi1, List.getElem?_eq_getElem hi2⟩
  · exact ⟨xs, ys, sqT_mono s ha1, sqT_mono s hb1, by omega⟩
  · obtain ⟨t, x1, y1, rfl, e2', rfl, f1, f2⟩ := y
    obtain ⟨d1, ed1, r1⟩ := la.get (f1 xs (sqT_mono s ha1))
    obtain ⟨d2, ed2, r2⟩ := lb.get (f2 ys (sqT_mono s hb1))
    refine ⟨.tup [d1, d2], by unfold zip2; rw [List.getElem?_zipWith, ed1, ed2], .inr ⟨t, _, rfl, e2', fun F' s' nF => ?_⟩⟩
    have s2 : Same F' (upd F' t (.tup [x1, y1])) := fun b u q => by rw [upd_ne (ne_of_none q nF)]; exact q
    exact .tup (.of upd_same) (.cons (r1.mono (s'.trans s2)) (.cons (r2.mono (s'.trans s2)) .nil))⟩
/-! ### not d, d a dict, as a value -/
theorem pe_notR {a : Expr} {ta : TE} {r : V → Hp → (Bool → Hp → Prop) → Prop} {pos : Pos} (ha : PE X a ta) (ht : TruR X r) : PE X (.UnaryOp .Not a pos) (fun σ H Q => ta σ H fun x H1 => r x H1 fun c H2 => Q (.bl (!c)) H2) := by
  refine ⟨fun pins s σ H Q I h => ?_⟩
  refine UnaryOp_ (thn (ha.run pins s σ H _ I h) fun v s1 ⟨x, H1, I1, r1, q1⟩ => ?_)
  exact not_of (thn (ht pins s1 σ H1 x v (fun c H2 => Q (.bl (!c)) H2) I1 r1 q1) fun c s2 ⟨H2, I2, q2⟩ => ⟨.bl (!c), H2, I2, rfl, q2⟩)
def uNotKV (u : UE) : UE := fun ρ R => u ρ fun r ρ1 => wv ρ1 r fun d => ∃ l, d = .dic l ∧ R (.val (.bl l.isEmpty)) ρ1
theorem fe_notK {a : Expr} {ua : UE} {pos : Pos} (ha : FE X a ua) : FE X (.UnaryOp .Not a pos) (uNotKV ua) := ⟨fun ρ R q F H σ0 σ B Q E g => by
  refine to_S (pe_notR pe_S tru_K) (ha ρ _ q F H σ0 σ B _ E fun r ρ1 v F1 H1 h G => ?_)
  obtain ⟨d, w, l, rfl, h⟩ := G.er.seen G.rr h
  obtain ⟨p, kvs, rfl, h1, rk⟩ := w.dic G.er.sub
  have e : kvs.isEmpty = l.isEmpty := by cases rk <;> rfl
  exact ⟨p, kvs, rfl, h1, by rw [e]; show Q (.bl (!(!l.isEmpty))) H1; rw [Bool.not_not]; exact g _ _ _ F1 H1 h ⟨G.nx, G.er, .bl _⟩⟩⟩
end
end YP
set_option maxRecDepth 100000
set_option maxHeartbeats 1000000
namespace K41
open PySem PySem.Spec PyProof.Rows L2 Yard YP
/-! ### the text -/
def topS (i : Nat) : Stmt := PySem.Challenge.pw_tongueyard_k41_tables_as_texts.main.body.getD i (.Pass ⟨0, 0, 0, 0⟩)
abbrev s_is_name : Stmt := topS 7
abbrev s_table_text : Stmt := topS 12
abbrev s_read_table : Stmt := topS 13
abbrev s_is_behind : Stmt := topS 14
abbrev s_read_item : Stmt := topS 15
abbrev s_read_deed : Stmt := topS 16
abbrev s_is_symbol : Stmt := topS 17
abbrev s_read_number : Stmt := topS 18
abbrev s__law_cell : Stmt := topS 20
abbrev s__law_well : Stmt := topS 21
abbrev s__law_dip : Stmt := topS 22
abbrev s__law_mark : Stmt := topS 23
abbrev s__law_number : Stmt := topS 24
abbrev s__law_drawn : Stmt := topS 25
abbrev s__law_written : Stmt := topS 26
abbrev s__law_is_mark : Stmt := topS 27
abbrev s__law_is_number : Stmt := topS 28
abbrev s__law_is_deed : Stmt := topS 29
abbrev s__law_wrong_row : Stmt := topS 30
abbrev s__law_spoilt : Stmt := topS 31
abbrev s__law_alike : Stmt := topS 32
abbrev s__law_held : Stmt := topS 33
abbrev s_law : Stmt := topS 34
abbrev s_NoTable___init__ : Stmt := inClass (topS 2) 0
/-- a method of a class, as the top has left it -/
structure Dm (K : PySem.W.Frag) (C : Addr) (x q : Str) (st : Stmt) (ps : List Str) (f : Addr) (fd : FuncData) : Prop where
  fn : Fun K x q st f fd
  bd : Binds K fd ps []
  mt : Meth K C x f
/-- an own exception class -/
structure Xc (K : PySem.W.Frag) (mg : Str → Option Value) (x : Str) (C : Addr) : Prop where
  g : mg x = some (.ref C)
  ox : OexC K C
  xf : XfC K C
  is : ExcC K C
/-- what the top has left -/
structure Tx (K : PySem.W.Frag) (w : World) (mg : Str → Option Value) where
  (a_is_name : Addr) (f_is_name : FuncData) (d_is_name : Df K mg "is_name" s_is_name ["thing"] a_is_name f_is_name)
  (a_table_text : Addr) (f_table_text : FuncData) (d_table_text : Df K mg "table_text" s_table_text ["table"] a_table_text f_table_text)
  (a_read_table : Addr) (f_read_table : FuncData) (d_read_table : Df K mg "read_table" s_read_table ["text"] a_read_table f_read_table)
  (a_is_behind : Addr) (f_is_behind : FuncData) (d_is_behind : Df K mg "is_behind" s_is_behind ["symbol", "deeds"] a_is_behind f_is_behind)
  (a_read_item : Addr) (f_read_item : FuncData) (d_read_item : Df K mg "read_item" s_read_item ["words"] a_read_item f_read_item)
  (a_read_deed : Addr) (f_read_deed : FuncData) (d_read_deed : Df K mg "read_deed" s_read_deed ["words"] a_read_deed f_read_deed)
  (a_is_symbol : Addr) (f_is_symbol : FuncData) (d_is_symbol : Df K mg "is_symbol" s_is_symbol ["word"] a_is_symbol f_is_symbol)
  (a_read_number : Addr) (f_read_number : FuncData) (d_read_number : Df K mg "read_number" s_read_number ["word"] a_read_number f_read_number)
  (a__law_cell : Addr) (f__law_cell : FuncData) (d__law_cell : Df K mg "_law_cell" s__law_cell ["script", "k"] a__law_cell f__law_cell)
  (a__law_well : Addr) (f__law_well : FuncData) (d__law_well : Df K mg "_law_well" s__law_well ["cell", "place"] a__law_well f__law_well)
  (a__law_dip : Addr) (f__law_dip : FuncData) (d__law_dip : Df K mg "_law_dip" s__law_dip ["well", "many"] a__law_dip f__law_dip)
  (a__law_mark : Addr) (f__law_mark : FuncData) (d__law_mark : Df K mg "_law_mark" s__law_mark ["well"] a__law_mark f__law_mark)
  (a__law_number : Addr) (f__law_number : FuncData) (d__law_number : Df K mg "_law_number" s__law_number ["well"] a__law_number f__law_number)
  (a__law_drawn : Addr) (f__law_drawn : FuncData) (d__law_drawn : Df K mg "_law_drawn" s__law_drawn ["well"] a__law_drawn f__law_drawn)
  (a__law_written : Addr) (f__law_written : FuncData) (d__law_written : Df K mg "_law_written" s__law_written ["table"] a__law_written f__law_written)
  (a__law_is_mark : Addr) (f__law_is_mark : FuncData) (d__law_is_mark : Df K mg "_law_is_mark" s__law_is_mark ["word"] a__law_is_mark f__law_is_mark)
  (a__law_is_number : Addr) (f__law_is_number : FuncData) (d__law_is_number : Df K mg "_law_is_number" s__law_is_number ["word"] a__law_is_number f__law_is_number)
  (a__law_is_deed : Addr) (f__law_is_deed : FuncData) (d__law_is_deed : Df K mg "_law_is_deed" s__law_is_deed ["words"] a__law_is_deed f__law_is_deed)
  (a__law_wrong_row : Addr) (f__law_wrong_row : FuncData) (d__law_wrong_row : Df K mg "_law_wrong_row" s__law_wrong_row ["text"] a__law_wrong_row f__law_wrong_row)
  (a__law_spoilt : Addr) (f__law_spoilt : FuncData) (d__law_spoilt : Df K mg "_law_spoilt" s__law_spoilt ["well", "text"] a__law_spoilt f__law_spoilt)
  (a__law_alike : Addr) (f__law_alike : FuncData) (d__law_alike : Df K mg "_law_alike" s__law_alike ["found", "wanted"] a__law_alike f__law_alike)
  (a__law_held : Addr) (f__law_held : FuncData) (d__law_held : Df K mg "_law_held" s__law_held ["tables", "bends"] a__law_held f__law_held)
  (a_law : Addr) (f_law : FuncData) (d_law : Df K mg "law" s_law ["script"] a_law f_law)
  (c_YardError : Addr) (g_YardError : mg "YardError" = some (.ref c_YardError))
  (c_NoTable : Addr) (g_NoTable : mg "NoTable" = some (.ref c_NoTable))
  (x_NoTable : Xc K mg "NoTable" c_NoTable)
  (s_NoTable : PySem.W.exmOne K (.ref c_NoTable) (.ref c_YardError) = some true) (v_NoTable : PySem.W.kitOne K (.ref c_NoTable) (.type "ValueError") = some true)
  (n_NoTable_row : PySem.W.findIn K (.ref c_NoTable) "row" = some none)
  (m_NoTable : PySem.W.exmOne K (.ref c_NoTable) (.ref c_NoTable) = some true)
  (i_NoTable_YardError : PySem.W.kitOne K (.ref c_NoTable) (.ref c_YardError) = some true)
  (a_NoTable___init__ : Addr) (f_NoTable___init__ : FuncData)
  (d_NoTable___init__ : Fun K "__init__" "NoTable.__init__" s_NoTable___init__ a_NoTable___init__ f_NoTable___init__) (b_NoTable___init__ : Binds K f_NoTable___init__ ["self", "row"] []) (k_NoTable___init__ : PySem.W.findIn K (.ref c_NoTable) "__init__" = some (some (.ref a_NoTable___init__))) (t_NoTable___init__ : PySem.W.typeIn K (.ref a_NoTable___init__) = some (.type "function"))
  (t_LETTERS : Tok) (g_LETTERS : mg "LETTERS" = some (.str "abcdefghijklmnopqrstuvwxyz" t_LETTERS))
  (t_LONGEST : Tok) (g_LONGEST : mg "LONGEST" = some (.int 8 t_LONGEST))
  (a_KEPT_WORDS : Addr) (g_KEPT_WORDS : mg "KEPT_WORDS" = some (.ref a_KEPT_WORDS)) (k_KEPT_WORDS : ∀ H, SqT K H a_KEPT_WORDS ((["word", "skip", "rule", "top", "bar"] : List Str).map V.str))
  (t_END : Tok) (g_END : mg "END" = some (.str "." t_END))
  (t_FIGURES : Tok) (g_FIGURES : mg "FIGURES" = some (.str "0123456789" t_FIGURES))
  (t_MOST_FIGURES : Tok) (g_MOST_FIGURES : mg "MOST_FIGURES" = some (.int 4 t_MOST_FIGURES))
  (z_ValueError : mg "ValueError" = none)
  (z_all : mg "all" = none)
  (z_bool : mg "bool" = none)
  (z_dict : mg "dict" = none)
  (z_enumerate : mg "enumerate" = none)
  (z_int : mg "int" = none)
  (z_isinstance : mg "isinstance" = none)
  (z_len : mg "len" = none)
  (z_list : mg "list" = none)
  (z_max : mg "max" = none)
  (z_min : mg "min" = none)
  (z_range : mg "range" = none)
  (z_sorted : mg "sorted" = none)
  (z_str : mg "str" = none)
  (z_tuple : mg "tuple" = none)
  (z_zip : mg "zip" = none)
theorem sc_NoTable___init__ : FnScope ["self", "row"] ["self", "row"] (defScope s_NoTable___init__) := ⟨rfl, rfl, rfl, by decide +kernel, rfl, by decide +kernel, by decide +kernel⟩
theorem ok_NoTable___init__ {P : Program} {w : World} {K : PySem.W.Frag} {mg : Str → Option Value} {base : Heap} (T : Tx K w mg) : FnOk P w K mg base CX0 1 T.a_NoTable___init__ T.f_NoTable___init__ ["self", "row"] (spIni K T.c_NoTable ["row"]) := by
  refine T.d_NoTable___init__.ok sc_NoTable___init__ (fun vs H Q E h => ?_) fun cdv A outer s H vs Q E hr h => ?_
  · obtain ⟨a, ws, rfl, l, _⟩ := h; show ws.length + 1 = _; rw [l]; rfl
  · obtain ⟨a, ws, rfl, l, e, g⟩ := h
    match ws, l with
    | [y], _ =>
      refine ⟨_, pss_one (ps_ost (pv 0) (pv 1)), ?_⟩
      refine ⟨_, rfl, _, rfl, a, _, rfl, T.x_NoTable.ox, T.n_NoTable_row, .inl ⟨e, fun dx nd hd => ?_⟩⟩
      exact g dx _ nd hd upd_same (by rw [upd_ne hd]; exact upd_same) fun b h1 h2 => by rw [upd_ne h1, upd_ne h2]
end K41
set_option maxRecDepth 100000
set_option maxHeartbeats 1000000
namespace K41
open PySem PySem.Spec PyProof.Rows L2 Yard YP TL
/-! ### texts -/
theorem ok_codes {s : Str} : PyData.strOk s = true ↔ ∀ c ∈ s.cps.toList, c < 1114112 := by
  obtain ⟨a⟩ := s
  show a.all (fun c => decide (c < 0x110000)) = true ↔ _
  rw [← Array.all_toList, List.all_eq_true]
  constructor
  · intro h c hc; exact of_decide_eq_true (h c hc)
  · intro h c hc; exact decide_eq_true (h c hc)
/-- a text of the law's: it can be laid, and it is short enough -/
structure Tk (s : Str) : Prop where
  ok : PyData.strOk s = true
  few : s.length ≤ 1000000
theorem sz24 : (16777216 : Nat) ≤ sizeLine := by decide
theorem Tk.sz {s : Str} (h : Tk s) : s.length ≤ sizeLine := Nat.le_trans h.few (Nat.le_trans (by decide) sz24)
theorem okTk {s : Str} (h : Tk s) : OkN 0 (.str s) := okN_str h.ok
abbrev ltr : Str := "abcdefghijklmnopqrstuvwxyz"
abbrev fig : Str := "0123456789"
abbrev kept : List Str := ["word", "skip", "rule", "top", "bar"]
def gn (s : Str) : Bool := decide (1 ≤ s.length ∧ s.length ≤ 8) && (!decide (s ∈ kept) && s.cps.toList.all fun c => decide (c ∈ ltr.cps.toList))
def mkF (s : Str) : Bool := decide (s = ".") || gn s
theorem all_map {l : List Nat} {p : Nat → Bool} : (l.map p).all id = l.all p := by
  rw [List.all_map]; rfl
/-! ### numbers -/
def dig (x : Str) : Bool := x.cps.toList.all fun c => decide (c ∈ fig.cps.toList)
abbrev natS (n : Nat) : Str := Str.ofString (toString ((n : Nat) : Int))
def numF (x : Str) : Option Nat := if (1 ≤ x.length ∧ x.length ≤ 4) ∧ dig x = true ∧ (x.cps.toList.head? ≠ some 48 ∨ x = "0") then some (NumText.digitsVal x.cps.toList) else none
theorem mem_fig {c : Nat} : c ∈ fig.cps.toList ↔ 48 ≤ c ∧ c ≤ 57 := by
  have e : fig.cps.toList = [48, 49, 50, 51, 52, 53, 54, 55, 56, 57] := by decide +kernel
  rw [e]
  simp only [List.mem_cons, List.not_mem_nil, or_false]
  omega
theorem dig_iff {x : Str} : dig x = true ↔ NumText.AllDigits x.cps.toList := by
  unfold dig
  rw [List.all_eq_true]
  constructor
  · intro h c hc
    exact mem_fig.mp (of_decide_eq_true (h c hc))
  · intro h c hc
    exact decide_eq_true (mem_fig.mpr (h c hc))
theorem val_snoc (ds : List Nat) (c : Nat) : NumText.digitsVal (ds ++ [c]) = NumText.digitsVal ds * 10 + (c - 48) := by
  unfold NumText.digitsVal
  rw [List.foldl_append]; rfl
theorem head_app {ds : List Nat} {c : Nat} (h : ds ≠ []) : (ds ++ [c]).head? = ds.head? := by
  cases ds with
  | nil => exact absurd rfl h
  | cons a r => rfl
theorem val_pos : ∀ (n : Nat) (ds : List Nat), ds.length = n → NumText.AllDigits ds → ds ≠ [] → ds.head? ≠ some 48 → 1 ≤ NumText.digitsVal ds
  | 0, ds, hl, _, h, _ => absurd (List.length_eq_zero_iff.mp hl) h
  | n + 1, ds, hl, had, _, hh => by
    obtain ⟨M, c, rfl⟩ := SrtO.snoc_of (l := ds) (by omega)
    rw [val_snoc]
    by_cases hd : M = []
    · subst hd
      have h1 := had c (by simp)
      have h2 : c ≠ 48 := fun e => hh (by rw [e]; rfl)
      show 1 ≤ 0 * 10 + (c - 48)
      omega
    · have := val_pos n M (by rw [List.length_append] at hl; simpa using hl) (fun z hz => had z (by simp [hz])) hd (by rw [head_app hd] at hh; exact hh)
      omega
theorem num_back : ∀ (n : Nat) (ds : List Nat), ds.length = n → NumText.AllDigits ds → ds ≠ [] → (ds.head? ≠ some 48 ∨ ds = [48]) → numL (NumText.digitsVal ds) = ds
  | 0, ds, hl, _, h, _ => absurd (List.length_eq_zero_iff.mp hl) h
  | n + 1, ds, hl, had, _, hh => by
    obtain ⟨M, c, rfl⟩ := SrtO.snoc_of (l := ds) (by omega)
    have hc := had c (by simp)
    rw [val_snoc]
    by_cases hd : M = []
    · subst hd
      have e : NumText.digitsVal [] * 10 + (c - 48) = c - 48 := by show 0 * 10 + (c - 48) = _; omega
      rw [e, numL_lt (by omega)]
      show [48 + (c - 48)] = [c]
      rw [show 48 + (c - 48) = c by omega]
    · have hh' : M.head? ≠ some 48 := by
        rcases hh with h | h
        · rw [head_app hd] at h; exact h
        · exfalso
          have := congrArg List.length h
          rw [List.length_append] at this
          exact hd (List.length_eq_zero_iff.mp (by simpa using this))
      have hM : NumText.AllDigits M := fun z hz => had z (by simp [hz])
      have hl' : M.length = n := by rw [List.length_append] at hl; simpa using hl
      have p1 := val_pos n M hl' hM hd hh'
      have ih := num_back n M hl' hM hd (.inl hh')
      rw [numL_step (by omega)]
      have e1 : (NumText.digitsVal M * 10 + (c - 48)) / 10 = NumText.digitsVal M := by omega
      have e2 : (NumText.digitsVal M * 10 + (c - 48)) % 10 = c - 48 := by omega
      rw [e1, e2, ih, show 48 + (c - 48) = c by omega]
theorem val_lt : ∀ (n : Nat) (ds : List Nat), ds.length = n → NumText.AllDigits ds → NumText.digitsVal ds < 10 ^ n
  | 0, ds, hl, _ => by rw [List.length_eq_zero_iff.mp hl]; decide
  | n + 1, ds, hl, had => by
    obtain ⟨M, c, rfl⟩ := SrtO.snoc_of (l := ds) (by omega)
    have hc := had c (by simp)
    have ih := val_lt n M (by rw [List.length_append] at hl; simpa using hl) fun z hz => had z (by simp [hz])
    rw [val_snoc, Nat.pow_succ]
    omega
theorem tl_natS (n : Nat) : (natS n).cps.toList = numL n := tl_num n
theorem numF_some {x : Str} {n : Nat} (h : numF x = some n) : (1 ≤ x.length ∧ x.length ≤ 4) ∧ dig x = true ∧ (x.cps.toList.head? ≠ some 48 ∨ x = "0") ∧ n < 10000 ∧ natS n = x ∧ PySem.intText? x = some (n : Int) := by
  unfold numF at h
  split at h
  case isFalse => cases h
  rename_i c
  obtain ⟨c1, c2, c3⟩ := c
  have hn : NumText.digitsVal x.cps.toList = n := Option.some.inj h
  have hd := dig_iff.mp c2
  have hl : x.cps.toList.length = x.length := (len_tl x).symm
  have hne : x.cps.toList ≠ [] := fun e => by rw [e] at hl; simp at hl; omega
  refine ⟨c1, c2, c3, ?_, ?_, ?_⟩
  · rw [← hn]
    refine Nat.lt_of_lt_of_le (val_lt _ _ rfl hd) ?_
    rw [hl]
    exact Nat.pow_le_pow_right (by decide) c1.2
  · refine ext_tl ?_
    rw [← hn]
    show (natS _).cps.toList = _
    rw [tl_natS]
    refine num_back _ _ rfl hd hne ?_
    rcases c3 with c3 | c3
    · exact .inl c3
    · rw [c3]; exact .inr (by decide +kernel)
  · rw [← hn]
    exact intText_digits hd hne (by omega)
theorem numL_head {n : Nat} : ∀ k, k = n → (numL k).head? ≠ some 48 ∨ numL k = [48] := by
  induction n using Nat.strongRecOn with
  | _ n ih =>
    rintro k rfl
    by_cases h : k < 10
    · rw [numL_lt h]
      by_cases h0 : k = 0
      · subst h0; exact .inr rfl
      · exact .inl fun e => h0 (by have := Option.some.inj e; omega)
    · rw [numL_step (by omega), head_app (numL_ne _)]
      rcases ih (k / 10) (by omega) _ rfl with q | q
      · exact .inl q
      · exfalso
        have e := numL_val (k / 10)
        rw [q] at e
        have : NumText.digitsVal [48] = 0 := by decide
        omega
theorem numF_nat {n : Nat} (h : n < 10000) : numF (natS n) = some n := by
  have hl : (natS n).length ≤ 4 := by rw [len_tl]; show (natS n).cps.toList.length ≤ 4; rw [tl_natS]; exact numL_len (by decide) h
  have h1 : 1 ≤ (natS n).length := by
    rw [len_tl]; show 1 ≤ (natS n).cps.toList.length; rw [tl_natS]
    exact List.length_pos_iff.mpr (numL_ne n)
  have hd : dig (natS n) = true := dig_iff.mpr (by rw [tl_natS]; exact numL_digits n)
  have hh : (natS n).cps.toList.head? ≠ some 48 ∨ natS n = "0" := by
    rw [tl_natS]
    rcases numL_head n rfl with q | q
    · exact .inl q
    · refine .inr (ext_tl ?_)
      show (natS n).cps.toList = _
      rw [tl_natS, q]; decide +kernel
  unfold numF
  rw [if_pos ⟨⟨h1, hl⟩, hd, hh⟩, tl_natS, numL_val]
end K41
set_option maxRecDepth 100000
set_option maxHeartbeats 1000000
namespace K41
open PySem PySem.Spec PyProof.Rows L2 Yard YP TL
/-! ### tables -/
structure IT where
  l : Str
  n : Nat
  ah : List Str
inductive DE where
  | go (n : Nat) | by (l : Str) (n : Nat) (a : Str) | fin
structure ST where
  its : List IT
  des : List (Str × DE)
def IT.d (x : IT) : D := .tup [.str x.l, .int (x.n : Int), .tup (x.ah.map D.str)]
def DE.d : DE → D
  | .go n => .tup [.str "go", .int (n : Int)]
  | .by l n a => .tup [.str "by", .str l, .int (n : Int), .str a]
  | .fin => .tup [.str "done"]
def desL (l : List (Str × DE)) : List (Key × D) := l.map fun p => (Sum.inr p.1, p.2.d)
def desD (l : List (Str × DE)) : D := .dic (desL l)
def itsD (l : List IT) : D := .tup (l.map IT.d)
def tblD (ss : List ST) : D := .tup [.tup (ss.map fun s => itsD s.its), .tup (ss.map fun s => desD s.des)]
/-! ### their rows -/
def IT.ws (x : IT) : List Str := "item" :: x.l :: natS x.n :: x.ah
def DE.ps : DE → List Str
  | .go n => ["go", natS n]
  | .by l n a => ["by", l, natS n, a]
  | .fin => ["done"]
def deW (p : Str × DE) : List Str := "on" :: p.1 :: p.2.ps
def sp (ws : List Str) : Str := Txt.join " " ws
def stR (k : Nat) : Str := sp ["state", natS k]
def rowS (k : Nat) (s : ST) : List Str := stR k :: (s.its.map fun x => sp x.ws) ++ s.des.map fun p => sp (deW p)
def rowsT : Nat → List ST → List Str
  | _, [] => []
  | k, s :: ss => rowS k s ++ rowsT (k + 1) ss
def textT (ss : List ST) : Str := Txt.join "\n" (rowsT 0 ss)
theorem rowsT_app : ∀ (k : Nat) (a b : List ST), rowsT k (a ++ b) = rowsT k a ++ rowsT (k + a.length) b
  | _, [], b => by simp [rowsT]
  | k, s :: a, b => by
    show rowS k s ++ rowsT (k + 1) (a ++ b) = rowS k s ++ rowsT (k + 1) a ++ _
    rw [rowsT_app (k + 1) a b, List.append_assoc, show k + 1 + a.length = k + (s :: a).length by simp; omega]
/-! ### reading them -/
def itemF : List Str → Option IT
  | w :: l :: d :: ah => if w = "item" ∧ mkF l = true ∧ ah.all mkF = true then (numF d).map fun n => ⟨l, n, ah⟩ else none
  | _ => none
def partF : List Str → Option DE
  | [a] => if a = "done" then some .fin else none
  | [a, b] => if a = "go" then (numF b).map DE.go else none
  | [a, b, c, d] => if a = "by" ∧ mkF b = true ∧ mkF d = true then (numF c).map fun n => .by b n d else none
  | _ => none
def deedF : List Str → Option (Str × DE)
  | w :: s :: told => if w = "on" ∧ mkF s = true then (partF told).map fun e => (s, e) else none
  | _ => none
def behF (k : Str) (l : List (Str × DE)) : Bool := match l.getLast? with
  | none => true
  | some p => decide (p.1.cps.toList < k.cps.toList)
def step (ss : List ST) (ws : List Str) : Option (List ST) :=
  if ws = ([("state" : Str), natS ss.length] : List Str) then some (ss ++ [⟨[], []⟩]) else
  match ss.getLast? with
  | none => none
  | some s => match itemF ws with
    | some x => if s.des = [] then some (ss.dropLast ++ [⟨s.its ++ [x], []⟩]) else none
    | none => match deedF ws with
      | some p => if behF p.1 s.des = true then some (ss.dropLast ++ [⟨s.its, s.des ++ [p]⟩]) else none
      | none => none
def run : List ST → Nat → List Str → Nat ⊕ List ST
  | ss, _, [] => .inr ss
  | ss, k, r :: rs => match step ss (Txt.split r " ") with
    | some s' => run s' (k + 1) rs
    | none => .inl k
/-! ### what is read is written back -/
/-- deeds by symbols that rise -/
def Rise (l : List (Str × DE)) : Prop := l.Pairwise fun p q => p.1.cps.toList < q.1.cps.toList
theorem rise_snoc {l : List (Str × DE)} {p : Str × DE} (h : Rise l) (b : behF p.1 l = true) : Rise (l ++ [p]) := by
  refine List.pairwise_append.mpr ⟨h, List.pairwise_singleton _ _, fun a ha c hc => ?_⟩
  rw [List.mem_singleton.mp hc]
  unfold behF at b
  cases e : l.getLast? with
  | none => rw [List.getLast?_eq_none_iff.mp e] at ha; cases ha
  | some z =>
    rw [e] at b
    have hz : z.1.cps.toList < p.1.cps.toList := of_decide_eq_true b
    obtain ⟨M, rfl⟩ : ∃ M, l = M ++ [z] := by
      obtain ⟨M, hM⟩ := List.getLast?_eq_some_iff.mp e
      exact ⟨M, hM⟩
    rcases List.mem_append.mp ha with ha | ha
    · exact List.lt_trans ((List.pairwise_append.mp h).2.2 a ha z (List.mem_singleton.mpr rfl)) hz
    · rw [List.mem_singleton.mp ha]; exact hz
/-- a good item, deed, state -/
structure IT.Ok (x : IT) : Prop where
  l : mkF x.l = true
  n : x.n < 10000
  ah : x.ah.all mkF = true
def DE.Ok : DE → Prop
  | .go n => n < 10000
  | .by l n a => mkF l = true ∧ n < 10000 ∧ mkF a = true
  | .fin => True
structure ST.Ok (s : ST) : Prop where
  its : ∀ x ∈ s.its, x.Ok
  des : ∀ p ∈ s.des, mkF p.1 = true ∧ p.2.Ok
theorem itemF_ok {ws : List Str} {x : IT} (h : itemF ws = some x) : x.Ok ∧ x.ws = ws := by
  unfold itemF at h
  split at h
  case h_2 => cases h
  rename_i w l d ah
  split at h
  case isFalse => cases h
  rename_i c
  cases e : numF d with
  | none => rw [e] at h; cases h
  | some n =>
    rw [e] at h
    have h := Option.some.inj h
    subst h
    obtain ⟨_, _, _, q1, q2, _⟩ := numF_some e
    exact ⟨⟨c.2.1, q1, c.2.2⟩, by show (("item" : Str) :: l :: natS n :: ah) = _; rw [q2, c.1]⟩
theorem partF_ok {ws : List Str} {x : DE} (h : partF ws = some x) : x.Ok ∧ x.ps = ws := by
  unfold partF at h
  split at h
  · split at h
    case isFalse => cases h
    rename_i c
    have h := Option.some.inj h
    subst h
    exact ⟨trivial, by rw [c]; rfl⟩
  · split at h
    case isFalse => cases h
    rename_i a b c
    cases e : numF b with
    | none => rw [e] at h; cases h
    | some n =>
      rw [e] at h
      have h := Option.some.inj h
      subst h
      obtain ⟨_, _, _, q1, q2, _⟩ := numF_some e
      exact ⟨q1, by show [("go" : Str), natS n] = _; rw [q2, c]⟩
  · split at h
    case isFalse => cases h
    rename_i a b d d2 c
    cases e : numF d with
    | none => rw [e] at h; cases h
    | some n =>
      rw [e] at h
      have h := Option.some.inj h
      subst h
      obtain ⟨_, _, _, q1, q2, _⟩ := numF_some e
      exact ⟨⟨c.2.1, q1, c.2.2⟩, by show [("by" : Str), b, natS n, d2] = _; rw [q2, c.1]⟩
  · cases h
theorem deedF_ok {ws : List Str} {p : Str × DE} (h : deedF ws = some p) : (mkF p.1 = true ∧ p.2.Ok) ∧ deW p = ws := by
  unfold deedF at h
  split at h
  case h_2 => cases h
  rename_i w s told
  split at h
  case isFalse => cases h
  rename_i c
  cases e : partF told with
  | none => rw [e] at h; cases h
  | some x =>
    rw [e] at h
    have h := Option.some.inj h
    subst h
    obtain ⟨q1, q2⟩ := partF_ok e
    exact ⟨⟨c.2, q1⟩, by show ("on" : Str) :: s :: x.ps = _; rw [q2, c.1]⟩
theorem sp_split (r : Str) : sp (Txt.split r " ") = r := by
  unfold sp
  rw [join_eq]
  exact PySem.StrLaws.join_split r " "
/-- a state as it is read -/
structure ST.Rd (s : ST) : Prop where
  ok : s.Ok
  up : Rise s.des
theorem last_split {α : Type} {l : List α} {z : α} (e : l.getLast? = some z) : l = l.dropLast ++ [z] := by
  obtain ⟨M, hM⟩ := List.getLast?_eq_some_iff.mp e
  rw [hM, List.dropLast_concat]
theorem step_ok {ss ss' : List ST} {r : Str} (h : step ss (Txt.split r " ") = some ss') (k : ∀ s ∈ ss, ST.Rd s) : (∀ s ∈ ss', ST.Rd s) ∧ rowsT 0 ss' = rowsT 0 ss ++ [r] ∧ 1 ≤ ss'.length := by
  unfold step at h
  split at h
  · rename_i c
    have h := Option.some.inj h
    subst h
    refine ⟨fun s hs => ?_, ?_, by simp⟩
    · rcases List.mem_append.mp hs with hs | hs
      · exact k s hs
      · rw [List.mem_singleton.mp hs]; exact ⟨⟨fun _ h => (nomatch h), fun _ h => (nomatch h)⟩, List.Pairwise.nil⟩
    · rw [rowsT_app, Nat.zero_add]
      show _ ++ [stR ss.length] = _
      rw [show stR ss.length = r from by unfold stR; rw [← c, sp_split]]
  · cases e : ss.getLast? with
    | none => rw [e] at h; cases h
    | some s =>
      rw [e] at h
      have es := last_split e
      have ms : s ∈ ss := by rw [es]; simp
      have ks := k s ms
      have dl : ∀ z ∈ ss.dropLast, ST.Rd z := fun z hz => k z (List.dropLast_subset _ hz)
      have hl : ss.dropLast.length + 1 = ss.length := by rw [List.length_dropLast]; have := List.length_pos_of_mem ms; omega
      dsimp only at h
      cases e2 : itemF (Txt.split r " ") with
      | some x =>
        rw [e2] at h
        dsimp only at h
        split at h
        case isFalse => cases h
        rename_i c2
        have h := Option.some.inj h
        subst h
        obtain ⟨q1, q2⟩ := itemF_ok e2
        refine ⟨fun z hz => ?_, ?_, by simp⟩
        · rcases List.mem_append.mp hz with hz | hz
          · exact dl z hz
          · rw [List.mem_singleton.mp hz]
            refine ⟨⟨fun y hy => ?_, fun _ h => (nomatch h)⟩, List.Pairwise.nil⟩
            rcases List.mem_append.mp hy with hy | hy
            · exact ks.ok.its y hy
            · rw [List.mem_singleton.mp hy]; exact q1
        · conv => rhs; rw [es]
          rw [rowsT_app, rowsT_app, List.append_assoc]
          congr 1
          show rowS _ _ ++ [] = rowS _ s ++ [] ++ [r]
          rw [List.append_nil, List.append_nil]
          unfold rowS
          rw [c2, List.map_append]
          simp [q2, sp_split]
      | none =>
        rw [e2] at h
        dsimp only at h
        cases e3 : deedF (Txt.split r " ") with
        | none => rw [e3] at h; cases h
        | some p =>
          rw [e3] at h
          dsimp only at h
          split at h
          case isFalse => cases h
          rename_i c2
          have h := Option.some.inj h
          subst h
          obtain ⟨q1, q2⟩ := deedF_ok e3
          refine ⟨fun z hz => ?_, ?_, by simp⟩
          · rcases List.mem_append.mp hz with hz | hz
            · exact dl z hz
            · rw [List.mem_singleton.mp hz]
              refine ⟨⟨ks.ok.its, fun y hy => ?_⟩, rise_snoc ks.up c2⟩
              rcases List.mem_append.mp hy with hy | hy
              · exact ks.ok.des y hy
              · rw [List.mem_singleton.mp hy]; exact q1
          · conv => rhs; rw [es]
            rw [rowsT_app, rowsT_app, List.append_assoc]
            congr 1
            show rowS _ _ ++ [] = rowS _ s ++ [] ++ [r]
            rw [List.append_nil, List.append_nil]
            unfold rowS
            rw [List.map_append]
            simp [q2, sp_split]
theorem run_ok : ∀ (rs : List Str) (k : Nat) (ss ss' : List ST), run ss k rs = .inr ss' → (∀ s ∈ ss, ST.Rd s) → (∀ s ∈ ss', ST.Rd s) ∧ rowsT 0 ss' = rowsT 0 ss ++ rs
  | [], _, ss, ss', h, hk => by
    have e : ss = ss' := Sum.inr.inj h
    rw [← e, List.append_nil]; exact ⟨hk, rfl⟩
  | r :: rs, k, ss, ss', h, hk => by
    unfold run at h
    cases e : step ss (Txt.split r " ") with
    | none => rw [e] at h; cases h
    | some s2 =>
      rw [e] at h
      obtain ⟨a1, a2, _⟩ := step_ok e hk
      obtain ⟨b1, b2⟩ := run_ok rs (k + 1) s2 ss' h a1
      exact ⟨b1, by rw [b2, a2, List.append_assoc]; rfl⟩
/-- a text that was read is written back -/
theorem run_text {x : Str} {ss : List ST} (h : run [] 0 (Txt.split x "\n") = .inr ss) : textT ss = x := by
  obtain ⟨_, e⟩ := run_ok _ _ _ _ h fun _ z => nomatch z
  unfold textT
  rw [e, join_eq]
  exact PySem.StrLaws.join_split x "\n"
end K41
set_option maxRecDepth 100000
set_option maxHeartbeats 1000000
namespace K41
open PySem PySem.Spec PyProof.Rows L2 Yard YP TL
/-! ### words without blanks and line ends -/
def Fr (w : Str) : Prop := 32 ∉ tl w ∧ 10 ∉ tl w
theorem mem_ltr {c : Nat} : c ∈ ltr.cps.toList → 97 ≤ c ∧ c ≤ 122 := by
  have e : ltr.cps.toList = (List.range 26).map (· + 97) := by decide +kernel
  rw [e]
  intro h
  obtain ⟨i, hi, rfl⟩ := List.mem_map.mp h
  have := List.mem_range.mp hi
  omega
theorem gn_in {x : Str} (h : gn x = true) : (1 ≤ x.length ∧ x.length ≤ 8) ∧ x ∉ kept ∧ ∀ c ∈ x.cps.toList, 97 ≤ c ∧ c ≤ 122 := by
  unfold gn at h
  obtain ⟨h1, h2⟩ := Bool.and_eq_true_iff.mp h
  obtain ⟨h2, h3⟩ := Bool.and_eq_true_iff.mp h2
  refine ⟨of_decide_eq_true h1, fun z => ?_, fun c hc => mem_ltr (of_decide_eq_true (List.all_eq_true.mp h3 c hc))⟩
  rw [decide_eq_true z] at h2; cases h2
theorem mk_in {x : Str} (h : mkF x = true) : (1 ≤ x.length ∧ x.length ≤ 8) ∧ ∀ c ∈ x.cps.toList, 46 ≤ c ∧ c ≤ 122 := by
  unfold mkF at h
  rcases Bool.or_eq_true_iff.mp h with h | h
  · rw [of_decide_eq_true h]; decide +kernel
  · obtain ⟨a, _, b⟩ := gn_in h
    exact ⟨a, fun c hc => by have := b c hc; omega⟩
theorem mk_tk {x : Str} (h : mkF x = true) : Tk x := ⟨ok_codes.mpr fun c hc => by have := (mk_in h).2 c hc; omega, by have := (mk_in h).1; omega⟩
theorem mk_fr {x : Str} (h : mkF x = true) : Fr x := ⟨fun z => by have := (mk_in h).2 _ z; omega, fun z => by have := (mk_in h).2 _ z; omega⟩
theorem nat_fr (n : Nat) : Fr (natS n) := by
  unfold Fr
  have e : tl (natS n) = numL n := tl_natS n
  rw [e]
  exact ⟨numL_free (by omega), numL_free (by omega)⟩
theorem nat_tk {n : Nat} (h : n < 10 ^ 600) : Tk (natS n) := by
  refine ⟨ok_codes.mpr fun c hc => ?_, ?_⟩
  · rw [tl_natS] at hc
    have := numL_digits n c hc
    omega
  · have : (natS n).length ≤ 600 := by rw [len_tl]; show (natS n).cps.toList.length ≤ 600; rw [tl_natS]; exact numL_len (by decide) h
    omega
theorem mem_joinL {S : List Nat} {c : Nat} : ∀ {l : List (List Nat)}, c ∈ joinL S l → c ∈ S ∨ ∃ p ∈ l, c ∈ p
  | [], h => by cases h
  | [p], h => .inr ⟨p, List.mem_singleton.mpr rfl, h⟩
  | p :: q :: r, h => by
    have h' : c ∈ p ++ (S ++ joinL S (q :: r)) := h
    rcases List.mem_append.mp h' with h | h
    · exact .inr ⟨p, List.mem_cons_self, h⟩
    · rcases List.mem_append.mp h with h | h
      · exact .inl h
      · rcases mem_joinL h with h | ⟨x, hx, hc⟩
        · exact .inl h
        · exact .inr ⟨x, List.mem_cons_of_mem _ hx, hc⟩
theorem tl_sp (ws : List Str) : tl (sp ws) = joinL [32] (ws.map tl) := by
  unfold sp
  rw [join_eq, tl_join]; rfl
theorem sp_free {ws : List Str} (h : ∀ w ∈ ws, Fr w) : 10 ∉ tl (sp ws) := by
  rw [tl_sp]
  intro z
  rcases mem_joinL z with z | ⟨p, hp, hc⟩
  · exact absurd z (by decide)
  · obtain ⟨w, hw, rfl⟩ := List.mem_map.mp hp
    exact (h w hw).2 hc
theorem split_sp {ws : List Str} (hn : ws ≠ []) (h : ∀ w ∈ ws, Fr w) : Txt.split (sp ws) " " = ws :=
  split_join (s := 32) (S := []) (by decide +kernel) (by decide +kernel) hn fun w hw => (h w hw).1
theorem IT.Ok.fr {x : IT} (h : x.Ok) : ∀ w ∈ x.ws, Fr w := fun w hw => by
  have hw : w ∈ ("item" : Str) :: x.l :: natS x.n :: x.ah := hw
  rcases List.mem_cons.mp hw with rfl | hw
  · exact ⟨by decide +kernel, by decide +kernel⟩
  rcases List.mem_cons.mp hw with rfl | hw
  · exact mk_fr h.l
  rcases List.mem_cons.mp hw with rfl | hw
  · exact nat_fr _
  · exact mk_fr (List.all_eq_true.mp h.ah w hw)
theorem DE.Ok.fr {x : DE} (h : x.Ok) : ∀ w ∈ x.ps, Fr w := fun w hw => by
  cases x with
  | go n =>
    have hw : w ∈ [("go" : Str), natS n] := hw
    simp only [List.mem_cons, List.not_mem_nil, or_false] at hw
    rcases hw with rfl | rfl
    · exact ⟨by decide +kernel, by decide +kernel⟩
    · exact nat_fr _
  | «by» l n a =>
    have hw : w ∈ [("by" : Str), l, natS n, a] := hw
    simp only [List.mem_cons, List.not_mem_nil, or_false] at hw
    rcases hw with rfl | rfl | rfl | rfl
    · exact ⟨by decide +kernel, by decide +kernel⟩
    · exact mk_fr h.1
    · exact nat_fr _
    · exact mk_fr h.2.2
  | fin =>
    have hw : w ∈ [("done" : Str)] := hw
    rw [List.mem_singleton.mp hw]
    exact ⟨by decide +kernel, by decide +kernel⟩
theorem deW_fr {p : Str × DE} (h : mkF p.1 = true ∧ p.2.Ok) : ∀ w ∈ deW p, Fr w := fun w hw => by
  have hw : w ∈ ("on" : Str) :: p.1 :: p.2.ps := hw
  rcases List.mem_cons.mp hw with rfl | hw
  · exact ⟨by decide +kernel, by decide +kernel⟩
  rcases List.mem_cons.mp hw with rfl | hw
  · exact mk_fr h.1
  · exact h.2.fr w hw
theorem st_fr (k : Nat) : ∀ w ∈ ([("state" : Str), natS k] : List Str), Fr w := fun w hw => by
  simp only [List.mem_cons, List.not_mem_nil, or_false] at hw
  rcases hw with rfl | rfl
  · exact ⟨by decide +kernel, by decide +kernel⟩
  · exact nat_fr _
theorem itemF_ws {x : IT} (h : x.Ok) : itemF x.ws = some x := by
  show (if ("item" : Str) = "item" ∧ mkF x.l = true ∧ x.ah.all mkF = true then (numF (natS x.n)).map fun n => (⟨x.l, n, x.ah⟩ : IT) else none) = _
  rw [if_pos ⟨rfl, h.l, h.ah⟩, numF_nat h.n]; rfl
theorem partF_ps {x : DE} (h : x.Ok) : partF x.ps = some x := by
  cases x with
  | go n =>
    show (if ("go" : Str) = "go" then (numF (natS n)).map DE.go else none) = _
    rw [if_pos rfl, numF_nat h]; rfl
  | «by» l n a =>
    show (if ("by" : Str) = "by" ∧ mkF l = true ∧ mkF a = true then (numF (natS n)).map fun n => DE.by l n a else none) = _
    rw [if_pos ⟨rfl, h.1, h.2.2⟩, numF_nat h.2.1]; rfl
  | fin => rfl
theorem deedF_W {p : Str × DE} (h : mkF p.1 = true ∧ p.2.Ok) : deedF (deW p) = some p := by
  show (if ("on" : Str) = "on" ∧ mkF p.1 = true then (partF p.2.ps).map fun e => (p.1, e) else none) = _
  rw [if_pos ⟨rfl, h.1⟩, partF_ps h.2]; rfl
theorem itemF_on {p : Str × DE} : itemF (deW p) = none := by
  have key : ∀ (a : Str) (l : List Str), itemF (("on" : Str) :: a :: l) = none := fun a l => by
    cases l with
    | nil => rfl
    | cons b r =>
      show (if ("on" : Str) = "item" ∧ mkF a = true ∧ r.all mkF = true then (numF b).map fun n => (⟨a, n, r⟩ : IT) else none) = none
      rw [if_neg fun z => absurd z.1 (by decide +kernel)]
  exact key _ _
/-! ### what was written is read -/
theorem run_app : ∀ (a : List Str) (k : Nat) (ss ss' : List ST) (b : List Str), run ss k a = .inr ss' → run ss k (a ++ b) = run ss' (k + a.length) b
  | [], k, ss, ss', b, h => by rw [show ss = ss' from Sum.inr.inj h]; rfl
  | r :: a, k, ss, ss', b, h => by
    have h' : (match step ss (Txt.split r " ") with | some s' => run s' (k + 1) a | none => .inl k) = .inr ss' := h
    show (match step ss (Txt.split r " ") with | some s' => run s' (k + 1) (a ++ b) | none => .inl k) = _
    cases e : step ss (Txt.split r " ") with
    | none => rw [e] at h'; cases h'
    | some s2 =>
      rw [e] at h'
      show run s2 (k + 1) (a ++ b) = _
      rw [run_app a (k + 1) s2 ss' b h', List.length_cons, show k + 1 + a.length = k + (a.length + 1) by omega]
theorem run_cons {ss s2 : List ST} {k : Nat} {ws : List Str} {rs : List Str} (hn : ws ≠ []) (hf : ∀ w ∈ ws, Fr w) (h : step ss ws = some s2) : run ss k (sp ws :: rs) = run s2 (k + 1) rs := by
  show (match step ss (Txt.split (sp ws) " ") with | some s' => run s' (k + 1) rs | none => .inl k) = _
  rw [split_sp hn hf, h]
theorem ws_state (x : IT) (n : Nat) : ¬ x.ws = ([("state" : Str), natS n] : List Str) := fun z => absurd (List.cons.inj z).1 (by decide +kernel : ¬ ("item" : Str) = "state")
theorem deW_state (x : Str × DE) (n : Nat) : ¬ deW x = ([("state" : Str), natS n] : List Str) := fun z => absurd (List.cons.inj z).1 (by decide +kernel : ¬ ("on" : Str) = "state")
theorem run_its : ∀ (xs : List IT) (k : Nat) (ss : List ST) (ys : List IT) (rs : List Str), (∀ x ∈ xs, x.Ok) → run (ss ++ [⟨ys, []⟩]) k ((xs.map fun x => sp x.ws) ++ rs) = run (ss ++ [⟨ys ++ xs, []⟩]) (k + xs.length) rs
  | [], k, ss, ys, rs, _ => by rw [List.append_nil]; rfl
  | x :: xs, k, ss, ys, rs, h => by
    have hx := h x List.mem_cons_self
    show run _ k (sp x.ws :: ((xs.map fun x => sp x.ws) ++ rs)) = _
    rw [run_cons (ws := x.ws) (s2 := ss ++ [⟨ys ++ [x], []⟩]) (by intro z; cases z) hx.fr, run_its xs (k + 1) ss (ys ++ [x]) rs fun z hz => h z (List.mem_cons_of_mem _ hz), List.append_assoc, List.length_cons, show k + 1 + xs.length = k + (xs.length + 1) by omega]
    · rfl
    · unfold step
      rw [if_neg (ws_state _ _), List.getLast?_concat]
      dsimp only
      rw [itemF_ws hx]
      dsimp only
      rw [if_pos rfl, List.dropLast_concat]
theorem run_des : ∀ (xs : List (Str × DE)) (k : Nat) (ss : List ST) (is : List IT) (ys : List (Str × DE)) (rs : List Str), (∀ p ∈ xs, mkF p.1 = true ∧ p.2.Ok) → Rise (ys ++ xs) →
    run (ss ++ [⟨is, ys⟩]) k ((xs.map fun p => sp (deW p)) ++ rs) = run (ss ++ [⟨is, ys ++ xs⟩]) (k + xs.length) rs
  | [], k, ss, is, ys, rs, _, _ => by rw [List.append_nil]; rfl
  | x :: xs, k, ss, is, ys, rs, h, hr => by
    have hx := h x List.mem_cons_self
    show run _ k (sp (deW x) :: ((xs.map fun p => sp (deW p)) ++ rs)) = _
    rw [run_cons (ws := deW x) (s2 := ss ++ [⟨is, ys ++ [x]⟩]) (by intro z; cases z) (deW_fr hx), run_des xs (k + 1) ss is (ys ++ [x]) rs (fun z hz => h z (List.mem_cons_of_mem _ hz)) (by rw [List.append_assoc]; exact hr), List.append_assoc, List.length_cons, show k + 1 + xs.length = k + (xs.length + 1) by omega]
    · rfl
    · unfold step
      rw [if_neg (deW_state _ _), List.getLast?_concat]
      dsimp only
      rw [itemF_on, deedF_W hx]
      dsimp only
      rw [if_pos ?_, List.dropLast_concat]
      unfold behF
      cases e : ys.getLast? with
      | none => rfl
      | some z =>
        have hz : z ∈ ys := List.mem_of_getLast? e
        exact decide_eq_true ((List.pairwise_append.mp hr).2.2 z hz x List.mem_cons_self)
theorem run_tbl : ∀ (ts : List ST) (k : Nat) (ss : List ST), (∀ s ∈ ts, ST.Rd s) → run ss k (rowsT ss.length ts) = .inr (ss ++ ts)
  | [], _, ss, _ => by rw [List.append_nil]; rfl
  | s :: ts, k, ss, h => by
    have hs := h s List.mem_cons_self
    show run ss k (sp [("state" : Str), natS ss.length] :: ((s.its.map fun x => sp x.ws) ++ s.des.map fun p => sp (deW p)) ++ rowsT (ss.length + 1) ts) = _
    rw [List.cons_append, run_cons (ws := [("state" : Str), natS ss.length]) (s2 := ss ++ [⟨[], []⟩]) (by intro z; cases z) (st_fr _) (by unfold step; rw [if_pos rfl]), List.append_assoc, run_its s.its _ ss [] _ hs.ok.its, List.nil_append, run_des s.des _ ss s.its [] _ hs.ok.des hs.up, List.nil_append]
    have e := run_tbl ts (k + 1 + s.its.length + s.des.length) (ss ++ [⟨s.its, s.des⟩]) fun z hz => h z (List.mem_cons_of_mem _ hz)
    rw [List.length_append] at e
    rw [show ss.length + 1 = ss.length + [ST.mk s.its s.des].length from rfl, e, List.append_assoc]; rfl
theorem row_free {k : Nat} {ts : List ST} (h : ∀ s ∈ ts, s.Ok) : ∀ r ∈ rowsT k ts, 10 ∉ tl r := by
  induction ts generalizing k with
  | nil => intro r hr; cases hr
  | cons s ts ih =>
    intro r hr
    rcases List.mem_append.mp (show r ∈ rowS k s ++ rowsT (k + 1) ts from hr) with hr | hr
    · have hs := h s List.mem_cons_self
      rcases List.mem_append.mp (show r ∈ (stR k :: s.its.map fun x => sp x.ws) ++ s.des.map fun p => sp (deW p) from hr) with hr | hr
      · rcases List.mem_cons.mp hr with rfl | hr
        · exact sp_free (st_fr k)
        · obtain ⟨x, hx, rfl⟩ := List.mem_map.mp hr
          exact sp_free (hs.its x hx).fr
      · obtain ⟨p, hp, rfl⟩ := List.mem_map.mp hr
        exact sp_free (deW_fr (hs.des p hp))
    · exact ih (fun z hz => h z (List.mem_cons_of_mem _ hz)) r hr
theorem read_text {ts : List ST} (hn : ts ≠ []) (h : ∀ s ∈ ts, ST.Rd s) : run [] 0 (Txt.split (textT ts) "\n") = .inr ts := by
  have e : Txt.split (textT ts) "\n" = rowsT 0 ts := by
    refine split_join (s := 10) (S := []) (by decide +kernel) (by decide +kernel) ?_ (row_free fun s hs => (h s hs).ok)
    cases ts with
    | nil => exact absurd rfl hn
    | cons s r => exact fun z => nomatch z
  rw [e]
  exact run_tbl ts 0 [] h
/-! ### deeds in order -/
def insD (p : Str × DE) : List (Str × DE) → List (Str × DE)
  | [] => [p]
  | q :: l => if p.1.cps.toList < q.1.cps.toList then p :: q :: l else q :: insD p l
def sd : List (Str × DE) → List (Str × DE)
  | [] => []
  | p :: l => insD p (sd l)
theorem insD_perm (p : Str × DE) : ∀ l, (insD p l).Perm (p :: l)
  | [] => List.Perm.refl _
  | q :: l => by
    unfold insD
    split
    · exact List.Perm.refl _
    · exact ((insD_perm p l).cons q).trans (List.Perm.swap p q l)
theorem sd_perm : ∀ l, (sd l).Perm l
  | [] => List.Perm.refl _
  | p :: l => (insD_perm p (sd l)).trans ((sd_perm l).cons p)
theorem lt_of_ne {a b : Str} (h : ¬ a.cps.toList < b.cps.toList) (n : a ≠ b) : b.cps.toList < a.cps.toList := by
  rcases Classical.em (b.cps.toList < a.cps.toList) with q | q
  · exact q
  · exact absurd (ext_tl (List.le_antisymm (List.not_lt.mp q) (List.not_lt.mp h))) n
theorem insD_rise {p : Str × DE} : ∀ {l}, Rise l → (∀ q ∈ l, q.1 ≠ p.1) → Rise (insD p l)
  | [], _, _ => List.pairwise_singleton _ _
  | q :: l, h, n => by
    have hq := List.pairwise_cons.mp h
    unfold insD
    split
    · rename_i c
      refine List.pairwise_cons.mpr ⟨fun z hz => ?_, h⟩
      rcases List.mem_cons.mp hz with rfl | hz
      · exact c
      · exact List.lt_trans c (hq.1 z hz)
    · rename_i c
      refine List.pairwise_cons.mpr ⟨fun z hz => ?_, insD_rise hq.2 fun z hz => n z (List.mem_cons_of_mem _ hz)⟩
      rcases List.mem_cons.mp ((insD_perm p l).mem_iff.mp hz) with rfl | hz
      · exact lt_of_ne c fun e => n q List.mem_cons_self e.symm
      · exact hq.1 z hz
theorem sd_rise : ∀ {l : List (Str × DE)}, (l.map (·.1)).Nodup → Rise (sd l)
  | [], _ => List.Pairwise.nil
  | p :: l, h => by
    rw [List.map_cons, List.nodup_cons] at h
    refine insD_rise (sd_rise h.2) fun q hq e => h.1 ?_
    rw [← e]
    exact List.mem_map.mpr ⟨q, (sd_perm l).mem_iff.mp hq, rfl⟩
/-- two rows of the same texts that do not fall are the same -/
theorem asc_eq {a b : List Str} (p : a.Perm b) (ha : SrtO.Asc a) (hb : SrtO.Asc b) : a = b :=
  p.eq_of_pairwise (le := fun x y : Str => ¬ (y.cps.toList < x.cps.toList)) (fun x y _ _ h1 h2 => ext_tl (List.le_antisymm (List.not_lt.mp h1) (List.not_lt.mp h2))) ha hb
theorem rise_asc {l : List (Str × DE)} (h : Rise l) : SrtO.Asc (l.map (·.1)) :=
  List.pairwise_map.mpr (h.imp fun {a b} q z => List.lt_irrefl _ (List.lt_trans q z))
theorem rise_sd {l : List (Str × DE)} (h : Rise l) : sd l = l := by
  induction l with
  | nil => rfl
  | cons p l ih =>
    have hp := List.pairwise_cons.mp h
    show insD p (sd l) = _
    rw [ih hp.2]
    cases l with
    | nil => rfl
    | cons q r => unfold insD; rw [if_pos (hp.1 q List.mem_cons_self)]
def sdS (s : ST) : ST := ⟨s.its, sd s.des⟩
theorem sdS_rd {s : ST} (h : s.Ok) (n : (s.des.map (·.1)).Nodup) : ST.Rd (sdS s) := ⟨⟨h.its, fun p hp => h.des p ((sd_perm _).mem_iff.mp hp)⟩, sd_rise n⟩
end K41
set_option maxRecDepth 100000
set_option maxHeartbeats 2000000
namespace K41
open PySem PySem.Spec PyProof.Rows L2 Yard YP TL
theorem sw (s : Str) (h : PyData.strOk s = true := by decide +kernel) (k : s.length ≤ 1000000 := by decide +kernel) : Tk s := ⟨h, k⟩
def optN : Option Nat → D
  | none => .non
  | some n => .int (n : Int)
def optI : Option IT → D
  | none => .non
  | some x => x.d
def optW : Option (Str × DE) → D
  | none => .non
  | some p => .tup [.str p.1, p.2.d]
def wsD (ws : List Str) : D := .lst (ws.map D.str)
theorem okWs {ws : List Str} (h : ∀ w ∈ ws, Tk w) : OkN 1 (wsD ws) := okN_lst fun d hd => by
  obtain ⟨w, hw, rfl⟩ := List.mem_map.mp hd
  exact okTk (h w hw)
theorem strs_any (x : Str) (l : List D) (ys : List Str) (e : l = ys.map D.str) : (l.any fun z => eqD z (.str x)) = decide (x ∈ ys) := by rw [e]; exact any_strs x ys
section
variable {P : Program} {w : World} {K : PySem.W.Frag} {mg : Str → Option Value} {base : Heap}
def uGn : UF := fun ρ R => ∃ x : Str, ρ = [dat (.str x)] ∧ Tk x ∧ ∀ s, R (.val (.bl (gn x))) [s]
def uMk : UF := fun ρ R => ∃ x : Str, ρ = [dat (.str x)] ∧ Tk x ∧ ∀ s, R (.val (.bl (mkF x))) [s]
def uNumR : UF := fun ρ R => ∃ x : Str, ρ = [dat (.str x)] ∧ Tk x ∧ ∀ s, R (.val (optN (numF x))) [s]
def uNumB : UF := fun ρ R => ∃ x : Str, ρ = [dat (.str x)] ∧ Tk x ∧ ∀ s, R (.val (.bl (numF x).isSome)) [s]
def uItem : UF := fun ρ R => ∃ ws : List Str, ρ = [dat (wsD ws)] ∧ (∀ w ∈ ws, Tk w) ∧ ws.length ≤ 1000000 ∧ ∀ s, R (.val (optI (itemF ws))) [s]
def uDeed : UF := fun ρ R => ∃ ws : List Str, ρ = [dat (wsD ws)] ∧ (∀ w ∈ ws, Tk w) ∧ ws.length ≤ 1000000 ∧ ∀ s, R (.val (optW (deedF ws))) [s]
def uPart : UF := fun ρ R => ∃ ws : List Str, ρ = [dat (wsD ws)] ∧ (∀ w ∈ ws, Tk w) ∧ ws.length ≤ 1000000 ∧ ∀ s, R (.val (.bl (partF ws).isSome)) [s]
def uBeh : UF := fun ρ R => ∃ (k : Str) (l : List (Str × DE)), ρ = [dat (.str k), dat (desD l)] ∧ ∀ s0 s1, R (.val (.bl (behF k l))) [s0, s1]
theorem sc_is_name : FnScope ["thing", "letter"] ["thing"] (defScope s_is_name) := ⟨rfl, rfl, rfl, by decide +kernel, rfl, by decide +kernel, by decide +kernel⟩
theorem ok_is_name (T : Tx K w mg) : FnOk P w K mg base CX0 1 T.a_is_name T.f_is_name ["thing"] (PSp K 1 uGn) := by
  refine fn_mk T.d_is_name.fn sc_is_name (by decide) fun cdv A outer s H E hr => ?_
  refine ⟨_, (fb_cons (fs_if (FW.ft (fw_or (ft_not (ft_tru (fe_b cb_isi (by rfl) T.z_isinstance (by decide +kernel) (fr_ref (fv 0) (fr_ref (fe_ty (n := "str") (by rfl) T.z_str (by decide +kernel)) fr_nil))))) (fw_or1 (ft_not (ft_chain os_le os_le fe_int (fe_b cb_len (by rfl) T.z_len (by decide +kernel) (fr_ref (fv 0) fr_nil)) (fe_glob (v := .int 8) (d := .int 8) (by rfl) T.g_LONGEST ⟨_, rfl⟩ (fun _ => .int _)))))))
      (fb_one (fs_ret fe_bl))
      fb_nil)
      (fb_one (fs_ret (fe_and (fe_notinK (fv 0) (by rfl) T.g_KEPT_WORDS T.k_KEPT_WORDS) (fe_one (fe_b (cb_all rfl) (by rfl) T.z_all (by decide +kernel) (fr_ref (fe_lc rfl sc_is_name.nd (fi_str (fv 0)) (blkOk_by (own := [("letter", 1)]) (N := ["thing", "letter"]) (sc := defScope s_is_name) (by decide +kernel)) (fun _ _ _ _ _ => (fg_name (pg_name (i := 1) sc_is_name.nd rfl (.inl rfl)) (by intro l e; cases e; decide +kernel))) (fun _ _ _ _ _ => fts_nil) (fun _ _ _ _ _ => (fe_cmp (os_in (rv hr)) (fv 1) (fe_glob (v := .str "abcdefghijklmnopqrstuvwxyz") (d := .str "abcdefghijklmnopqrstuvwxyz") (by rfl) T.g_LETTERS ⟨_, rfl⟩ (fun _ => .str _))))) fr_nil))))))), fun ρ R hl h => ?_⟩
  obtain ⟨x, rfl, hx, q⟩ := h
  have sz := sz24
  refine ⟨"str", true, rfl, rfl, ?_⟩
  refine ⟨hx.sz, ?_⟩
  show (if decide ((1 : Int) ≤ ((x.length : Nat) : Int)) = true then _ else _)
  by_cases h0 : (1 : Int) ≤ ((x.length : Nat) : Int)
  · rw [decide_eq_true h0]
    show (if (!decide (((x.length : Nat) : Int) ≤ 8)) = true then _ else _)
    by_cases h8 : ((x.length : Nat) : Int) ≤ 8
    case neg =>
      rw [decide_eq_false h8]
      have : gn x = false := by unfold gn; rw [decide_eq_false (by omega : ¬ (1 ≤ x.length ∧ x.length ≤ 8))]; rfl
      rw [this] at q
      exact q _
    rw [decide_eq_true h8]
    refine ⟨x, rfl, ?_⟩
    show (if (true ^^ decide (x ∈ kept)) = true then _ else _)
    by_cases hk : x ∈ kept
    · rw [decide_eq_true hk]
      have : gn x = false := by unfold gn; rw [decide_eq_true hk]; simp
      rw [this] at q
      exact q _
    · rw [decide_eq_false hk]
      refine ⟨fun i acc ρ => acc = ((x.cps.toList.take i).map fun c => D.bl (decide (c ∈ ltr.cps.toList))) ∧ ρ = [.sl false true (.str x), .un], ⟨rfl, rfl⟩, ?_, ?_, ?_⟩
      · rintro i y acc ρ hi ⟨rfl, rfl⟩
        rw [List.getElem?_map] at hi
        obtain ⟨z, hz, rfl⟩ := Option.map_eq_some_iff.mp hi
        have lx : x.cps.toList.length = x.length := Array.length_toList
        have := hx.few
        refine ⟨z, rfl, by rw [List.length_map, List.length_take]; omega, ?_, rfl⟩
        rw [List.take_succ, hz, List.map_append, Bool.false_xor]; rfl
      · rintro i acc ρ ⟨_, rfl⟩
        exact ⟨_, (rfl : _ = YP.wipeS [.sl false true (.str x), .un] [1])⟩
      · rintro acc ρ ⟨rfl, rfl⟩
        rw [List.length_map, List.take_length]
        refine ⟨x.cps.toList.map fun c => decide (c ∈ ltr.cps.toList), by rw [List.map_map]; rfl, ?_⟩
        rw [all_map]
        have : gn x = x.cps.toList.all fun c => decide (c ∈ ltr.cps.toList) := by
          unfold gn
          rw [decide_eq_false hk, decide_eq_true (by omega : 1 ≤ x.length ∧ x.length ≤ 8)]
          rfl
        rw [this] at q
        exact q _
  · rw [decide_eq_false h0]
    have : gn x = false := by unfold gn; rw [decide_eq_false (by omega : ¬ (1 ≤ x.length ∧ x.length ≤ 8))]; rfl
    rw [this] at q
    exact q _
theorem sc_is_symbol : FnScope ["word"] ["word"] (defScope s_is_symbol) := ⟨rfl, rfl, rfl, by decide +kernel, rfl, by decide +kernel, by decide +kernel⟩
theorem ok_is_symbol (T : Tx K w mg) : FnOk P w K mg base CX0 2 T.a_is_symbol T.f_is_symbol ["word"] (PSp K 1 uMk) := by
  refine fn_mk T.d_is_symbol.fn sc_is_symbol (by decide) fun cdv A outer s H E hr => ?_
  refine ⟨_, (fb_one (fs_ret (fe_or (fe_cmp (os_eq (ru hr)) (fv 0) (fe_glob (v := .str ".") (d := .str ".") (by rfl) T.g_END ⟨_, rfl⟩ (fun _ => .str _))) (fe_one (fe_call (ok_is_name T) (hr.mono (by omega)) (by rfl) T.d_is_name.at_ T.d_is_name.kp T.d_is_name.bd (fr_val (fv 0) fr_nil)))))), fun ρ R hl h => ?_⟩
  obtain ⟨x, rfl, hx, q⟩ := h
  refine ⟨(okTk hx).ok, (okTk (sw ".")).ok, ?_⟩
  rw [eqD_str]
  unfold mkF at q
  by_cases h0 : x = "."
  · rw [decide_eq_true h0] at q ⊢
    exact q _
  · rw [decide_eq_false h0] at q ⊢
    refine ⟨List.nodup_nil, x, rfl, hx, fun s => ?_⟩
    exact q _
theorem sc_read_number : FnScope ["word", "sign"] ["word"] (defScope s_read_number) := ⟨rfl, rfl, rfl, by decide +kernel, rfl, by decide +kernel, by decide +kernel⟩
theorem ok_read_number (T : Tx K w mg) : FnOk P w K mg base CX0 1 T.a_read_number T.f_read_number ["word"] (PSp K 1 uNumR) := by
  refine fn_mk T.d_read_number.fn sc_read_number (by decide) fun cdv A outer s H E hr => ?_
  refine ⟨_, (fb_cons (fs_if (FW.ft (fw_or (ft_not (ft_chain os_le os_le fe_int (fe_b cb_len (by rfl) T.z_len (by decide +kernel) (fr_ref (fv 0) fr_nil)) (fe_glob (v := .int 4) (d := .int 4) (by rfl) T.g_MOST_FIGURES ⟨_, rfl⟩ (fun _ => .int _)))) (fw_or1 (ft_not (ft_tru (fe_b (cb_all rfl) (by rfl) T.z_all (by decide +kernel) (fr_ref (fe_lc rfl sc_read_number.nd (fi_str (fv 0)) (blkOk_by (own := [("sign", 1)]) (N := ["word", "sign"]) (sc := defScope s_read_number) (by decide +kernel)) (fun _ _ _ _ _ => (fg_name (pg_name (i := 1) sc_read_number.nd rfl (.inl rfl)) (by intro l e; cases e; decide +kernel))) (fun _ _ _ _ _ => fts_nil) (fun _ _ _ _ _ => (fe_cmp (os_in (rv hr)) (fv 1) (fe_glob (v := .str "0123456789") (d := .str "0123456789") (by rfl) T.g_FIGURES ⟨_, rfl⟩ (fun _ => .str _))))) fr_nil)))))))
      (fb_one (fs_ret fe_non))
      fb_nil)
      (fb_one (fs_ret (fe_if (FW.ft (fw_or (ft_cmp (os_ne (ru hr)) (fe_ix (fv 0) fe_int) fe_str) (fw_or1 (ft_cmp (os_eq (ru hr)) (fv 0) fe_str)))) (fe_bt cb_intS (by rfl) T.z_int (by decide +kernel) (fr_ref (fv 0) fr_nil)) fe_non)))), fun ρ R hl h => ?_⟩
  obtain ⟨x, rfl, hx, q⟩ := h
  have sz := sz24
  have lx : x.cps.toList.length = x.length := Array.length_toList
  refine ⟨hx.sz, ?_⟩
  show (if decide ((1 : Int) ≤ ((x.length : Nat) : Int)) = true then _ else _)
  by_cases h0 : (1 : Int) ≤ ((x.length : Nat) : Int)
  case neg =>
    rw [decide_eq_false h0]
    have : numF x = none := by unfold numF; rw [if_neg]; rintro ⟨z, _⟩; omega
    rw [this] at q
    exact q _
  rw [decide_eq_true h0]
  show (if (!decide (((x.length : Nat) : Int) ≤ 4)) = true then _ else _)
  by_cases h4 : ((x.length : Nat) : Int) ≤ 4
  case neg =>
    rw [decide_eq_false h4]
    have : numF x = none := by unfold numF; rw [if_neg]; rintro ⟨z, _⟩; omega
    rw [this] at q
    exact q _
  rw [decide_eq_true h4]
  refine ⟨fun i acc ρ => acc = ((x.cps.toList.take i).map fun c => D.bl (decide (c ∈ fig.cps.toList))) ∧ ρ = [.sl false true (.str x), .un], ⟨rfl, rfl⟩, ?_, ?_, ?_⟩
  · rintro i y acc ρ hi ⟨rfl, rfl⟩
    rw [List.getElem?_map] at hi
    obtain ⟨z, hz, rfl⟩ := Option.map_eq_some_iff.mp hi
    refine ⟨z, rfl, by rw [List.length_map, List.length_take]; omega, ?_, rfl⟩
    rw [List.take_succ, hz, List.map_append, Bool.false_xor]; rfl
  · rintro i acc ρ ⟨_, rfl⟩
    exact ⟨_, (rfl : _ = YP.wipeS [.sl false true (.str x), .un] [1])⟩
  rintro acc ρ ⟨rfl, rfl⟩
  rw [List.length_map, List.take_length]
  refine ⟨x.cps.toList.map fun c => decide (c ∈ fig.cps.toList), by rw [List.map_map]; rfl, ?_⟩
  rw [all_map]
  show (if (!dig x) = true then _ else _)
  cases hd : dig x with
  | false =>
    have : numF x = none := by unfold numF; rw [if_neg]; rintro ⟨_, z, _⟩; rw [hd] at z; cases z
    rw [this] at q
    exact q _
  | true =>
    have h00 : 0 < x.cps.toList.length := by omega
    refine ⟨hx.sz, x.cps.toList[0], atI_nat (List.getElem?_eq_getElem h00), ?_⟩
    have hc := dig_iff.mp hd _ (List.getElem_mem h00)
    refine ⟨(okN_str (ok_codes.mpr fun c hc' => ?_)).ok, (okTk (sw "0")).ok, ?_⟩
    · rw [List.mem_singleton.mp (show c ∈ [x.cps.toList[0]] from hc')]; omega
    rw [eqD_str]
    have e1 : decide ((⟨#[x.cps.toList[0]]⟩ : Str) = "0") = decide (x.cps.toList[0] = 48) := by
      by_cases h : x.cps.toList[0] = 48
      · rw [h]; decide +kernel
      · rw [decide_eq_false h, decide_eq_false]
        intro z
        have := congrArg (fun s : Str => s.cps.toList) z
        exact h (List.cons.inj (show [x.cps.toList[0]] = [48] from this)).1
    have e2 : x.cps.toList.head? = some x.cps.toList[0] := by rw [← List.head_eq_getElem (List.ne_nil_of_length_pos h00)]; exact List.head?_eq_some_head _
    rw [e1]
    have fin : (x.cps.toList.head? ≠ some 48 ∨ x = "0") → numF x = some (NumText.digitsVal x.cps.toList) := fun z => by
      unfold numF; rw [if_pos ⟨⟨by omega, by omega⟩, hd, z⟩]
    have rd : (x.cps.toList.head? ≠ some 48 ∨ x = "0") → ∃ n, PySem.intText? x = some n ∧ x.length ≤ 640 ∧ D.int n = optN (numF x) := fun z => by
      have := fin z
      obtain ⟨_, _, _, _, _, k⟩ := numF_some this
      exact ⟨_, k, by omega, by rw [this]; rfl⟩
    by_cases h48 : x.cps.toList[0] = 48
    case neg =>
      rw [decide_eq_false h48]
      obtain ⟨n, k1, k2, k3⟩ := rd (.inl (by rw [e2]; exact fun z => h48 (Option.some.inj z)))
      refine ⟨n, k1, k2, ?_⟩
      rw [← k3] at q
      exact q _
    rw [decide_eq_true h48]
    refine ⟨(okTk hx).ok, (okTk (sw "0")).ok, ?_⟩
    rw [eqD_str]
    by_cases hz : x = "0"
    · rw [decide_eq_true hz]
      obtain ⟨n, k1, k2, k3⟩ := rd (.inr hz)
      refine ⟨n, k1, k2, ?_⟩
      rw [← k3] at q
      exact q _
    · rw [decide_eq_false hz]
      have : numF x = none := by unfold numF; rw [if_neg]; rintro ⟨_, _, z⟩; rcases z with z | z; exact z (by rw [e2, h48]); exact hz z
      rw [this] at q
      exact q _
end
end K41
set_option maxRecDepth 100000
set_option maxHeartbeats 2000000
namespace K41
open PySem PySem.Spec PyProof.Rows L2 Yard YP TL
theorem cut_map {α β : Type} (f : α → β) (xs : List α) (lo hi : Option Int) : YP.cut (xs.map f) lo hi = (YP.cut xs lo hi).map f := by
  unfold YP.cut
  rw [List.map_take, List.map_drop, List.length_map]
theorem cut_fr {α : Type} (xs : List α) (k : Nat) : YP.cut xs (some (k : Int)) none = xs.drop k := by
  unfold YP.cut
  rw [HT.sIx_nat, HT.sIx_none]
  by_cases h : k ≤ xs.length
  · rw [Nat.min_eq_left h]
    exact List.take_of_length_le (by rw [List.length_drop]; omega)
  · rw [Nat.min_eq_right (by omega), List.drop_eq_nil_of_le (Nat.le_refl _), List.drop_eq_nil_of_le (by omega), List.take_nil]
theorem cut_mid {α : Type} (xs : List α) (k m : Nat) (h1 : k ≤ m) (h2 : m ≤ xs.length) : YP.cut xs (some (k : Int)) (some (m : Int)) = (xs.drop k).take (m - k) := by
  unfold YP.cut
  rw [HT.sIx_nat, HT.sIx_nat, Nat.min_eq_left h2, Nat.min_eq_left (Nat.le_trans h1 h2)]
theorem cut_to {α : Type} (xs : List α) (m : Nat) : YP.cut xs none (some (m : Int)) = xs.take m := by
  unfold YP.cut
  rw [HT.sIx_nat, HT.sIx_none]
  show List.take (min m xs.length - 0) xs = _
  rw [Nat.sub_zero]
  by_cases h : m ≤ xs.length
  · rw [Nat.min_eq_left h]
  · rw [Nat.min_eq_right (by omega), List.take_length, List.take_of_length_le (by omega)]
theorem eqvA : ∀ a b : List Str, PyData.eqvAll (toPs (a.map D.str)) (toPs (b.map D.str)) = decide (a = b)
  | [], [] => rfl
  | [], _ :: _ => by rw [decide_eq_false (by simp)]; rfl
  | _ :: _, [] => by rw [decide_eq_false (by simp)]; rfl
  | x :: a, y :: b => by
    show (eqD (.str x) (.str y) && PyData.eqvAll (toPs (a.map D.str)) (toPs (b.map D.str))) = _
    rw [eqD_str, eqvA a b]
    by_cases h : x = y
    · subst h; simp
    · rw [decide_eq_false h, decide_eq_false (fun z => h (List.cons.inj z).1)]; rfl
theorem eqL (a b : List Str) : eqD (wsD a) (wsD b) = decide (a = b) := eqvA a b
theorem atW {ws : List Str} {j : Nat} {w : Str} (h : ws[j]? = some w) : L2.atI (ws.map D.str) (j : Int) = some (.str w) := atI_nat (by rw [List.getElem?_map, h]; rfl)
theorem seq_setR {i : Nat} {ue : UE} {u : US} {E : En} {ρ : List Sl} (ρ' : List Sl) (h : ∀ Z : List Sl → Prop, Z ρ' → ue ρ fun r ρ1 => YP.put ρ1 i r Z) (k : u E ρ') : uSeq (uSet i ue) u E ρ := h _ k
theorem next_seq {t u : US} {E E' : En} {ρ : List Sl} (h : uSeq t u E ρ) : uNext { E' with nx := uSeq t u E } ρ := h
theorem nd1v (x : D) : (ats [Rv.val x]).Nodup := List.nodup_nil
theorem itemF_short {ws : List Str} (h : ws.length < 3) : itemF ws = none := by
  match ws, h with
  | [], _ => rfl
  | [_], _ => rfl
  | [_, _], _ => rfl
theorem deedF_short {ws : List Str} (h : ws.length < 3) : deedF ws = none := by
  match ws, h with
  | [], _ => rfl
  | [_], _ => rfl
  | [a, b], _ =>
    show (if a = "on" ∧ mkF b = true then (none : Option DE).map fun e => (b, e) else none) = none
    split <;> rfl
theorem three {ws : List Str} (h : ¬ ws.length < 3) : ∃ a b c r, ws = a :: b :: c :: r := by
  match ws, h with
  | [], h => exact absurd (by decide) h
  | [_], h => exact absurd (Nat.lt_of_sub_pos (by simp)) h
  | [_, _], h => exact absurd (Nat.lt_of_sub_pos (by simp)) h
  | a :: b :: c :: r, _ => exact ⟨a, b, c, r, rfl⟩
theorem partF_none {ws : List Str} (h1 : ws ≠ [("done" : Str)]) (h2 : ws.length ≠ 2) (h4 : ws.length ≠ 4) : partF ws = none := by
  unfold partF
  split
  · rw [if_neg]; intro z; exact h1 (by rw [z])
  · exact absurd rfl h2
  · exact absurd rfl h4
  · rfl
theorem two {ws : List Str} (h : ws.length = 2) : ∃ a b, ws = [a, b] := by
  match ws, h with
  | [a, b], _ => exact ⟨a, b, rfl⟩
theorem four {ws : List Str} (h : ws.length = 4) : ∃ a b c d, ws = [a, b, c, d] := by
  match ws, h with
  | [a, b, c, d], _ => exact ⟨a, b, c, d, rfl⟩
section
variable {P : Program} {w : World} {K : PySem.W.Frag} {mg : Str → Option Value} {base : Heap}
theorem sc_read_item : FnScope ["words", "dot", "word"] ["words"] (defScope s_read_item) := ⟨rfl, rfl, rfl, by decide +kernel, rfl, by decide +kernel, by decide +kernel⟩
theorem ok_read_item (T : Tx K w mg) : FnOk P w K mg base CX0 3 T.a_read_item T.f_read_item ["words"] (PSp K 1 uItem) := by
  refine fn_mk T.d_read_item.fn sc_read_item (by decide) fun cdv A outer s H E hr => ?_
  refine ⟨_, (fb_cons (fs_if (FW.ft (fw_or (ft_cmp os_lt (fe_b cb_len (by rfl) T.z_len (by decide +kernel) (fr_ref (fv 0) fr_nil)) fe_int) (fw_or1 (ft_cmp (os_ne (ru hr)) (fe_ix (fv 0) fe_int) fe_str))))
      (fb_one (fs_ret fe_non))
      fb_nil)
      (fb_cons (fs_set (ps_set (i := 1) sc_read_item.nd rfl (.inl rfl) pe_S) (fe_call (ok_read_number T) (hr.mono (by omega)) (by rfl) T.d_read_number.at_ T.d_read_number.kp T.d_read_number.bd (fr_val (fe_ix (fv 0) fe_int) fr_nil)))
      (fb_cons (fs_if (FW.ft (fw_or (ft_cmp os_is (fv 1) fe_non) (fw_or1 (ft_not (ft_tru (fe_b (cb_all rfl) (by rfl) T.z_all (by decide +kernel) (fr_ref (fe_lc rfl sc_read_item.nd (fi_list (fe_op os_add (fe_sl (fv 0) (fo_int fe_int) (fo_int fe_int)) (fe_sl (fv 0) (fo_int fe_int) fo_no))) (blkOk_by (own := [("word", 2)]) (N := ["words", "dot", "word"]) (sc := defScope s_read_item) (by decide +kernel)) (fun _ _ _ _ _ => (fg_name (pg_name (i := 2) sc_read_item.nd rfl (.inl rfl)) (by intro l e; cases e; decide +kernel))) (fun _ _ _ _ _ => fts_nil) (fun _ _ _ _ _ => (fe_call (ok_is_symbol T) (hr.mono (by omega)) (by rfl) T.d_is_symbol.at_ T.d_is_symbol.kp T.d_is_symbol.bd (fr_val (fv 2) fr_nil)))) fr_nil)))))))
      (fb_one (fs_ret fe_non))
      fb_nil)
      (fb_one (fs_ret (fe_tup (fa_cons (fe_ix (fv 0) fe_int) (fa_cons (fv 1) (fa_cons (fe_bt cb_tuple (by rfl) T.z_tuple (by decide +kernel) (fr_ref (fe_sl (fv 0) (fo_int fe_int) fo_no) fr_nil)) fa_nil))))))))), fun ρ R hl h => ?_⟩
  obtain ⟨ws, rfl, hw, hl, q⟩ := h
  have sz := sz24
  have lm : (ws.map D.str).length = ws.length := List.length_map _
  show (if decide ((((ws.map D.str).length : Nat) : Int) < 3) = true then _ else _)
  by_cases h3 : ws.length < 3
  · rw [decide_eq_true (by omega)]
    rw [itemF_short h3] at q
    exact q _
  rw [decide_eq_false (by omega)]
  obtain ⟨a, l, d, ah, rfl⟩ := three h3
  have ta := hw a (by simp)
  have tl' := hw l (by simp)
  have td := hw d (by simp)
  have th : ∀ m ∈ ah, Tk m := fun m hm => hw m (by simp [hm])
  refine ⟨.str a, atW (j := 0) rfl, (okTk ta).ok, (okTk (sw "item")).ok, ?_⟩
  rw [eqD_str]
  by_cases hi : a = "item"
  case neg =>
    rw [decide_eq_false hi]
    have : itemF (a :: l :: d :: ah) = none := if_neg fun z => hi z.1
    rw [this] at q
    exact q _
  rw [decide_eq_true hi]
  refine ⟨.str d, atW (j := 2) rfl, List.nodup_nil, d, rfl, td, fun s => ?_⟩
  dsimp only
  rw [wb_no (rs := [.val (.str d)]) [s] rfl]
  have e0 : itemF (a :: l :: d :: ah) = if a = "item" ∧ mkF l = true ∧ ah.all mkF = true then (numF d).map fun n => (⟨l, n, ah⟩ : IT) else none := rfl
  cases hn : numF d with
  | none =>
    have : itemF (a :: l :: d :: ah) = none := by rw [e0, hn]; split <;> rfl
    rw [this] at q
    exact q _
  | some n =>
    have cm : YP.cut ((a :: l :: d :: ah).map D.str) (some 1) (some 2) ++ YP.cut ((a :: l :: d :: ah).map D.str) (some 3) none = (l :: ah).map D.str := by
      rw [show (some (1 : Int)) = some ((1 : Nat) : Int) from rfl, show (some (2 : Int)) = some ((2 : Nat) : Int) from rfl, show (some (3 : Int)) = some ((3 : Nat) : Int) from rfl, cut_mid _ 1 2 (by omega) (by simp), cut_fr]; rfl
    have ll : (YP.cut ((a :: l :: d :: ah).map D.str) (some 1) (some 2)).length + (YP.cut ((a :: l :: d :: ah).map D.str) (some 3) none).length ≤ sizeLine := by
      have := congrArg List.length cm
      rw [List.length_append] at this
      rw [this]
      simp only [List.length_map, List.length_cons] at hl ⊢
      omega
    have hla : (l :: ah).length ≤ 1000000 := by simp only [List.length_cons] at hl ⊢; omega
    refine ⟨ll, ?_⟩
    rw [cm]
    refine ⟨fun i acc ρ => acc = (((l :: ah).take i).map fun m => D.bl (mkF m)) ∧ ρ = [.sl false true (wsD (a :: l :: d :: ah)), .sl false false (.int (n : Int)), .un], ⟨rfl, rfl⟩, ?_, ?_, ?_⟩
    · rintro i y acc ρ hi ⟨rfl, rfl⟩
      rw [List.getElem?_map] at hi
      obtain ⟨z, hz, rfl⟩ := Option.map_eq_some_iff.mp hi
      have hzt : Tk z := by
        rcases List.mem_cons.mp (List.mem_of_getElem? hz) with rfl | h
        · exact tl'
        · exact th z h
      refine ⟨List.nodup_nil, z, rfl, hzt, fun s => ?_⟩
      dsimp only
      rw [wb_no (rs := [.val (.str z)]) [s] rfl]
      refine ⟨by rw [List.length_map, List.length_take]; omega, ?_, rfl⟩
      rw [List.take_succ, hz, List.map_append]; rfl
    · rintro i acc ρ ⟨_, rfl⟩
      exact ⟨_, (rfl : _ = YP.wipeS [.sl false true (wsD (a :: l :: d :: ah)), .sl false false (.int (n : Int)), .un] [2])⟩
    rintro acc ρ ⟨rfl, rfl⟩
    rw [List.length_map, List.take_length]
    refine ⟨(l :: ah).map mkF, by rw [List.map_map]; rfl, ?_⟩
    have ea : ((l :: ah).map mkF).all id = (mkF l && ah.all mkF) := by rw [List.all_map]; rfl
    rw [ea]
    show (if (!(mkF l && ah.all mkF)) = true then _ else _)
    cases hm : (mkF l && ah.all mkF) with
    | false =>
      have : itemF (a :: l :: d :: ah) = none := by
        rw [e0, if_neg]
        rintro ⟨_, z1, z2⟩
        rw [z1, z2] at hm; cases hm
      rw [this] at q
      exact q _
    | true =>
      obtain ⟨m1, m2⟩ := Bool.and_eq_true_iff.mp hm
      have : itemF (a :: l :: d :: ah) = some ⟨l, n, ah⟩ := by rw [e0, if_pos ⟨hi, m1, m2⟩, hn]; rfl
      rw [this] at q
      refine ⟨.str l, atW (j := 1) rfl, Nat.le_trans (by decide : 3 ≤ 16777216) sz, ?_⟩
      have c3 : YP.cut ((a :: l :: d :: ah).map D.str) (some 3) none = ah.map D.str := by
        rw [show (some (3 : Int)) = some ((3 : Nat) : Int) from rfl, cut_fr]; rfl
      rw [c3]
      exact q _
theorem sc_read_deed : FnScope ["words", "told", "many"] ["words"] (defScope s_read_deed) := ⟨rfl, rfl, rfl, by decide +kernel, rfl, by decide +kernel, by decide +kernel⟩
theorem ok_read_deed (T : Tx K w mg) : FnOk P w K mg base CX0 3 T.a_read_deed T.f_read_deed ["words"] (PSp K 1 uDeed) := by
  refine fn_mk T.d_read_deed.fn sc_read_deed (by decide) fun cdv A outer s H E hr => ?_
  refine ⟨_, (fb_cons (fs_if (FW.ft (fw_or (ft_cmp os_lt (fe_b cb_len (by rfl) T.z_len (by decide +kernel) (fr_ref (fv 0) fr_nil)) fe_int) (fw_or (ft_cmp (os_ne (ru hr)) (fe_ix (fv 0) fe_int) fe_str) (fw_or1 (ft_not (ft_tru (fe_call (ok_is_symbol T) (hr.mono (by omega)) (by rfl) T.d_is_symbol.at_ T.d_is_symbol.kp T.d_is_symbol.bd (fr_val (fe_ix (fv 0) fe_int) fr_nil))))))))
      (fb_one (fs_ret fe_non))
      fb_nil)
      (fb_cons (fs_set (ps_set (i := 1) sc_read_deed.nd rfl (.inl rfl) pe_S) (fe_sl (fv 0) (fo_int fe_int) fo_no))
      (fb_cons (fs_if (ft_cmp (os_eq (ru hr)) (fv 1) (fe_lst (fa_cons fe_str fa_nil)))
      (fb_one (fs_ret (fe_tup (fa_cons (fe_ix (fv 0) fe_int) (fa_cons (fe_tup (fa_cons fe_str fa_nil)) fa_nil)))))
      fb_nil)
      (fb_cons (fs_if (FW.ft (fw_and (ft_cmp (os_eq (ru hr)) (fe_b cb_len (by rfl) T.z_len (by decide +kernel) (fr_ref (fv 1) fr_nil)) fe_int) (fw_and (ft_cmp (os_eq (ru hr)) (fe_ix (fv 1) fe_int) fe_str) (fw_and1 (ft_cmp os_isnot (fe_call (ok_read_number T) (hr.mono (by omega)) (by rfl) T.d_read_number.at_ T.d_read_number.kp T.d_read_number.bd (fr_val (fe_ix (fv 1) fe_int) fr_nil)) fe_non)))))
      (fb_one (fs_ret (fe_tup (fa_cons (fe_ix (fv 0) fe_int) (fa_cons (fe_tup (fa_cons fe_str (fa_cons (fe_call (ok_read_number T) (hr.mono (by omega)) (by rfl) T.d_read_number.at_ T.d_read_number.kp T.d_read_number.bd (fr_val (fe_ix (fv 1) fe_int) fr_nil)) fa_nil))) fa_nil)))))
      fb_nil)
      (fb_cons (fs_if (FW.ft (fw_and (ft_cmp (os_eq (ru hr)) (fe_b cb_len (by rfl) T.z_len (by decide +kernel) (fr_ref (fv 1) fr_nil)) fe_int) (fw_and (ft_cmp (os_eq (ru hr)) (fe_ix (fv 1) fe_int) fe_str) (fw_and (ft_tru (fe_call (ok_is_symbol T) (hr.mono (by omega)) (by rfl) T.d_is_symbol.at_ T.d_is_symbol.kp T.d_is_symbol.bd (fr_val (fe_ix (fv 1) fe_int) fr_nil))) (fw_and1 (ft_tru (fe_call (ok_is_symbol T) (hr.mono (by omega)) (by rfl) T.d_is_symbol.at_ T.d_is_symbol.kp T.d_is_symbol.bd (fr_val (fe_ix (fv 1) fe_int) fr_nil))))))))
      (fb_cons (fs_set (ps_set (i := 2) sc_read_deed.nd rfl (.inl rfl) pe_S) (fe_call (ok_read_number T) (hr.mono (by omega)) (by rfl) T.d_read_number.at_ T.d_read_number.kp T.d_read_number.bd (fr_val (fe_ix (fv 1) fe_int) fr_nil)))
      (fb_one (fs_ret (fe_if (ft_cmp os_is (fv 2) fe_non) fe_non (fe_tup (fa_cons (fe_ix (fv 0) fe_int) (fa_cons (fe_tup (fa_cons fe_str (fa_cons (fe_ix (fv 1) fe_int) (fa_cons (fv 2) (fa_cons (fe_ix (fv 1) fe_int) fa_nil))))) fa_nil)))))))
      fb_nil)
      (fb_one (fs_ret fe_non))))))), fun ρ R hl h => ?_⟩
  obtain ⟨ws, rfl, hw, hl, q⟩ := h
  have sz := sz24
  have lm : (ws.map D.str).length = ws.length := List.length_map _
  show (if decide ((((ws.map D.str).length : Nat) : Int) < 3) = true then _ else _)
  by_cases h3 : ws.length < 3
  · rw [decide_eq_true (by omega)]
    rw [deedF_short h3] at q
    exact q _
  rw [decide_eq_false (by omega)]
  obtain ⟨a, k, b, r, rfl⟩ := three h3
  have ta := hw a (by simp)
  have tk := hw k (by simp)
  have th : ∀ m ∈ b :: r, Tk m := fun m hm => hw m (by simp only [List.mem_cons] at hm ⊢; exact .inr (.inr hm))
  have e0 : deedF (a :: k :: b :: r) = if a = "on" ∧ mkF k = true then (partF (b :: r)).map fun e => (k, e) else none := rfl
  refine ⟨.str a, atW (j := 0) rfl, (okTk ta).ok, (okTk (sw "on")).ok, ?_⟩
  rw [eqD_str]
  by_cases hi : a = "on"
  case neg =>
    rw [decide_eq_false hi]
    have : deedF (a :: k :: b :: r) = none := by rw [e0, if_neg fun z => hi z.1]
    rw [this] at q
    exact q _
  rw [decide_eq_true hi]
  refine ⟨.str k, atW (j := 1) rfl, List.nodup_nil, k, rfl, tk, fun s => ?_⟩
  dsimp only
  rw [wb_no (rs := [.val (.str k)]) [s] rfl]
  show (if (!mkF k) = true then _ else _)
  cases hm : mkF k with
  | false =>
    have : deedF (a :: k :: b :: r) = none := by rw [e0, if_neg]; rintro ⟨_, z⟩; rw [hm] at z; cases z
    rw [this] at q
    exact q _
  | true =>
    have e1 : deedF (a :: k :: b :: r) = (partF (b :: r)).map fun e => (k, e) := by rw [e0, if_pos ⟨hi, hm⟩]
    rw [e1] at q
    have lt : (b :: r).length ≤ 1000000 := by simp only [List.length_cons] at hl ⊢; omega
    have s1 : 1 ≤ sizeLine := by omega
    have s2 : 2 ≤ sizeLine := by omega
    have s4 : 4 ≤ sizeLine := by omega
    rw [if_neg (by decide : ¬ ((!true) = true))]
    refine next_seq ?_
    refine seq_setR [.sl false true (wsD (a :: k :: b :: r)), own (wsD (b :: r)), .un] (fun Z z => ?_) ?_
    · have c2 : YP.cut ((a :: k :: b :: r).map D.str) (some 2) none = (b :: r).map D.str := by
        rw [show (some (2 : Int)) = some ((2 : Nat) : Int) from rfl, cut_fr]; rfl
      show Z [.sl false true (wsD (a :: k :: b :: r)), own (.lst (YP.cut ((a :: k :: b :: r).map D.str) (some 2) none)), .un]
      rw [c2]
      exact z
    generalize hT : b :: r = t at q th lt ⊢
    have lmt : (t.map D.str).length = t.length := List.length_map _
    refine ⟨s1, (okWs th).ok, (okWs (ws := [("done" : Str)]) (fun w hw => by rw [List.mem_singleton.mp hw]; exact sw _)).ok, ?_⟩
    rw [show eqD (wsD t) (.lst [.str "done"]) = decide (t = [("done" : Str)]) from eqL t [("done" : Str)]]
    by_cases hd : t = [("done" : Str)]
    · rw [decide_eq_true hd]
      rw [hd] at q
      exact ⟨.str k, atW (j := 1) rfl, s1, s2, q _⟩
    rw [decide_eq_false hd]
    refine ⟨okN_int.ok, okN_int.ok, ?_⟩
    rw [eqD_int]
    by_cases h2 : t.length = 2
    · rw [decide_eq_true (by omega)]
      obtain ⟨x, y, rfl⟩ := two h2
      have tx := th x (by simp)
      have ty := th y (by simp)
      have e2 : partF [x, y] = if x = "go" then (numF y).map DE.go else none := rfl
      refine ⟨.str x, atW (j := 0) rfl, (okTk tx).ok, (okTk (sw "go")).ok, ?_⟩
      rw [eqD_str]
      by_cases hg : x = "go"
      · rw [decide_eq_true hg]
        refine ⟨.str y, atW (j := 1) rfl, List.nodup_nil, y, rfl, ty, fun s => ?_⟩
        dsimp only
        rw [wb_no (rs := [.val (.str y)]) [s] rfl]
        cases hn : numF y with
        | none =>
          have : partF [x, y] = none := by rw [e2, hn]; split <;> rfl
          rw [this] at q
          refine ⟨okN_int.ok, okN_int.ok, ?_⟩
          rw [eqD_int]
          exact q _
        | some n =>
          have : partF [x, y] = some (.go n) := by rw [e2, hn, if_pos hg]; rfl
          rw [this] at q
          refine ⟨.str k, atW (j := 1) rfl, .str y, atW (j := 1) rfl, List.nodup_nil, y, rfl, ty, fun s => ?_⟩
          dsimp only
          rw [wb_no (rs := [.val (.str y)]) [s] rfl, hn]
          exact ⟨s2, s2, q _⟩
      · rw [decide_eq_false hg]
        have : partF [x, y] = none := by rw [e2, if_neg hg]
        rw [this] at q
        refine ⟨okN_int.ok, okN_int.ok, ?_⟩
        rw [eqD_int]
        exact q _
    rw [decide_eq_false (by omega)]
    refine ⟨okN_int.ok, okN_int.ok, ?_⟩
    rw [eqD_int]
    by_cases h4 : t.length = 4
    case neg =>
      rw [decide_eq_false (by omega)]
      rw [partF_none hd h2 h4] at q
      exact q _
    rw [decide_eq_true (by omega)]
    obtain ⟨x, y, z, u, rfl⟩ := four h4
    have tx := th x (by simp)
    have ty := th y (by simp)
    have tz := th z (by simp)
    have tu := th u (by simp)
    have e2 : partF [x, y, z, u] = if x = "by" ∧ mkF y = true ∧ mkF u = true then (numF z).map fun n => DE.by y n u else none := rfl
    refine ⟨.str x, atW (j := 0) rfl, (okTk tx).ok, (okTk (sw "by")).ok, ?_⟩
    rw [eqD_str]
    by_cases hg : x = "by"
    case neg =>
      rw [decide_eq_false hg]
      have : partF [x, y, z, u] = none := by rw [e2, if_neg fun h => hg h.1]
      rw [this] at q
      exact q _
    rw [decide_eq_true hg]
    refine ⟨.str y, atW (j := 1) rfl, List.nodup_nil, y, rfl, ty, fun s => ?_⟩
    dsimp only
    rw [wb_no (rs := [.val (.str y)]) [s] rfl]
    cases hy : mkF y with
    | false =>
      have : partF [x, y, z, u] = none := by rw [e2, if_neg]; rintro ⟨_, h, _⟩; rw [hy] at h; cases h
      rw [this] at q
      exact q _
    | true =>
    refine ⟨.str u, atW (j := 3) rfl, List.nodup_nil, u, rfl, tu, fun s => ?_⟩
    dsimp only
    rw [wb_no (rs := [.val (.str u)]) [s] rfl]
    cases hu : mkF u with
    | false =>
      have : partF [x, y, z, u] = none := by rw [e2, if_neg]; rintro ⟨_, _, h⟩; rw [hu] at h; cases h
      rw [this] at q
      exact q _
    | true =>
    refine ⟨.str z, atW (j := 2) rfl, List.nodup_nil, z, rfl, tz, fun s => ?_⟩
    dsimp only
    rw [wb_no (rs := [.val (.str z)]) [s] rfl]
    cases hn : numF z with
    | none =>
      have : partF [x, y, z, u] = none := by rw [e2, hn]; split <;> rfl
      rw [this] at q
      exact q _
    | some n =>
      have : partF [x, y, z, u] = some (.by y n u) := by rw [e2, hn, if_pos ⟨hg, hy, hu⟩]; rfl
      rw [this] at q
      exact ⟨.str k, atW (j := 1) rfl, .str y, atW (j := 1) rfl, .str u, atW (j := 3) rfl, s4, s2, q _⟩
theorem sc_is_behind : FnScope ["symbol", "deeds"] ["symbol", "deeds"] (defScope s_is_behind) := ⟨rfl, rfl, rfl, by decide +kernel, rfl, by decide +kernel, by decide +kernel⟩
theorem ok_is_behind (T : Tx K w mg) : FnOk P w K mg base CX0 1 T.a_is_behind T.f_is_behind ["symbol", "deeds"] (PSp K 2 uBeh) := by
  refine fn_mk T.d_is_behind.fn sc_is_behind (by decide) fun cdv A outer s H E hr => ?_
  refine ⟨_, (fb_one (fs_ret (fe_or (fe_notK (fv 1)) (fe_one (fe_cmp os_gtS (fv 0) (fe_ix (fe_bt (cb_listD rfl) (by rfl) T.z_list (by decide +kernel) (fr_ref (fv 1) fr_nil)) (fe_neg fe_int))))))), fun ρ R hl h => ?_⟩
  obtain ⟨k, l, rfl, q⟩ := h
  refine ⟨desL l, rfl, ?_⟩
  cases e : l.getLast? with
  | none =>
    rw [List.getLast?_eq_none_iff.mp e] at q ⊢
    exact q _ _
  | some p =>
    obtain ⟨M, rfl⟩ := List.getLast?_eq_some_iff.mp e
    have ne : (desL (M ++ [p])).isEmpty = false := by unfold desL; rw [List.map_append]; cases M <;> rfl
    rw [ne]
    have eb : behF k (M ++ [p]) = decide (p.1.cps.toList < k.cps.toList) := by unfold behF; rw [e]
    rw [eb] at q
    refine ⟨.str p.1, ?_, q _ _⟩
    have em : (desL (M ++ [p])).map (fun q => kD q.1) = (desL M).map (fun q => kD q.1) ++ [D.str p.1] := by unfold desL; rw [List.map_append, List.map_append]; rfl
    rw [em]
    exact L2.atI_last _ _
end
end K41
set_option maxRecDepth 100000
set_option maxHeartbeats 4000000
namespace K41
open PySem PySem.Spec PyProof.Rows L2 Yard YP TL
/-- a well, asked c times at most -/
def WlOk (c : Nat) (d : D) : Prop := ∃ x y z : Int, d = .lst [.int x, .int y, .int z] ∧ 0 ≤ x ∧ 0 ≤ y ∧ y < 2 ^ 137 ∧ 0 ≤ z ∧ z ≤ 500 + c
theorem WlOk.mono {c c' : Nat} {d : D} (h : WlOk c d) (n : c ≤ c') : WlOk c' d := by
  obtain ⟨x, y, z, e, a1, a2, a3, a4, a5⟩ := h
  exact ⟨x, y, z, e, a1, a2, a3, a4, by omega⟩
theorem set_val {i : Nat} {d : D} {u : US} {E : En} {ρ : List Sl} (h : u E (ρ.set i (.sl false false d))) : uSeq (uSet i (uC d)) u E ρ := h
section
variable {P : Program} {w : World} {K : PySem.W.Frag} {mg : Str → Option Value} {base : Heap}
def uCell : UF := fun ρ R => ∃ (ns : List Int) (k : Nat), ρ = [dat (.scr ns), dat (.int (k : Nat))] ∧ ∀ (n : Int) s0 s1, R (.val (.int n)) [s0, s1]
def uWell : UF := fun ρ R => ∃ (n : Int) (k : Nat), ρ = [dat (.int n), dat (.int (k : Nat))] ∧ k ≤ 25 ∧ ∀ d s0 s1, WlOk 0 d → R (.own d) [s0, s1]
def uDip : UF := fun ρ R => ∃ (c : Nat) (d : D) (m : Int), ρ = [own d, dat (.int m)] ∧ WlOk c d ∧ 0 < m ∧ m < 1073741824 ∧ c < 1000000 ∧ ∀ (r : Int) d2 s1, 0 ≤ r → r < m → WlOk (c + 1) d2 → R (.val (.int r)) [own d2, s1]
theorem sc__law_cell : FnScope ["script", "k"] ["script", "k"] (defScope s__law_cell) := ⟨rfl, rfl, rfl, by decide +kernel, rfl, by decide +kernel, by decide +kernel⟩
theorem ok__law_cell (T : Tx K w mg) : FnOk P w K mg base CX0 1 T.a__law_cell T.f__law_cell ["script", "k"] (PSp K 2 uCell) := by
  refine fn_mk T.d__law_cell.fn sc__law_cell (by decide) fun cdv A outer s H E hr => ?_
  refine ⟨_, (fb_cons (fs_if (ft_cmp os_lt (fv 1) (fe_b cb_len (by rfl) T.z_len (by decide +kernel) (fr_ref (fv 0) fr_nil)))
      (fb_one (fs_ret (fe_ix (fv 0) (fv 1))))
      fb_nil)
      (fb_one (fs_ret fe_int))), fun ρ R hl h => ?_⟩
  obtain ⟨ns, k, rfl, q⟩ := h
  show (if decide ((k : Int) < ((ns.length : Nat) : Int)) = true then _ else _)
  by_cases h1 : (k : Int) < ((ns.length : Nat) : Int)
  · rw [decide_eq_true h1]
    have hl : k < ns.length := by omega
    exact ⟨ns[k], atI_nat (List.getElem?_eq_getElem hl), q _ _ _⟩
  · rw [decide_eq_false h1]
    exact q _ _ _
theorem sc__law_well : FnScope ["cell", "place"] ["cell", "place"] (defScope s__law_well) := ⟨rfl, rfl, rfl, by decide +kernel, rfl, by decide +kernel, by decide +kernel⟩
theorem ok__law_well (T : Tx K w mg) : FnOk P w K mg base CX0 1 T.a__law_well T.f__law_well ["cell", "place"] (PSp K 2 uWell) := by
  refine fn_mk T.d__law_well.fn sc__law_well (by decide) fun cdv A outer s H E hr => ?_
  refine ⟨_, (fb_one (fs_ret (fe_lst (fa_cons (fe_b (cb_max rfl) (by rfl) T.z_max (by decide +kernel) (fr_ref fe_int (fr_ref (fe_op os_sub (fv 0) (fe_op os_pow fe_int fe_int)) fr_nil))) (fa_cons (fe_op os_mod (fv 0) (fe_op os_add (fe_op os_pow fe_int fe_int) fe_int)) (fa_cons (fe_op os_add (fe_op os_mul fe_int (fv 1)) fe_int) fa_nil)))))), fun ρ R hl h => ?_⟩
  obtain ⟨c, k, rfl, hk, q⟩ := h
  have sz := sz24
  refine ⟨⟨by decide, 4, by decide, by decide, by decide⟩, ⟨by decide, 4, by decide, by decide, by decide⟩, ?_⟩
  refine ⟨(by decide : (0 : Int) < 10 ^ Int.toNat 41 + 13), .inl (by decide), Nat.le_trans (by decide : 3 ≤ 16777216) sz, ?_⟩
  have e41 : (10 : Int) ^ Int.toNat 41 + 13 = 100000000000000000000000000000000000000013 := by decide
  have m1 := Int.emod_nonneg c (b := (10 : Int) ^ Int.toNat 41 + 13) (by decide)
  have m2 := Int.emod_lt_of_pos c (b := (10 : Int) ^ Int.toNat 41 + 13) (by decide)
  refine q _ _ _ ⟨_, _, _, rfl, ?_, ?_, ?_, ?_, ?_⟩
  · split <;> omega
  · exact m1
  · have e2 : (2 : Int) ^ 137 = 174224571863520493293247799005065324265472 := by decide
    rw [e41] at m2
    rw [e2]
    show c % ((10 : Int) ^ Int.toNat 41 + 13) < _
    rw [e41]
    omega
  · show 0 ≤ 17 * (k : Int) + 3; omega
  · show 17 * (k : Int) + 3 ≤ 500 + ((0 : Nat) : Int); omega
theorem sc__law_dip : FnScope ["well", "many", "found", "mixed"] ["well", "many"] (defScope s__law_dip) := ⟨rfl, rfl, rfl, by decide +kernel, rfl, by decide +kernel, by decide +kernel⟩
theorem ok__law_dip (T : Tx K w mg) : FnOk P w K mg base CX0 1 T.a__law_dip T.f__law_dip ["well", "many"] (PSp K 2 uDip) := by
  refine fn_mk T.d__law_dip.fn sc__law_dip (by decide) fun cdv A outer s H E hr => ?_
  refine ⟨_, (fb_cons (fs_if (ft_cmp os_gt (fe_ix (fv 0) fe_int) fe_int)
      (fb_cons (fs_set (ps_set (i := 2) sc__law_dip.nd rfl (.inl rfl) pe_S) (fe_op os_mod (fe_ix (fv 0) fe_int) (fv 1)))
      (fb_cons (fs_putL (ps_asg pe_S (pg_sub pe_S pe_S set_list)) (fe_op os_div (fe_ix (fv 0) fe_int) (fv 1)) (fv 0) fe_int)
      (fb_one (fs_ret (fv 2)))))
      fb_nil)
      (fb_cons (fs_putL (ps_asg pe_S (pg_sub pe_S pe_S set_list)) (fe_op os_add (fe_ix (fv 0) fe_int) fe_int) (fv 0) fe_int)
      (fb_cons (fs_set (ps_set (i := 3) sc__law_dip.nd rfl (.inl rfl) pe_S) (fe_op os_mod (fe_op os_pow (fe_op os_add (fe_op os_add (fe_ix (fv 0) fe_int) fe_int) (fe_op os_mul (fe_op os_mul fe_int (fe_ix (fv 0) fe_int)) (fe_ix (fv 0) fe_int))) fe_int) (fe_op os_add (fe_op os_pow fe_int fe_int) fe_int)))
      (fb_cons (fs_set (ps_set (i := 3) sc__law_dip.nd rfl (.inl rfl) pe_S) (fe_op os_mod (fe_op os_pow (fe_op os_add (fv 3) (fe_op os_mul fe_int (fe_ix (fv 0) fe_int))) fe_int) (fe_op os_add (fe_op os_pow fe_int fe_int) fe_int)))
      (fb_one (fs_ret (fe_op os_mod (fe_op os_div (fv 3) fe_int) (fv 1)))))))), fun ρ R hl h => ?_⟩
  obtain ⟨c, d, m, rfl, ⟨x, y, z, rfl, hx, hy, hy2, hz, hzc⟩, h0, h1, hc, q⟩ := h
  refine ⟨.int x, rfl, ?_⟩
  show (if decide ((0 : Int) < x) = true then _ else _)
  by_cases hx1 : (0 : Int) < x
  · rw [decide_eq_true hx1]
    refine ⟨.int x, rfl, h0, .int x, rfl, ⟨h0, h1⟩, 0, rfl, ?_⟩
    exact q _ _ _ (Int.emod_nonneg _ (by omega)) (Int.emod_lt_of_pos _ h0) ⟨_, _, _, rfl, Int.ediv_nonneg hx (by omega), hy, hy2, hz, by omega⟩
  rw [decide_eq_false hx1]
  refine ⟨.int z, rfl, 2, rfl, ?_⟩
  have e137 : (2 : Int) ^ 137 = 174224571863520493293247799005065324265472 := by decide
  have e200 : (2 : Nat) ^ 200 = 1606938044258990275541962092341162602522202993782792835301376 := by decide
  have hu : 0 ≤ (z + 1) * (z + 1) ∧ (z + 1) * (z + 1) ≤ 2000000 * 2000000 := ⟨Int.mul_nonneg (by omega) (by omega), Int.mul_le_mul (by omega) (by omega) (by omega) (by decide)⟩
  have ea : 50331653 * (z + 1) * (z + 1) = 50331653 * ((z + 1) * (z + 1)) := Int.mul_assoc _ _ _
  refine ⟨.int y, rfl, .int (z + 1), rfl, .inl (by decide), .int (z + 1), rfl, .inr (by omega), ⟨by decide, 200, ?_, by decide, by decide⟩, ⟨by decide, 4, by decide, by decide, by decide⟩, (by decide : (0 : Int) < 10 ^ Int.toNat 44 + 31), ?_⟩
  · show (y + 8191 + 50331653 * (z + 1) * (z + 1)).natAbs < 2 ^ 200
    rw [ea, e200]
    rw [e137] at hy2
    omega
  generalize (y + 8191 + 50331653 * (z + 1) * (z + 1)) ^ Int.toNat 3 = B
  have m1 := Int.emod_nonneg B (b := (10 : Int) ^ Int.toNat 44 + 31) (by decide)
  have m2 := Int.emod_lt_of_pos B (b := (10 : Int) ^ Int.toNat 44 + 31) (by decide)
  have e44 : (10 : Int) ^ Int.toNat 44 + 31 = 100000000000000000000000000000000000000000031 := by decide
  refine ⟨.int (z + 1), rfl, .inl (by decide), ⟨by decide, 200, ?_, by decide, by decide⟩, ⟨by decide, 4, by decide, by decide, by decide⟩, (by decide : (0 : Int) < 10 ^ Int.toNat 46 + 69), ?_⟩
  · show (B % ((10 : Int) ^ Int.toNat 44 + 31) + 12582917 * (z + 1)).natAbs < 2 ^ 200
    rw [e44] at m1 m2 ⊢
    rw [e200]
    omega
  refine ⟨⟨by decide, by decide⟩, h0, ?_⟩
  exact q _ _ _ (Int.emod_nonneg _ (by omega)) (Int.emod_lt_of_pos _ h0) ⟨_, _, _, rfl, hx, hy, hy2, by omega, by omega⟩
end
end K41
set_option maxRecDepth 100000
set_option maxHeartbeats 4000000
namespace K41
open PySem PySem.Spec PyProof.Rows L2 Yard YP TL
theorem okKept : OkN 1 (.lst [.str "word", .str "skip", .str "rule", .str "top", .str "bar"]) := okWs (ws := kept) fun w hw => by
  simp only [kept, List.mem_cons, List.not_mem_nil, or_false] at hw
  rcases hw with rfl | rfl | rfl | rfl | rfl <;> exact sw _
theorem any_kept (x : Str) : (([.str "word", .str "skip", .str "rule", .str "top", .str "bar"] : List D).any fun z => eqD z (.str x)) = decide (x ∈ kept) := any_strs x kept
theorem okW1 (w : Str) (h : Tk w) : OkN 1 (.lst [.str w]) := okWs (ws := [w]) fun x hx => by rw [List.mem_singleton.mp hx]; exact h
theorem eq1 (a : List Str) (w : Str) : eqD (.lst (a.map D.str)) (.lst [.str w]) = decide (a = [w]) := eqL a [w]
theorem cut1 (ws : List Str) : YP.cut (ws.map D.str) none (some 1) = (ws.take 1).map D.str := by
  rw [show (some (1 : Int)) = some ((1 : Nat) : Int) from rfl, cut_to, List.map_take]
theorem take_one : ∀ {l : List Nat} (h : 0 < l.length), l.take 1 = [l[0]]
  | _ :: _, _ => by simp
theorem numF_go (x : Str) : (numF x).isSome = true ↔ (1 ≤ x.length ∧ x.length ≤ 4) ∧ dig x = true ∧ (x.cps.toList.head? ≠ some 48 ∨ x = "0") := by
  unfold numF
  by_cases h : (1 ≤ x.length ∧ x.length ≤ 4) ∧ dig x = true ∧ (x.cps.toList.head? ≠ some 48 ∨ x = "0")
  · rw [if_pos h]; exact ⟨fun _ => h, fun _ => rfl⟩
  · rw [if_neg h]; exact ⟨fun z => (by cases z), fun z => absurd z h⟩
theorem numF_no {x : Str} (h : ¬ ((1 ≤ x.length ∧ x.length ≤ 4) ∧ dig x = true ∧ (x.cps.toList.head? ≠ some 48 ∨ x = "0"))) : (numF x).isSome = false := by
  cases e : (numF x).isSome with
  | false => rfl
  | true => exact absurd ((numF_go x).mp e) h
section
variable {P : Program} {w : World} {K : PySem.W.Frag} {mg : Str → Option Value} {base : Heap}
theorem sc__law_is_mark : FnScope ["word", "letters", "sign"] ["word"] (defScope s__law_is_mark) := ⟨rfl, rfl, rfl, by decide +kernel, rfl, by decide +kernel, by decide +kernel⟩
theorem ok__law_is_mark (T : Tx K w mg) : FnOk P w K mg base CX0 1 T.a__law_is_mark T.f__law_is_mark ["word"] (PSp K 1 uMk) := by
  refine fn_mk T.d__law_is_mark.fn sc__law_is_mark (by decide) fun cdv A outer s H E hr => ?_
  refine ⟨_, (fb_cons (fs_set (ps_set (i := 1) sc__law_is_mark.nd rfl (.inr rfl) pe_S) fe_str)
      (fb_cons (fs_if (FW.ft (fw_or (ft_cmp (os_eq (ru hr)) (fv 0) fe_str) (fw_or1 (ft_cmp (os_in (rv hr)) (fv 0) (fe_lst (fa_cons fe_str (fa_cons fe_str (fa_cons fe_str (fa_cons fe_str (fa_cons fe_str fa_nil))))))))))
      (fb_one (fs_ret (fe_cmp (os_eq (ru hr)) (fv 0) fe_str)))
      fb_nil)
      (fb_one (fs_ret (fe_and (fe_chain os_lt os_lt fe_int (fe_b cb_len (by rfl) T.z_len (by decide +kernel) (fr_ref (fv 0) fr_nil)) fe_int) (fe_one (fe_b (cb_all rfl) (by rfl) T.z_all (by decide +kernel) (fr_ref (fe_lc rfl sc__law_is_mark.nd (fi_str (fv 0)) (blkOk_by (own := [("sign", 2)]) (N := ["word", "letters", "sign"]) (sc := defScope s__law_is_mark) (by decide +kernel)) (fun _ _ _ _ _ => (fg_name (pg_name (i := 2) sc__law_is_mark.nd rfl (.inl rfl)) (by intro l e; cases e; decide +kernel))) (fun _ _ _ _ _ => fts_nil) (fun _ _ _ _ _ => (fe_cmp (os_in (rv hr)) (fv 2) (fv 1)))) fr_nil)))))))), fun ρ R hl h => ?_⟩
  obtain ⟨x, rfl, hx, q⟩ := h
  have sz := sz24
  refine set_val ?_
  refine ⟨(okTk hx).ok, (okTk (sw ".")).ok, ?_⟩
  rw [eqD_str]
  by_cases h0 : x = "."
  · rw [decide_eq_true h0]
    refine ⟨(okTk hx).ok, (okTk (sw ".")).ok, ?_⟩
    rw [eqD_str, decide_eq_true h0]
    have : mkF x = true := by unfold mkF; rw [decide_eq_true h0]; rfl
    rw [this] at q
    exact q _
  rw [decide_eq_false h0]
  refine ⟨Nat.le_trans (by decide : 5 ≤ 16777216) sz, (okTk hx).ok, okKept.ok, ?_⟩
  rw [any_kept]
  have em : mkF x = gn x := by unfold mkF; rw [decide_eq_false h0]; rfl
  rw [em] at q
  by_cases hk : x ∈ kept
  · rw [decide_eq_true hk]
    refine ⟨(okTk hx).ok, (okTk (sw ".")).ok, ?_⟩
    rw [eqD_str, decide_eq_false h0]
    have : gn x = false := by unfold gn; rw [decide_eq_true hk]; simp
    rw [this] at q
    exact q _
  rw [decide_eq_false hk]
  refine ⟨hx.sz, ?_⟩
  show (if decide ((0 : Int) < ((x.length : Nat) : Int)) = true then _ else _)
  by_cases h1 : (0 : Int) < ((x.length : Nat) : Int)
  case neg =>
    rw [decide_eq_false h1]
    have : gn x = false := by unfold gn; rw [decide_eq_false (by omega : ¬ (1 ≤ x.length ∧ x.length ≤ 8))]; rfl
    rw [this] at q
    exact q _
  rw [decide_eq_true h1]
  show (if decide (((x.length : Nat) : Int) < 9) = true then _ else _)
  by_cases h8 : ((x.length : Nat) : Int) < 9
  case neg =>
    rw [decide_eq_false h8]
    have : gn x = false := by unfold gn; rw [decide_eq_false (by omega : ¬ (1 ≤ x.length ∧ x.length ≤ 8))]; rfl
    rw [this] at q
    exact q _
  rw [decide_eq_true h8]
  refine ⟨fun i acc ρ => acc = ((x.cps.toList.take i).map fun c => D.bl (decide (c ∈ ltr.cps.toList))) ∧ ρ = [.sl false true (.str x), dat (.str ltr), .un], ⟨rfl, rfl⟩, ?_, ?_, ?_⟩
  · rintro i y acc ρ hi ⟨rfl, rfl⟩
    rw [List.getElem?_map] at hi
    obtain ⟨z, hz, rfl⟩ := Option.map_eq_some_iff.mp hi
    have lx : x.cps.toList.length = x.length := Array.length_toList
    refine ⟨z, rfl, by rw [List.length_map, List.length_take]; omega, ?_, rfl⟩
    rw [List.take_succ, hz, List.map_append, Bool.false_xor]; rfl
  · rintro i acc ρ ⟨_, rfl⟩
    exact ⟨_, (rfl : _ = YP.wipeS [.sl false true (.str x), dat (.str ltr), .un] [2])⟩
  rintro acc ρ ⟨rfl, rfl⟩
  rw [List.length_map, List.take_length]
  refine ⟨x.cps.toList.map fun c => decide (c ∈ ltr.cps.toList), by rw [List.map_map]; rfl, ?_⟩
  rw [all_map]
  have : gn x = x.cps.toList.all fun c => decide (c ∈ ltr.cps.toList) := by
    unfold gn
    rw [decide_eq_false hk, decide_eq_true (by omega : 1 ≤ x.length ∧ x.length ≤ 8)]
    rfl
  rw [this] at q
  exact q _
theorem sc__law_is_number : FnScope ["word", "sign"] ["word"] (defScope s__law_is_number) := ⟨rfl, rfl, rfl, by decide +kernel, rfl, by decide +kernel, by decide +kernel⟩
theorem ok__law_is_number (T : Tx K w mg) : FnOk P w K mg base CX0 1 T.a__law_is_number T.f__law_is_number ["word"] (PSp K 1 uNumB) := by
  refine fn_mk T.d__law_is_number.fn sc__law_is_number (by decide) fun cdv A outer s H E hr => ?_
  refine ⟨_, (fb_cons (fs_if (FW.ft (fw_or (ft_not (ft_chain os_lt os_lt fe_int (fe_b cb_len (by rfl) T.z_len (by decide +kernel) (fr_ref (fv 0) fr_nil)) fe_int)) (fw_or1 (ft_not (ft_tru (fe_b (cb_all rfl) (by rfl) T.z_all (by decide +kernel) (fr_ref (fe_lc rfl sc__law_is_number.nd (fi_str (fv 0)) (blkOk_by (own := [("sign", 1)]) (N := ["word", "sign"]) (sc := defScope s__law_is_number) (by decide +kernel)) (fun _ _ _ _ _ => (fg_name (pg_name (i := 1) sc__law_is_number.nd rfl (.inl rfl)) (by intro l e; cases e; decide +kernel))) (fun _ _ _ _ _ => fts_nil) (fun _ _ _ _ _ => (fe_cmp (os_in (rv hr)) (fv 1) fe_str))) fr_nil)))))))
      (fb_one (fs_ret fe_bl))
      fb_nil)
      (fb_one (fs_ret (fe_or (fe_cmp (os_eq (ru hr)) (fv 0) fe_str) (fe_one (fe_cmp (os_ne (ru hr)) (fe_sl (fv 0) fo_no (fo_int fe_int)) fe_str)))))), fun ρ R hl h => ?_⟩
  obtain ⟨x, rfl, hx, q⟩ := h
  have sz := sz24
  have lx : x.cps.toList.length = x.length := Array.length_toList
  refine ⟨hx.sz, ?_⟩
  show (if decide ((0 : Int) < ((x.length : Nat) : Int)) = true then _ else _)
  by_cases h0 : (0 : Int) < ((x.length : Nat) : Int)
  case neg =>
    rw [decide_eq_false h0]
    rw [numF_no (fun z => by omega)] at q
    exact q _
  rw [decide_eq_true h0]
  show (if (!decide (((x.length : Nat) : Int) < 5)) = true then _ else _)
  by_cases h4 : ((x.length : Nat) : Int) < 5
  case neg =>
    rw [decide_eq_false h4]
    rw [numF_no (fun z => by omega)] at q
    exact q _
  rw [decide_eq_true h4]
  refine ⟨fun i acc ρ => acc = ((x.cps.toList.take i).map fun c => D.bl (decide (c ∈ fig.cps.toList))) ∧ ρ = [.sl false true (.str x), .un], ⟨rfl, rfl⟩, ?_, ?_, ?_⟩
  · rintro i y acc ρ hi ⟨rfl, rfl⟩
    rw [List.getElem?_map] at hi
    obtain ⟨z, hz, rfl⟩ := Option.map_eq_some_iff.mp hi
    refine ⟨z, rfl, by rw [List.length_map, List.length_take]; omega, ?_, rfl⟩
    rw [List.take_succ, hz, List.map_append, Bool.false_xor]; rfl
  · rintro i acc ρ ⟨_, rfl⟩
    exact ⟨_, (rfl : _ = YP.wipeS [.sl false true (.str x), .un] [1])⟩
  rintro acc ρ ⟨rfl, rfl⟩
  rw [List.length_map, List.take_length]
  refine ⟨x.cps.toList.map fun c => decide (c ∈ fig.cps.toList), by rw [List.map_map]; rfl, ?_⟩
  rw [all_map]
  show (if (!dig x) = true then _ else _)
  cases hd : dig x with
  | false =>
    rw [numF_no (fun z => by rw [hd] at z; exact absurd z.2.1 (by decide))] at q
    exact q _
  | true =>
    have h00 : 0 < x.cps.toList.length := by omega
    have hc := dig_iff.mp hd _ (List.getElem_mem h00)
    refine ⟨(okTk hx).ok, (okTk (sw "0")).ok, ?_⟩
    rw [eqD_str]
    by_cases hz : x = "0"
    · rw [decide_eq_true hz]
      rw [(numF_go x).mpr ⟨⟨by omega, by omega⟩, hd, .inr hz⟩] at q
      exact q _
    rw [decide_eq_false hz]
    have ec : (cutS x none (some 1)).cps.toList = [x.cps.toList[0]] := by
      show (x.cps.toList.drop (HT.sIx x.length 0 none)).take (HT.sIx x.length x.length (some ((1 : Nat) : Int)) - HT.sIx x.length 0 none) = _
      rw [HT.sIx_none, HT.sIx_nat, List.drop_zero, Nat.min_eq_left (by omega), Nat.sub_zero]
      exact take_one h00
    have e2 : x.cps.toList.head? = some x.cps.toList[0] := by rw [← List.head_eq_getElem (List.ne_nil_of_length_pos h00)]; exact List.head?_eq_some_head _
    refine ⟨hx.sz, (okN_str (ok_codes.mpr fun c hc' => ?_)).ok, (okTk (sw "0")).ok, ?_⟩
    · rw [ec] at hc'
      rw [List.mem_singleton.mp hc']; omega
    rw [eqD_str]
    by_cases h48 : x.cps.toList[0] = 48
    · have e1 : cutS x none (some 1) = "0" := ext_tl (by show (cutS x none (some 1)).cps.toList = _; rw [ec, h48]; decide +kernel)
      rw [decide_eq_true e1]
      rw [numF_no (fun z => by rcases z.2.2 with z | z; exact z (by rw [e2, h48]); exact hz z)] at q
      exact q _
    · have e1 : cutS x none (some 1) ≠ "0" := fun z => by
        rw [z] at ec
        exact h48 (List.cons.inj (show [48] = [x.cps.toList[0]] from ec)).1.symm
      rw [decide_eq_false e1]
      rw [(numF_go x).mpr ⟨⟨by omega, by omega⟩, hd, .inl (by rw [e2]; exact fun z => h48 (Option.some.inj z))⟩] at q
      exact q _
theorem sc__law_is_deed : FnScope ["words"] ["words"] (defScope s__law_is_deed) := ⟨rfl, rfl, rfl, by decide +kernel, rfl, by decide +kernel, by decide +kernel⟩
theorem ok__law_is_deed (T : Tx K w mg) : FnOk P w K mg base CX0 2 T.a__law_is_deed T.f__law_is_deed ["words"] (PSp K 1 uPart) := by
  refine fn_mk T.d__law_is_deed.fn sc__law_is_deed (by decide) fun cdv A outer s H E hr => ?_
  refine ⟨_, (fb_cons (fs_if (ft_cmp (os_eq (ru hr)) (fv 0) (fe_lst (fa_cons fe_str fa_nil)))
      (fb_one (fs_ret fe_bl))
      fb_nil)
      (fb_cons (fs_if (ft_cmp (os_eq (ru hr)) (fe_sl (fv 0) fo_no (fo_int fe_int)) (fe_lst (fa_cons fe_str fa_nil)))
      (fb_one (fs_ret (fe_and (fe_cmp (os_eq (ru hr)) (fe_b cb_len (by rfl) T.z_len (by decide +kernel) (fr_ref (fv 0) fr_nil)) fe_int) (fe_one (fe_call (ok__law_is_number T) (hr.mono (by omega)) (by rfl) T.d__law_is_number.at_ T.d__law_is_number.kp T.d__law_is_number.bd (fr_val (fe_ix (fv 0) fe_int) fr_nil))))))
      fb_nil)
      (fb_cons (fs_if (FW.ft (fw_or (ft_cmp (os_ne (ru hr)) (fe_sl (fv 0) fo_no (fo_int fe_int)) (fe_lst (fa_cons fe_str fa_nil))) (fw_or (ft_cmp (os_ne (ru hr)) (fe_b cb_len (by rfl) T.z_len (by decide +kernel) (fr_ref (fv 0) fr_nil)) fe_int) (fw_or1 (ft_not (ft_tru (fe_call (ok__law_is_number T) (hr.mono (by omega)) (by rfl) T.d__law_is_number.at_ T.d__law_is_number.kp T.d__law_is_number.bd (fr_val (fe_ix (fv 0) fe_int) fr_nil))))))))
      (fb_one (fs_ret fe_bl))
      fb_nil)
      (fb_one (fs_ret (fe_and (fe_call (ok__law_is_mark T) (hr.mono (by omega)) (by rfl) T.d__law_is_mark.at_ T.d__law_is_mark.kp T.d__law_is_mark.bd (fr_val (fe_ix (fv 0) fe_int) fr_nil)) (fe_one (fe_call (ok__law_is_mark T) (hr.mono (by omega)) (by rfl) T.d__law_is_mark.at_ T.d__law_is_mark.kp T.d__law_is_mark.bd (fr_val (fe_ix (fv 0) fe_int) fr_nil))))))))), fun ρ R hl h => ?_⟩
  obtain ⟨ws, rfl, hw, hl, q⟩ := h
  have sz := sz24
  have s1 : 1 ≤ sizeLine := by omega
  have lm : (ws.map D.str).length = ws.length := List.length_map _
  have okT : OkN 1 (.lst ((ws.take 1).map D.str)) := okWs fun w hw' => hw w (List.mem_of_mem_take hw')
  refine ⟨s1, (okWs hw).ok, (okW1 _ (sw "done")).ok, ?_⟩
  rw [show eqD (wsD ws) (.lst [.str "done"]) = decide (ws = [("done" : Str)]) from eqL ws [("done" : Str)]]
  by_cases hd : ws = [("done" : Str)]
  · rw [decide_eq_true hd]
    rw [hd] at q
    exact q _
  rw [decide_eq_false hd]
  have c1 := cut1 ws
  refine ⟨s1, by rw [c1]; exact okT.ok, (okW1 _ (sw "go")).ok, ?_⟩
  rw [c1, eq1]
  have t1 : ∀ w : Str, ws.take 1 = [w] ↔ ∃ r, ws = w :: r := fun w => by
    cases ws with
    | nil => simp
    | cons a r => simp
  by_cases hg : ws.take 1 = [("go" : Str)]
  · rw [decide_eq_true hg]
    obtain ⟨r, rfl⟩ := (t1 _).mp hg
    refine ⟨okN_int.ok, okN_int.ok, ?_⟩
    rw [eqD_int]
    by_cases h2 : r.length = 1
    · obtain ⟨b, rfl⟩ : ∃ b, r = [b] := by
        match r, h2 with
        | [b], _ => exact ⟨b, rfl⟩
      rw [decide_eq_true (by rfl)]
      refine ⟨.str b, atW (j := 1) rfl, List.nodup_nil, b, rfl, hw b (by simp), fun s => ?_⟩
      dsimp only
      rw [wb_no (rs := [.val (.str b)]) [s] rfl]
      have : (partF [("go" : Str), b]).isSome = (numF b).isSome := by
        show (if ("go" : Str) = "go" then (numF b).map DE.go else none).isSome = _
        rw [if_pos rfl]; cases numF b <;> rfl
      rw [this] at q
      exact q _
    · rw [decide_eq_false (by simp only [List.length_map, List.length_cons]; omega)]
      have : (partF (("go" : Str) :: r)).isSome = false := by
        unfold partF
        split
        · rename_i a e
          rw [if_neg]
          · rfl
          · intro z; exact hd (by rw [e, z])
        · rename_i a b e
          exact absurd (by rw [(List.cons.inj e).2]; rfl) h2
        · rename_i a b c d e
          rw [if_neg]
          · rfl
          · rintro ⟨z, _⟩
            rw [← (List.cons.inj e).1] at z
            exact absurd z (by decide +kernel)
        · rfl
      rw [this] at q
      exact q _
  rw [decide_eq_false hg]
  refine ⟨s1, by rw [c1]; exact okT.ok, (okW1 _ (sw "by")).ok, ?_⟩
  rw [c1, eq1]
  have no : (ws.take 1 ≠ [("by" : Str)] ∨ ws.length ≠ 4) → (partF ws).isSome = false := fun z => by
    unfold partF
    split
    · rw [if_neg]
      · rfl
      · intro z; exact hd (by rw [z])
    · rw [if_neg]
      · rfl
      · intro z; exact hg (by rw [z]; rfl)
    · rw [if_neg]
      · rfl
      · rintro ⟨z1, _⟩
        rcases z with z | z
        · exact z (by rw [z1]; rfl)
        · exact z rfl
    · rfl
  by_cases hb : ws.take 1 = [("by" : Str)]
  case neg =>
    rw [decide_eq_false hb]
    rw [no (.inl hb)] at q
    exact q _
  rw [decide_eq_true hb]
  refine ⟨okN_int.ok, okN_int.ok, ?_⟩
  rw [eqD_int]
  by_cases h4 : ws.length = 4
  case neg =>
    rw [decide_eq_false (by rw [lm]; omega)]
    rw [no (.inr h4)] at q
    exact q _
  rw [decide_eq_true (by rw [lm]; omega)]
  obtain ⟨x, y, z, u, rfl⟩ := four h4
  have hx : x = "by" := (List.cons.inj hb).1
  have tz := hw z (by simp)
  refine ⟨.str z, atW (j := 2) rfl, List.nodup_nil, z, rfl, tz, fun s => ?_⟩
  dsimp only
  rw [wb_no (rs := [.val (.str z)]) [s] rfl]
  have e0 : partF [x, y, z, u] = if x = "by" ∧ mkF y = true ∧ mkF u = true then (numF z).map fun n => DE.by y n u else none := rfl
  cases hn : numF z with
  | none =>
    have : (partF [x, y, z, u]).isSome = false := by rw [e0, hn]; split <;> rfl
    rw [this] at q
    exact q _
  | some n =>
  refine ⟨.str y, atW (j := 1) rfl, List.nodup_nil, y, rfl, hw y (by simp), fun s => ?_⟩
  dsimp only
  rw [wb_no (rs := [.val (.str y)]) [s] rfl]
  cases hy : mkF y with
  | false =>
    have : (partF [x, y, z, u]).isSome = false := by rw [e0, if_neg]; rfl; rintro ⟨_, h, _⟩; rw [hy] at h; cases h
    rw [this] at q
    exact q _
  | true =>
  refine ⟨.str u, atW (j := 3) rfl, List.nodup_nil, u, rfl, hw u (by simp), fun s => ?_⟩
  dsimp only
  rw [wb_no (rs := [.val (.str u)]) [s] rfl]
  have : (partF [x, y, z, u]).isSome = mkF u := by
    rw [e0, hn]
    cases hu : mkF u with
    | false => rw [if_neg]; rfl; rintro ⟨_, _, h⟩; cases h
    | true => rw [if_pos ⟨hx, hy, rfl⟩]; rfl
  rw [this] at q
  exact q _
end
end K41
set_option maxRecDepth 100000
set_option maxHeartbeats 4000000
namespace K41
open PySem PySem.Spec PyProof.Rows L2 Yard YP TL
theorem ltr_len : ltr.cps.toList.length = 26 := by decide +kernel
theorem sum_one : ∀ l : List Nat, ((l.map one).map (·.length)).sum = l.length
  | [] => rfl
  | a :: l => by
    show 1 + ((l.map one).map (·.length)).sum = l.length + 1
    rw [sum_one l]; omega
theorem toS_all {l : List Nat} (h : ∀ c ∈ l, c ∈ ltr.cps.toList) (h1 : 1 ≤ l.length) (h8 : l.length ≤ 8) (hk : toS l ∉ kept) : mkF (toS l) = true := by
  unfold mkF gn
  rw [decide_eq_true (by rw [toS_len]; omega : 1 ≤ (toS l).length ∧ (toS l).length ≤ 8), decide_eq_false hk, toS_cps]
  have : (l.all fun c => decide (c ∈ ltr.cps.toList)) = true := List.all_eq_true.mpr fun c hc => decide_eq_true (h c hc)
  rw [this]
  cases decide (toS l = ".") <;> rfl
theorem tk_ltrs {l : List Nat} (h : ∀ c ∈ l, c ∈ ltr.cps.toList) (h8 : l.length ≤ 8) : Tk (toS l) := ⟨strOk_toS fun c hc => by have := mem_ltr (h c hc); omega, by rw [toS_len]; omega⟩
section
variable {P : Program} {w : World} {K : PySem.W.Frag} {mg : Str → Option Value} {base : Heap}
def uMark : UF := fun ρ R => ∃ (c : Nat) (d : D), ρ = [own d] ∧ WlOk c d ∧ c + 12 < 1000000 ∧ ∀ (m : Str) d2, mkF m = true → WlOk (c + 12) d2 → R (.val (.str m)) [own d2]
def uNum : UF := fun ρ R => ∃ (c : Nat) (d : D), ρ = [own d] ∧ WlOk c d ∧ c + 4 < 1000000 ∧ ∀ (n : Nat) d2, n < 10000 → WlOk (c + 4) d2 → R (.val (.int (n : Int))) [own d2]
theorem sc__law_mark : FnScope ["well", "way", "letters", "called", "sign"] ["well"] (defScope s__law_mark) := ⟨rfl, rfl, rfl, by decide +kernel, rfl, by decide +kernel, by decide +kernel⟩
theorem ok__law_mark (T : Tx K w mg) : FnOk P w K mg base CX0 2 T.a__law_mark T.f__law_mark ["well"] (PSp K 1 uMark) := by
  refine fn_mk T.d__law_mark.fn sc__law_mark (by decide) fun cdv A outer s H E hr => ?_
  refine ⟨_, (fb_cons (fs_set (ps_set (i := 1) sc__law_mark.nd rfl (.inl rfl) pe_S) (fe_call (ok__law_dip T) (hr.mono (by omega)) (by rfl) T.d__law_dip.at_ T.d__law_dip.kp T.d__law_dip.bd (fr_ref (fv 0) (fr_val fe_int fr_nil))))
      (fb_cons (fs_set (ps_set (i := 2) sc__law_mark.nd rfl (.inr rfl) pe_S) fe_str)
      (fb_cons (fs_set (ps_set (i := 3) sc__law_mark.nd rfl (.inl rfl) pe_S) (fe_join fe_str (fe_lc rfl sc__law_mark.nd (fi_range1 (by rfl) T.z_range (fa_cons (fe_op os_add fe_int (fe_call (ok__law_dip T) (hr.mono (by omega)) (by rfl) T.d__law_dip.at_ T.d__law_dip.kp T.d__law_dip.bd (fr_ref (fv 0) (fr_val fe_int fr_nil)))) fa_nil)) (blkOk_by (own := [("sign", 4)]) (N := ["well", "way", "letters", "called", "sign"]) (sc := defScope s__law_mark) (by decide +kernel)) (fun _ _ _ _ _ => (fg_name (pg_name (i := 4) sc__law_mark.nd rfl (.inl rfl)) (by intro l e; cases e; decide +kernel))) (fun _ _ _ _ _ => fts_nil) (fun _ _ _ _ _ => (fe_ix (fv 2) (fe_call (ok__law_dip T) (hr.mono (by omega)) (by rfl) T.d__law_dip.at_ T.d__law_dip.kp T.d__law_dip.bd (fr_ref (fv 0) (fr_val fe_int fr_nil))))))))
      (fb_cons (fs_if (ft_cmp (os_eq (ru hr)) (fv 1) fe_int)
      (fb_one (fs_ret fe_str))
      fb_nil)
      (fb_cons (fs_if (ft_cmp (os_in (rv hr)) (fv 3) (fe_lst (fa_cons fe_str (fa_cons fe_str (fa_cons fe_str (fa_cons fe_str (fa_cons fe_str fa_nil)))))))
      (fb_one (fs_ret fe_str))
      fb_nil)
      (fb_one (fs_ret (fe_ix (fe_lst (fa_cons fe_str (fa_cons fe_str (fa_cons (fv 3) (fa_cons (fv 3) fa_nil))))) (fe_call (ok__law_dip T) (hr.mono (by omega)) (by rfl) T.d__law_dip.at_ T.d__law_dip.kp T.d__law_dip.bd (fr_ref (fv 0) (fr_val fe_int fr_nil))))))))))), fun ρ R hl h => ?_⟩
  obtain ⟨c, d, rfl, hj, hc, q⟩ := h
  have sz := sz24
  refine seq_cut (fun ρ => ∃ (d' : D) (r : Int), WlOk (c + 1) d' ∧ 0 ≤ r ∧ r < 4 ∧ ρ = [.sl true true d', dat (.int r), .un, .un, .un]) ?rest0 fun rest => ?here0
  case here0 =>
    refine ⟨nd1 _, c, d, 4, rfl, hj, by decide, by decide, by omega, fun r d' t r0 r1 j' => ?_⟩
    exact rest _ ⟨d', r, j', r0, r1, rfl⟩
  rintro ρ ⟨d1, r, j1, r0, r1, rfl⟩
  refine set_val ?_
  refine seq_cut (fun ρ => ∃ (d' : D) (l : List Nat), WlOk (c + 10) d' ∧ 1 ≤ l.length ∧ l.length ≤ 8 ∧ (∀ x ∈ l, x ∈ ltr.cps.toList) ∧ ρ = [.sl true true d', dat (.int r), dat (.str ltr), dat (.str (toS l)), .un]) ?rest1 fun rest => ?here1
  case here1 =>
    refine ⟨nd1 _, c + 1, d1, 8, rfl, j1, by decide, by decide, by omega, fun r2 d2 t r20 r21 j2 => ?_⟩
    obtain ⟨r2, rfl⟩ : ∃ m : Nat, r2 = m := ⟨r2.toNat, by omega⟩
    refine ⟨by show -2 ^ 62 ≤ (1 : Int) + (r2 : Int); omega, by show (1 : Int) + (r2 : Int) < 2 ^ 62; omega, ?_⟩
    refine ⟨fun v acc ρ => ∃ (d4 : D) (l : List Nat), acc = (l.map one).map D.str ∧ l.length = v ∧ (∀ x ∈ l, x ∈ ltr.cps.toList) ∧ WlOk (c + 2 + v) d4 ∧ ρ = [.sl true true d4, dat (.int r), dat (.str ltr), .un, .un], ⟨d2, [], rfl, rfl, fun _ h => (nomatch h), j2, rfl⟩, ?_, ?_, ?_⟩
    · rintro v y acc ρ hv ⟨d4, l, rfl, lw, hw, j4, rfl⟩
      obtain ⟨lv, rfl⟩ := intsD_get hv
      have lv8 : v < 8 := by omega
      refine ⟨nd1 _, c + 2 + v, d4, 26, rfl, j4, by decide, by decide, by omega, fun r5 d5 t5 r50 r51 j5 => ?_⟩
      obtain ⟨r5, rfl⟩ : ∃ m : Nat, r5 = m := ⟨r5.toNat, by omega⟩
      have h26 : r5 < ltr.cps.toList.length := by rw [ltr_len]; omega
      refine ⟨(sw ltr).sz, ltr.cps.toList[r5], atI_nat (List.getElem?_eq_getElem h26), ?_⟩
      refine ⟨by rw [List.length_map, List.length_map]; omega, d5, l ++ [ltr.cps.toList[r5]], by rw [List.map_append, List.map_append]; rfl, by rw [List.length_append, lw]; rfl, fun s hs => ?_, j5, rfl⟩
      rcases List.mem_append.mp hs with hs | hs
      · exact hw s hs
      · rw [List.mem_singleton.mp hs]; exact List.getElem_mem h26
    · rintro v acc ρ ⟨d4, l, _, _, _, _, rfl⟩
      exact ⟨_, (rfl : _ = YP.wipeS [.sl true true d4, dat (.int r), dat (.str ltr), .un, .un] [4])⟩
    rintro acc ρ ⟨d4, l, rfl, lw, hw, j4, rfl⟩
    have lw : l.length = 1 + r2 := by rw [lw, intsD_len]; omega
    refine ⟨l.map one, rfl, by rw [sum_one, List.length_map]; show l.length + l.length * 0 ≤ _; omega, ?_⟩
    rw [show Txt.join "" (l.map one) = toS l from joined l]
    exact rest [.sl true true d4, dat (.int r), dat (.str ltr), dat (.str (toS l)), .un] ⟨d4, l, j4.mono (by rw [intsD_len]; omega), by omega, by omega, hw, rfl⟩
  rintro ρ ⟨d2, l, j2, l1, l8, hw, rfl⟩
  refine ⟨okN_int.ok, okN_int.ok, ?_⟩
  rw [eqD_int]
  by_cases h0 : r = 0
  · rw [decide_eq_true h0]
    exact q "." d2 (by decide +kernel) (j2.mono (by omega))
  rw [decide_eq_false h0]
  refine ⟨Nat.le_trans (by decide : 5 ≤ 16777216) sz, (okTk (tk_ltrs hw l8)).ok, okKept.ok, ?_⟩
  rw [any_kept]
  by_cases hk : toS l ∈ kept
  · rw [decide_eq_true hk]
    exact q "state" d2 (by decide +kernel) (j2.mono (by omega))
  rw [decide_eq_false hk]
  refine ⟨Nat.le_trans (by decide : 4 ≤ 16777216) sz, ?_⟩
  refine ⟨nd1 _, c + 10, d2, 4, rfl, j2, by decide, by decide, by omega, fun r5 d5 t5 r50 r51 j5 => ?_⟩
  have hm := toS_all hw l1 l8 hk
  obtain ⟨m, em, hm'⟩ : ∃ m, L2.atI [D.str "on", D.str "item", D.str (toS l), D.str (toS l)] r5 = some (.str m) ∧ mkF m = true := by
    rcases (by omega : r5 = 0 ∨ r5 = 1 ∨ r5 = 2 ∨ r5 = 3) with h | h | h | h <;> subst h
    · exact ⟨"on", rfl, by decide +kernel⟩
    · exact ⟨"item", rfl, by decide +kernel⟩
    · exact ⟨toS l, rfl, hm⟩
    · exact ⟨toS l, rfl, hm⟩
  exact ⟨_, em, q m d5 hm' (j5.mono (by omega))⟩
theorem sc__law_number : FnScope ["well"] ["well"] (defScope s__law_number) := ⟨rfl, rfl, rfl, by decide +kernel, rfl, by decide +kernel, by decide +kernel⟩
theorem ok__law_number (T : Tx K w mg) : FnOk P w K mg base CX0 2 T.a__law_number T.f__law_number ["well"] (PSp K 1 uNum) := by
  refine fn_mk T.d__law_number.fn sc__law_number (by decide) fun cdv A outer s H E hr => ?_
  refine ⟨_, (fb_one (fs_ret (fe_ix (fe_lst (fa_cons (fe_call (ok__law_dip T) (hr.mono (by omega)) (by rfl) T.d__law_dip.at_ T.d__law_dip.kp T.d__law_dip.bd (fr_ref (fv 0) (fr_val fe_int fr_nil))) (fa_cons (fe_call (ok__law_dip T) (hr.mono (by omega)) (by rfl) T.d__law_dip.at_ T.d__law_dip.kp T.d__law_dip.bd (fr_ref (fv 0) (fr_val fe_int fr_nil))) (fa_cons (fe_call (ok__law_dip T) (hr.mono (by omega)) (by rfl) T.d__law_dip.at_ T.d__law_dip.kp T.d__law_dip.bd (fr_ref (fv 0) (fr_val fe_int fr_nil))) fa_nil)))) (fe_call (ok__law_dip T) (hr.mono (by omega)) (by rfl) T.d__law_dip.at_ T.d__law_dip.kp T.d__law_dip.bd (fr_ref (fv 0) (fr_val fe_int fr_nil)))))), fun ρ R hl h => ?_⟩
  obtain ⟨c, d, rfl, hj, hc, q⟩ := h
  have sz := sz24
  refine ⟨nd1 _, c, d, 10, rfl, hj, by decide, by decide, by omega, fun r1 d1 t1 r10 r11 j1 => ?_⟩
  refine ⟨nd1 _, c + 1, d1, 200, rfl, j1, by decide, by decide, by omega, fun r2 d2 t2 r20 r21 j2 => ?_⟩
  refine ⟨nd1 _, c + 2, d2, 10000, rfl, j2, by decide, by decide, by omega, fun r3 d3 t3 r30 r31 j3 => ?_⟩
  refine ⟨Nat.le_trans (by decide : 3 ≤ 16777216) sz, ?_⟩
  refine ⟨nd1 _, c + 3, d3, 3, rfl, j3, by decide, by decide, by omega, fun r4 d4 t4 r40 r41 j4 => ?_⟩
  obtain ⟨n, em, hn⟩ : ∃ n : Nat, L2.atI [D.int r1, D.int r2, D.int r3] r4 = some (.int (n : Int)) ∧ n < 10000 := by
    rcases (by omega : r4 = 0 ∨ r4 = 1 ∨ r4 = 2) with h | h | h <;> subst h
    · exact ⟨r1.toNat, by rw [Int.toNat_of_nonneg r10]; rfl, by omega⟩
    · exact ⟨r2.toNat, by rw [Int.toNat_of_nonneg r20]; rfl, by omega⟩
    · exact ⟨r3.toNat, by rw [Int.toNat_of_nonneg r30]; rfl, by omega⟩
  exact ⟨_, em, q n d4 hn (j4.mono (by omega))⟩
end
end K41
set_option maxRecDepth 100000
set_option maxHeartbeats 4000000
namespace K41
open PySem PySem.Spec PyProof.Rows L2 Yard YP TL
/-! ### deeds are put into dicts -/
def dput (ms : List (Str × DE)) (x : Str) (n : DE) : List (Str × DE) := if (ms.any fun p => decide (p.1 = x)) = true then ms.map (fun p => if p.1 = x then (p.1, n) else p) else ms ++ [(x, n)]
theorem inr_dec {a b : Str} : decide ((Sum.inr a : Key) = .inr b) = decide (a = b) := by
  by_cases h : a = b
  · subst h; simp
  · rw [decide_eq_false h, decide_eq_false (fun z => h (Sum.inr.inj z))]
theorem desL_put (ms : List (Str × DE)) (x : Str) (n : DE) : kput (desL ms) (.inr x) n.d = desL (dput ms x n) := by
  have e : ((desL ms).any fun kv => decide (kv.1 = .inr x)) = ms.any fun p => decide (p.1 = x) := by
    unfold desL
    rw [List.any_map]
    congr 1
    funext p
    exact inr_dec
  unfold kput dput
  rw [e]
  split
  · unfold desL
    rw [List.map_map, List.map_map]
    refine List.map_congr_left fun p _ => ?_
    show (if (Sum.inr p.1 : Key) = Sum.inr x then ((Sum.inr p.1 : Key), n.d) else ((Sum.inr p.1 : Key), p.2.d)) = ((Sum.inr (if p.1 = x then (p.1, n) else p).1 : Key), (if p.1 = x then (p.1, n) else p).2.d)
    by_cases h : p.1 = x
    · rw [if_pos (by rw [h]), if_pos h]
    · rw [if_neg (fun z => h (Sum.inr.inj z)), if_neg h]
  · unfold desL
    rw [List.map_append]; rfl
theorem dput_len (ms : List (Str × DE)) (x : Str) (n : DE) : (dput ms x n).length ≤ ms.length + 1 := by
  unfold dput
  split
  · rw [List.length_map]; omega
  · rw [List.length_append]; exact Nat.le_refl _
theorem dput_mem {ms : List (Str × DE)} {x : Str} {n : DE} {p : Str × DE} (h : p ∈ dput ms x n) : p ∈ ms ∨ p = (x, n) := by
  unfold dput at h
  split at h
  · obtain ⟨q, hq, e⟩ := List.mem_map.mp h
    by_cases hx : q.1 = x
    · rw [if_pos hx] at e; right; rw [← e, hx]
    · rw [if_neg hx] at e; left; rw [← e]; exact hq
  · rcases List.mem_append.mp h with h | h
    · exact .inl h
    · exact .inr (List.mem_singleton.mp h)
structure DsOk (l : List (Str × DE)) : Prop where
  ok : ∀ p ∈ l, mkF p.1 = true ∧ p.2.Ok
  nd : (l.map (·.1)).Nodup
theorem DsOk.put {ms : List (Str × DE)} {x : Str} {n : DE} (h : DsOk ms) (tx : mkF x = true) (hn : n.Ok) : DsOk (dput ms x n) := by
  refine ⟨fun p hp => ?_, ?_⟩
  · rcases dput_mem hp with hp | hp
    · exact h.ok p hp
    · rw [hp]; exact ⟨tx, hn⟩
  · unfold dput
    split
    · rw [List.map_map]
      have : ms.map ((fun x => x.1) ∘ fun p => if p.1 = x then (p.1, n) else p) = ms.map (·.1) := List.map_congr_left fun p _ => by
        show (if p.1 = x then (p.1, n) else p).1 = p.1
        split <;> rfl
      rw [this]; exact h.nd
    · rename_i hx
      rw [List.map_append]
      refine List.nodup_append.mpr ⟨h.nd, by simp, fun a ha b hb => ?_⟩
      rw [List.mem_singleton.mp hb]
      rintro rfl
      obtain ⟨p, hp, e⟩ := List.mem_map.mp ha
      exact hx (List.any_eq_true.mpr ⟨p, hp, decide_eq_true e⟩)
/-- a drawn state, a drawn table -/
structure SGood (s : ST) : Prop where
  its : ∀ x ∈ s.its, x.Ok ∧ x.ah.length ≤ 3
  li : s.its.length ≤ 3
  des : DsOk s.des
  ld : s.des.length ≤ 3
theorem SGood.ok {s : ST} (h : SGood s) : s.Ok := ⟨fun x hx => (h.its x hx).1, h.des.ok⟩
structure Good (ss : List ST) : Prop where
  st : ∀ s ∈ ss, SGood s
  len : ss.length ≤ 104
  ne : ss ≠ []
section
variable {P : Program} {w : World} {K : PySem.W.Frag} {mg : Str → Option Value} {base : Heap}
def uDrawn : UF := fun ρ R => ∃ (d : D), ρ = [own d] ∧ WlOk 0 d ∧ ∀ (ss : List ST) d2, Good ss → R (.val (tblD ss)) [own d2]
theorem sc__law_drawn : FnScope ["well", "states", "deeds", "great", "few", "k", "items", "j", "ahead", "some", "way", "deed", "one"] ["well"] (defScope s__law_drawn) := ⟨rfl, rfl, rfl, by decide +kernel, rfl, by decide +kernel, by decide +kernel⟩
theorem ok__law_drawn (T : Tx K w mg) : FnOk P w K mg base CX0 3 T.a__law_drawn T.f__law_drawn ["well"] (PSp K 1 uDrawn) := by
  refine fn_mk T.d__law_drawn.fn sc__law_drawn (by decide) fun cdv A outer s H E hr => ?_
  refine ⟨_, (fb_cons (fs_set (ps_set (i := 1) sc__law_drawn.nd rfl (.inl rfl) pe_S) (fe_lst fa_nil))
      (fb_cons (fs_set (ps_set (i := 2) sc__law_drawn.nd rfl (.inl rfl) pe_S) (fe_lst fa_nil))
      (fb_cons (fs_set (ps_set (i := 3) sc__law_drawn.nd rfl (.inl rfl) pe_S) (fe_call (ok__law_dip T) (hr.mono (by omega)) (by rfl) T.d__law_dip.at_ T.d__law_dip.kp T.d__law_dip.bd (fr_ref (fv 0) (fr_val fe_int fr_nil))))
      (fb_cons (fs_set (ps_set (i := 4) sc__law_drawn.nd rfl (.inl rfl) pe_S) (fe_ix (fe_lst (fa_cons (fe_op os_add fe_int (fe_call (ok__law_dip T) (hr.mono (by omega)) (by rfl) T.d__law_dip.at_ T.d__law_dip.kp T.d__law_dip.bd (fr_ref (fv 0) (fr_val fe_int fr_nil)))) (fa_cons (fe_op os_add fe_int (fe_call (ok__law_dip T) (hr.mono (by omega)) (by rfl) T.d__law_dip.at_ T.d__law_dip.kp T.d__law_dip.bd (fr_ref (fv 0) (fr_val fe_int fr_nil)))) (fa_cons (fe_op os_add fe_int (fe_call (ok__law_dip T) (hr.mono (by omega)) (by rfl) T.d__law_dip.at_ T.d__law_dip.kp T.d__law_dip.bd (fr_ref (fv 0) (fr_val fe_int fr_nil)))) fa_nil)))) (fe_b (cb_min rfl) (by rfl) T.z_min (by decide +kernel) (fr_ref (fv 3) (fr_ref fe_int fr_nil)))))
      (fb_cons (fs_for PassesOwn.never rfl (fi_range1 (by rfl) T.z_range (fa_cons (fv 4) fa_nil)) (fg_name (pg_name (i := 5) sc__law_drawn.nd rfl (.inl rfl)))
      (fb_cons (fs_set (ps_set (i := 6) sc__law_drawn.nd rfl (.inl rfl) pe_S) (fe_lst fa_nil))
      (fb_cons (fs_for PassesOwn.never rfl (fi_range1 (by rfl) T.z_range (fa_cons (fe_call (ok__law_dip T) (hr.mono (by omega)) (by rfl) T.d__law_dip.at_ T.d__law_dip.kp T.d__law_dip.bd (fr_ref (fv 0) (fr_val fe_int fr_nil))) fa_nil)) (fg_name (pg_name (i := 7) sc__law_drawn.nd rfl (.inl rfl)))
      (fb_cons (fs_setLc (i := 8) rfl sc__law_drawn.nd rfl rfl (sw_true rfl rfl rfl (by decide +kernel)) (fi_range1 (by rfl) T.z_range (fa_cons (fe_call (ok__law_dip T) (hr.mono (by omega)) (by rfl) T.d__law_dip.at_ T.d__law_dip.kp T.d__law_dip.bd (fr_ref (fv 0) (fr_val fe_int fr_nil))) fa_nil)) (blkOk_by (own := [("one", 12)]) (N := ["well", "states", "deeds", "great", "few", "k", "items", "j", "ahead", "some", "way", "deed", "one"]) (sc := defScope s__law_drawn) (by decide +kernel)) (fun _ _ _ _ _ => (fg_name (pg_name (i := 12) sc__law_drawn.nd rfl (.inl rfl)) (by intro l e; cases e; decide +kernel))) (fun _ _ _ _ _ => fts_nil) (fun _ _ _ _ _ => (fe_call (ok__law_mark T) (hr.mono (by omega)) (by rfl) T.d__law_mark.at_ T.d__law_mark.kp T.d__law_mark.bd (fr_ref (fv 0) fr_nil))))
      (fb_one (fs_expr (fe_mu mu_append PySem.F.slot_list_append PySem.F.type_list_append (fv 6) (fa_cons (fe_tup (fa_cons (fe_call (ok__law_mark T) (hr.mono (by omega)) (by rfl) T.d__law_mark.at_ T.d__law_mark.kp T.d__law_mark.bd (fr_ref (fv 0) fr_nil)) (fa_cons (fe_call (ok__law_number T) (hr.mono (by omega)) (by rfl) T.d__law_number.at_ T.d__law_number.kp T.d__law_number.bd (fr_ref (fv 0) fr_nil)) (fa_cons (fe_bt cb_tuple (by rfl) T.z_tuple (by decide +kernel) (fr_ref (fv 8) fr_nil)) fa_nil)))) fa_nil))))))
      (fb_cons (fs_set (ps_set (i := 9) sc__law_drawn.nd rfl (.inl rfl) pe_S) fe_dnew)
      (fb_cons (fs_for PassesOwn.never rfl (fi_range1 (by rfl) T.z_range (fa_cons (fe_call (ok__law_dip T) (hr.mono (by omega)) (by rfl) T.d__law_dip.at_ T.d__law_dip.kp T.d__law_dip.bd (fr_ref (fv 0) (fr_val fe_int fr_nil))) fa_nil)) (fg_name (pg_name (i := 7) sc__law_drawn.nd rfl (.inl rfl)))
      (fb_cons (fs_set (ps_set (i := 10) sc__law_drawn.nd rfl (.inl rfl) pe_S) (fe_call (ok__law_dip T) (hr.mono (by omega)) (by rfl) T.d__law_dip.at_ T.d__law_dip.kp T.d__law_dip.bd (fr_ref (fv 0) (fr_val fe_int fr_nil))))
      (fb_cons (fs_set (ps_set (i := 11) sc__law_drawn.nd rfl (.inl rfl) pe_S) (fe_lst (fa_cons (fe_tup (fa_cons fe_str (fa_cons (fe_call (ok__law_number T) (hr.mono (by omega)) (by rfl) T.d__law_number.at_ T.d__law_number.kp T.d__law_number.bd (fr_ref (fv 0) fr_nil)) fa_nil))) (fa_cons (fe_tup (fa_cons fe_str (fa_cons (fe_call (ok__law_mark T) (hr.mono (by omega)) (by rfl) T.d__law_mark.at_ T.d__law_mark.kp T.d__law_mark.bd (fr_ref (fv 0) fr_nil)) (fa_cons (fe_call (ok__law_number T) (hr.mono (by omega)) (by rfl) T.d__law_number.at_ T.d__law_number.kp T.d__law_number.bd (fr_ref (fv 0) fr_nil)) (fa_cons (fe_call (ok__law_mark T) (hr.mono (by omega)) (by rfl) T.d__law_mark.at_ T.d__law_mark.kp T.d__law_mark.bd (fr_ref (fv 0) fr_nil)) fa_nil))))) (fa_cons (fe_tup (fa_cons fe_str fa_nil)) fa_nil)))))
      (fb_one (fs_putK (rk hr) (fe_ix (fv 11) (fv 10)) (fv 9) (fe_call (ok__law_mark T) (hr.mono (by omega)) (by rfl) T.d__law_mark.at_ T.d__law_mark.kp T.d__law_mark.bd (fr_ref (fv 0) fr_nil)))))))
      (fb_cons (fs_expr (fe_mu mu_append PySem.F.slot_list_append PySem.F.type_list_append (fv 1) (fa_cons (fe_bt cb_tuple (by rfl) T.z_tuple (by decide +kernel) (fr_ref (fv 6) fr_nil)) fa_nil)))
      (fb_one (fs_expr (fe_mu mu_append PySem.F.slot_list_append PySem.F.type_list_append (fv 2) (fa_cons (fv 9) fa_nil))))))))))
      (fb_one (fs_ret (fe_tup (fa_cons (fe_bt cb_tuple (by rfl) T.z_tuple (by decide +kernel) (fr_ref (fv 1) fr_nil)) (fa_cons (fe_bt cb_tuple (by rfl) T.z_tuple (by decide +kernel) (fr_ref (fv 2) fr_nil)) fa_nil)))))))))), fun ρ R hl h => ?_⟩
  obtain ⟨d, rfl, hj, q⟩ := h
  have sz := sz24
  have s3 : 3 ≤ sizeLine := by omega
  have s2 : 2 ≤ sizeLine := by omega
  have s4 : 4 ≤ sizeLine := by omega
  have s1 : 1 ≤ sizeLine := by omega
  refine seq_setR [.sl true true d, own (.lst []), .un, .un, .un, .un, .un, .un, .un, .un, .un, .un, .un] (fun Z z => ⟨Nat.zero_le _, z⟩) ?_
  refine seq_setR [.sl true true d, own (.lst []), own (.lst []), .un, .un, .un, .un, .un, .un, .un, .un, .un, .un] (fun Z z => ⟨Nat.zero_le _, z⟩) ?_
  refine seq_cut (fun ρ => ∃ (d' : D) (r : Int), WlOk 1 d' ∧ 0 ≤ r ∧ r < 16 ∧ ρ = [.sl true true d', own (.lst []), own (.lst []), dat (.int r), .un, .un, .un, .un, .un, .un, .un, .un, .un]) ?rest0 fun rest => ?here0
  case here0 =>
    refine ⟨nd1 _, 0, d, 16, rfl, hj, by decide, by decide, by omega, fun r d' t r0 r1 j' => ?_⟩
    exact rest _ ⟨d', r, j', r0, r1, rfl⟩
  rintro ρ ⟨d0, r, j0, r0, r16, rfl⟩
  refine seq_cut (fun ρ => ∃ (d' : D) (n : Nat), WlOk 10 d' ∧ 1 ≤ n ∧ n ≤ 104 ∧ ρ = [.sl true true d', own (.lst []), own (.lst []), dat (.int r), dat (.int (n : Int)), .un, .un, .un, .un, .un, .un, .un, .un]) ?rest1 fun rest => ?here1
  case here1 =>
    refine ⟨nd1 _, 1, d0, 9, rfl, j0, by decide, by decide, by omega, fun a1 d1 t1 a10 a11 j1 => ?_⟩
    refine ⟨nd1 _, 2, d1, 6, rfl, j1, by decide, by decide, by omega, fun a2 d2 t2 a20 a21 j2 => ?_⟩
    refine ⟨nd1 _, 3, d2, 4, rfl, j2, by decide, by decide, by omega, fun a3 d3 t3 a30 a31 j3 => ?_⟩
    refine ⟨s3, ?_⟩
    obtain ⟨n, en, n1, n2⟩ : ∃ n : Nat, L2.atI [D.int (96 + a1), D.int (9 + a2), D.int (1 + a3)] (if (2 : Int) < r then 2 else r) = some (.int (n : Int)) ∧ 1 ≤ n ∧ n ≤ 104 := by
      rcases (by omega : r = 0 ∨ r = 1 ∨ 2 ≤ r) with h | h | h
      · subst h; exact ⟨(96 + a1).toNat, by rw [Int.toNat_of_nonneg (by omega)]; rfl, by omega, by omega⟩
      · subst h; exact ⟨(9 + a2).toNat, by rw [Int.toNat_of_nonneg (by omega)]; rfl, by omega, by omega⟩
      · have e2 : (if (2 : Int) < r then 2 else r) = 2 := by split <;> omega
        rw [e2]; exact ⟨(1 + a3).toNat, by rw [Int.toNat_of_nonneg (by omega)]; rfl, by omega, by omega⟩
    exact ⟨_, en, rest _ ⟨d3, n, j3.mono (by omega), n1, n2, rfl⟩⟩
  rintro ρ ⟨d1, n, j1, n1, n104, rfl⟩
  refine seq_cut (fun ρ => ∃ (d' : D) (ss : List ST) (s5 s6 s7 s8 s9 s10 s11 : Sl), ss.length = n ∧ (∀ s ∈ ss, SGood s) ∧ ρ = [.sl true true d', own (.lst (ss.map fun s => itsD s.its)), own (.lst (ss.map fun s => desD s.des)), dat (.int r), dat (.int (n : Int)), s5, s6, s7, s8, s9, s10, s11, .un]) ?rest2 fun rest => ?here2
  case rest2 =>
    rintro ρ ⟨d', ss, s5, s6, s7, s8, s9, s10, s11, ln, hg, rfl⟩
    exact ⟨s2, q ss d' ⟨hg, by omega, fun z => by rw [z] at ln; simp at ln; omega⟩⟩
  refine ⟨by show -2 ^ 62 ≤ (n : Int); omega, by show (n : Int) < 2 ^ 62; omega, ?_⟩
  refine ⟨fun k ρ => ∃ (d' : D) (ss : List ST) (s5 s6 s7 s8 s9 s10 s11 : Sl), ss.length = k ∧ (∀ s ∈ ss, SGood s) ∧ WlOk (10 + 300 * k) d' ∧ ρ = [.sl true true d', own (.lst (ss.map fun s => itsD s.its)), own (.lst (ss.map fun s => desD s.des)), dat (.int r), dat (.int (n : Int)), s5, s6, s7, s8, s9, s10, s11, .un], ⟨d1, [], .un, .un, .un, .un, .un, .un, .un, rfl, fun _ h => (nomatch h), j1, rfl⟩, ?_, ?_⟩
  case refine_2 =>
    rintro ρ ⟨d', ss, s5, s6, s7, s8, s9, s10, s11, ln, hg, j', rfl⟩
    exact rest _ ⟨d', ss, s5, s6, s7, s8, s9, s10, s11, by rw [ln, intsD_len]; omega, hg, rfl⟩
  rintro k y ρ hk ⟨d', ss, s5, s6, s7, s8, s9, s10, s11, ln, hg, j', rfl⟩
  obtain ⟨lk, rfl⟩ := intsD_get hk
  have lk' : k < 104 := by omega
  refine seq_setR [.sl true true d', own (.lst (ss.map fun s => itsD s.its)), own (.lst (ss.map fun s => desD s.des)), dat (.int r), dat (.int (n : Int)), dat (.int (0 + (k : Int))), own (.lst []), s7, s8, s9, s10, s11, .un] (fun Z z => ⟨Nat.zero_le _, z⟩) ?_
  -- the items
  refine seq_cut (fun ρ => ∃ (d2 : D) (xs : List IT) (s7 s8 : Sl), xs.length ≤ 3 ∧ (∀ x ∈ xs, x.Ok ∧ x.ah.length ≤ 3) ∧ WlOk (10 + 300 * k + 161) d2 ∧ ρ = [.sl true true d2, own (.lst (ss.map fun s => itsD s.its)), own (.lst (ss.map fun s => desD s.des)), dat (.int r), dat (.int (n : Int)), dat (.int (0 + (k : Int))), own (.lst (xs.map IT.d)), s7, s8, s9, s10, s11, .un]) ?rest3 fun rest3 => ?here3
  case here3 =>
    refine ⟨nd1 _, 10 + 300 * k, d', 4, rfl, j', by decide, by decide, by omega, fun u d2 t u0 u1 j2 => ?_⟩
    obtain ⟨u, rfl⟩ : ∃ m : Nat, u = m := ⟨u.toNat, by omega⟩
    refine ⟨by show -2 ^ 62 ≤ (u : Int); omega, by show (u : Int) < 2 ^ 62; omega, ?_⟩
    refine ⟨fun v ρ => ∃ (d3 : D) (xs : List IT) (s7 s8 : Sl), xs.length = v ∧ (∀ x ∈ xs, x.Ok ∧ x.ah.length ≤ 3) ∧ WlOk (10 + 300 * k + 1 + 53 * v) d3 ∧ ρ = [.sl true true d3, own (.lst (ss.map fun s => itsD s.its)), own (.lst (ss.map fun s => desD s.des)), dat (.int r), dat (.int (n : Int)), dat (.int (0 + (k : Int))), own (.lst (xs.map IT.d)), s7, s8, s9, s10, s11, .un], ⟨d2, [], s7, s8, rfl, fun _ h => (nomatch h), j2, rfl⟩, ?_, ?_⟩
    case refine_2 =>
      rintro ρ ⟨d3, xs, s7, s8, lx, hx, j3, rfl⟩
      rw [intsD_len] at lx j3
      exact rest3 _ ⟨d3, xs, s7, s8, by omega, hx, j3.mono (by omega), rfl⟩
    rintro v y ρ hv ⟨d3, xs, s7, s8, lx, hx, j3, rfl⟩
    obtain ⟨lv, rfl⟩ := intsD_get hv
    refine seq_cut (fun ρ => ∃ (d4 : D) (ah : List Str), ah.length ≤ 3 ∧ (∀ m ∈ ah, mkF m = true) ∧ WlOk (10 + 300 * k + 1 + 53 * v + 37) d4 ∧ ρ = [.sl true true d4, own (.lst (ss.map fun s => itsD s.its)), own (.lst (ss.map fun s => desD s.des)), dat (.int r), dat (.int (n : Int)), dat (.int (0 + (k : Int))), own (.lst (xs.map IT.d)), dat (.int (0 + (v : Int))), own (.lst (ah.map D.str)), s9, s10, s11, .un]) ?rest4 fun rest4 => ?here4
    case here4 =>
      refine ⟨nd1 _, 10 + 300 * k + 1 + 53 * v, d3, 4, rfl, j3, by decide, by decide, by omega, fun b d4 t b0 b1 j4 => ?_⟩
      obtain ⟨b, rfl⟩ : ∃ m : Nat, b = m := ⟨b.toNat, by omega⟩
      refine ⟨by show -2 ^ 62 ≤ (b : Int); omega, by show (b : Int) < 2 ^ 62; omega, ?_⟩
      refine ⟨fun z acc ρ => ∃ (d5 : D) (ah : List Str), acc = ah.map D.str ∧ ah.length = z ∧ (∀ m ∈ ah, mkF m = true) ∧ WlOk (10 + 300 * k + 1 + 53 * v + 1 + 12 * z) d5 ∧ ρ = [.sl true true d5, own (.lst (ss.map fun s => itsD s.its)), own (.lst (ss.map fun s => desD s.des)), dat (.int r), dat (.int (n : Int)), dat (.int (0 + (k : Int))), own (.lst (xs.map IT.d)), dat (.int (0 + (v : Int))), s8, s9, s10, s11, .un], ⟨d4, [], rfl, rfl, fun _ h => (nomatch h), j4, rfl⟩, ?_, ?_, ?_⟩
      · rintro z y acc ρ hz ⟨d5, ah, rfl, la, ha, j5, rfl⟩
        obtain ⟨lz, rfl⟩ := intsD_get hz
        refine ⟨nd1 _, _, d5, rfl, j5, by omega, fun m d6 hm j6 => ?_⟩
        refine ⟨by rw [List.length_map]; omega, d6, ah ++ [m], by rw [List.map_append]; rfl, by rw [List.length_append, la]; rfl, fun x hx => ?_, j6.mono (by omega), rfl⟩
        rcases List.mem_append.mp hx with hx | hx
        · exact ha x hx
        · rw [List.mem_singleton.mp hx]; exact hm
      · rintro z acc ρ ⟨d5, ah, _, _, _, _, rfl⟩
        exact ⟨_, (rfl : _ = YP.wipeS [.sl true true d5, own (.lst (ss.map fun s => itsD s.its)), own (.lst (ss.map fun s => desD s.des)), dat (.int r), dat (.int (n : Int)), dat (.int (0 + (k : Int))), own (.lst (xs.map IT.d)), dat (.int (0 + (v : Int))), s8, s9, s10, s11, .un] [12])⟩
      rintro acc ρ ⟨d5, ah, rfl, la, ha, j5, rfl⟩
      rw [intsD_len] at la j5
      exact rest4 _ ⟨d5, ah, by omega, ha, j5.mono (by omega), rfl⟩
    rintro ρ ⟨d4, ah, la, ha, j4, rfl⟩
    refine ⟨nd1 _, _, d4, rfl, j4, by omega, fun m d5 hm j5 => ?_⟩
    refine ⟨nd1 _, _, d5, rfl, j5, by omega, fun c d6 hc j6 => ?_⟩
    refine ⟨s3, by rw [List.length_map]; omega, d6, xs ++ [⟨m, c, ah⟩], dat (.int (0 + (v : Int))), own (.lst (ah.map D.str)), by rw [List.length_append, lx]; rfl, fun x hx' => ?_, j6.mono (by omega), ?_⟩
    · rcases List.mem_append.mp hx' with h | h
      · exact hx x h
      · rw [List.mem_singleton.mp h]; exact ⟨⟨hm, hc, List.all_eq_true.mpr ha⟩, la⟩
    · rw [List.map_append]; rfl
  rintro ρ ⟨d2, xs, s7, s8, lx, hx, j2, rfl⟩
  refine seq_setR [.sl true true d2, own (.lst (ss.map fun s => itsD s.its)), own (.lst (ss.map fun s => desD s.des)), dat (.int r), dat (.int (n : Int)), dat (.int (0 + (k : Int))), own (.lst (xs.map IT.d)), s7, s8, own (desD []), s10, s11, .un] (fun Z z => z) ?_
  refine seq_cut (fun ρ => ∃ (d3 : D) (ds : List (Str × DE)) (s7 s10 s11 : Sl), ds.length ≤ 3 ∧ DsOk ds ∧ WlOk (10 + 300 * k + 299) d3 ∧ ρ = [.sl true true d3, own (.lst (ss.map fun s => itsD s.its)), own (.lst (ss.map fun s => desD s.des)), dat (.int r), dat (.int (n : Int)), dat (.int (0 + (k : Int))), own (.lst (xs.map IT.d)), s7, s8, own (desD ds), s10, s11, .un]) ?rest5 fun rest5 => ?here5
  case here5 =>
    refine ⟨nd1 _, 10 + 300 * k + 161, d2, 4, rfl, j2, by decide, by decide, by omega, fun u d3 t u0 u1 j3 => ?_⟩
    obtain ⟨u, rfl⟩ : ∃ m : Nat, u = m := ⟨u.toNat, by omega⟩
    refine ⟨by show -2 ^ 62 ≤ (u : Int); omega, by show (u : Int) < 2 ^ 62; omega, ?_⟩
    refine ⟨fun v ρ => ∃ (d4 : D) (ds : List (Str × DE)) (s7 s10 s11 : Sl), ds.length ≤ v ∧ DsOk ds ∧ WlOk (10 + 300 * k + 162 + 45 * v) d4 ∧ ρ = [.sl true true d4, own (.lst (ss.map fun s => itsD s.its)), own (.lst (ss.map fun s => desD s.des)), dat (.int r), dat (.int (n : Int)), dat (.int (0 + (k : Int))), own (.lst (xs.map IT.d)), s7, s8, own (desD ds), s10, s11, .un], ⟨d3, [], s7, s10, s11, Nat.zero_le _, ⟨fun _ h => (nomatch h), List.nodup_nil⟩, j3, rfl⟩, ?_, ?_⟩
    case refine_2 =>
      rintro ρ ⟨d4, ds, s7, s10, s11, ld, hd, j4, rfl⟩
      rw [intsD_len] at ld j4
      exact rest5 _ ⟨d4, ds, s7, s10, s11, by omega, hd, j4.mono (by omega), rfl⟩
    rintro v y ρ hv ⟨d4, ds, s7, s10, s11, ld, hd, j4, rfl⟩
    obtain ⟨lv, rfl⟩ := intsD_get hv
    refine seq_cut (fun ρ => ∃ (d5 : D) (w : Int), WlOk (10 + 300 * k + 162 + 45 * v + 1) d5 ∧ 0 ≤ w ∧ w < 3 ∧ ρ = [.sl true true d5, own (.lst (ss.map fun s => itsD s.its)), own (.lst (ss.map fun s => desD s.des)), dat (.int r), dat (.int (n : Int)), dat (.int (0 + (k : Int))), own (.lst (xs.map IT.d)), dat (.int (0 + (v : Int))), s8, own (desD ds), dat (.int w), s11, .un]) ?rest6 fun rest6 => ?here6
    case here6 =>
      refine ⟨nd1 _, _, d4, 3, rfl, j4, by decide, by decide, by omega, fun w d5 t w0 w1 j5 => ?_⟩
      exact rest6 _ ⟨d5, w, j5, w0, w1, rfl⟩
    rintro ρ ⟨d5, w, j5, w0, w1, rfl⟩
    refine seq_cut (fun ρ => ∃ (d6 : D) (es : List DE), es.length = 3 ∧ (∀ e ∈ es, e.Ok) ∧ WlOk (10 + 300 * k + 162 + 45 * v + 33) d6 ∧ ρ = [.sl true true d6, own (.lst (ss.map fun s => itsD s.its)), own (.lst (ss.map fun s => desD s.des)), dat (.int r), dat (.int (n : Int)), dat (.int (0 + (k : Int))), own (.lst (xs.map IT.d)), dat (.int (0 + (v : Int))), s8, own (desD ds), dat (.int w), own (.lst (es.map DE.d)), .un]) ?rest7 fun rest7 => ?here7
    case here7 =>
      refine ⟨nd1 _, _, d5, rfl, j5, by omega, fun c1 e1 hc1 k1 => ?_⟩
      refine ⟨s2, ?_⟩
      refine ⟨nd1 _, _, e1, rfl, k1, by omega, fun m1 e2 hm1 k2 => ?_⟩
      refine ⟨nd1 _, _, e2, rfl, k2, by omega, fun c2 e3 hc2 k3 => ?_⟩
      refine ⟨nd1 _, _, e3, rfl, k3, by omega, fun m2 e4 hm2 k4 => ?_⟩
      refine ⟨s4, s1, s3, ?_⟩
      exact rest7 _ ⟨e4, [.go c1, .by m1 c2 m2, .fin], rfl, fun e he => by
        simp only [List.mem_cons, List.not_mem_nil, or_false] at he
        rcases he with rfl | rfl | rfl
        · exact hc1
        · exact ⟨hm1, hc2, hm2⟩
        · trivial, k4.mono (by omega), rfl⟩
    rintro ρ ⟨d6, es, le, he, j6, rfl⟩
    obtain ⟨e, hem, ee⟩ : ∃ e, e ∈ es ∧ L2.atI (es.map DE.d) w = some e.d := by
      obtain ⟨w, rfl⟩ : ∃ m : Nat, w = m := ⟨w.toNat, by omega⟩
      have hw : w < es.length := by omega
      exact ⟨es[w], List.getElem_mem hw, atI_nat (by rw [List.getElem?_map, List.getElem?_eq_getElem hw]; rfl)⟩
    refine ⟨e.d, ee, ?_⟩
    refine ⟨nd1 _, _, d6, rfl, j6, by omega, fun m d7 hm j7 => ?_⟩
    have hlen := dput_len ds m e
    refine ⟨.inr m, rfl, by show (desL ds).length < sizeLine; unfold desL; rw [List.length_map]; omega, d7, dput ds m e, dat (.int (0 + (v : Int))), dat (.int w), own (.lst (es.map DE.d)), by omega, hd.put hm (he e hem), j7.mono (by omega), ?_⟩
    rw [desL_put]; rfl
  rintro ρ ⟨d3, ds, s7, s10, s11, ld, hd, j3, rfl⟩
  refine seq_cut (fun ρ => ρ = [.sl true true d3, own (.lst (ss.map (fun s => itsD s.its) ++ [itsD xs])), own (.lst (ss.map fun s => desD s.des)), dat (.int r), dat (.int (n : Int)), dat (.int (0 + (k : Int))), own (.lst (xs.map IT.d)), s7, s8, own (desD ds), s10, s11, .un]) ?rest8 fun rest8 => ?here8
  case here8 =>
    refine ⟨by rw [List.length_map]; omega, ?_⟩
    exact rest8 _ rfl
  rintro ρ rfl
  refine ⟨by rw [List.length_map]; omega, d3, ss ++ [⟨xs, ds⟩], dat (.int (0 + (k : Int))), own (.lst (xs.map IT.d)), s7, s8, dat (desD ds), s10, s11, by rw [List.length_append, ln]; rfl, fun s hs => ?_, j3.mono (by omega), ?_⟩
  · rcases List.mem_append.mp hs with hs | hs
    · exact hg s hs
    · rw [List.mem_singleton.mp hs]; exact ⟨hx, lx, hd, ld⟩
  · rw [List.map_append, List.map_append]; rfl
end
end K41
set_option maxRecDepth 100000
set_option maxHeartbeats 4000000
namespace K41
open PySem PySem.Spec PyProof.Rows L2 Yard YP TL
/-! ### tables as texts -/
theorem sp_len {ws : List Str} (h : ws ≠ []) : (ws.map (·.length)).sum + ws.length = (sp ws).length + 1 := by
  cases ws with
  | nil => exact absurd rfl h
  | cons a l =>
    unfold sp
    rw [join_eq, len_join_cons, List.length_cons]
    show _ + (l.length + 1) = _ + l.length * 1 + 1
    omega
theorem st_txt (k : Nat) : (("state " : Str) ++ natS k) = stR k := ext_tl (by
  unfold stR
  rw [tl_sp, tl_append]
  show tl ("state " : Str) ++ tl (natS k) = tl ("state" : Str) ++ ([32] ++ tl (natS k))
  rw [← List.append_assoc]
  congr 1)
/-- a table whose text is short enough -/
structure Fit (ss : List ST) : Prop where
  st : ∀ s ∈ ss, s.Ok ∧ (s.des.map (·.1)).Nodup
  many : (rowsT 0 (ss.map sdS)).length ≤ 1000000
  row : ∀ r ∈ rowsT 0 (ss.map sdS), r.length ≤ 1000000
  all : ((rowsT 0 (ss.map sdS)).map (·.length)).sum + (rowsT 0 (ss.map sdS)).length ≤ 16777216
theorem dget_mem : ∀ {l : List (Str × DE)} {p : Str × DE}, (l.map (·.1)).Nodup → p ∈ l → kget (desL l) (.inr p.1) = some p.2.d
  | [], _, _, h => nomatch h
  | q :: l, p, nd, h => by
    rw [List.map_cons, List.nodup_cons] at nd
    unfold kget desL
    rw [List.map_cons, List.find?_cons]
    show Option.map (·.2) (match decide ((Sum.inr q.1 : Key) = Sum.inr p.1) with | true => some ((Sum.inr q.1 : Key), q.2.d) | false => List.find? (fun kv => decide (kv.1 = Sum.inr p.1)) (l.map fun p => ((Sum.inr p.1 : Key), p.2.d))) = _
    rw [inr_dec]
    by_cases e : q.1 = p.1
    · rw [decide_eq_true e]
      rcases List.mem_cons.mp h with rfl | h
      · rfl
      · exact absurd (List.mem_map.mpr ⟨p, h, e.symm⟩) nd.1
    · rw [decide_eq_false e]
      rcases List.mem_cons.mp h with rfl | h
      · exact absurd rfl e
      · exact dget_mem nd.2 h
def DE.pd : DE → List D
  | .go n => [.str "go", .int (n : Int)]
  | .by l n a => [.str "by", .str l, .int (n : Int), .str a]
  | .fin => [.str "done"]
theorem DE.d_pd (e : DE) : e.d = .tup e.pd := by cases e <;> rfl
theorem DE.pd_len (e : DE) : e.pd.length = e.ps.length := by cases e <;> rfl
/-- a part, as a text -/
def PT (y : D) (x : Str) : Prop := y = .str x ∨ ∃ n : Nat, n < 10000 ∧ y = .int (n : Int) ∧ x = natS n
theorem DE.part {e : DE} (h : e.Ok) : ∀ {i : Nat} {y : D}, e.pd[i]? = some y → ∃ x, e.ps[i]? = some x ∧ PT y x := by
  intro i y hy
  cases e with
  | go n =>
    match i, hy with
    | 0, hy => exact ⟨"go", rfl, .inl (Option.some.inj hy).symm⟩
    | 1, hy => exact ⟨natS n, rfl, .inr ⟨n, h, (Option.some.inj hy).symm, rfl⟩⟩
    | _ + 2, hy => exact absurd hy (by simp [DE.pd])
  | «by» l n a =>
    match i, hy with
    | 0, hy => exact ⟨"by", rfl, .inl (Option.some.inj hy).symm⟩
    | 1, hy => exact ⟨l, rfl, .inl (Option.some.inj hy).symm⟩
    | 2, hy => exact ⟨natS n, rfl, .inr ⟨n, h.2.1, (Option.some.inj hy).symm, rfl⟩⟩
    | 3, hy => exact ⟨a, rfl, .inl (Option.some.inj hy).symm⟩
    | _ + 4, hy => exact absurd hy (by simp [DE.pd])
  | fin =>
    match i, hy with
    | 0, hy => exact ⟨"done", rfl, .inl (Option.some.inj hy).symm⟩
    | _ + 1, hy => exact absurd hy (by simp [DE.pd])
theorem rows_at {ss : List ST} {k : Nat} {s : ST} (h : ss[k]? = some s) : rowsT 0 (ss.map sdS) = rowsT 0 ((ss.take k).map sdS) ++ (rowS k (sdS s) ++ rowsT (k + 1) ((ss.drop (k + 1)).map sdS)) := by
  have hk : k < ss.length := (List.getElem?_eq_some_iff.mp h).1
  have e : ss = ss.take k ++ (s :: ss.drop (k + 1)) := by
    have : ss.drop k = s :: ss.drop (k + 1) := by
      rw [List.drop_eq_getElem_cons hk]
      have := (List.getElem?_eq_some_iff.mp h).2
      rw [this]
    rw [← this, List.take_append_drop]
  conv => lhs; rw [e]
  rw [List.map_append, rowsT_app, List.length_map, List.length_take, Nat.min_eq_left (by omega), Nat.zero_add]
  rfl
theorem log_small {i : Int} (h0 : 0 ≤ i) (h1 : i < 1000000) : i.natAbs.log2 < 1920 := by
  have : i.natAbs.log2 < 20 := by
    by_cases hz : i.natAbs = 0
    · rw [hz]; decide
    · exact (Nat.log2_lt hz).mpr (by omega)
  omega
theorem zipD_get {ss : List ST} {i : Nat} {d : D} (h : (zipD (ss.map fun s => itsD s.its) (ss.map fun s => desD s.des))[i]? = some d) : ∃ s, ss[i]? = some s ∧ d = .tup [.int (i : Int), .tup [itsD s.its, desD s.des]] := by
  have ez : ∀ l : List ST, List.zipWith (fun a b => D.tup [a, b]) (l.map fun s => itsD s.its) (l.map fun s => desD s.des) = l.map fun s => D.tup [itsD s.its, desD s.des] := fun l => by
    induction l with
    | nil => rfl
    | cons s l ih => show _ :: _ = _ :: _; rw [ih]
  unfold zipD at h
  rw [ez] at h
  unfold nums at h
  rw [List.length_map, List.getElem?_map] at h
  obtain ⟨k, hk, e⟩ := Option.map_eq_some_iff.mp h
  obtain ⟨hi, ek⟩ := List.getElem?_eq_some_iff.mp hk
  rw [List.getElem_range] at ek
  subst ek
  rw [List.length_range] at hi
  refine ⟨ss[i], List.getElem?_eq_getElem hi, ?_⟩
  rw [← e, List.getD_eq_getElem?_getD, List.getElem?_map, List.getElem?_eq_getElem hi]
  rfl
theorem keysL (l : List (Str × DE)) : (desL l).map (·.1) = (l.map (·.1)).map Sum.inr := by
  unfold desL; rw [List.map_map, List.map_map]; rfl
theorem sd_keys {l : List (Str × DE)} {ys : List Str} (nd : (l.map (·.1)).Nodup) (p : ys.Perm (l.map (·.1))) (a : SrtO.Asc ys) : ys = (sd l).map (·.1) :=
  asc_eq (p.trans ((sd_perm l).map (·.1)).symm) a (rise_asc (sd_rise nd))
/-- the rows before the i-th state's j-th item; before its j-th deed -/
def rowsI (ss : List ST) (k : Nat) (s : ST) (j : Nat) : List Str := rowsT 0 ((ss.take k).map sdS) ++ [stR k] ++ (s.its.take j).map fun x => sp x.ws
def rowsW (ss : List ST) (k : Nat) (s : ST) (j : Nat) : List Str := rowsT 0 ((ss.take k).map sdS) ++ [stR k] ++ (s.its.map fun x => sp x.ws) ++ ((sd s.des).take j).map fun p => sp (deW p)
theorem rowsI_all (ss : List ST) (k : Nat) (s : ST) : rowsI ss k s s.its.length = rowsW ss k s 0 := by
  unfold rowsI rowsW; rw [List.take_length, List.take_zero, List.map_nil, List.append_nil]
theorem rowsI_next {ss : List ST} {k : Nat} {s : ST} {j : Nat} {x : IT} (h : s.its[j]? = some x) : rowsI ss k s (j + 1) = rowsI ss k s j ++ [sp x.ws] := by
  unfold rowsI; rw [List.take_succ, h, List.map_append, ← List.append_assoc]; rfl
theorem rowsW_next {ss : List ST} {k : Nat} {s : ST} {j : Nat} {p : Str × DE} (h : (sd s.des)[j]? = some p) : rowsW ss k s (j + 1) = rowsW ss k s j ++ [sp (deW p)] := by
  unfold rowsW; rw [List.take_succ, h, List.map_append, ← List.append_assoc]; rfl
theorem rows_next {ss : List ST} {k : Nat} {s : ST} (h : ss[k]? = some s) : rowsT 0 ((ss.take (k + 1)).map sdS) = rowsW ss k s (sd s.des).length := by
  have hk : k < ss.length := (List.getElem?_eq_some_iff.mp h).1
  unfold rowsW
  rw [List.take_succ, h, List.map_append, rowsT_app, List.length_map, List.length_take, Nat.min_eq_left (by omega), Nat.zero_add, List.take_length]
  show _ ++ (rowS k (sdS s) ++ []) = _
  rw [List.append_nil]
  unfold rowS sdS
  rw [List.append_assoc, List.append_assoc]; rfl
/-- there is room for each of the rows -/
structure Room1 (ss : List ST) (k : Nat) (s : ST) : Prop where
  pre : ∀ j, (rowsI ss k s j).length ≤ 1000000
  prw : ∀ j, (rowsW ss k s j).length ≤ 1000000
  pr0 : (rowsT 0 ((ss.take k).map sdS)).length ≤ 1000000
  it : ∀ x ∈ s.its, (sp x.ws).length ≤ 1000000
  de : ∀ p ∈ s.des, (sp (deW p)).length ≤ 1000000
theorem Fit.room {ss : List ST} (h : Fit ss) {k : Nat} {s : ST} (hk : ss[k]? = some s) : Room1 ss k s := by
  have e := rows_at hk
  have el := congrArg List.length e
  have hm := h.many
  have er : (rowS k (sdS s)).length = 1 + s.its.length + (sd s.des).length := by unfold rowS sdS; simp; omega
  rw [List.length_append, List.length_append, er] at el
  refine ⟨fun j => ?_, fun j => ?_, by omega, fun x hx => h.row _ ?_, fun p hp => h.row _ ?_⟩
  · unfold rowsI
    simp only [List.length_append, List.length_cons, List.length_map, List.length_take, List.length_nil]
    have := Nat.min_le_right j s.its.length
    omega
  · unfold rowsW
    simp only [List.length_append, List.length_cons, List.length_map, List.length_take, List.length_nil]
    have := Nat.min_le_right j (sd s.des).length
    omega
  · rw [e]
    refine List.mem_append.mpr (.inr (List.mem_append.mpr (.inl ?_)))
    exact List.mem_append.mpr (.inl (List.mem_cons_of_mem _ (List.mem_map.mpr ⟨x, hx, rfl⟩)))
  · rw [e]
    refine List.mem_append.mpr (.inr (List.mem_append.mpr (.inl ?_)))
    exact List.mem_append.mpr (.inr (List.mem_map.mpr ⟨p, (sd_perm _).mem_iff.mpr hp, rfl⟩))
theorem gEz {i j k : Nat} {a b c : D} {ρ : List Sl} {R : List Sl → Prop} (h : R (((ρ.set i (.sl false false a)).set j (.sl false false b)).set k (.sl false false c))) :
    uGTup 2 (uGCons (uName i) (uGCons (uGTup 2 (uGCons (uName j) (uGCons (uName k) uGNil))) uGNil)) (.tup [a, .tup [b, c]]) ρ R := ⟨rfl, rfl, h⟩
theorem Room1.deeds {ss : List ST} {k : Nat} {s : ST} (rm : Room1 ss k s) : (s.des.map (·.1)).length ≤ 1000000 := by
  have := rm.prw (sd s.des).length
  unfold rowsW at this
  rw [List.take_length] at this
  simp only [List.length_append, List.length_cons, List.length_map, List.length_nil] at this
  have := (sd_perm s.des).length_eq
  rw [List.length_map]
  omega
theorem natS_tk {k : Nat} (h : k < 10000000) : Tk (natS k) := by
  refine ⟨ok_codes.mpr fun c hc => ?_, ?_⟩
  · rw [tl_natS] at hc
    have := numL_digits k c hc
    omega
  · have e7 : (10 : Nat) ^ 7 = 10000000 := by decide
    have l7 : (numL k).length ≤ 7 := numL_len (by decide) (by omega)
    rw [len_tl]
    show (natS k).cps.toList.length ≤ _
    rw [tl_natS]
    omega
section
variable {P : Program} {w : World} {K : PySem.W.Frag} {mg : Str → Option Value} {base : Heap}
def uTab : UF := fun ρ R => ∃ (ss : List ST), ρ = [dat (tblD ss)] ∧ Fit ss ∧ ∀ s, R (.val (.str (textT (ss.map sdS)))) [s]
theorem sc_table_text : FnScope ["table", "rows", "number", "items", "deeds", "label", "dot", "ahead", "symbol", "part"] ["table"] (defScope s_table_text) := ⟨rfl, rfl, rfl, by decide +kernel, rfl, by decide +kernel, by decide +kernel⟩
theorem ok_table_text (T : Tx K w mg) : FnOk P w K mg base CX0 1 T.a_table_text T.f_table_text ["table"] (PSp K 1 uTab) := by
  refine fn_mk T.d_table_text.fn sc_table_text (by decide) fun cdv A outer s H E hr => ?_
  refine ⟨_, (fb_cons (fs_set (ps_set (i := 1) sc_table_text.nd rfl (.inl rfl) pe_S) (fe_lst fa_nil))
      (fb_cons (fs_forEz PassesOwn.never rfl (by rfl) T.z_enumerate (by rfl) T.z_zip (fa_cons (fe_ix (fv 0) fe_int) (fa_cons (fe_ix (fv 0) fe_int) fa_nil)) (fg_tup (n := 2) rfl (fgs_cons (fg_name (pg_name (i := 2) sc_table_text.nd rfl (.inl rfl))) (fgs_cons (fg_tup (n := 2) rfl (fgs_cons (fg_name (pg_name (i := 3) sc_table_text.nd rfl (.inl rfl))) (fgs_cons (fg_name (pg_name (i := 4) sc_table_text.nd rfl (.inl rfl))) fgs_nil))) fgs_nil)))
      (fb_cons (fs_expr (fe_mu mu_append PySem.F.slot_list_append PySem.F.type_list_append (fv 1) (fa_cons (fe_js (fj_cons fe_str (fj_cons (fe_fmt (fv 2)) fj_nil))) fa_nil)))
      (fb_cons (fs_for PassesOwn.never rfl (fi_tup (fv 3)) (fg_tup (n := 3) rfl (fgs_cons (fg_name (pg_name (i := 5) sc_table_text.nd rfl (.inl rfl))) (fgs_cons (fg_name (pg_name (i := 6) sc_table_text.nd rfl (.inl rfl))) (fgs_cons (fg_name (pg_name (i := 7) sc_table_text.nd rfl (.inl rfl))) fgs_nil))))
      (fb_one (fs_expr (fe_mu mu_append PySem.F.slot_list_append PySem.F.type_list_append (fv 1) (fa_cons (fe_join fe_str (fe_op os_add (fe_lst (fa_cons fe_str (fa_cons (fv 5) (fa_cons (fe_bt cb_str (by rfl) T.z_str (by decide +kernel) (fr_ref (fv 6) fr_nil)) fa_nil)))) (fe_bt cb_list (by rfl) T.z_list (by decide +kernel) (fr_ref (fv 7) fr_nil)))) fa_nil)))))
      (fb_one (fs_for PassesOwn.never rfl (fi_list (fe_b (cb_sortedDA rfl) (by rfl) T.z_sorted (by decide +kernel) (fr_ref (fv 4) fr_nil))) (fg_name (pg_name (i := 8) sc_table_text.nd rfl (.inl rfl)))
      (fb_one (fs_expr (fe_mu mu_append PySem.F.slot_list_append PySem.F.type_list_append (fv 1) (fa_cons (fe_join fe_str (fe_op os_add (fe_lst (fa_cons fe_str (fa_cons (fv 8) fa_nil))) (fe_lc rfl sc_table_text.nd (fi_tup (fe_dget (rk hr) (fv 4) (fv 8))) (blkOk_by (own := [("part", 9)]) (N := ["table", "rows", "number", "items", "deeds", "label", "dot", "ahead", "symbol", "part"]) (sc := defScope s_table_text) (by decide +kernel)) (fun _ _ _ _ _ => (fg_name (pg_name (i := 9) sc_table_text.nd rfl (.inl rfl)) (by intro l e; cases e; decide +kernel))) (fun _ _ _ _ _ => fts_nil) (fun _ _ _ _ _ => (fe_bt cb_str (by rfl) T.z_str (by decide +kernel) (fr_ref (fv 9) fr_nil)))))) fa_nil)))))))))
      (fb_one (fs_ret (fe_join fe_str (fv 1)))))), fun ρ R hl h => ?_⟩
  obtain ⟨ss, rfl, hf, q⟩ := h
  have sz := sz24
  have s3 : 3 ≤ sizeLine := by omega
  have s2 : 2 ≤ sizeLine := by omega
  refine seq_setR [.sl false true (tblD ss), own (.lst []), .un, .un, .un, .un, .un, .un, .un, .un] (fun Z z => ⟨Nat.zero_le _, z⟩) ?_
  refine seq_cut (fun ρ => ∃ (s2 s3 s4 s5 s6 s7 s8 : Sl), ρ = [.sl false true (tblD ss), own (.lst ((rowsT 0 (ss.map sdS)).map D.str)), s2, s3, s4, s5, s6, s7, s8, .un]) ?rest0 fun rest => ?here0
  case rest0 =>
    rintro ρ ⟨s2, s3, s4, s5, s6, s7, s8, rfl⟩
    exact ⟨rowsT 0 (ss.map sdS), rfl, by show _ + _ * 1 ≤ _; rw [Nat.mul_one]; exact hf.all, q _⟩
  refine ⟨.tup (ss.map fun s => itsD s.its), rfl, .tup (ss.map fun s => desD s.des), rfl, ?_⟩
  refine ⟨fun k ρ => ∃ (s2 s3 s4 s5 s6 s7 s8 : Sl), ρ = [.sl false true (tblD ss), own (.lst ((rowsT 0 ((ss.take k).map sdS)).map D.str)), s2, s3, s4, s5, s6, s7, s8, .un], ⟨_, _, _, _, _, _, _, rfl⟩, ?_, ?_⟩
  case refine_2 =>
    rintro ρ ⟨s2, s3, s4, s5, s6, s7, s8, rfl⟩
    have el : (zipD (ss.map fun s => itsD s.its) (ss.map fun s => desD s.des)).length = ss.length := by simp [zipD, nums]
    rw [el, List.take_length]
    exact rest _ ⟨_, _, _, _, _, _, _, rfl⟩
  rintro k y ρ hk ⟨s2', s3', s4', s5, s6, s7, s8, rfl⟩
  obtain ⟨s, hs, rfl⟩ := zipD_get hk
  have hk' : k < ss.length := (List.getElem?_eq_some_iff.mp hs).1
  have hlen : ss.length ≤ 1000000 := by
    have : ∀ (n : Nat) (l : List ST), l.length ≤ (rowsT n l).length := by
      intro n l
      induction l generalizing n with
      | nil => exact Nat.le_refl _
      | cons a l ih =>
        show l.length + 1 ≤ (rowS n a ++ rowsT (n + 1) l).length
        rw [List.length_append]
        have := ih (n + 1)
        have : 1 ≤ (rowS n a).length := by unfold rowS; simp
        omega
    have h1 := this 0 (ss.map sdS)
    rw [List.length_map] at h1
    exact Nat.le_trans h1 hf.many
  have rm := hf.room hs
  have so := hf.st s (List.mem_of_getElem? hs)
  refine gEz ?_
  refine seq_cut (fun ρ => ρ = [.sl false true (tblD ss), own (.lst ((rowsI ss k s 0).map D.str)), dat (.int (k : Int)), dat (itsD s.its), dat (desD s.des), s5, s6, s7, s8, .un]) ?rest1 fun rest1 => ?here1
  case here1 =>
    have tn : Tk (natS k) := natS_tk (by omega)
    have l1 : (Str.empty ++ ("state " : Str)).length ≤ sizeLine := Nat.le_trans (by decide +kernel : _ ≤ 16777216) sz
    have l2 : (Str.empty ++ ("state " : Str) ++ natS k).length ≤ sizeLine := by
      rw [Str.length_append]
      have h6 : (Str.empty ++ ("state " : Str)).length = 6 := by decide +kernel
      have := tn.few
      omega
    refine ⟨"state ", rfl, l1, .inr ⟨(k : Int), rfl, log_small (by omega) (by omega), natS k, rfl, l2, ?_⟩⟩
    refine ⟨by rw [List.length_map]; have := rm.pr0; omega, ?_⟩
    refine rest1 [.sl false true (tblD ss), own (.lst ((rowsT 0 ((ss.take k).map sdS)).map D.str ++ [.str (Str.empty ++ ("state " : Str) ++ natS k)])), dat (.int (k : Int)), dat (itsD s.its), dat (desD s.des), s5, s6, s7, s8, .un] ?_
    have ee : Str.empty ++ ("state " : Str) ++ natS k = stR k := by
      rw [show Str.empty ++ ("state " : Str) = "state " from by decide +kernel]; exact st_txt k
    have e0 : rowsI ss k s 0 = rowsT 0 ((ss.take k).map sdS) ++ [stR k] := by unfold rowsI; rw [List.take_zero, List.map_nil, List.append_nil]
    rw [e0, List.map_append, ee]; rfl
  rintro ρ rfl
  refine seq_cut (fun ρ => ∃ s5 s6 s7, ρ = [.sl false true (tblD ss), own (.lst ((rowsI ss k s s.its.length).map D.str)), dat (.int (k : Int)), dat (itsD s.its), dat (desD s.des), s5, s6, s7, s8, .un]) ?rest2 fun rest2 => ?here2
  case here2 =>
    refine ⟨fun j ρ => ∃ s5 s6 s7, ρ = [.sl false true (tblD ss), own (.lst ((rowsI ss k s j).map D.str)), dat (.int (k : Int)), dat (itsD s.its), dat (desD s.des), s5, s6, s7, s8, .un], ⟨_, _, _, rfl⟩, ?_, ?_⟩
    case refine_2 =>
      rintro ρ ⟨s5, s6, s7, rfl⟩
      rw [List.length_map]
      exact rest2 _ ⟨_, _, _, rfl⟩
    rintro j y ρ hj ⟨s5, s6, s7, rfl⟩
    rw [List.getElem?_map] at hj
    obtain ⟨x, hx, rfl⟩ := Option.map_eq_some_iff.mp hj
    have mx := List.mem_of_getElem? hx
    have ox := so.1.its x mx
    have lx := rm.it x mx
    have el := sp_len (ws := x.ws) (by intro z; cases z)
    have eal : x.ws.length = 3 + x.ah.length := by show x.ah.length + 1 + 1 + 1 = _; omega
    refine ⟨rfl, ?_⟩
    have hl2 : ([D.str "item", D.str x.l, D.str (natS x.n)] : List D).length + (x.ah.map D.str).length ≤ sizeLine := by rw [List.length_map]; show 3 + _ ≤ _; omega
    refine ⟨log_small (by omega) (by have := ox.n; omega), s3, hl2, x.ws, rfl, by show _ + _ * 1 ≤ _; rw [Nat.mul_one]; omega, ?_⟩
    refine ⟨by rw [List.length_map]; have := rm.pre j; omega, dat (.str x.l), dat (.int (x.n : Int)), dat (.tup (x.ah.map D.str)), ?_⟩
    rw [rowsI_next hx, List.map_append]; rfl
  rintro ρ ⟨t5, t6, t7, rfl⟩
  rw [rowsI_all]
  refine ⟨s.des.map (·.1), keysL _, ?_, fun ys hp ha => ?_⟩
  · exact Nat.le_trans rm.deeds (Nat.le_trans (by decide) sz)
  rw [sd_keys so.2 hp ha]
  refine ⟨fun j ρ => ∃ s8, ρ = [.sl false true (tblD ss), own (.lst ((rowsW ss k s j).map D.str)), dat (.int (k : Int)), dat (itsD s.its), dat (desD s.des), t5, t6, t7, s8, .un], ⟨_, rfl⟩, ?_, ?_⟩
  case refine_2 =>
    rintro ρ ⟨s8, rfl⟩
    refine ⟨dat (.int (k : Int)), dat (itsD s.its), dat (desD s.des), t5, t6, t7, s8, ?_⟩
    rw [rows_next hs, List.length_map, List.length_map]
  rintro j y ρ hj ⟨s8, rfl⟩
  rw [List.getElem?_map, List.getElem?_map] at hj
  obtain ⟨m, hm, rfl⟩ := Option.map_eq_some_iff.mp hj
  obtain ⟨p, hp', rfl⟩ := Option.map_eq_some_iff.mp hm
  have mp := (sd_perm _).mem_iff.mp (List.mem_of_getElem? hp')
  have op := so.1.des p mp
  have lp := rm.de p mp
  have el := sp_len (ws := deW p) (by intro z; cases z)
  have eal : (deW p).length = 2 + p.2.ps.length := by show p.2.ps.length + 1 + 1 = _; omega
  refine ⟨s2, ?_⟩
  refine ⟨.inr p.1, p.2.d, rfl, dget_mem so.2 mp, ?_⟩
  rw [DE.d_pd]
  refine ⟨fun t acc ρ => acc = (p.2.ps.take t).map D.str ∧ ρ = [.sl false true (tblD ss), own (.lst ((rowsW ss k s j).map D.str)), dat (.int (k : Int)), dat (itsD s.its), dat (desD s.des), t5, t6, t7, dat (.str p.1), .un], ⟨rfl, rfl⟩, ?_, ?_, ?_⟩
  · rintro t y acc ρ ht ⟨rfl, rfl⟩
    obtain ⟨x, hx, hpt⟩ := DE.part op.2 ht
    have ht' : t < p.2.ps.length := (List.getElem?_eq_some_iff.mp hx).1
    have ln : ((p.2.ps.take t).map D.str).length < sizeLine := by rw [List.length_map, List.length_take]; omega
    rcases hpt with rfl | ⟨n, hn, rfl, rfl⟩
    · refine ⟨ln, ?_, rfl⟩
      rw [List.take_succ, hx, List.map_append]; rfl
    · refine ⟨log_small (by omega) (by omega), ln, ?_, rfl⟩
      rw [List.take_succ, hx, List.map_append]; rfl
  · rintro t acc ρ ⟨_, rfl⟩
    exact ⟨_, (rfl : _ = YP.wipeS [.sl false true (tblD ss), own (.lst ((rowsW ss k s j).map D.str)), dat (.int (k : Int)), dat (itsD s.its), dat (desD s.des), t5, t6, t7, dat (.str p.1), .un] [9])⟩
  rintro acc ρ ⟨rfl, rfl⟩
  rw [DE.pd_len, List.take_length]
  have hl2 : ([D.str "on", D.str p.1] : List D).length + (p.2.ps.map D.str).length ≤ sizeLine := by rw [List.length_map]; show 2 + _ ≤ _; omega
  refine ⟨hl2, deW p, rfl, by show _ + _ * 1 ≤ _; rw [Nat.mul_one]; omega, ?_⟩
  refine ⟨by rw [List.length_map]; have := rm.prw j; omega, dat (.str p.1), ?_⟩
  rw [rowsW_next hp', List.map_append]; rfl
end
end K41
set_option maxRecDepth 100000
set_option maxHeartbeats 4000000
namespace K41
open PySem PySem.Spec PyProof.Rows L2 Yard YP TL
theorem Fit.few {ss : List ST} (hf : Fit ss) : ss.length ≤ 1000000 := by
  have : ∀ (n : Nat) (l : List ST), l.length ≤ (rowsT n l).length := by
    intro n l
    induction l generalizing n with
    | nil => exact Nat.le_refl _
    | cons a l ih =>
      show l.length + 1 ≤ (rowS n a ++ rowsT (n + 1) l).length
      rw [List.length_append]
      have := ih (n + 1)
      have : 1 ≤ (rowS n a).length := by unfold rowS; simp
      omega
  have h1 := this 0 (ss.map sdS)
  rw [List.length_map] at h1
  exact Nat.le_trans h1 hf.many
section
variable {P : Program} {w : World} {K : PySem.W.Frag} {mg : Str → Option Value} {base : Heap}
theorem sc__law_written : FnScope ["table", "rows", "k", "label", "dot", "ahead", "symbol", "part"] ["table"] (defScope s__law_written) := ⟨rfl, rfl, rfl, by decide +kernel, rfl, by decide +kernel, by decide +kernel⟩
theorem ok__law_written (T : Tx K w mg) : FnOk P w K mg base CX0 1 T.a__law_written T.f__law_written ["table"] (PSp K 1 uTab) := by
  refine fn_mk T.d__law_written.fn sc__law_written (by decide) fun cdv A outer s H E hr => ?_
  refine ⟨_, (fb_cons (fs_set (ps_set (i := 1) sc__law_written.nd rfl (.inl rfl) pe_S) (fe_lst fa_nil))
      (fb_cons (fs_for PassesOwn.never rfl (fi_range1 (by rfl) T.z_range (fa_cons (fe_b cb_len (by rfl) T.z_len (by decide +kernel) (fr_ref (fe_ix (fv 0) fe_int) fr_nil)) fa_nil)) (fg_name (pg_name (i := 2) sc__law_written.nd rfl (.inl rfl)))
      (fb_cons (fs_expr (fe_mu mu_append PySem.F.slot_list_append PySem.F.type_list_append (fv 1) (fa_cons (fe_op os_add fe_str (fe_bt cb_str (by rfl) T.z_str (by decide +kernel) (fr_ref (fv 2) fr_nil))) fa_nil)))
      (fb_cons (fs_for PassesOwn.never rfl (fi_tup (fe_ix (fe_ix (fv 0) fe_int) (fv 2))) (fg_tup (n := 3) rfl (fgs_cons (fg_name (pg_name (i := 3) sc__law_written.nd rfl (.inl rfl))) (fgs_cons (fg_name (pg_name (i := 4) sc__law_written.nd rfl (.inl rfl))) (fgs_cons (fg_name (pg_name (i := 5) sc__law_written.nd rfl (.inl rfl))) fgs_nil))))
      (fb_one (fs_expr (fe_mu mu_append PySem.F.slot_list_append PySem.F.type_list_append (fv 1) (fa_cons (fe_join fe_str (fe_op os_add (fe_lst (fa_cons fe_str (fa_cons (fv 3) (fa_cons (fe_bt cb_str (by rfl) T.z_str (by decide +kernel) (fr_ref (fv 4) fr_nil)) fa_nil)))) (fe_bt cb_list (by rfl) T.z_list (by decide +kernel) (fr_ref (fv 5) fr_nil)))) fa_nil)))))
      (fb_one (fs_for PassesOwn.never rfl (fi_list (fe_b cb_sortedA (by rfl) T.z_sorted (by decide +kernel) (fr_ref (fe_bt (cb_listD rfl) (by rfl) T.z_list (by decide +kernel) (fr_ref (fe_ix (fe_ix (fv 0) fe_int) (fv 2)) fr_nil)) fr_nil))) (fg_name (pg_name (i := 6) sc__law_written.nd rfl (.inl rfl)))
      (fb_one (fs_expr (fe_mu mu_append PySem.F.slot_list_append PySem.F.type_list_append (fv 1) (fa_cons (fe_join fe_str (fe_op os_add (fe_lst (fa_cons fe_str (fa_cons (fv 6) fa_nil))) (fe_lc rfl sc__law_written.nd (fi_tup (fe_dget (rk hr) (fe_ix (fe_ix (fv 0) fe_int) (fv 2)) (fv 6))) (blkOk_by (own := [("part", 7)]) (N := ["table", "rows", "k", "label", "dot", "ahead", "symbol", "part"]) (sc := defScope s__law_written) (by decide +kernel)) (fun _ _ _ _ _ => (fg_name (pg_name (i := 7) sc__law_written.nd rfl (.inl rfl)) (by intro l e; cases e; decide +kernel))) (fun _ _ _ _ _ => fts_nil) (fun _ _ _ _ _ => (fe_bt cb_str (by rfl) T.z_str (by decide +kernel) (fr_ref (fv 7) fr_nil)))))) fa_nil)))))))))
      (fb_one (fs_ret (fe_join fe_str (fv 1)))))), fun ρ R hl h => ?_⟩
  obtain ⟨ss, rfl, hf, q⟩ := h
  have sz := sz24
  have s3 : 3 ≤ sizeLine := by omega
  have s2 : 2 ≤ sizeLine := by omega
  have hlen := hf.few
  refine seq_setR [.sl false true (tblD ss), own (.lst []), .un, .un, .un, .un, .un, .un] (fun Z z => ⟨Nat.zero_le _, z⟩) ?_
  refine seq_cut (fun ρ => ∃ (s2 s3 s4 s5 s6 : Sl), ρ = [.sl false true (tblD ss), own (.lst ((rowsT 0 (ss.map sdS)).map D.str)), s2, s3, s4, s5, s6, .un]) ?rest0 fun rest => ?here0
  case rest0 =>
    rintro ρ ⟨s2, s3, s4, s5, s6, rfl⟩
    exact ⟨rowsT 0 (ss.map sdS), rfl, by show _ + _ * 1 ≤ _; rw [Nat.mul_one]; exact hf.all, q _⟩
  have lit : (ss.map fun s => itsD s.its).length = ss.length := List.length_map _
  refine ⟨.tup (ss.map fun s => itsD s.its), rfl, by rw [lit]; omega, by rw [lit]; omega, ?_⟩
  refine ⟨fun k ρ => ∃ (s2 s3 s4 s5 s6 : Sl), ρ = [.sl false true (tblD ss), own (.lst ((rowsT 0 ((ss.take k).map sdS)).map D.str)), s2, s3, s4, s5, s6, .un], ⟨.un, .un, .un, .un, .un, rfl⟩, ?_, ?_⟩
  case refine_2 =>
    rintro ρ ⟨s2, s3, s4, s5, s6, rfl⟩
    rw [intsD_len, lit, Int.toNat_natCast, List.take_length]
    exact rest _ ⟨_, _, _, _, _, rfl⟩
  rintro k y ρ hk ⟨s2', s3', s4', s5, s6, rfl⟩
  obtain ⟨lk, rfl⟩ := intsD_get hk
  rw [Int.zero_add]
  have hk' : k < ss.length := by omega
  obtain ⟨s, hs⟩ : ∃ s, ss[k]? = some s := ⟨ss[k], List.getElem?_eq_getElem hk'⟩
  have rm := hf.room hs
  have so := hf.st s (List.mem_of_getElem? hs)
  have ai : L2.atI (ss.map fun s => itsD s.its) (k : Int) = some (itsD s.its) := atI_nat (by rw [List.getElem?_map, hs]; rfl)
  have ad : L2.atI (ss.map fun s => desD s.des) (k : Int) = some (desD s.des) := atI_nat (by rw [List.getElem?_map, hs]; rfl)
  refine seq_cut (fun ρ => ρ = [.sl false true (tblD ss), own (.lst ((rowsI ss k s 0).map D.str)), dat (.int (k : Int)), s3', s4', s5, s6, .un]) ?rest1 fun rest1 => ?here1
  case here1 =>
    have tn : Tk (natS k) := natS_tk (by omega)
    have l2 : ("state " : Str).length + (natS k).length ≤ sizeLine := by
      have h6 : ("state " : Str).length = 6 := by decide +kernel
      have := tn.few
      omega
    refine ⟨log_small (by omega) (by omega), l2, ?_⟩
    refine ⟨by rw [List.length_map]; have := rm.pr0; omega, ?_⟩
    refine rest1 [.sl false true (tblD ss), own (.lst ((rowsT 0 ((ss.take k).map sdS)).map D.str ++ [.str (("state " : Str) ++ natS k)])), dat (.int (k : Int)), s3', s4', s5, s6, .un] ?_
    have e0 : rowsI ss k s 0 = rowsT 0 ((ss.take k).map sdS) ++ [stR k] := by unfold rowsI; rw [List.take_zero, List.map_nil, List.append_nil]
    rw [e0, List.map_append, st_txt]; rfl
  rintro ρ rfl
  refine seq_cut (fun ρ => ∃ s3 s4 s5, ρ = [.sl false true (tblD ss), own (.lst ((rowsI ss k s s.its.length).map D.str)), dat (.int (k : Int)), s3, s4, s5, s6, .un]) ?rest2 fun rest2 => ?here2
  case here2 =>
    refine ⟨.tup (ss.map fun s => itsD s.its), rfl, itsD s.its, ai, ?_⟩
    refine ⟨fun j ρ => ∃ s3 s4 s5, ρ = [.sl false true (tblD ss), own (.lst ((rowsI ss k s j).map D.str)), dat (.int (k : Int)), s3, s4, s5, s6, .un], ⟨_, _, _, rfl⟩, ?_, ?_⟩
    case refine_2 =>
      rintro ρ ⟨s3, s4, s5, rfl⟩
      rw [List.length_map]
      exact rest2 _ ⟨_, _, _, rfl⟩
    rintro j y ρ hj ⟨s3, s4, s5, rfl⟩
    rw [List.getElem?_map] at hj
    obtain ⟨x, hx, rfl⟩ := Option.map_eq_some_iff.mp hj
    have mx := List.mem_of_getElem? hx
    have ox := so.1.its x mx
    have lx := rm.it x mx
    have el := sp_len (ws := x.ws) (by intro z; cases z)
    have eal : x.ws.length = 3 + x.ah.length := by show x.ah.length + 1 + 1 + 1 = _; omega
    refine ⟨rfl, ?_⟩
    have hl2 : ([D.str "item", D.str x.l, D.str (natS x.n)] : List D).length + (x.ah.map D.str).length ≤ sizeLine := by rw [List.length_map]; show 3 + _ ≤ _; omega
    refine ⟨log_small (by omega) (by have := ox.n; omega), Nat.le_trans (by decide : 3 ≤ 16777216) sz, hl2, x.ws, rfl, by show _ + _ * 1 ≤ _; rw [Nat.mul_one]; omega, ?_⟩
    refine ⟨by rw [List.length_map]; have := rm.pre j; omega, dat (.str x.l), dat (.int (x.n : Int)), dat (.tup (x.ah.map D.str)), ?_⟩
    rw [rowsI_next hx, List.map_append]; rfl
  rintro ρ ⟨t3, t4, t5, rfl⟩
  rw [rowsI_all]
  have ek : ((desL s.des).map fun p => kD p.1) = (s.des.map (·.1)).map D.str := by unfold desL; rw [List.map_map, List.map_map]; rfl
  refine ⟨.tup (ss.map fun s => desD s.des), rfl, desD s.des, ad, s.des.map (·.1), ek, fun ys hp ha => ?_⟩
  rw [sd_keys so.2 hp ha]
  refine ⟨fun j ρ => ∃ s6, ρ = [.sl false true (tblD ss), own (.lst ((rowsW ss k s j).map D.str)), dat (.int (k : Int)), t3, t4, t5, s6, .un], ⟨_, rfl⟩, ?_, ?_⟩
  case refine_2 =>
    rintro ρ ⟨s6, rfl⟩
    refine ⟨dat (.int (k : Int)), t3, t4, t5, s6, ?_⟩
    rw [rows_next hs, List.length_map, List.length_map]
  rintro j y ρ hj ⟨s6, rfl⟩
  rw [List.getElem?_map, List.getElem?_map] at hj
  obtain ⟨m, hm, rfl⟩ := Option.map_eq_some_iff.mp hj
  obtain ⟨p, hp', rfl⟩ := Option.map_eq_some_iff.mp hm
  have mp := (sd_perm _).mem_iff.mp (List.mem_of_getElem? hp')
  have op := so.1.des p mp
  have lp := rm.de p mp
  have el := sp_len (ws := deW p) (by intro z; cases z)
  have eal : (deW p).length = 2 + p.2.ps.length := by show p.2.ps.length + 1 + 1 = _; omega
  refine ⟨s2, ?_⟩
  refine ⟨.tup (ss.map fun s => desD s.des), rfl, desD s.des, ad, .inr p.1, p.2.d, rfl, dget_mem so.2 mp, ?_⟩
  rw [DE.d_pd]
  refine ⟨fun t acc ρ => acc = (p.2.ps.take t).map D.str ∧ ρ = [.sl false true (tblD ss), own (.lst ((rowsW ss k s j).map D.str)), dat (.int (k : Int)), t3, t4, t5, dat (.str p.1), .un], ⟨rfl, rfl⟩, ?_, ?_, ?_⟩
  · rintro t y acc ρ ht ⟨rfl, rfl⟩
    obtain ⟨x, hx, hpt⟩ := DE.part op.2 ht
    have ht' : t < p.2.ps.length := (List.getElem?_eq_some_iff.mp hx).1
    have ln : ((p.2.ps.take t).map D.str).length < sizeLine := by rw [List.length_map, List.length_take]; omega
    rcases hpt with rfl | ⟨n, hn, rfl, rfl⟩
    · refine ⟨ln, ?_, rfl⟩
      rw [List.take_succ, hx, List.map_append]; rfl
    · refine ⟨log_small (by omega) (by omega), ln, ?_, rfl⟩
      rw [List.take_succ, hx, List.map_append]; rfl
  · rintro t acc ρ ⟨_, rfl⟩
    exact ⟨_, (rfl : _ = YP.wipeS [.sl false true (tblD ss), own (.lst ((rowsW ss k s j).map D.str)), dat (.int (k : Int)), t3, t4, t5, dat (.str p.1), .un] [7])⟩
  rintro acc ρ ⟨rfl, rfl⟩
  rw [DE.pd_len, List.take_length]
  have hl2 : ([D.str "on", D.str p.1] : List D).length + (p.2.ps.map D.str).length ≤ sizeLine := by rw [List.length_map]; show 2 + _ ≤ _; omega
  refine ⟨hl2, deW p, rfl, by show _ + _ * 1 ≤ _; rw [Nat.mul_one]; omega, ?_⟩
  refine ⟨by rw [List.length_map]; have := rm.prw j; omega, dat (.str p.1), ?_⟩
  rw [rowsW_next hp', List.map_append]; rfl
end
end K41
set_option maxRecDepth 100000
set_option maxHeartbeats 4000000
namespace K41
open PySem PySem.Spec PyProof.Rows L2 Yard YP TL
/-! ### the parts of a text -/
theorem joinL_mem {S p : List Nat} {c : Nat} : ∀ {l : List (List Nat)}, p ∈ l → c ∈ p → c ∈ joinL S l
  | [a], hp, hc => by rw [List.mem_singleton.mp hp] at hc; exact hc
  | a :: b :: r, hp, hc => by
    show c ∈ a ++ (S ++ joinL S (b :: r))
    rcases List.mem_cons.mp hp with rfl | hp
    · exact List.mem_append.mpr (.inl hc)
    · exact List.mem_append.mpr (.inr (List.mem_append.mpr (.inr (joinL_mem hp hc))))
theorem le_sum {a : Nat} : ∀ {l : List Nat}, a ∈ l → a ≤ l.sum
  | b :: l, h => by
    rw [List.sum_cons]
    rcases List.mem_cons.mp h with rfl | h
    · omega
    · have := le_sum h; omega
structure Pts (x : Str) (l : List Str) : Prop where
  ne : l ≠ []
  tk : ∀ w ∈ l, Tk w ∧ w.length ≤ x.length
  len : l.length ≤ x.length + 1
theorem pts {x s : Str} (hx : Tk x) (h1 : s.length = 1) (he : Txt.split "" s ≠ []) : Pts x (Txt.split x s) := by
  have ej : Str.join s (Txt.split x s) = x := PySem.StrLaws.join_split x s
  have hne : Txt.split x s ≠ [] := fun z => by
    rw [z] at ej
    exact he (by rw [show ("" : Str) = x from ej]; exact z)
  have et : joinL (tl s) ((Txt.split x s).map tl) = tl x := by rw [← tl_join, ej]
  have el : ((Txt.split x s).map (·.length)).sum + (Txt.split x s).length = x.length + 1 := by
    conv => rhs; rw [← ej]
    cases e : Txt.split x s with
    | nil => exact absurd e hne
    | cons a l => rw [len_join_cons, h1, List.length_cons]; omega
  refine ⟨hne, fun w hw => ?_, by omega⟩
  have hl : w.length ≤ ((Txt.split x s).map (·.length)).sum := le_sum (List.mem_map.mpr ⟨w, hw, rfl⟩)
  have hp : 1 ≤ (Txt.split x s).length := List.length_pos_of_mem hw
  have hl2 : w.length ≤ x.length := by omega
  refine ⟨⟨ok_codes.mpr fun c hc => ok_codes.mp hx.ok c ?_, Nat.le_trans hl2 hx.few⟩, hl2⟩
  show c ∈ tl x
  rw [← et]
  exact joinL_mem (List.mem_map.mpr ⟨w, hw, rfl⟩) hc
theorem ptsW {x : Str} (hx : Tk x) : Pts x (Txt.split x " ") := pts hx (by decide +kernel) (by decide +kernel)
theorem ptsR {x : Str} (hx : Tk x) : Pts x (Txt.split x "\n") := pts hx (by decide +kernel) (by decide +kernel)
/-! ### a step by its first word -/
theorem itemF_head {w : Str} {r : List Str} (h : w ≠ "item") : itemF (w :: r) = none := by
  match r with
  | [] => rfl
  | [_] => rfl
  | a :: b :: r => exact if_neg fun z => h z.1
theorem deedF_head {w : Str} {r : List Str} (h : w ≠ "on") : deedF (w :: r) = none := by
  match r with
  | [] => rfl
  | a :: r => exact if_neg fun z => h z.1
theorem state_ne {w : Str} {r l : List Str} (h : w ≠ "state") : ¬ (w :: r = ("state" : Str) :: l) := fun z => h (List.cons.inj z).1
theorem step_state (ss : List ST) (r : List Str) : step ss (("state" : Str) :: r) = if r = [natS ss.length] then some (ss ++ [⟨[], []⟩]) else none := by
  unfold step
  by_cases h : r = [natS ss.length]
  · rw [if_pos (by rw [h]), if_pos h]
  · rw [if_neg (fun z => h (List.cons.inj z).2), if_neg h]
    cases ss.getLast? with
    | none => rfl
    | some s =>
      dsimp only
      rw [itemF_head (by decide +kernel), deedF_head (by decide +kernel)]
theorem step_item (ss : List ST) (r : List Str) : step ss (("item" : Str) :: r) = match ss.getLast? with
    | none => none
    | some s => match itemF (("item" : Str) :: r) with
      | some x => if s.des = [] then some (ss.dropLast ++ [⟨s.its ++ [x], []⟩]) else none
      | none => none := by
  unfold step
  rw [if_neg (state_ne (by decide +kernel))]
  cases ss.getLast? with
  | none => rfl
  | some s =>
    dsimp only
    cases itemF (("item" : Str) :: r) with
    | some x => rfl
    | none => dsimp only; rw [deedF_head (by decide +kernel)]
theorem step_on (ss : List ST) (r : List Str) : step ss (("on" : Str) :: r) = match ss.getLast? with
    | none => none
    | some s => match deedF (("on" : Str) :: r) with
      | some p => if behF p.1 s.des = true then some (ss.dropLast ++ [⟨s.its, s.des ++ [p]⟩]) else none
      | none => none := by
  unfold step
  rw [if_neg (state_ne (by decide +kernel))]
  cases ss.getLast? with
  | none => rfl
  | some s =>
    dsimp only
    rw [itemF_head (by decide +kernel)]
    all_goals rfl
theorem step_other {ss : List ST} {w : Str} {r : List Str} (h1 : w ≠ "state") (h2 : w ≠ "item") (h3 : w ≠ "on") : step ss (w :: r) = none := by
  unfold step
  rw [if_neg (state_ne h1)]
  cases ss.getLast? with
  | none => rfl
  | some s =>
    dsimp only
    rw [itemF_head h2, deedF_head h3]
def lastK (l : List (Str × DE)) : Str := match l.getLast? with
  | none => ""
  | some p => p.1
def lastD (ss : List ST) : D := match ss.getLast? with
  | none => .non
  | some s => .str (lastK s.des)
def goodF (ws : List Str) : Bool := decide (2 < ws.length) && (mkF (ws.getD 1 "") && (numF (ws.getD 2 "")).isSome)
theorem itemF_good (r : List Str) : (itemF (("item" : Str) :: r)).isSome = (goodF (("item" : Str) :: r) && ((("item" : Str) :: r).drop 3).all mkF) := by
  match r with
  | [] => rfl
  | [a] => rfl
  | l :: d :: ah =>
    show (if ("item" : Str) = "item" ∧ mkF l = true ∧ ah.all mkF = true then (numF d).map fun n => (⟨l, n, ah⟩ : IT) else none).isSome = ((decide (2 < ah.length + 1 + 1 + 1) && (mkF l && (numF d).isSome)) && ah.all mkF)
    rw [decide_eq_true (by omega : 2 < ah.length + 1 + 1 + 1)]
    cases h1 : mkF l with
    | false => rw [if_neg (fun z => by cases z.2.1)]; rfl
    | true =>
      cases h2 : ah.all mkF with
      | false => rw [if_neg (fun z => by cases z.2.2)]; cases (numF d).isSome <;> rfl
      | true => rw [if_pos ⟨rfl, rfl, rfl⟩]; cases numF d <;> rfl
theorem lastD_snoc (a : List ST) (s : ST) : lastD (a ++ [s]) = .str (lastK s.des) := by unfold lastD; rw [List.getLast?_concat]
theorem lastK_snoc (a : List (Str × DE)) (p : Str × DE) : lastK (a ++ [p]) = p.1 := by unfold lastK; rw [List.getLast?_concat]
theorem lastK_nil {l : List (Str × DE)} (h : ∀ p ∈ l, mkF p.1 = true) : lastK l = "" ↔ l = [] := by
  unfold lastK
  cases e : l.getLast? with
  | none => exact ⟨fun _ => List.getLast?_eq_none_iff.mp e, fun _ => rfl⟩
  | some p =>
    refine ⟨fun z => ?_, fun z => by rw [z] at e; cases e⟩
    have := (mk_in (h p (List.mem_of_getLast? e))).1
    have h0 : p.1.length = 0 := by rw [show p.1 = "" from z]; decide +kernel
    omega
theorem behF_last {k : Str} {l : List (Str × DE)} (hk : mkF k = true) : behF k l = decide ((lastK l).cps.toList < k.cps.toList) := by
  unfold behF lastK
  cases l.getLast? with
  | some p => rfl
  | none =>
    have hl := (mk_in hk).1
    have h1 : 1 ≤ k.cps.toList.length := by rw [← len_tl]; omega
    symm
    refine decide_eq_true ?_
    show ("" : Str).cps.toList < k.cps.toList
    rw [show ("" : Str).cps.toList = [] from by decide +kernel]
    cases e : k.cps.toList with
    | nil => rw [e] at h1; simp at h1
    | cons a r => exact List.nil_lt_cons a r
theorem step_len {ss ss' : List ST} {a : List ST} {s : ST} (h : ss ≠ []) (e : ss' = ss.dropLast ++ [s]) : ss'.length = ss.length := by
  rw [e, List.length_append, List.length_dropLast]
  have := List.length_pos_iff.mpr h
  show ss.length - 1 + 1 = _
  omega
theorem last_none {ss : List ST} (h : ss.getLast? = none) : lastD ss = .non := by unfold lastD; rw [h]
theorem last_some {ss : List ST} {s : ST} (h : ss.getLast? = some s) : lastD ss = .str (lastK s.des) := by unfold lastD; rw [h]
def wrongD (x : Str) : D := match run [] 0 (Txt.split x "\n") with
  | .inr _ => .non
  | .inl k => .int (k : Int)
theorem run_drop {rows : List Str} {i : Nat} {r : Str} {ss : List ST} (h : rows[i]? = some r) : run ss i (rows.drop i) = match step ss (Txt.split r " ") with
    | some s' => run s' (i + 1) (rows.drop (i + 1))
    | none => .inl i := by
  have hi := (List.getElem?_eq_some_iff.mp h).1
  rw [List.drop_eq_getElem_cons hi, (List.getElem?_eq_some_iff.mp h).2]; rfl
/-- the keys of the states so far are marks -/
def Mks (ss : List ST) : Prop := ∀ s ∈ ss, ∀ p ∈ s.des, mkF p.1 = true
theorem step_mks {ss ss' : List ST} {r : Str} (h : step ss (Txt.split r " ") = some ss') (k : ∀ s ∈ ss, ST.Rd s) : ∀ s ∈ ss', ST.Rd s := (step_ok h k).1
section
variable {P : Program} {w : World} {K : PySem.W.Frag} {mg : Str → Option Value} {base : Heap}
theorem isB_t {A B : List Sl → Prop} {ρ : List Sl} (h : A ρ) : isB (fun b ρ1 => if b = true then A ρ1 else B ρ1) (.val (.bl true)) ρ := h
theorem nums_get {rows : List Str} {i : Nat} {y : D} (hy : (nums (rows.map D.str))[i]? = some y) : ∃ r, rows[i]? = some r ∧ y = .tup [.int (i : Int), .str r] := by
  unfold nums at hy
  rw [List.getElem?_map] at hy
  obtain ⟨k, hk, e⟩ := Option.map_eq_some_iff.mp hy
  obtain ⟨hi, ek⟩ := List.getElem?_eq_some_iff.mp hk
  rw [List.getElem_range] at ek
  subst ek
  rw [List.length_range, List.length_map] at hi
  refine ⟨rows[i], List.getElem?_eq_getElem hi, ?_⟩
  rw [← e, List.getD_eq_getElem?_getD, List.getElem?_map, List.getElem?_eq_getElem hi]; rfl
theorem gT2 {i j : Nat} {a b : D} {ρ : List Sl} {R : List Sl → Prop} (h : R ((ρ.set i (.sl false false a)).set j (.sl false false b))) : uGTup 2 (uGCons (uName i) (uGCons (uName j) uGNil)) (.tup [a, b]) ρ R := ⟨rfl, h⟩
theorem lastK_tk {ss : List ST} {s : ST} (rd : ∀ s ∈ ss, ST.Rd s) (h : ss.getLast? = some s) : Tk (lastK s.des) := by
  unfold lastK
  cases e : s.des.getLast? with
  | none => exact sw ""
  | some p => exact mk_tk ((rd s (List.mem_of_getLast? h)).ok.des p (List.mem_of_getLast? e)).1
def uWrong : UF := fun ρ R => ∃ x : Str, ρ = [dat (.str x)] ∧ Tk x ∧ x.length ≤ 900000 ∧ ∀ s, R (.val (wrongD x)) [s]
theorem sc__law_wrong_row : FnScope ["text", "states", "last", "k", "row", "words", "good", "word"] ["text"] (defScope s__law_wrong_row) := ⟨rfl, rfl, rfl, by decide +kernel, rfl, by decide +kernel, by decide +kernel⟩
theorem ok__law_wrong_row (T : Tx K w mg) : FnOk P w K mg base CX0 3 T.a__law_wrong_row T.f__law_wrong_row ["text"] (PSp K 1 uWrong) := by
  refine fn_mk T.d__law_wrong_row.fn sc__law_wrong_row (by decide) fun cdv A outer s H E hr => ?_
  refine ⟨_, (fb_cons (fs_set (ps_set (i := 1) sc__law_wrong_row.nd rfl (.inl rfl) pe_S) fe_int)
      (fb_cons (fs_set (ps_set (i := 2) sc__law_wrong_row.nd rfl (.inl rfl) pe_S) fe_non)
      (fb_cons (fs_for PassesOwn.never rfl (fi_enum (by rfl) T.z_enumerate (fa_cons (fe_split (fv 0) fe_str) fa_nil)) (fg_tup (n := 2) rfl (fgs_cons (fg_name (pg_name (i := 3) sc__law_wrong_row.nd rfl (.inl rfl))) (fgs_cons (fg_name (pg_name (i := 4) sc__law_wrong_row.nd rfl (.inl rfl))) fgs_nil)))
      (fb_cons (fs_set (ps_set (i := 5) sc__law_wrong_row.nd rfl (.inl rfl) pe_S) (fe_split (fv 4) fe_str))
      (fb_one (fs_if (ft_cmp (os_eq (ru hr)) (fe_ix (fv 5) fe_int) fe_str)
      (fb_cons (fs_if (ft_cmp (os_ne (ru hr)) (fe_sl (fv 5) (fo_int fe_int) fo_no) (fe_lst (fa_cons (fe_bt cb_str (by rfl) T.z_str (by decide +kernel) (fr_ref (fv 1) fr_nil)) fa_nil)))
      (fb_one (fs_ret (fv 3)))
      fb_nil)
      (fb_cons (fs_set (ps_set (i := 1) sc__law_wrong_row.nd rfl (.inl rfl) pe_S) (fe_op os_add (fv 1) fe_int))
      (fb_one (fs_set (ps_set (i := 2) sc__law_wrong_row.nd rfl (.inl rfl) pe_S) fe_str))))
      (fb_one (fs_if (ft_cmp (os_eq (ru hr)) (fe_ix (fv 5) fe_int) fe_str)
      (fb_cons (fs_set (ps_set (i := 6) sc__law_wrong_row.nd rfl (.inl rfl) pe_S) (fe_and (fe_cmp os_gt (fe_b cb_len (by rfl) T.z_len (by decide +kernel) (fr_ref (fv 5) fr_nil)) fe_int) (fe_and (fe_call (ok__law_is_mark T) (hr.mono (by omega)) (by rfl) T.d__law_is_mark.at_ T.d__law_is_mark.kp T.d__law_is_mark.bd (fr_val (fe_ix (fv 5) fe_int) fr_nil)) (fe_one (fe_call (ok__law_is_number T) (hr.mono (by omega)) (by rfl) T.d__law_is_number.at_ T.d__law_is_number.kp T.d__law_is_number.bd (fr_val (fe_ix (fv 5) fe_int) fr_nil))))))
      (fb_one (fs_if (FW.ft (fw_or (ft_not (ft_tru (fv 6))) (fw_or (ft_cmp (os_ne (ru hr)) (fv 2) fe_str) (fw_or1 (ft_not (ft_tru (fe_b (cb_all rfl) (by rfl) T.z_all (by decide +kernel) (fr_ref (fe_lc rfl sc__law_wrong_row.nd (fi_list (fe_sl (fv 5) (fo_int fe_int) fo_no)) (blkOk_by (own := [("word", 7)]) (N := ["text", "states", "last", "k", "row", "words", "good", "word"]) (sc := defScope s__law_wrong_row) (by decide +kernel)) (fun _ _ _ _ _ => (fg_name (pg_name (i := 7) sc__law_wrong_row.nd rfl (.inl rfl)) (by intro l e; cases e; decide +kernel))) (fun _ _ _ _ _ => fts_nil) (fun _ _ _ _ _ => (fe_call (ok__law_is_mark T) (hr.mono (by omega)) (by rfl) T.d__law_is_mark.at_ T.d__law_is_mark.kp T.d__law_is_mark.bd (fr_val (fv 7) fr_nil)))) fr_nil))))))))
      (fb_one (fs_ret (fv 3)))
      fb_nil)))
      (fb_cons (fs_if (FW.ft (fw_or (ft_cmp (os_ne (ru hr)) (fe_ix (fv 5) fe_int) fe_str) (fw_or (ft_cmp os_is (fv 2) fe_non) (fw_or (ft_cmp os_lt (fe_b cb_len (by rfl) T.z_len (by decide +kernel) (fr_ref (fv 5) fr_nil)) fe_int) (fw_or1 (ft_not (ft_tru (fe_call (ok__law_is_mark T) (hr.mono (by omega)) (by rfl) T.d__law_is_mark.at_ T.d__law_is_mark.kp T.d__law_is_mark.bd (fr_val (fe_ix (fv 5) fe_int) fr_nil)))))))))
      (fb_one (fs_ret (fv 3)))
      fb_nil)
      (fb_cons (fs_if (FW.ft (fw_or (ft_cmp os_leS (fe_ix (fv 5) fe_int) (fv 2)) (fw_or1 (ft_not (ft_tru (fe_call (ok__law_is_deed T) (hr.mono (by omega)) (by rfl) T.d__law_is_deed.at_ T.d__law_is_deed.kp T.d__law_is_deed.bd (fr_val (fe_sl (fv 5) (fo_int fe_int) fo_no) fr_nil)))))))
      (fb_one (fs_ret (fv 3)))
      fb_nil)
      (fb_one (fs_set (ps_set (i := 2) sc__law_wrong_row.nd rfl (.inl rfl) pe_S) (fe_ix (fv 5) fe_int)))))))))))
      (fb_one (fs_ret fe_non))))), fun ρ R hl h => ?_⟩
  obtain ⟨x, rfl, hx, hl9, q⟩ := h
  have sz := sz24
  have s1 : 1 ≤ sizeLine := by omega
  have px := ptsR hx
  obtain ⟨rows, hrows⟩ : ∃ rows, rows = Txt.split x "\n" := ⟨_, rfl⟩
  refine set_val ?_
  refine set_val ?_
  refine ⟨x, rfl, "\n", rfl, by decide +kernel, by omega, ?_⟩
  have qn : ∀ ss, run [] 0 rows = .inr ss → wrongD x = .non := fun ss e => by unfold wrongD; rw [← hrows, e]
  have qk : ∀ k, run [] 0 rows = .inl k → wrongD x = .int (k : Int) := fun k e => by unfold wrongD; rw [← hrows, e]
  rw [← hrows] at px ⊢
  refine ⟨fun i ρ => ∃ (ss : List ST) (s3 s4 s5 s6 : Sl), run [] 0 rows = run ss i (rows.drop i) ∧ (∀ s ∈ ss, ST.Rd s) ∧ ss.length ≤ i ∧ ρ = [.sl false true (.str x), dat (.int (ss.length : Int)), dat (lastD ss), s3, s4, s5, s6, .un], ⟨[], .un, .un, .un, .un, rfl, fun _ h => (nomatch h), Nat.le_refl _, rfl⟩, ?_, ?_⟩
  case refine_2 =>
    rintro ρ ⟨ss, s3, s4, s5, s6, e, _, _, rfl⟩
    have el : (nums (rows.map D.str)).length = rows.length := by simp [nums]
    rw [el, List.drop_length] at e
    have := qn ss e
    rw [this] at q
    exact q _
  rintro i y ρ hy ⟨ss, s3, s4, s5, s6, e, rd, lss, rfl⟩
  have el : (nums (rows.map D.str)).length = rows.length := by simp [nums]
  have hi : i < rows.length := by rw [← el]; exact (List.getElem?_eq_some_iff.mp hy).1
  obtain ⟨row, hr, rfl⟩ := nums_get hy
  have trow := px.tk row (List.mem_of_getElem? hr)
  have pw := ptsW trow.1
  have hstep := run_drop (ss := ss) hr
  rw [← e] at hstep
  have lsi : ss.length < 10000000 := by have := px.len; omega
  refine gT2 ?_
  obtain ⟨ws, hws⟩ : ∃ ws, ws = Txt.split row " " := ⟨_, rfl⟩
  refine seq_setR [.sl false true (.str x), dat (.int (ss.length : Int)), dat (lastD ss), dat (.int (i : Int)), dat (.str row), own (wsD ws), s6, .un] (fun Z z => ⟨row, rfl, " ", rfl, by decide +kernel, by have := trow.2; omega, by rw [hws] at z; exact z⟩) ?_
  have rdS : ∀ ss', step ss ws = some ss' → ∀ s ∈ ss', ST.Rd s := fun ss' h => by rw [hws] at h; exact step_mks h rd
  rw [← hws] at pw hstep
  have wl : ws.length ≤ 900001 := by have := pw.len; have := trow.2; omega
  have wt : ∀ w ∈ ws, Tk w := fun w hw => (pw.tk w hw).1
  clear hws
  obtain ⟨w0, wr, rfl⟩ : ∃ a r, ws = a :: r := by
    cases ws with
    | nil => exact absurd rfl pw.ne
    | cons a r => exact ⟨a, r, rfl⟩
  have bad : step ss (w0 :: wr) = none → ∀ s, R (.val (.int (i : Int))) [s] := fun h => by
    rw [h] at hstep
    have := qk i hstep
    rw [this] at q
    exact q
  have lm : (((w0 :: wr).map D.str).length : Nat) = wr.length + 1 := by rw [List.length_map]; rfl
  have t0 := wt w0 (by simp)
  have c1 : YP.cut ((w0 :: wr).map D.str) (some 1) none = wr.map D.str := by rw [show (some (1 : Int)) = some ((1 : Nat) : Int) from rfl, cut_fr]; rfl
  have c2 : YP.cut ((w0 :: wr).map D.str) (some 2) none = ((w0 :: wr).drop 2).map D.str := by rw [show (some (2 : Int)) = some ((2 : Nat) : Int) from rfl, cut_fr, List.map_drop]
  have c3 : YP.cut ((w0 :: wr).map D.str) (some 3) none = ((w0 :: wr).drop 3).map D.str := by rw [show (some (3 : Int)) = some ((3 : Nat) : Int) from rfl, cut_fr, List.map_drop]
  refine ⟨.str w0, atW (j := 0) rfl, (okTk t0).ok, (okTk (sw "state")).ok, ?_⟩
  rw [eqD_str]
  by_cases h1 : w0 = "state"
  · rw [decide_eq_true h1]
    subst h1
    have tn : Tk (natS ss.length) := natS_tk lsi
    have okr : OkN 1 (.lst (wr.map D.str)) := okWs fun w hw => wt w (by simp [hw])
    refine ⟨log_small (by omega) (by have := px.len; omega), s1, by rw [c1]; exact okr.ok, (okW1 _ tn).ok, ?_⟩
    rw [c1, show eqD (.lst (wr.map D.str)) (.lst [.str (Str.ofString (toString ((ss.length : Nat) : Int)))]) = decide (wr = [natS ss.length]) from eqL wr [natS ss.length]]
    by_cases h2 : wr = [natS ss.length]
    · rw [decide_eq_true h2]
      have hs : step ss (("state" : Str) :: wr) = some (ss ++ [⟨[], []⟩]) := by rw [step_state, if_pos h2]
      rw [hs] at hstep
      have eD : lastD (ss ++ [⟨[], []⟩]) = .str "" := lastD_snoc _ _
      refine ⟨ss ++ [⟨[], []⟩], dat (.int (i : Int)), dat (.str row), own (wsD (("state" : Str) :: wr)), s6, hstep, rdS _ hs, by rw [List.length_append]; show ss.length + 1 ≤ _; omega, ?_⟩
      rw [eD, List.length_append]
      rfl
    · rw [decide_eq_false h2]
      exact bad (by rw [step_state, if_neg h2]) _
  rw [decide_eq_false h1]
  refine ⟨.str w0, atW (j := 0) rfl, (okTk t0).ok, (okTk (sw "item")).ok, ?_⟩
  rw [eqD_str]
  by_cases h2 : w0 = "item"
  · rw [decide_eq_true h2]
    subst h2
    refine isB_t ?_
    refine seq_cut (fun ρ => ρ = [.sl false true (.str x), dat (.int (ss.length : Int)), dat (lastD ss), dat (.int (i : Int)), dat (.str row), own (wsD (("item" : Str) :: wr)), dat (.bl (goodF (("item" : Str) :: wr))), .un]) ?rest1 fun rest1 => ?here1
    case here1 =>
      show (if decide ((2 : Int) < ((((("item" : Str) :: wr).map D.str).length : Nat) : Int)) = true then _ else _)
      by_cases h3 : 2 < wr.length + 1
      case neg =>
        rw [decide_eq_false (by rw [lm]; omega)]
        have eg : goodF (("item" : Str) :: wr) = false := by unfold goodF; rw [show decide (2 < (("item" : Str) :: wr).length) = false from decide_eq_false (fun z => h3 z)]; rfl
        exact rest1 _ (by rw [eg])
      rw [decide_eq_true (by rw [lm]; omega)]
      obtain ⟨l, d, ah, rfl⟩ : ∃ l d ah, wr = l :: d :: ah := by
        match wr, h3 with
        | l :: d :: ah, _ => exact ⟨l, d, ah, rfl⟩
        | [], h => simp at h
        | [_], h => simp at h
      have eg : goodF (("item" : Str) :: l :: d :: ah) = (mkF l && (numF d).isSome) := by
        show (decide (2 < (l :: d :: ah).length + 1) && (mkF l && (numF d).isSome)) = _
        rw [decide_eq_true h3]; rfl
      rw [eg] at rest1
      refine ⟨.str l, atW (j := 1) rfl, List.nodup_nil, l, rfl, wt l (by simp), fun s => ?_⟩
      dsimp only
      rw [wb_no (rs := [.val (.str l)]) [s] rfl]
      cases hm : mkF l with
      | false => exact rest1 _ (by rw [hm]; first | rfl | done)
      | true =>
        refine ⟨.str d, atW (j := 2) rfl, List.nodup_nil, d, rfl, wt d (by simp), fun s => ?_⟩
        dsimp only
        rw [wb_no (rs := [.val (.str d)]) [s] rfl]
        exact rest1 _ (by rw [hm]; rfl)
    rintro ρ rfl
    have eis := itemF_good wr
    cases hg : goodF (("item" : Str) :: wr) with
    | false =>
      rw [hg] at eis
      have hn : itemF (("item" : Str) :: wr) = none := by
        cases e2 : itemF (("item" : Str) :: wr) with
        | none => rfl
        | some _ => rw [e2] at eis; cases eis
      exact bad (by rw [step_item, hn]; cases ss.getLast? <;> rfl) _
    | true =>
      rw [hg, Bool.true_and] at eis
      cases hL : ss.getLast? with
      | none =>
        rw [last_none hL]
        refine ⟨okN_non.ok, (okTk (sw "")).ok, ?_⟩
        exact bad (by rw [step_item, hL]) _
      | some s =>
        have tl := lastK_tk rd hL
        rw [last_some hL]
        refine ⟨(okTk tl).ok, (okTk (sw "")).ok, ?_⟩
        rw [eqD_str]
        have lk := lastK_nil (l := s.des) fun p hp => ((rd s (List.mem_of_getLast? hL)).ok.des p hp).1
        by_cases hdes : s.des = []
        case neg =>
          rw [decide_eq_false fun z => hdes (lk.mp z)]
          refine bad ?_ _
          rw [step_item, hL]
          dsimp only
          cases itemF (("item" : Str) :: wr) with
          | none => rfl
          | some x => dsimp only; rw [if_neg hdes]
        rw [decide_eq_true (lk.mpr hdes)]
        refine ⟨fun t acc ρ => acc = ((((("item" : Str) :: wr).drop 3).take t).map fun m => D.bl (mkF m)) ∧ ρ = [.sl false true (.str x), dat (.int (ss.length : Int)), dat (.str (lastK s.des)), dat (.int (i : Int)), dat (.str row), own (wsD (("item" : Str) :: wr)), dat (.bl true), .un], ⟨rfl, rfl⟩, ?_, ?_, ?_⟩
        · rintro t y acc ρ hi2 ⟨rfl, rfl⟩
          rw [c3, List.getElem?_map] at hi2
          obtain ⟨z, hz, rfl⟩ := Option.map_eq_some_iff.mp hi2
          have hzt : Tk z := wt z (List.mem_of_mem_drop (List.mem_of_getElem? hz))
          refine ⟨List.nodup_nil, z, rfl, hzt, fun s => ?_⟩
          dsimp only
          rw [wb_no (rs := [.val (.str z)]) [s] rfl]
          have := (List.getElem?_eq_some_iff.mp hz).1
          rw [List.length_drop] at this
          refine ⟨by rw [List.length_map, List.length_take]; omega, ?_, rfl⟩
          rw [List.take_succ, hz, List.map_append]; rfl
        · rintro t acc ρ ⟨_, rfl⟩
          exact ⟨_, (rfl : _ = YP.wipeS [.sl false true (.str x), dat (.int (ss.length : Int)), dat (.str (lastK s.des)), dat (.int (i : Int)), dat (.str row), own (wsD (("item" : Str) :: wr)), dat (.bl true), .un] [7])⟩
        rintro acc ρ ⟨rfl, rfl⟩
        rw [c3, List.length_map, List.take_length]
        refine ⟨((("item" : Str) :: wr).drop 3).map mkF, by rw [List.map_map]; rfl, ?_⟩
        have ea : (((("item" : Str) :: wr).drop 3).map mkF).all id = ((("item" : Str) :: wr).drop 3).all mkF := by rw [List.all_map]; rfl
        rw [ea]
        cases hall : ((("item" : Str) :: wr).drop 3).all mkF with
        | false =>
          rw [hall] at eis
          have hn : itemF (("item" : Str) :: wr) = none := by
            cases e2 : itemF (("item" : Str) :: wr) with
            | none => rfl
            | some _ => rw [e2] at eis; cases eis
          exact bad (by rw [step_item, hL, hn]) _
        | true =>
          rw [hall] at eis
          obtain ⟨xi, hx2⟩ := Option.isSome_iff_exists.mp eis
          have hs : step ss (("item" : Str) :: wr) = some (ss.dropLast ++ [⟨s.its ++ [xi], []⟩]) := by rw [step_item, hL, hx2]; dsimp only; rw [if_pos hdes]
          have hne : ss ≠ [] := fun z => by rw [z] at hL; cases hL
          have hle := step_len (a := []) hne (rfl : ss.dropLast ++ [(⟨s.its ++ [xi], []⟩ : ST)] = _)
          rw [hs] at hstep
          refine ⟨ss.dropLast ++ [⟨s.its ++ [xi], []⟩], dat (.int (i : Int)), dat (.str row), own (wsD (("item" : Str) :: wr)), dat (.bl true), hstep, rdS _ hs, by rw [hle]; omega, ?_⟩
          rw [hle, lastD_snoc, hdes]
  rw [decide_eq_false h2]
  refine ⟨.str w0, atW (j := 0) rfl, (okTk t0).ok, (okTk (sw "on")).ok, ?_⟩
  rw [eqD_str]
  by_cases h3 : w0 = "on"
  case neg =>
    rw [decide_eq_false h3]
    exact bad (step_other h1 h2 h3) _
  rw [decide_eq_true h3]
  subst h3
  cases hL : ss.getLast? with
  | none =>
    rw [last_none hL]
    exact bad (by rw [step_on, hL]) _
  | some s =>
    have tl := lastK_tk rd hL
    rw [last_some hL]
    show (if decide (((((("on" : Str) :: wr).map D.str).length : Nat) : Int) < 2) = true then _ else _)
    cases wr with
    | nil =>
      refine bad ?_ _
      rw [step_on, hL]; rfl
    | cons k told =>
    rw [decide_eq_false (by rw [lm]; simp only [List.length_cons]; omega)]
    have tk := wt k (by simp)
    have e0 : deedF (("on" : Str) :: k :: told) = if ("on" : Str) = "on" ∧ mkF k = true then (partF told).map fun e => (k, e) else none := rfl
    refine ⟨.str k, atW (j := 1) rfl, List.nodup_nil, k, rfl, tk, fun s' => ?_⟩
    dsimp only
    rw [wb_no (rs := [.val (.str k)]) [s'] rfl]
    show (if (!mkF k) = true then _ else _)
    cases hm : mkF k with
    | false =>
      refine bad ?_ _
      rw [step_on, hL, e0, if_neg (fun z => by rw [hm] at z; cases z.2)]
    | true =>
    have e1 : deedF (("on" : Str) :: k :: told) = (partF told).map fun e => (k, e) := by rw [e0, if_pos ⟨rfl, hm⟩]
    have hb := behF_last (l := s.des) hm
    rw [if_neg (by decide : ¬ ((!true) = true))]
    refine ⟨.str k, atW (j := 1) rfl, ?_⟩
    show (if (!decide ((lastK s.des).cps.toList < k.cps.toList)) = true then _ else _)
    rw [← hb]
    cases hbe : behF k s.des with
    | false =>
      refine bad ?_ _
      rw [step_on, hL, e1]
      dsimp only
      cases partF told with
      | none => rfl
      | some e => show (if behF k s.des = true then _ else _) = _; rw [hbe]; rfl
    | true =>
    rw [if_neg (by decide : ¬ ((!true) = true))]
    refine ⟨List.nodup_nil, told, (by rw [c2]; rfl), fun w hw => wt w (by simp [hw]), by simp only [List.length_cons] at wl; omega, fun s' => ?_⟩
    dsimp only
    rw [wb_no (rs := [.val (.lst (YP.cut (((("on" : Str) :: k :: told)).map D.str) (some 2) none))]) [s'] rfl]
    show (if (!(partF told).isSome) = true then _ else _)
    cases hpt : partF told with
    | none =>
      refine bad ?_ _
      rw [step_on, hL, e1, hpt]; rfl
    | some e =>
    have hs : step ss (("on" : Str) :: k :: told) = some (ss.dropLast ++ [⟨s.its, s.des ++ [(k, e)]⟩]) := by
      rw [step_on, hL, e1, hpt]
      show (if behF k s.des = true then _ else _) = _
      rw [hbe]; rfl
    have hne : ss ≠ [] := fun z => by rw [z] at hL; cases hL
    have hle := step_len (a := []) hne (rfl : ss.dropLast ++ [(⟨s.its, s.des ++ [(k, e)]⟩ : ST)] = _)
    rw [hs] at hstep
    refine ⟨.str k, atW (j := 1) rfl, ss.dropLast ++ [⟨s.its, s.des ++ [(k, e)]⟩], dat (.int (i : Int)), dat (.str row), own (wsD (("on" : Str) :: k :: told)), s6, hstep, rdS _ hs, by rw [hle]; omega, ?_⟩
    rw [hle, lastD_snoc, lastK_snoc]
    rfl
end
end K41
set_option maxRecDepth 100000
set_option maxHeartbeats 4000000
namespace K41
open PySem PySem.Spec PyProof.Rows L2 Yard YP TL
/-! ### texts that are made of texts -/
def Low (x : Str) : Prop := ∀ c ∈ x.cps.toList, c < 1114112
theorem Low.ok {x : Str} (h : Low x) : PyData.strOk x = true := ok_codes.mpr h
theorem Tk.low {x : Str} (h : Tk x) : Low x := ok_codes.mp h.ok
theorem Low.app {x y : Str} (h : Low x) (k : Low y) : Low (x ++ y) := fun c hc => by
  rw [show (x ++ y).cps.toList = x.cps.toList ++ y.cps.toList from tl_append x y] at hc
  rcases List.mem_append.mp hc with hc | hc
  · exact h c hc
  · exact k c hc
theorem Low.cut {x : Str} (h : Low x) (lo hi : Option Int) : Low (cutS x lo hi) := fun c hc => by
  have hc : c ∈ (x.cps.toList.drop (HT.sIx x.length 0 lo)).take (HT.sIx x.length x.length hi - HT.sIx x.length 0 lo) := hc
  exact h c (List.mem_of_mem_drop (List.mem_of_mem_take hc))
theorem cut_len (x : Str) (lo hi : Option Int) : (cutS x lo hi).length ≤ x.length := by
  rw [len_tl]
  show ((x.cps.toList.drop (HT.sIx x.length 0 lo)).take (HT.sIx x.length x.length hi - HT.sIx x.length 0 lo)).length ≤ _
  have : x.cps.toList.length = x.length := Array.length_toList
  rw [List.length_take, List.length_drop]
  omega
theorem Low.join {s : Str} {l : List Str} (hs : Low s) (hl : ∀ w ∈ l, Low w) : Low (Txt.join s l) := fun c hc => by
  rw [join_eq, show (Str.join s l).cps.toList = joinL (tl s) (l.map tl) from tl_join s l] at hc
  rcases mem_joinL hc with hc | ⟨p, hp, hc⟩
  · exact hs c hc
  · obtain ⟨w, hw, rfl⟩ := List.mem_map.mp hp
    exact hl w hw c hc
theorem join_le (s : Str) (l : List Str) : (Txt.join s l).length ≤ (l.map (·.length)).sum + l.length * s.length := by
  rw [join_eq]
  cases l with
  | nil => exact Nat.zero_le _
  | cons a l => rw [len_join_cons, List.length_cons, Nat.succ_mul]; omega
theorem sum_split (l : List Str) (s : Str) {x : Str} (e : Str.join s l = x) (h : l ≠ []) (h1 : s.length = 1) : (l.map (·.length)).sum + l.length = x.length + 1 := by
  rw [← e]
  cases l with
  | nil => exact absurd rfl h
  | cons a l => rw [len_join_cons, h1, List.length_cons]; omega
theorem sum_take (l : List Nat) (n : Nat) : (l.take n).sum ≤ l.sum := by
  have := congrArg List.sum (List.take_append_drop n l)
  rw [List.sum_append] at this
  omega
theorem sum_drop (l : List Nat) (n : Nat) : (l.drop n).sum ≤ l.sum := by
  have := congrArg List.sum (List.take_append_drop n l)
  rw [List.sum_append] at this
  omega
/-- a part of the words, the rest behind it -/
theorem without {l : List Str} (k : Nat) : ((l.take k ++ l.drop (k + 1)).map (·.length)).sum ≤ (l.map (·.length)).sum ∧ (l.take k ++ l.drop (k + 1)).length ≤ l.length := by
  constructor
  · rw [List.map_append, List.sum_append, List.map_take, List.map_drop]
    have h := congrArg List.sum (List.take_append_drop k (l.map (·.length)))
    rw [List.sum_append] at h
    have h2 : ((l.map (·.length)).drop (k + 1)).sum ≤ ((l.map (·.length)).drop k).sum := by
      have := sum_drop ((l.map (·.length)).drop k) 1
      rw [List.drop_drop] at this
      exact this
    omega
  · rw [List.length_append, List.length_take, List.length_drop]; omega
theorem isB_fn {A : List Sl → Prop} {t u : US} {E E' : En} {ρ : List Sl} (h : uSeq t u E ρ) : isB (fun b ρ1 => if b = true then A ρ1 else uNext { E' with nx := uSeq t u E } ρ1) (.val (.bl false)) ρ := h
section
variable {P : Program} {w : World} {K : PySem.W.Frag} {mg : Str → Option Value} {base : Heap}
def uSpoilt : UF := fun ρ R => ∃ (c : Nat) (d : D) (x : Str), ρ = [own d, dat (.str x)] ∧ WlOk c d ∧ c + 7 < 1000000 ∧ Low x ∧ x.length ≤ 200000 ∧ ∀ (y : Str) d2 s1, Low y → y.length ≤ 3 * x.length + 4 → WlOk (c + 7) d2 → R (.val (.str y)) [own d2, s1]
abbrev sgns : Str := " .\n0123456789abcdefghijklmnopqrstuvwxyz-A"
theorem sc__law_spoilt : FnScope ["well", "text", "way", "spot", "signs", "sign", "words", "rows", "one", "other", "aside", "left"] ["well", "text"] (defScope s__law_spoilt) := ⟨rfl, rfl, rfl, by decide +kernel, rfl, by decide +kernel, by decide +kernel⟩
theorem ok__law_spoilt (T : Tx K w mg) : FnOk P w K mg base CX0 2 T.a__law_spoilt T.f__law_spoilt ["well", "text"] (PSp K 2 uSpoilt) := by
  refine fn_mk T.d__law_spoilt.fn sc__law_spoilt (by decide) fun cdv A outer s H E hr => ?_
  refine ⟨_, (fb_cons (fs_set (ps_set (i := 2) sc__law_spoilt.nd rfl (.inl rfl) pe_S) (fe_call (ok__law_dip T) (hr.mono (by omega)) (by rfl) T.d__law_dip.at_ T.d__law_dip.kp T.d__law_dip.bd (fr_ref (fv 0) (fr_val fe_int fr_nil))))
      (fb_cons (fs_set (ps_set (i := 3) sc__law_spoilt.nd rfl (.inl rfl) pe_S) (fe_call (ok__law_dip T) (hr.mono (by omega)) (by rfl) T.d__law_dip.at_ T.d__law_dip.kp T.d__law_dip.bd (fr_ref (fv 0) (fr_val (fe_op os_add (fe_b cb_len (by rfl) T.z_len (by decide +kernel) (fr_ref (fv 1) fr_nil)) fe_int) fr_nil))))
      (fb_cons (fs_set (ps_set (i := 4) sc__law_spoilt.nd rfl (.inl rfl) pe_S) fe_str)
      (fb_cons (fs_set (ps_set (i := 5) sc__law_spoilt.nd rfl (.inl rfl) pe_S) (fe_ix (fv 4) (fe_call (ok__law_dip T) (hr.mono (by omega)) (by rfl) T.d__law_dip.at_ T.d__law_dip.kp T.d__law_dip.bd (fr_ref (fv 0) (fr_val (fe_b cb_len (by rfl) T.z_len (by decide +kernel) (fr_ref (fv 4) fr_nil)) fr_nil)))))
      (fb_cons (fs_set (ps_set (i := 6) sc__law_spoilt.nd rfl (.inl rfl) pe_S) (fe_split (fv 1) fe_str))
      (fb_cons (fs_set (ps_set (i := 7) sc__law_spoilt.nd rfl (.inl rfl) pe_S) (fe_split (fv 1) fe_str))
      (fb_cons (fs_set (ps_set (i := 8) sc__law_spoilt.nd rfl (.inl rfl) pe_S) (fe_call (ok__law_dip T) (hr.mono (by omega)) (by rfl) T.d__law_dip.at_ T.d__law_dip.kp T.d__law_dip.bd (fr_ref (fv 0) (fr_val (fe_b cb_len (by rfl) T.z_len (by decide +kernel) (fr_ref (fv 6) fr_nil)) fr_nil))))
      (fb_cons (fs_set (ps_set (i := 9) sc__law_spoilt.nd rfl (.inl rfl) pe_S) (fe_call (ok__law_dip T) (hr.mono (by omega)) (by rfl) T.d__law_dip.at_ T.d__law_dip.kp T.d__law_dip.bd (fr_ref (fv 0) (fr_val (fe_b cb_len (by rfl) T.z_len (by decide +kernel) (fr_ref (fv 7) fr_nil)) fr_nil))))
      (fb_cons (fs_set (ps_set (i := 10) sc__law_spoilt.nd rfl (.inl rfl) pe_S) (fe_call (ok__law_dip T) (hr.mono (by omega)) (by rfl) T.d__law_dip.at_ T.d__law_dip.kp T.d__law_dip.bd (fr_ref (fv 0) (fr_val (fe_b cb_len (by rfl) T.z_len (by decide +kernel) (fr_ref (fv 7) fr_nil)) fr_nil))))
      (fb_cons (fs_if (ft_cmp (os_eq (ru hr)) (fv 2) fe_int)
      (fb_one (fs_ret (fv 1)))
      fb_nil)
      (fb_cons (fs_if (ft_cmp (os_eq (ru hr)) (fv 2) fe_int)
      (fb_one (fs_ret (fe_op os_add (fe_sl (fv 1) fo_no (fo_int (fv 3))) (fe_sl (fv 1) (fo_int (fe_op os_add (fv 3) fe_int)) fo_no))))
      fb_nil)
      (fb_cons (fs_if (ft_cmp (os_eq (ru hr)) (fv 2) fe_int)
      (fb_one (fs_ret (fe_op os_add (fe_op os_add (fe_sl (fv 1) fo_no (fo_int (fv 3))) (fv 5)) (fe_sl (fv 1) (fo_int (fe_op os_add (fv 3) fe_int)) fo_no))))
      fb_nil)
      (fb_cons (fs_if (ft_cmp (os_eq (ru hr)) (fv 2) fe_int)
      (fb_one (fs_ret (fe_op os_add (fe_op os_add (fe_sl (fv 1) fo_no (fo_int (fv 3))) (fv 5)) (fe_sl (fv 1) (fo_int (fv 3)) fo_no))))
      fb_nil)
      (fb_cons (fs_if (ft_cmp (os_eq (ru hr)) (fv 2) fe_int)
      (fb_one (fs_ret (fe_join fe_str (fe_op os_add (fe_sl (fv 6) fo_no (fo_int (fv 8))) (fe_sl (fv 6) (fo_int (fe_op os_add (fv 8) fe_int)) fo_no)))))
      fb_nil)
      (fb_cons (fs_if (ft_cmp (os_eq (ru hr)) (fv 2) fe_int)
      (fb_one (fs_ret (fe_sl (fv 1) fo_no (fo_int (fv 3)))))
      fb_nil)
      (fb_cons (fs_set (ps_set (i := 11) sc__law_spoilt.nd rfl (.inl rfl) pe_S) (fe_op os_add (fe_sl (fv 7) fo_no (fo_int (fv 9))) (fe_sl (fv 7) (fo_int (fe_op os_add (fv 9) fe_int)) fo_no)))
      (fb_one (fs_ret (fe_join fe_str (fe_op os_add (fe_op os_add (fe_sl (fv 11) fo_no (fo_int (fv 10))) (fe_lst (fa_cons (fe_ix (fv 7) (fv 9)) fa_nil))) (fe_sl (fv 11) (fo_int (fv 10)) fo_no))))))))))))))))))))), fun ρ R hl h => ?_⟩
  obtain ⟨c, d, x, rfl, hj, hc, hx, hl2, q⟩ := h
  have sz := sz24
  have s1 : 1 ≤ sizeLine := by omega
  have tx : Tk x := ⟨hx.ok, by omega⟩
  have pw := ptsW tx
  have pr := ptsR tx
  have ew : Str.join " " (Txt.split x " ") = x := PySem.StrLaws.join_split x " "
  have er : Str.join "\n" (Txt.split x "\n") = x := PySem.StrLaws.join_split x "\n"
  have sw_ := sum_split _ _ ew pw.ne (by decide +kernel)
  have sr_ := sum_split _ _ er pr.ne (by decide +kernel)
  obtain ⟨ws, hws⟩ : ∃ ws, ws = Txt.split x " " := ⟨_, rfl⟩
  obtain ⟨rs, hrs⟩ : ∃ rs, rs = Txt.split x "\n" := ⟨_, rfl⟩
  rw [← hws] at pw ew sw_
  rw [← hrs] at pr er sr_
  have w1 : 1 ≤ ws.length := List.length_pos_iff.mpr pw.ne
  have r1' : 1 ≤ rs.length := List.length_pos_iff.mpr pr.ne
  have lws : (ws.map D.str).length = ws.length := List.length_map _
  have lrs : (rs.map D.str).length = rs.length := List.length_map _
  refine seq_cut (fun ρ => ∃ (d' : D) (r : Int), WlOk (c + 1) d' ∧ ρ = [.sl true true d', .sl false true (.str x), dat (.int r), .un, .un, .un, .un, .un, .un, .un, .un, .un]) ?rest1 fun rest => ?here1
  case here1 =>
    refine ⟨nd1 _, c, d, 7, rfl, hj, by decide, by decide, by omega, fun r d1 t r0 r1 j1 => ?_⟩
    exact rest _ ⟨d1, r, j1, rfl⟩
  rintro ρ ⟨d1, r, j1, rfl⟩
  refine seq_cut (fun ρ => ∃ (d' : D) (sp : Int), WlOk (c + 2) d' ∧ ρ = [.sl true true d', .sl false true (.str x), dat (.int r), dat (.int sp), .un, .un, .un, .un, .un, .un, .un, .un]) ?rest2 fun rest => ?here2
  case here2 =>
    refine ⟨tx.sz, nd1 _, c + 1, d1, ((x.length : Nat) : Int) + 1, rfl, j1, by omega, by omega, by omega, fun sp d2 t p0 p1 j2 => ?_⟩
    exact rest _ ⟨d2, sp, j2, rfl⟩
  rintro ρ ⟨d2, sp, j2, rfl⟩
  refine set_val ?_
  refine seq_cut (fun ρ => ∃ (d' : D) (sg : Str), WlOk (c + 3) d' ∧ Low sg ∧ sg.length = 1 ∧ ρ = [.sl true true d', .sl false true (.str x), dat (.int r), dat (.int sp), dat (.str sgns), dat (.str sg), .un, .un, .un, .un, .un, .un]) ?rest3 fun rest => ?here3
  case here3 =>
    have hsz : (sgns : Str).length = 41 := by decide +kernel
    refine ⟨(sw sgns).sz, nd1 _, c + 2, d2, (((sgns : Str).length : Nat) : Int), rfl, j2, by rw [hsz]; decide, by rw [hsz]; decide, by omega, fun k d3 t k0 k1 j3 => ?_⟩
    obtain ⟨k, rfl⟩ : ∃ m : Nat, k = m := ⟨k.toNat, by omega⟩
    have hk : k < (sgns : Str).cps.toList.length := by rw [show (sgns : Str).cps.toList.length = (sgns : Str).length from Array.length_toList]; omega
    refine ⟨(sw sgns).sz, (sgns : Str).cps.toList[k], atI_nat (List.getElem?_eq_getElem hk), ?_⟩
    refine rest _ ⟨d3, ⟨#[(sgns : Str).cps.toList[k]]⟩, j3, fun z hz => ?_, rfl, rfl⟩
    rw [List.mem_singleton.mp (show z ∈ [(sgns : Str).cps.toList[k]] from hz)]
    exact (sw sgns).low _ (List.getElem_mem hk)
  rintro ρ ⟨d3, sg, j3, lsg, hsg, rfl⟩
  refine seq_setR [.sl true true d3, .sl false true (.str x), dat (.int r), dat (.int sp), dat (.str sgns), dat (.str sg), own (wsD ws), .un, .un, .un, .un, .un] (fun Z z => ⟨x, rfl, " ", rfl, by decide +kernel, by omega, by rw [hws] at z; exact z⟩) ?_
  refine seq_setR [.sl true true d3, .sl false true (.str x), dat (.int r), dat (.int sp), dat (.str sgns), dat (.str sg), own (wsD ws), own (wsD rs), .un, .un, .un, .un] (fun Z z => ⟨x, rfl, "\n", rfl, by decide +kernel, by omega, by rw [hrs] at z; exact z⟩) ?_
  refine seq_cut (fun ρ => ∃ (d' : D) (a : Nat), WlOk (c + 4) d' ∧ ρ = [.sl true true d', .sl false true (.str x), dat (.int r), dat (.int sp), dat (.str sgns), dat (.str sg), own (wsD ws), own (wsD rs), dat (.int (a : Int)), .un, .un, .un]) ?rest4 fun rest => ?here4
  case here4 =>
    refine ⟨nd1 _, c + 3, d3, (((ws.map D.str).length : Nat) : Int), rfl, j3, by omega, by omega, by omega, fun k d4 t k0 k1 j4 => ?_⟩
    obtain ⟨k, rfl⟩ : ∃ m : Nat, k = m := ⟨k.toNat, by omega⟩
    exact rest _ ⟨d4, k, j4, rfl⟩
  rintro ρ ⟨d4, a, j4, rfl⟩
  refine seq_cut (fun ρ => ∃ (d' : D) (b : Nat), WlOk (c + 5) d' ∧ b < rs.length ∧ ρ = [.sl true true d', .sl false true (.str x), dat (.int r), dat (.int sp), dat (.str sgns), dat (.str sg), own (wsD ws), own (wsD rs), dat (.int (a : Int)), dat (.int (b : Int)), .un, .un]) ?rest5 fun rest => ?here5
  case here5 =>
    refine ⟨nd1 _, c + 4, d4, (((rs.map D.str).length : Nat) : Int), rfl, j4, by omega, by omega, by omega, fun k d5 t k0 k1 j5 => ?_⟩
    obtain ⟨k, rfl⟩ : ∃ m : Nat, k = m := ⟨k.toNat, by omega⟩
    exact rest _ ⟨d5, k, j5, by omega, rfl⟩
  rintro ρ ⟨d5, b, j5, hb, rfl⟩
  refine seq_cut (fun ρ => ∃ (d' : D) (e : Nat), WlOk (c + 6) d' ∧ ρ = [.sl true true d', .sl false true (.str x), dat (.int r), dat (.int sp), dat (.str sgns), dat (.str sg), own (wsD ws), own (wsD rs), dat (.int (a : Int)), dat (.int (b : Int)), dat (.int (e : Int)), .un]) ?rest6 fun rest => ?here6
  case here6 =>
    refine ⟨nd1 _, c + 5, d5, (((rs.map D.str).length : Nat) : Int), rfl, j5, by omega, by omega, by omega, fun k d6 t k0 k1 j6 => ?_⟩
    obtain ⟨k, rfl⟩ : ∃ m : Nat, k = m := ⟨k.toNat, by omega⟩
    exact rest _ ⟨d6, k, j6, rfl⟩
  rintro ρ ⟨d6, e, j6, rfl⟩
  have j7 := j6.mono (by omega : c + 6 ≤ c + 7)
  have cl := fun lo hi => cut_len x lo hi
  refine ⟨okN_int.ok, okN_int.ok, ?_⟩
  rw [eqD_int]
  by_cases h0 : r = 0
  · rw [decide_eq_true h0]
    exact q x d6 _ hx (by omega) j7
  rw [decide_eq_false h0]
  refine ⟨okN_int.ok, okN_int.ok, ?_⟩
  rw [eqD_int]
  by_cases h1 : r = 1
  · rw [decide_eq_true h1]
    have l1 := cl none (some sp)
    have l2 := cl (some (sp + 1)) none
    exact ⟨tx.sz, tx.sz, by omega, q _ d6 _ ((hx.cut _ _).app (hx.cut _ _)) (by rw [Str.length_append]; omega) j7⟩
  rw [decide_eq_false h1]
  refine ⟨okN_int.ok, okN_int.ok, ?_⟩
  rw [eqD_int]
  by_cases h2 : r = 2
  · rw [decide_eq_true h2]
    have l1 := cl none (some sp)
    have l2 := cl (some (sp + 1)) none
    exact ⟨tx.sz, by omega, tx.sz, by rw [Str.length_append]; omega, q _ d6 _ (((hx.cut _ _).app lsg).app (hx.cut _ _)) (by rw [Str.length_append, Str.length_append]; omega) j7⟩
  rw [decide_eq_false h2]
  refine ⟨okN_int.ok, okN_int.ok, ?_⟩
  rw [eqD_int]
  by_cases h3 : r = 3
  · rw [decide_eq_true h3]
    have l1 := cl none (some sp)
    have l2 := cl (some sp) none
    exact ⟨tx.sz, by omega, tx.sz, by rw [Str.length_append]; omega, q _ d6 _ (((hx.cut _ _).app lsg).app (hx.cut _ _)) (by rw [Str.length_append, Str.length_append]; omega) j7⟩
  rw [decide_eq_false h3]
  refine ⟨okN_int.ok, okN_int.ok, ?_⟩
  rw [eqD_int]
  by_cases h4 : r = 4
  · rw [decide_eq_true h4]
    have e1 : YP.cut (ws.map D.str) none (some (a : Int)) ++ YP.cut (ws.map D.str) (some ((a : Int) + 1)) none = (ws.take a ++ ws.drop (a + 1)).map D.str := by
      rw [cut_to, show ((a : Int) + 1) = ((a + 1 : Nat) : Int) by omega, cut_fr, List.map_append, List.map_take, List.map_drop]
    obtain ⟨g1, g2⟩ := without (l := ws) a
    have gl := congrArg List.length e1
    rw [List.length_append, List.length_map] at gl
    have jl := join_le " " (ws.take a ++ ws.drop (a + 1))
    have h1s : (" " : Str).length = 1 := by decide +kernel
    rw [h1s] at jl
    refine ⟨by rw [gl]; omega, ws.take a ++ ws.drop (a + 1), e1, by show _ + _ * 1 ≤ _; omega, ?_⟩
    refine q _ d6 _ (Low.join (sw " ").low fun w hw => ?_) (by omega) j7
    rcases List.mem_append.mp hw with hw | hw
    · exact (pw.tk w (List.mem_of_mem_take hw)).1.low
    · exact (pw.tk w (List.mem_of_mem_drop hw)).1.low
  rw [decide_eq_false h4]
  refine ⟨okN_int.ok, okN_int.ok, ?_⟩
  rw [eqD_int]
  by_cases h5 : r = 5
  · rw [decide_eq_true h5]
    have l1 := cl none (some sp)
    exact ⟨tx.sz, q _ d6 _ (hx.cut _ _) (by omega) j7⟩
  rw [decide_eq_false h5]
  obtain ⟨L, hL⟩ : ∃ L, L = rs.take b ++ rs.drop (b + 1) := ⟨_, rfl⟩
  obtain ⟨g1, g2⟩ := without (l := rs) b
  rw [← hL] at g1 g2
  have hLm : ∀ z ∈ L, Low z := fun z hz => by
    rw [hL] at hz
    rcases List.mem_append.mp hz with hw | hw
    · exact (pr.tk z (List.mem_of_mem_take hw)).1.low
    · exact (pr.tk z (List.mem_of_mem_drop hw)).1.low
  refine isB_fn ?_
  refine seq_cut (fun ρ => ρ = [.sl true true d6, .sl false true (.str x), dat (.int r), dat (.int sp), dat (.str sgns), dat (.str sg), own (wsD ws), own (wsD rs), dat (.int (a : Int)), dat (.int (b : Int)), dat (.int (e : Int)), own (wsD L)]) ?rest7 fun rest => ?here7
  case here7 =>
    have e1 : YP.cut (rs.map D.str) none (some (b : Int)) ++ YP.cut (rs.map D.str) (some ((b : Int) + 1)) none = L.map D.str := by
      rw [hL, cut_to, show ((b : Int) + 1) = ((b + 1 : Nat) : Int) by omega, cut_fr, List.map_append, List.map_take, List.map_drop]
    have gl := congrArg List.length e1
    rw [List.length_append, List.length_map] at gl
    refine ⟨by rw [gl]; omega, ?_⟩
    refine rest [.sl true true d6, .sl false true (.str x), dat (.int r), dat (.int sp), dat (.str sgns), dat (.str sg), own (wsD ws), own (wsD rs), dat (.int (a : Int)), dat (.int (b : Int)), dat (.int (e : Int)), own (.lst (YP.cut (rs.map D.str) none (some (b : Int)) ++ YP.cut (rs.map D.str) (some ((b : Int) + 1)) none))] ?_
    rw [e1]; rfl
  rintro ρ rfl
  have hbl : rs[b]? = some rs[b] := List.getElem?_eq_getElem hb
  have er1 : L2.atI (rs.map D.str) (b : Int) = some (.str rs[b]) := atW hbl
  have e2 : YP.cut (L.map D.str) none (some (e : Int)) ++ [D.str rs[b]] ++ YP.cut (L.map D.str) (some (e : Int)) none = (L.take e ++ [rs[b]] ++ L.drop e).map D.str := by
    rw [cut_to, cut_fr, List.map_append, List.map_append, List.map_take, List.map_drop]; rfl
  have hT : L.take e ++ L.drop e = L := List.take_append_drop e L
  have mT := congrArg (fun l : List Str => (l.map (·.length)).sum) hT
  have lT := congrArg List.length hT
  simp only [List.map_append, List.sum_append, List.length_append] at mT lT
  have lb := (pr.tk rs[b] (List.getElem_mem hb)).2
  have gl := congrArg List.length e2
  rw [List.length_append, List.length_append, List.length_map, List.length_append, List.length_append] at gl
  have jl := join_le "\n" (L.take e ++ [rs[b]] ++ L.drop e)
  have h1s : ("\n" : Str).length = 1 := by decide +kernel
  rw [h1s] at jl
  simp only [List.map_append, List.sum_append, List.length_append, List.map_cons, List.map_nil, List.sum_cons, List.sum_nil, List.length_cons, List.length_nil] at jl gl
  have lcut : (YP.cut (L.map D.str) none (some (e : Int))).length = (L.take e).length := by rw [cut_to, List.length_take, List.length_take, List.length_map]
  have lcut2 : (YP.cut (L.map D.str) (some (e : Int)) none).length = (L.drop e).length := by rw [cut_fr, List.length_drop, List.length_drop, List.length_map]
  refine ⟨.str rs[b], er1, s1, by show _ + 1 ≤ _; rw [lcut]; omega, by rw [List.length_append, lcut, lcut2]; show _ + 1 + _ ≤ _; omega, L.take e ++ [rs[b]] ++ L.drop e, e2, ?_, ?_⟩
  · rw [h1s]
    simp only [List.map_append, List.sum_append, List.length_append, List.map_cons, List.map_nil, List.sum_cons, List.sum_nil, List.length_cons, List.length_nil]
    omega
  · refine q _ d6 _ (Low.join (sw "\n").low fun w hw => ?_) (by omega) j7
    rcases List.mem_append.mp hw with hw | hw
    · rcases List.mem_append.mp hw with hw | hw
      · exact hLm w (List.mem_of_mem_take hw)
      · rw [List.mem_singleton.mp hw]; exact (pr.tk rs[b] (List.getElem_mem hb)).1.low
    · exact hLm w (List.mem_of_mem_drop hw)
end
end K41
set_option maxRecDepth 100000
set_option maxHeartbeats 4000000
namespace K41
open PySem PySem.Spec PyProof.Rows L2 Yard YP TL
/-! ### states and deeds, kept aside while they grow -/
structure E3 where
  a : Addr
  b : Addr
  s : ST
def itsL (s : ST) : D := .lst (s.its.map IT.d)
abbrev Ap (x y : E3) : Prop := x.a ≠ y.a ∧ x.b ≠ y.a ∧ x.a ≠ y.b ∧ x.b ≠ y.b
structure KG (g : Gh) (es : List E3) : Prop where
  ha : ∀ e ∈ es, g e.a = some (itsL e.s)
  hb : ∀ e ∈ es, g e.b = some (desD e.s.des)
  hn : ∀ c, (∀ e ∈ es, c ≠ e.a ∧ c ≠ e.b) → g c = none
  sep : es.Pairwise Ap
  ab : ∀ e ∈ es, e.a ≠ e.b
theorem KG.push {g g' : Gh} {es : List E3} {a b : Addr} (k : KG g es) (na : g a = none) (nb : g b = none) (ab : a ≠ b) (h1 : g' a = some (.lst [])) (h2 : g' b = some (.dic [])) (h3 : ∀ c, c ≠ a → c ≠ b → g' c = g c) :
    KG g' (es ++ [⟨a, b, ⟨[], []⟩⟩]) := by
  have nea : ∀ e ∈ es, e.a ≠ a ∧ e.a ≠ b ∧ e.b ≠ a ∧ e.b ≠ b := fun e he =>
    ⟨fun z => (by rw [← z, k.ha e he] at na; cases na), fun z => (by rw [← z, k.ha e he] at nb; cases nb), fun z => (by rw [← z, k.hb e he] at na; cases na), fun z => (by rw [← z, k.hb e he] at nb; cases nb)⟩
  refine ⟨fun e he => ?_, fun e he => ?_, fun c hc => ?_, List.pairwise_append.mpr ⟨k.sep, List.pairwise_singleton _ _, fun e he f hf => ?_⟩, fun e he => ?_⟩
  · rcases List.mem_append.mp he with he | he
    · rw [h3 _ (nea e he).1 (nea e he).2.1]; exact k.ha e he
    · rw [List.mem_singleton.mp he]; exact h1
  · rcases List.mem_append.mp he with he | he
    · rw [h3 _ (nea e he).2.2.1 (nea e he).2.2.2]; exact k.hb e he
    · rw [List.mem_singleton.mp he]; exact h2
  · have hl := hc ⟨a, b, ⟨[], []⟩⟩ (by simp)
    rw [h3 c hl.1 hl.2]
    exact k.hn c fun e he => hc e (by simp [he])
  · rw [List.mem_singleton.mp hf]
    exact ⟨(nea e he).1, (nea e he).2.2.1, (nea e he).2.1, (nea e he).2.2.2⟩
  · rcases List.mem_append.mp he with he | he
    · exact k.ab e he
    · rw [List.mem_singleton.mp he]; exact ab
theorem KG.last {g : Gh} {M : List E3} {e : E3} {s : ST} (k : KG g (M ++ [e])) (g' : Gh) (h1 : g' e.a = some (itsL s)) (h2 : g' e.b = some (desD s.des)) (h3 : ∀ c, c ≠ e.a → c ≠ e.b → g' c = g c) : KG g' (M ++ [⟨e.a, e.b, s⟩]) := by
  have sp := List.pairwise_append.mp k.sep
  have ap : ∀ f ∈ M, Ap f e := fun f hf => sp.2.2 f hf e (List.mem_singleton.mpr rfl)
  refine ⟨fun f hf => ?_, fun f hf => ?_, fun c hc => ?_, List.pairwise_append.mpr ⟨sp.1, List.pairwise_singleton _ _, fun f hf x hx => ?_⟩, fun f hf => ?_⟩
  · rcases List.mem_append.mp hf with hf | hf
    · rw [h3 _ (ap f hf).1 (ap f hf).2.2.1]; exact k.ha f (by simp [hf])
    · rw [List.mem_singleton.mp hf]; exact h1
  · rcases List.mem_append.mp hf with hf | hf
    · rw [h3 _ (ap f hf).2.1 (ap f hf).2.2.2]; exact k.hb f (by simp [hf])
    · rw [List.mem_singleton.mp hf]; exact h2
  · have hl := hc ⟨e.a, e.b, s⟩ (by simp)
    rw [h3 c hl.1 hl.2]
    refine k.hn c fun f hf => ?_
    rcases List.mem_append.mp hf with hf | hf
    · exact hc f (by simp [hf])
    · rw [List.mem_singleton.mp hf]; exact hl
  · rw [List.mem_singleton.mp hx]; exact ap f hf
  · rcases List.mem_append.mp hf with hf | hf
    · exact k.ab f (by simp [hf])
    · rw [List.mem_singleton.mp hf]; exact k.ab e (by simp)
def rfA (es : List E3) : D := .lst (es.map fun e => D.ref e.a)
def rfB (es : List E3) : D := .lst (es.map fun e => D.ref e.b)
theorem resA {g : Gh} : ∀ {es : List E3}, (∀ e ∈ es, g e.a = some (itsL e.s)) → ResL g (es.map fun e => D.ref e.a) (es.map fun e => itsL e.s)
  | [], _ => .nil
  | e :: es, h => .cons (.ref (h e List.mem_cons_self) .id) (resA fun x hx => h x (List.mem_cons_of_mem _ hx))
theorem resB {g : Gh} : ∀ {es : List E3}, (∀ e ∈ es, g e.b = some (desD e.s.des)) → ResL g (es.map fun e => D.ref e.b) (es.map fun e => desD e.s.des)
  | [], _ => .nil
  | e :: es, h => .cons (.ref (h e List.mem_cons_self) .id) (resB fun x hx => h x (List.mem_cons_of_mem _ hx))
def twoG (g : Gh) (aS a bS b : Addr) (L A0 L' M B0 M' : D) : Gh := gdel (gput (gput (gput (gdel (gput (gput (gput g aS L) a A0) aS L') aS) bS M) b B0) bS M') bS
theorem two_ok {g : Gh} {aS a bS b : Addr} {L A0 L' M B0 M' : D} (nS : g aS = none) (na : gput g aS L a = none) (nbS : gdel (gput (gput (gput g aS L) a A0) aS L') aS bS = none) (nb : gput (gdel (gput (gput (gput g aS L) a A0) aS L') aS) bS M b = none) :
    g a = none ∧ g b = none ∧ a ≠ b ∧ twoG g aS a bS b L A0 L' M B0 M' a = some A0 ∧ twoG g aS a bS b L A0 L' M B0 M' b = some B0 ∧ ∀ c, c ≠ a → c ≠ b → twoG g aS a bS b L A0 L' M B0 M' c = g c := by
  unfold twoG
  simp only [gput, gdel] at *
  grind
theorem isB_fG {A : List Sl → Gh → Prop} {t u : USG} {E E' : EnG} {ρ : List Sl} {g : Gh} (h : uSeqG t u E ρ g) : isB (fun b ρ1 => if b = true then A ρ1 g else uNextG { E' with nx := uSeqG t u E } ρ1 g) (.val (.bl false)) ρ := h
theorem seq_setG {i : Nat} {ue : UE} {u : USG} {E : EnG} {ρ : List Sl} {g : Gh} (ρ' : List Sl) (h : ∀ Z : List Sl → Prop, Z ρ' → ue ρ fun r ρ1 => YP.put ρ1 i r Z) (k : u E ρ' g) : uSeqG (uLG (uLift (uSet i ue))) u E ρ g := h (fun ρ => u E ρ g) k
section
variable {P : Program} {w : World} {K : PySem.W.Frag} {mg : Str → Option Value} {base : Heap}
def uRead (C : Addr) : UFG := fun ρ R RX => ∃ x : Str, ρ = [dat (.str x)] ∧ Tk x ∧ x.length ≤ 900000 ∧
  (∀ k, run [] 0 (Txt.split x "\n") = .inl k → ∀ s, RX C [("row", .int (k : Int))] [s]) ∧
  ∀ ss, run [] 0 (Txt.split x "\n") = .inr ss → ∀ (es : List E3) (g : Gh), es.map E3.s = ss → (∀ e ∈ es, g e.b = some (desD e.s.des)) → (∀ c, (∀ e ∈ es, c ≠ e.b) → g c = none) → es.Pairwise (fun x y => x.b ≠ y.b) →
    ∀ s, R (.val (.tup [.tup (ss.map fun s => itsD s.its), .tup (es.map fun e => D.ref e.b)])) [s] g
theorem sc_read_table : FnScope ["text", "states", "deeds", "rows", "number", "row", "words", "item", "read", "items"] ["text"] (defScope s_read_table) := ⟨rfl, rfl, rfl, by decide +kernel, rfl, by decide +kernel, by decide +kernel⟩
theorem ok_read_table (T : Tx K w mg) : FnOk P w K mg base (L2.CX P w) 5 T.a_read_table T.f_read_table ["text"] (PSpG K 1 (uRead T.c_NoTable)) := by
  refine fn_mkg T.d_read_table.fn sc_read_table (by decide) fun cdv A outer s H E hr => ?_
  refine ⟨_, (fbg_cons (fsg_x (fx (fs_set (ps_set (i := 1) sc_read_table.nd rfl (.inl rfl) pe_S) (fe_lst fa_nil))))
      (fbg_cons (fsg_x (fx (fs_set (ps_set (i := 2) sc_read_table.nd rfl (.inl rfl) pe_S) (fe_lst fa_nil))))
      (fbg_cons (fsg_x (fx (fs_set (ps_set (i := 3) sc_read_table.nd rfl (.inl rfl) pe_S) (fe_split (fv 0) fe_str))))
      (fbg_cons (fsg_for (passes_of rfl) rfl (fi_enum (by rfl) T.z_enumerate (fa_cons (fv 3) fa_nil)) (fg_tup (n := 2) rfl (fgs_cons (fg_name (pg_name (i := 4) sc_read_table.nd rfl (.inl rfl))) (fgs_cons (fg_name (pg_name (i := 5) sc_read_table.nd rfl (.inl rfl))) fgs_nil)))
      (fbg_cons (fsg_x (fx (fs_set (ps_set (i := 6) sc_read_table.nd rfl (.inl rfl) pe_S) (fe_split (fv 5) fe_str))))
      (fbg_cons (fsg_if (ftg_t (ft_cmp (os_eq (ru hr)) (fv 6) (fe_lst (fa_cons fe_str (fa_cons (fe_bt cb_str (by rfl) T.z_str (by decide +kernel) (fr_ref (fe_b cb_len (by rfl) T.z_len (by decide +kernel) (fr_ref (fv 1) fr_nil)) fr_nil)) fa_nil)))))
      (fbg_aside 1 (fbg_cons (fsg_appN (fv 1) (fe_lst fa_nil))
      (fbg_take 1 (fbg_aside 2 (fbg_cons (fsg_appN (fv 2) fe_dnew)
      (fbg_take 2 (fbg_one (fsg_x (fx fs_continue)))))))))
      fbg_nil)
      (fbg_cons (fsg_x (fx (fs_set (ps_set (i := 7) sc_read_table.nd rfl (.inl rfl) pe_S) (fe_call (ok_read_item T) (hr.mono (by omega)) (by rfl) T.d_read_item.at_ T.d_read_item.kp T.d_read_item.bd (fr_val (fv 6) fr_nil)))))
      (fbg_cons (fsg_x (fx (fs_set (ps_set (i := 8) sc_read_table.nd rfl (.inl rfl) pe_S) (fe_call (ok_read_deed T) (hr.mono (by omega)) (by rfl) T.d_read_deed.at_ T.d_read_deed.kp T.d_read_deed.bd (fr_val (fv 6) fr_nil)))))
      (fbg_one (fsg_if (ftg_look (FW.ft (fw_and (ft_tru (fv 1)) (fw_and (ft_cmp os_isnot (fv 7) fe_non) (fw_and1 (ft_not (ft_truK (fe_ix (fv 2) (fe_neg fe_int)))))))))
      (fbg_one (fsg_expr (feg_mu mu_append PySem.F.slot_list_append PySem.F.type_list_append (fe_ix (fv 1) (fe_neg fe_int)) (fa_cons (fv 7) fa_nil))))
      (fbg_one (fsg_if (ftg_look (FW.ft (fw_and (ft_tru (fv 1)) (fw_and (ft_cmp os_isnot (fv 8) fe_non) (fw_and1 (ft_tru (fe_call (ok_is_behind T) (hr.mono (by omega)) (by rfl) T.d_is_behind.at_ T.d_is_behind.kp T.d_is_behind.bd (fr_val (fe_ix (fv 8) fe_int) (fr_val (fe_ix (fv 2) (fe_neg fe_int)) fr_nil)))))))))
      (fbg_one (fsg_putK (rk hr) (fe_ix (fv 8) fe_int) (fe_ix (fv 2) (fe_neg fe_int)) (fe_ix (fv 8) fe_int)))
      (fbg_one (fsg_x (fsx_raise rfl T.x_NoTable.ox T.k_NoTable___init__ T.t_NoTable___init__ (ok_NoTable___init__ T) (hr.mono (by omega)) T.b_NoTable___init__ pass0 (by rfl) T.g_NoTable (fa_cons (fv 4) fa_nil)))))))))))))
      (fbg_rel (fbg_one (fsg_ret (feg_e (fe_tup (fa_cons (fe_bt cb_tuple (by rfl) T.z_tuple (by decide +kernel) (fr_ref (fe_lc rfl sc_read_table.nd (fi_list (fv 1)) (blkOk_by (own := [("items", 9)]) (N := ["text", "states", "deeds", "rows", "number", "row", "words", "item", "read", "items"]) (sc := defScope s_read_table) (by decide +kernel)) (fun _ _ _ _ _ => (fg_name (pg_name (i := 9) sc_read_table.nd rfl (.inl rfl)) (by intro l e; cases e; decide +kernel))) (fun _ _ _ _ _ => fts_nil) (fun _ _ _ _ _ => (fe_bt cb_tuple (by rfl) T.z_tuple (by decide +kernel) (fr_ref (fv 9) fr_nil)))) fr_nil)) (fa_cons (fe_bt cb_tuple (by rfl) T.z_tuple (by decide +kernel) (fr_ref (fv 2) fr_nil)) fa_nil))))))))))), fun ρ R RX hl h => ?_⟩
  obtain ⟨x, rfl, hx, hl9, qb, qg⟩ := h
  have sz := sz24
  have s1 : 1 ≤ sizeLine := by omega
  have s2 : 2 ≤ sizeLine := by omega
  have px := ptsR hx
  obtain ⟨rows, hrows⟩ : ∃ rows, rows = Txt.split x "\n" := ⟨_, rfl⟩
  rw [← hrows] at px qb qg
  refine seq_setG [.sl false true (.str x), own (.lst []), .un, .un, .un, .un, .un, .un, .un, .un] (fun Z z => ⟨Nat.zero_le _, z⟩) ?_
  refine seq_setG [.sl false true (.str x), own (.lst []), own (.lst []), .un, .un, .un, .un, .un, .un, .un] (fun Z z => ⟨Nat.zero_le _, z⟩) ?_
  refine seq_setG [.sl false true (.str x), own (.lst []), own (.lst []), own (wsD rows), .un, .un, .un, .un, .un, .un] (fun Z z => ⟨x, rfl, "\n", rfl, by decide +kernel, by omega, by rw [hrows] at z; exact z⟩) ?_
  refine ⟨fun i ρ g => ∃ (es : List E3) (s4 s5 s6 s7 s8 : Sl), run [] 0 rows = run (es.map E3.s) i (rows.drop i) ∧ (∀ e ∈ es, ST.Rd e.s) ∧ es.length ≤ i ∧ (∀ e ∈ es, e.s.its.length ≤ i ∧ e.s.des.length ≤ i) ∧ KG g es ∧ ρ = [.sl false true (.str x), own (rfA es), own (rfB es), dat (wsD rows), s4, s5, s6, s7, s8, .un],
    ⟨[], .un, .un, .un, .un, .un, rfl, fun _ h => (nomatch h), Nat.le_refl _, fun _ h => (nomatch h), ⟨fun _ h => (nomatch h), fun _ h => (nomatch h), fun _ _ => rfl, List.Pairwise.nil, fun _ h => (nomatch h)⟩, rfl⟩, ?_, ?_⟩
  case refine_2 =>
    rintro ρ g ⟨es, s4, s5, s6, s7, s8, e, rd, les, few, kg, rfl⟩
    have el : (nums (rows.map D.str)).length = rows.length := by simp [nums]
    rw [el] at e les
    rw [List.drop_length] at e
    have q2 := qg (es.map E3.s) e es
    -- what stays aside: the dicts of deeds
    let g1 : Gh := fun c => if c ∈ es.map E3.b then g c else none
    have g1b : ∀ e ∈ es, g1 e.b = some (desD e.s.des) := fun e he => (if_pos (List.mem_map.mpr ⟨e, he, rfl⟩)).trans (kg.hb e he)
    have g1n : ∀ c, (∀ e ∈ es, c ≠ e.b) → g1 c = none := fun c hc => if_neg fun z => by
      obtain ⟨e', he', z⟩ := List.mem_map.mp z
      exact hc e' he' z.symm
    have apB : es.Pairwise (fun x y => x.b ≠ y.b) := kg.sep.imp fun h => h.2.2.2
    have nAB : ∀ e ∈ es, g1 e.a = none := fun e he => g1n e.a fun f hf z => by
      have h1 := kg.ha e he
      rw [z, kg.hb f hf] at h1
      cases h1
    have le1 : ∀ a d, g1 a = some d → g a = some d := fun a d h => by
      by_cases hm : a ∈ es.map E3.b
      · rw [show g1 a = g a from if_pos hm] at h; exact h
      · rw [show g1 a = none from if_neg hm] at h; cases h
    have gl : ∀ e ∈ es, gLess g g1 e.a = some (itsL e.s) := fun e he => by
      unfold gLess
      rw [nAB e he]
      exact kg.ha e he
    refine ⟨[.sl false true (.str x), own (.lst (es.map fun e => itsL e.s)), own (rfB es), dat (wsD rows), .un, .un, .un, .un, .un, .un], g1, le1, ?_, ?_⟩
    · exact .sl .id (.sl (.lst (resA gl)) (.sl .id (.sl .id (.un (.un (.un (.un (.un (.un .nil)))))))))
    have lsz : es.length ≤ 1000000 := by have := px.len; omega
    refine ⟨fun i acc ρ => acc = (es.take i).map (fun e => itsD e.s.its) ∧ ρ = [.sl false true (.str x), dat (.lst (es.map fun e => itsL e.s)), own (rfB es), dat (wsD rows), .un, .un, .un, .un, .un, .un], ⟨rfl, rfl⟩, ?_, ?_, ?_⟩
    · rintro i y acc ρ hi ⟨rfl, rfl⟩
      rw [List.getElem?_map] at hi
      obtain ⟨z, hz, rfl⟩ := Option.map_eq_some_iff.mp hi
      have := (List.getElem?_eq_some_iff.mp hz).1
      refine ⟨by rw [List.length_map, List.length_take]; omega, ?_, rfl⟩
      rw [List.take_succ, hz, List.map_append]; rfl
    · rintro i acc ρ ⟨_, rfl⟩
      exact ⟨_, (rfl : _ = YP.wipeS [.sl false true (.str x), dat (.lst (es.map fun e => itsL e.s)), own (rfB es), dat (wsD rows), .un, .un, .un, .un, .un, .un] [9])⟩
    rintro acc ρ ⟨rfl, rfl⟩
    rw [List.length_map, List.take_length]
    refine ⟨s2, ?_⟩
    have em : (es.map E3.s).map (fun s => itsD s.its) = es.map fun e => itsD e.s.its := by rw [List.map_map]; rfl
    rw [em] at q2
    exact q2 g1 rfl g1b g1n apB _
  rintro i y ρ g hy ⟨es, s4, s5, s6, s7, s8, e, rd, les, few, kg, rfl⟩
  obtain ⟨row, hr, rfl⟩ := nums_get hy
  have hi : i < rows.length := (List.getElem?_eq_some_iff.mp hr).1
  have trow := px.tk row (List.mem_of_getElem? hr)
  have pw := ptsW trow.1
  have hstep := run_drop (ss := es.map E3.s) hr
  rw [← e] at hstep
  have lsi : es.length < 1000000 := by have := px.len; omega
  have lA : (es.map fun e => D.ref e.a).length = es.length := List.length_map _
  have lB : (es.map fun e => D.ref e.b).length = es.length := List.length_map _
  refine gT2 ?_
  obtain ⟨ws, hws⟩ : ∃ ws, ws = Txt.split row " " := ⟨_, rfl⟩
  refine seq_setG [.sl false true (.str x), own (rfA es), own (rfB es), dat (wsD rows), dat (.int (i : Int)), dat (.str row), own (wsD ws), s7, s8, .un] (fun Z z => ⟨row, rfl, " ", rfl, by decide +kernel, by have := trow.2; omega, by rw [hws] at z; exact z⟩) ?_
  rw [← hws] at pw hstep
  have wl : ws.length ≤ 900001 := by have := pw.len; have := trow.2; omega
  have wt : ∀ w ∈ ws, Tk w := fun w hw => (pw.tk w hw).1
  have rdS : ∀ ss', step (es.map E3.s) ws = some ss' → ∀ s ∈ ss', ST.Rd s := fun ss' h => by
    rw [hws] at h
    exact step_mks h fun s hs => by
      obtain ⟨e', he', rfl⟩ := List.mem_map.mp hs
      exact rd e' he'
  clear hws
  have tn : Tk (natS es.length) := natS_tk (by omega)
  have okS : OkN 1 (.lst [.str "state", .str (natS es.length)]) := okWs (ws := [("state" : Str), natS es.length]) fun w hw => by
    simp only [List.mem_cons, List.not_mem_nil, or_false] at hw
    rcases hw with rfl | rfl
    · exact sw _
    · exact tn
  refine ⟨by rw [lA]; exact log_small (by omega) (by omega), s2, (okWs wt).ok, by rw [lA]; exact okS.ok, ?_⟩
  rw [lA, show eqD (wsD ws) (.lst [.str "state", .str (Str.ofString (toString ((es.length : Nat) : Int)))]) = decide (ws = [("state" : Str), natS es.length]) from eqL ws [("state" : Str), natS es.length]]
  by_cases h1 : ws = [("state" : Str), natS es.length]
  · rw [decide_eq_true h1]
    have hs : step (es.map E3.s) ws = some (es.map E3.s ++ [⟨[], []⟩]) := by unfold step; rw [if_pos (by rw [List.length_map]; exact h1)]
    refine ⟨_, _, rfl, fun aS nS => ?_⟩
    refine ⟨aS, _, rfl, gput_same, Nat.zero_le _, by rw [lA]; omega, fun a na => ?_⟩
    refine ⟨_, aS, _, rfl, gput_same, ?_⟩
    refine ⟨_, _, rfl, fun bS nbS => ?_⟩
    refine ⟨bS, _, rfl, gput_same, by rw [lB]; omega, fun b nb => ?_⟩
    refine ⟨_, bS, _, rfl, gput_same, ?_⟩
    obtain ⟨t1, t2, t3, t4, t5, t6⟩ := two_ok (B0 := .dic []) (M' := .lst ((es.map fun e => D.ref e.b) ++ [.ref b])) nS na nbS nb
    rw [hs] at hstep
    have em : (es ++ [(⟨a, b, ⟨[], []⟩⟩ : E3)]).map E3.s = es.map E3.s ++ [⟨[], []⟩] := by rw [List.map_append]; rfl
    refine ⟨es ++ [(⟨a, b, ⟨[], []⟩⟩ : E3)], dat (.int (i : Int)), dat (.str row), own (wsD ws), s7, s8, by rw [em]; exact hstep, fun e' he' => ?_, by rw [List.length_append]; show es.length + 1 ≤ _; omega, fun e' he' => ?_, kg.push t1 t2 t3 t4 t5 t6, ?_⟩
    · exact rdS _ hs e'.s (by rw [← em]; exact List.mem_map.mpr ⟨e', he', rfl⟩)
    · rcases List.mem_append.mp he' with he' | he'
      · have := few e' he'; omega
      · rw [List.mem_singleton.mp he']; exact ⟨Nat.zero_le _, Nat.zero_le _⟩
    · have e1 : rfA (es ++ [(⟨a, b, ⟨[], []⟩⟩ : E3)]) = .lst ((es.map fun e => D.ref e.a) ++ [.ref a]) := by unfold rfA; rw [List.map_append]; rfl
      have e2 : rfB (es ++ [(⟨a, b, ⟨[], []⟩⟩ : E3)]) = .lst ((es.map fun e => D.ref e.b) ++ [.ref b]) := by unfold rfB; rw [List.map_append]; rfl
      rw [e1, e2]; rfl
  rw [decide_eq_false h1]
  have ns : ∀ s, (es.map E3.s).getLast? = some s → step (es.map E3.s) ws = match itemF ws with
      | some x => if s.des = [] then some ((es.map E3.s).dropLast ++ [⟨s.its ++ [x], []⟩]) else none
      | none => match deedF ws with
        | some p => if behF p.1 s.des = true then some ((es.map E3.s).dropLast ++ [⟨s.its, s.des ++ [p]⟩]) else none
        | none => none := fun s hL => by
    unfold step
    rw [if_neg (by rw [List.length_map]; exact h1), hL]
    all_goals rfl
  refine isB_fG ?_
  refine seq_setG [.sl false true (.str x), own (rfA es), own (rfB es), dat (wsD rows), dat (.int (i : Int)), dat (.str row), dat (wsD ws), dat (optI (itemF ws)), s8, .un] (fun Z z => ⟨List.nodup_nil, ws, rfl, wt, by omega, fun s => ?_⟩) ?_
  · dsimp only
    rw [wb_no (rs := [.val (wsD ws)]) [s] rfl]
    exact z
  refine seq_setG [.sl false true (.str x), own (rfA es), own (rfB es), dat (wsD rows), dat (.int (i : Int)), dat (.str row), dat (wsD ws), dat (optI (itemF ws)), dat (optW (deedF ws)), .un] (fun Z z => ⟨List.nodup_nil, ws, rfl, wt, by omega, fun s => ?_⟩) ?_
  · dsimp only
    rw [wb_no (rs := [.val (wsD ws)]) [s] rfl]
    exact z
  have vw : Vw g [.sl false true (.str x), own (rfA es), own (rfB es), dat (wsD rows), dat (.int (i : Int)), dat (.str row), dat (wsD ws), dat (optI (itemF ws)), dat (optW (deedF ws)), .un]
      [.sl false true (.str x), dat (.lst (es.map fun e => itsL e.s)), dat (.lst (es.map fun e => desD e.s.des)), dat (wsD rows), dat (.int (i : Int)), dat (.str row), dat (wsD ws), dat (optI (itemF ws)), dat (optW (deedF ws)), .un] :=
    .sl .id (.sl (.lst (resA kg.ha)) (.sl (.lst (resB kg.hb)) (.sl .id (.sl .id (.sl .id (.sl .id (.sl .id (.sl .id (.un .nil)))))))))
  have bad : step (es.map E3.s) ws = none → ∀ s, RX T.c_NoTable [("row", .int (i : Int))] [s] := fun h => by
    rw [h] at hstep
    exact qb i hstep
  have hi9 : i < 1000000 := by have := px.len; omega
  rcases Classical.em (es = []) with rfl | hne
  · have hn : step (([] : List E3).map E3.s) ws = none := (if_neg h1).trans rfl
    refine ⟨_, vw, ?_⟩
    refine ⟨_, vw, ?_⟩
    refine ⟨rfl, (by show (1 : Nat) ≤ 1000; decide), ?_⟩
    exact bad hn _
  obtain ⟨M, e0, rfl⟩ : ∃ M e0, es = M ++ [e0] := SrtO.snoc_of (List.length_pos_iff.mpr hne)
  have hL : ((M ++ [e0]).map E3.s).getLast? = some e0.s := by rw [List.map_append]; exact List.getLast?_concat ..
  have hD : ((M ++ [e0]).map E3.s).dropLast = M.map E3.s := by rw [List.map_append]; exact List.dropLast_concat ..
  have hst := ns e0.s hL
  rw [hD] at hst
  have m0 : e0 ∈ M ++ [e0] := by simp
  have f0 := few e0 m0
  have rd0 := rd e0 m0
  have neE : ((M ++ [e0]).map fun e => itsL e.s).isEmpty = false := by rw [List.map_append]; cases M <;> rfl
  have aA : L2.atI ((M ++ [e0]).map fun e => D.ref e.a) (-1) = some (.ref e0.a) := by rw [List.map_append]; exact L2.atI_last _ _
  have aB : L2.atI ((M ++ [e0]).map fun e => D.ref e.b) (-1) = some (.ref e0.b) := by rw [List.map_append]; exact L2.atI_last _ _
  have aD : L2.atI ((M ++ [e0]).map fun e => desD e.s.des) (-1) = some (desD e0.s.des) := by rw [List.map_append]; exact L2.atI_last _ _
  refine ⟨_, vw, ?_⟩
  show (if (!((M ++ [e0]).map fun e => itsL e.s).isEmpty) = true then _ else _)
  rw [neE, if_pos (by rfl)]
  cases hit : itemF ws with
  | some xi =>
    rw [hit] at hst vw
    dsimp only at hst
    refine ⟨desD e0.s.des, aD, desL e0.s.des, rfl, ?_⟩
    by_cases hd : e0.s.des = []
    · have he : (desL e0.s.des).isEmpty = true := by rw [hd]; rfl
      rw [he]
      rw [if_pos hd] at hst
      rw [hst] at hstep
      refine ⟨.ref e0.a, aA, e0.a, _, rfl, kg.ha e0 m0, by rw [List.length_map]; omega, ?_⟩
      have em : (M ++ [(⟨e0.a, e0.b, ⟨e0.s.its ++ [xi], []⟩⟩ : E3)]).map E3.s = M.map E3.s ++ [⟨e0.s.its ++ [xi], []⟩] := by rw [List.map_append]; rfl
      refine ⟨M ++ [(⟨e0.a, e0.b, ⟨e0.s.its ++ [xi], []⟩⟩ : E3)], dat (.int (i : Int)), dat (.str row), dat (wsD ws), dat xi.d, dat (optW (deedF ws)), by rw [em]; exact hstep, fun e' he' => ?_, by rw [List.length_append] at les ⊢; exact Nat.le_succ_of_le les, fun e' he' => ?_, ?_, ?_⟩
      · exact rdS _ hst e'.s (by rw [← em]; exact List.mem_map.mpr ⟨e', he', rfl⟩)
      · rcases List.mem_append.mp he' with he' | he'
        · have := few e' (by simp [he']); omega
        · rw [List.mem_singleton.mp he']
          exact ⟨by show (e0.s.its ++ [xi]).length ≤ _; rw [List.length_append]; show e0.s.its.length + 1 ≤ _; omega, Nat.zero_le _⟩
      · refine kg.last (s := ⟨e0.s.its ++ [xi], []⟩) _ ?_ ?_ fun c c1 c2 => gput_ne c1
        · rw [gput_same]; unfold itsL; rw [List.map_append]; rfl
        · rw [gput_ne (kg.ab e0 m0).symm, kg.hb e0 m0, hd]
      · have e1 : rfA (M ++ [(⟨e0.a, e0.b, ⟨e0.s.its ++ [xi], []⟩⟩ : E3)]) = rfA (M ++ [e0]) := by unfold rfA; rw [List.map_append, List.map_append]; rfl
        have e2 : rfB (M ++ [(⟨e0.a, e0.b, ⟨e0.s.its ++ [xi], []⟩⟩ : E3)]) = rfB (M ++ [e0]) := by unfold rfB; rw [List.map_append, List.map_append]; rfl
        rw [e1, e2]; rfl
    · have he : (desL e0.s.des).isEmpty = false := by
        cases e9 : e0.s.des with
        | nil => exact absurd e9 hd
        | cons _ _ => rfl
      rw [he]
      rw [if_neg hd] at hst
      have hdn : deedF ws = none := by
        cases ws with
        | nil => rfl
        | cons w0 r =>
          refine deedF_head fun z => ?_
          rw [z, itemF_head (by decide +kernel)] at hit
          cases hit
      rw [hdn] at vw ⊢
      refine ⟨_, vw, ?_⟩
      show (if (!((M ++ [e0]).map fun e => itsL e.s).isEmpty) = true then _ else _)
      rw [neE, if_pos (by rfl)]
      refine ⟨rfl, (by show (1 : Nat) ≤ 1000; decide), ?_⟩
      exact bad hst _
  | none =>
    rw [hit] at hst vw
    dsimp only at hst
    cases hdt : deedF ws with
    | none =>
      rw [hdt] at hst vw
      refine ⟨_, vw, ?_⟩
      show (if (!((M ++ [e0]).map fun e => itsL e.s).isEmpty) = true then _ else _)
      rw [neE, if_pos (by rfl)]
      refine ⟨rfl, (by show (1 : Nat) ≤ 1000; decide), ?_⟩
      exact bad hst _
    | some p =>
      rw [hdt] at hst vw
      dsimp only at hst
      obtain ⟨op, _⟩ := deedF_ok hdt
      refine ⟨_, vw, ?_⟩
      show (if (!((M ++ [e0]).map fun e => itsL e.s).isEmpty) = true then _ else _)
      rw [neE, if_pos (by rfl)]
      refine ⟨.str p.1, rfl, desD e0.s.des, aD, List.nodup_nil, p.1, e0.s.des, rfl, fun t0 t1 => ?_⟩
      dsimp only
      rw [wb_no (rs := [.val (.str p.1), .val (desD e0.s.des)]) [t0, t1] rfl]
      cases hb : behF p.1 e0.s.des with
      | false =>
        rw [if_neg (by rw [hb]; decide)] at hst
        refine ⟨rfl, (by show (1 : Nat) ≤ 1000; decide), ?_⟩
        exact bad hst _
      | true =>
        rw [if_pos hb] at hst
        rw [hst] at hstep
        have em : (M ++ [(⟨e0.a, e0.b, ⟨e0.s.its, e0.s.des ++ [p]⟩⟩ : E3)]).map E3.s = M.map E3.s ++ [⟨e0.s.its, e0.s.des ++ [p]⟩] := by rw [List.map_append]; rfl
        have ep : kput (desL e0.s.des) (.inr p.1) p.2.d = desL (e0.s.des ++ [p]) := by
          rw [desL_put]
          congr 1
          unfold dput
          rw [if_neg]
          intro z
          obtain ⟨q', hq, eq⟩ := List.any_eq_true.mp z
          have eq := of_decide_eq_true eq
          have ri := rise_snoc rd0.up hb
          have := (List.pairwise_append.mp ri).2.2 q' hq p (List.mem_singleton.mpr rfl)
          rw [eq] at this
          exact List.lt_irrefl _ this
        refine ⟨p.2.d, rfl, .ref e0.b, aB, .str p.1, rfl, e0.b, desL e0.s.des, .inr p.1, rfl, kg.hb e0 m0, rfl, by unfold desL; rw [List.length_map]; omega, ?_⟩
        rw [ep]
        refine ⟨M ++ [(⟨e0.a, e0.b, ⟨e0.s.its, e0.s.des ++ [p]⟩⟩ : E3)], dat (.int (i : Int)), dat (.str row), dat (wsD ws), dat .non, dat (optW (some p)), by rw [em]; exact hstep, fun e' he' => ?_, by rw [List.length_append] at les ⊢; exact Nat.le_succ_of_le les, fun e' he' => ?_, ?_, ?_⟩
        · exact rdS _ hst e'.s (by rw [← em]; exact List.mem_map.mpr ⟨e', he', rfl⟩)
        · rcases List.mem_append.mp he' with he' | he'
          · have := few e' (by simp [he']); omega
          · rw [List.mem_singleton.mp he']
            exact ⟨by show e0.s.its.length ≤ _; omega, by show (e0.s.des ++ [p]).length ≤ _; rw [List.length_append]; show e0.s.des.length + 1 ≤ _; omega⟩
        · refine kg.last (s := ⟨e0.s.its, e0.s.des ++ [p]⟩) _ ?_ ?_ fun c c1 c2 => gput_ne c2
          · rw [gput_ne (kg.ab e0 m0), kg.ha e0 m0]; rfl
          · rw [gput_same]; rfl
        · have e1 : rfA (M ++ [(⟨e0.a, e0.b, ⟨e0.s.its, e0.s.des ++ [p]⟩⟩ : E3)]) = rfA (M ++ [e0]) := by unfold rfA; rw [List.map_append, List.map_append]; rfl
          have e2 : rfB (M ++ [(⟨e0.a, e0.b, ⟨e0.s.its, e0.s.des ++ [p]⟩⟩ : E3)]) = rfB (M ++ [e0]) := by unfold rfB; rw [List.map_append, List.map_append]; rfl
          rw [e1, e2]; rfl
end
end K41
set_option maxRecDepth 100000
set_option maxHeartbeats 4000000
namespace K41
open PySem PySem.Spec PyProof.Rows L2 Yard YP TL
/-- alike, so deep at most -/
inductive Al : Nat → D → D → Prop
  | str {k : Nat} {x : Str} : Tk x → Al k (.str x) (.str x)
  | int {k : Nat} {i : Int} : Al k (.int i) (.int i)
  | dic {k : Nat} {l m : List (Key × D)} (kl km : List Str) (f g : Str → D) : l.map (·.1) = kl.map Sum.inr → m.map (·.1) = km.map Sum.inr → kl.Perm km → (∀ x ∈ kl, Tk x) → kl.length ≤ 100000 →
      (∀ x ∈ km, kget l (.inr x) = some (f x)) → (∀ x ∈ km, kget m (.inr x) = some (g x)) → (∀ x ∈ km, Al k (f x) (g x)) → Al (k + 1) (.dic l) (.dic m)
  | tup {k : Nat} {l m : List D} : l.length = m.length → l.length ≤ 100000 → (∀ (i : Nat) (d e : D), l[i]? = some d → m[i]? = some e → Al k d e) → Al (k + 1) (.tup l) (.tup m)
theorem zip2_get {l m : List D} {i : Nat} {y : D} (h : (zip2 l m)[i]? = some y) : ∃ d e, l[i]? = some d ∧ m[i]? = some e ∧ y = .tup [d, e] := by
  unfold zip2 at h
  rw [List.getElem?_zipWith] at h
  cases h1 : l[i]? with
  | none => rw [h1] at h; cases h
  | some d =>
    cases h2 : m[i]? with
    | none => rw [h1, h2] at h; cases h
    | some e => rw [h1, h2] at h; exact ⟨d, e, rfl, rfl, (Option.some.inj h).symm⟩
theorem all_trues : ∀ n : Nat, (List.replicate n true).all id = true
  | 0 => rfl
  | n + 1 => by rw [List.replicate_succ, List.all_cons, all_trues n]; rfl
section
variable {P : Program} {w : World} {K : PySem.W.Frag} {mg : Str → Option Value} {base : Heap}
def uAl (k : Nat) : UF := fun ρ R => ∃ d e, ρ = [dat d, dat e] ∧ Al k d e ∧ ∀ s0 s1, R (.val (.bl true)) [s0, s1]
theorem sc__law_alike : FnScope ["found", "wanted", "key", "one", "other"] ["found", "wanted"] (defScope s__law_alike) := ⟨rfl, rfl, rfl, by decide +kernel, rfl, by decide +kernel, by decide +kernel⟩
theorem st__law_alike (T : Tx K w mg) (k : Nat) (G : FnOk P w K mg base CX0 (k + 1) T.a__law_alike T.f__law_alike ["found", "wanted"] (PSp K 2 (uBefore uAl k))) : FnOk P w K mg base CX0 (k + 2) T.a__law_alike T.f__law_alike ["found", "wanted"] (PSp K 2 (uAl k)) := by
  refine fn_mk T.d__law_alike.fn sc__law_alike (by decide) fun cdv A outer s H E hr => ?_
  refine ⟨_, (fb_cons (fs_if (ft_tru (fe_b cb_isi (by rfl) T.z_isinstance (by decide +kernel) (fr_ref (fv 1) (fr_ref (fe_ty (n := "str") (by rfl) T.z_str (by decide +kernel)) fr_nil))))
      (fb_one (fs_ret (fe_and (fe_b cb_isi (by rfl) T.z_isinstance (by decide +kernel) (fr_ref (fv 0) (fr_ref (fe_ty (n := "str") (by rfl) T.z_str (by decide +kernel)) fr_nil))) (fe_one (fe_cmp (os_eq (ru hr)) (fv 0) (fv 1))))))
      fb_nil)
      (fb_cons (fs_if (ft_tru (fe_b cb_isi (by rfl) T.z_isinstance (by decide +kernel) (fr_ref (fv 1) (fr_ref (fe_ty (n := "int") (by rfl) T.z_int (by decide +kernel)) fr_nil))))
      (fb_one (fs_ret (fe_and (fe_b cb_isi (by rfl) T.z_isinstance (by decide +kernel) (fr_ref (fv 0) (fr_ref (fe_ty (n := "int") (by rfl) T.z_int (by decide +kernel)) fr_nil))) (fe_and (fe_not (fe_b cb_isi (by rfl) T.z_isinstance (by decide +kernel) (fr_ref (fv 0) (fr_ref (fe_ty (n := "bool") (by rfl) T.z_bool (by decide +kernel)) fr_nil)))) (fe_one (fe_cmp (os_eq (ru hr)) (fv 0) (fv 1)))))))
      fb_nil)
      (fb_cons (fs_if (ft_tru (fe_b cb_isi (by rfl) T.z_isinstance (by decide +kernel) (fr_ref (fv 1) (fr_ref (fe_ty (n := "dict") (by rfl) T.z_dict (by decide +kernel)) fr_nil))))
      (fb_cons (fs_if (FW.ft (fw_or (ft_not (ft_tru (fe_b cb_isi (by rfl) T.z_isinstance (by decide +kernel) (fr_ref (fv 0) (fr_ref (fe_ty (n := "dict") (by rfl) T.z_dict (by decide +kernel)) fr_nil))))) (fw_or1 (ft_cmp (os_ne (ru hr)) (fe_b cb_sortedA (by rfl) T.z_sorted (by decide +kernel) (fr_ref (fe_bt (cb_listD rfl) (by rfl) T.z_list (by decide +kernel) (fr_ref (fv 0) fr_nil)) fr_nil)) (fe_b cb_sortedA (by rfl) T.z_sorted (by decide +kernel) (fr_ref (fe_bt (cb_listD rfl) (by rfl) T.z_list (by decide +kernel) (fr_ref (fv 1) fr_nil)) fr_nil))))))
      (fb_one (fs_ret fe_bl))
      fb_nil)
      (fb_one (fs_ret (fe_b (cb_all rfl) (by rfl) T.z_all (by decide +kernel) (fr_ref (fe_lcL rfl sc__law_alike.nd (fil_keys (fv 1)) (blkOk_by (own := [("key", 2)]) (N := ["found", "wanted", "key", "one", "other"]) (sc := defScope s__law_alike) (by decide +kernel)) (fun _ _ _ _ _ => (fg_name (pg_name (i := 2) sc__law_alike.nd rfl (.inl rfl)) (by intro l e; cases e; decide +kernel))) (fun _ _ _ _ _ => fts_nil) (fun _ _ _ _ _ => (fe_call G (hr.mono (by omega)) (by rfl) T.d__law_alike.at_ T.d__law_alike.kp T.d__law_alike.bd (fr_val (fe_dget (rk hr) (fv 0) (fv 2)) (fr_val (fe_dget (rk hr) (fv 1) (fv 2)) fr_nil))))) fr_nil)))))
      fb_nil)
      (fb_cons (fs_if (FW.ft (fw_or (ft_not (ft_tru (fe_b cb_isi (by rfl) T.z_isinstance (by decide +kernel) (fr_ref (fv 0) (fr_ref (fe_ty (n := "tuple") (by rfl) T.z_tuple (by decide +kernel)) fr_nil))))) (fw_or1 (ft_cmp (os_ne (ru hr)) (fe_b cb_len (by rfl) T.z_len (by decide +kernel) (fr_ref (fv 0) fr_nil)) (fe_b cb_len (by rfl) T.z_len (by decide +kernel) (fr_ref (fv 1) fr_nil))))))
      (fb_one (fs_ret fe_bl))
      fb_nil)
      (fb_one (fs_ret (fe_b (cb_all rfl) (by rfl) T.z_all (by decide +kernel) (fr_ref (fe_lc rfl sc__law_alike.nd (fi_zip (by rfl) T.z_zip (fa_cons (fv 0) (fa_cons (fv 1) fa_nil))) (blkOk_by (own := [("one", 3), ("other", 4)]) (N := ["found", "wanted", "key", "one", "other"]) (sc := defScope s__law_alike) (by decide +kernel)) (fun _ _ _ _ _ => (fg_tup (n := 2) rfl (fgs_cons (fg_name (pg_name (i := 3) sc__law_alike.nd rfl (.inl rfl)) (by intro l e; cases e; decide +kernel)) (fgs_cons (fg_name (pg_name (i := 4) sc__law_alike.nd rfl (.inl rfl)) (by intro l e; cases e; decide +kernel)) fgs_nil)))) (fun _ _ _ _ _ => fts_nil) (fun _ _ _ _ _ => (fe_call G (hr.mono (by omega)) (by rfl) T.d__law_alike.at_ T.d__law_alike.kp T.d__law_alike.bd (fr_val (fv 3) (fr_val (fv 4) fr_nil))))) fr_nil)))))))), fun ρ R hl h => ?_⟩
  obtain ⟨d, e, rfl, hal, q⟩ := h
  have sz := sz24
  cases hal with
  | @str _ x tx =>
    refine ⟨"str", true, rfl, rfl, ?_⟩
    refine ⟨"str", true, rfl, rfl, (okTk tx).ok, (okTk tx).ok, ?_⟩
    rw [eqD_str, decide_eq_true rfl]
    exact q _ _
  | @int _ i =>
    refine ⟨"int", false, rfl, rfl, ?_⟩
    refine ⟨"int", true, rfl, rfl, ?_⟩
    refine ⟨"int", true, rfl, rfl, "int", false, rfl, rfl, okN_int.ok, okN_int.ok, ?_⟩
    rw [eqD_int, decide_eq_true rfl]
    exact q _ _
  | @dic k l m kl km f g h1 h2 h3 h4 h5 h6 h7 h8 =>
    have ekl : (l.map fun p => kD p.1) = kl.map D.str := by
      have := congrArg (List.map kD) h1
      rw [List.map_map, List.map_map] at this
      exact this
    have ekm : (m.map fun p => kD p.1) = km.map D.str := by
      have := congrArg (List.map kD) h2
      rw [List.map_map, List.map_map] at this
      exact this
    have lkm : km.length ≤ 100000 := by rw [← h3.length_eq]; exact h5
    refine ⟨"dict", false, rfl, rfl, ?_⟩
    refine ⟨"dict", false, rfl, rfl, ?_⟩
    refine ⟨"dict", true, rfl, rfl, ?_⟩
    refine ⟨"dict", true, rfl, rfl, kl, ekl, fun ys p1 a1 => ⟨km, ekm, fun zs p2 a2 => ?_⟩⟩
    have eyz : ys = zs := asc_eq (p1.trans (h3.trans p2.symm)) a1 a2
    subst eyz
    have oky : OkN 1 (wsD ys) := okWs fun w hw => h4 w (p1.mem_iff.mp hw)
    refine ⟨oky.ok, oky.ok, ?_⟩
    rw [show eqD (.lst (ys.map D.str)) (.lst (ys.map D.str)) = true from eqD_refl oky]
    refine ⟨fun i acc ρ => acc = List.replicate i (.bl true) ∧ ρ = [.sl false true (.dic l), .sl false true (.dic m), .un, .un, .un], ⟨rfl, rfl⟩, ?_, ?_, ?_⟩
    · rintro i y acc ρ hi ⟨rfl, rfl⟩
      rw [ekm, List.getElem?_map] at hi
      obtain ⟨x, hx, rfl⟩ := Option.map_eq_some_iff.mp hi
      have mx := List.mem_of_getElem? hx
      have hi' := (List.getElem?_eq_some_iff.mp hx).1
      refine ⟨.inr x, f x, rfl, h6 x mx, .inr x, g x, rfl, h7 x mx, List.nodup_nil, f x, g x, rfl, h8 x mx, fun s0 s1 => ?_⟩
      dsimp only
      rw [wb_no (rs := [.val (f x), .val (g x)]) [s0, s1] rfl]
      exact ⟨by rw [List.length_replicate]; omega, by rw [List.replicate_succ'], rfl⟩
    · rintro i acc ρ ⟨_, rfl⟩
      exact ⟨_, (rfl : _ = YP.wipeS [.sl false true (.dic l), .sl false true (.dic m), .un, .un, .un] [2])⟩
    rintro acc ρ ⟨rfl, rfl⟩
    refine ⟨List.replicate _ true, by rw [List.map_replicate], ?_⟩
    rw [all_trues]
    exact q _ _
  | @tup k l m h1 h2 h3 =>
    refine ⟨"tuple", false, rfl, rfl, ?_⟩
    refine ⟨"tuple", false, rfl, rfl, ?_⟩
    refine ⟨"tuple", false, rfl, rfl, ?_⟩
    refine ⟨"tuple", true, rfl, rfl, okN_int.ok, okN_int.ok, ?_⟩
    rw [eqD_int, decide_eq_true (by rw [h1])]
    refine ⟨fun i acc ρ => acc = List.replicate i (.bl true) ∧ ρ = [.sl false true (.tup l), .sl false true (.tup m), .un, .un, .un], ⟨rfl, rfl⟩, ?_, ?_, ?_⟩
    · rintro i y acc ρ hi ⟨rfl, rfl⟩
      obtain ⟨d, e, hd, he, rfl⟩ := zip2_get hi
      have hi' := (List.getElem?_eq_some_iff.mp hd).1
      refine ⟨rfl, List.nodup_nil, d, e, rfl, h3 i d e hd he, fun s0 s1 => ?_⟩
      dsimp only
      rw [wb_no (rs := [.val d, .val e]) [s0, s1] rfl]
      exact ⟨by rw [List.length_replicate]; omega, by rw [List.replicate_succ'], rfl⟩
    · rintro i acc ρ ⟨_, rfl⟩
      exact ⟨_, (rfl : _ = YP.wipeS [.sl false true (.tup l), .sl false true (.tup m), .un, .un, .un] [3, 4])⟩
    rintro acc ρ ⟨rfl, rfl⟩
    refine ⟨List.replicate _ true, by rw [List.map_replicate], ?_⟩
    rw [all_trues]
    exact q _ _
theorem ok__law_alike (T : Tx K w mg) : ∀ k, FnOk P w K mg base CX0 (k + 2) T.a__law_alike T.f__law_alike ["found", "wanted"] (PSp K 2 (uAl k))
  | 0 => st__law_alike T 0 no_pure
  | k + 1 => st__law_alike T (k + 1) (ok__law_alike T k)
end
end K41
set_option maxRecDepth 100000
set_option maxHeartbeats 1000000
namespace K41
open PySem PySem.Spec PyProof.Rows L2 Yard YP TL
/-! ### drawn tables fit -/
theorem mk_len {x : Str} (h : mkF x = true) : x.length ≤ 8 := (mk_in h).1.2
theorem nat_len {n k : Nat} (hk : 0 < k) (h : n < 10 ^ k) : (natS n).length ≤ k := by
  rw [len_tl]
  show (natS n).cps.toList.length ≤ _
  rw [tl_natS]
  exact numL_len hk h
theorem sum_le : ∀ {l : List Str} {m : Nat}, (∀ w ∈ l, w.length ≤ m) → (l.map (·.length)).sum ≤ m * l.length
  | [], _, _ => Nat.zero_le _
  | a :: l, m, h => by
    rw [List.map_cons, List.sum_cons, List.length_cons, Nat.mul_succ]
    have := sum_le fun w hw => h w (List.mem_cons_of_mem _ hw)
    have := h a List.mem_cons_self
    omega
theorem it_len {x : IT} (h : x.Ok) (k : x.ah.length ≤ 3) : (sp x.ws).length ≤ 60 := by
  have el := sp_len (ws := x.ws) (by intro z; cases z)
  have e1 : (x.ws.map (·.length)).sum = 4 + (x.l.length + ((natS x.n).length + (x.ah.map (·.length)).sum)) := by
    show ("item" : Str).length + _ = _
    rw [show ("item" : Str).length = 4 from by decide +kernel]; rfl
  have e2 : x.ws.length = x.ah.length + 3 := rfl
  have h1 := mk_len h.l
  have h2 : (natS x.n).length ≤ 4 := nat_len (by decide) h.n
  have h3 : (x.ah.map (·.length)).sum ≤ 8 * x.ah.length := sum_le fun w hw => mk_len (List.all_eq_true.mp h.ah w hw)
  omega
theorem de_len {p : Str × DE} (h : mkF p.1 = true ∧ p.2.Ok) : (sp (deW p)).length ≤ 60 := by
  have el := sp_len (ws := deW p) (by intro z; cases z)
  have e1 : ((deW p).map (·.length)).sum = 2 + (p.1.length + (p.2.ps.map (·.length)).sum) := by
    show ("on" : Str).length + _ = _
    rw [show ("on" : Str).length = 2 from by decide +kernel]; rfl
  have e2 : (deW p).length = p.2.ps.length + 2 := rfl
  have h1 := mk_len h.1
  have h3 : (p.2.ps.map (·.length)).sum ≤ 8 * p.2.ps.length ∧ p.2.ps.length ≤ 4 := by
    cases e : p.2 with
    | go n =>
      have hn : n < 10000 := by have := h.2; rw [e] at this; exact this
      refine ⟨sum_le fun w hw => ?_, by show 2 ≤ 4; decide⟩
      simp only [DE.ps, List.mem_cons, List.not_mem_nil, or_false] at hw
      rcases hw with rfl | rfl
      · decide +kernel
      · have := nat_len (n := n) (k := 4) (by decide) hn; omega
    | «by» l n a =>
      have hn : mkF l = true ∧ n < 10000 ∧ mkF a = true := by have := h.2; rw [e] at this; exact this
      refine ⟨sum_le fun w hw => ?_, by show 4 ≤ 4; decide⟩
      simp only [DE.ps, List.mem_cons, List.not_mem_nil, or_false] at hw
      rcases hw with rfl | rfl | rfl | rfl
      · decide +kernel
      · exact mk_len hn.1
      · have := nat_len (n := n) (k := 4) (by decide) hn.2.1; omega
      · exact mk_len hn.2.2
    | fin =>
      refine ⟨sum_le fun w hw => ?_, by show 1 ≤ 4; decide⟩
      simp only [DE.ps, List.mem_cons, List.not_mem_nil, or_false] at hw
      rw [hw]; decide +kernel
  omega
theorem st_len {k : Nat} (h : k < 10000) : (stR k).length ≤ 60 := by
  have el := sp_len (ws := [("state" : Str), natS k]) (by intro z; cases z)
  have e1 : (([("state" : Str), natS k] : List Str).map (·.length)).sum = 5 + ((natS k).length + 0) := by
    show ("state" : Str).length + _ = _
    rw [show ("state" : Str).length = 5 from by decide +kernel]; rfl
  have h2 : (natS k).length ≤ 4 := nat_len (by decide) h
  have e2 : ([("state" : Str), natS k] : List Str).length = 2 := rfl
  unfold stR
  omega
theorem rows_few : ∀ (ts : List ST) (k : Nat), (∀ s ∈ ts, SGood s) → k + ts.length < 10000 → (rowsT k (ts.map sdS)).length ≤ 7 * ts.length ∧ ∀ r ∈ rowsT k (ts.map sdS), r.length ≤ 60
  | [], _, _, _ => ⟨Nat.le_refl _, fun _ h => nomatch h⟩
  | s :: ts, k, h, hk => by
    have hs := h s List.mem_cons_self
    rw [List.length_cons] at hk
    obtain ⟨a, b⟩ := rows_few ts (k + 1) (fun z hz => h z (List.mem_cons_of_mem _ hz)) (by omega)
    have er : (rowS k (sdS s)).length = 1 + s.its.length + (sd s.des).length := by unfold rowS sdS; simp; omega
    have es := (sd_perm s.des).length_eq
    have l1 := hs.li
    have l2 := hs.ld
    refine ⟨?_, fun r hr => ?_⟩
    · show (rowS k (sdS s) ++ rowsT (k + 1) (ts.map sdS)).length ≤ 7 * (ts.length + 1)
      rw [List.length_append, er]
      omega
    · rcases List.mem_append.mp (show r ∈ rowS k (sdS s) ++ rowsT (k + 1) (ts.map sdS) from hr) with hr | hr
      · rcases List.mem_append.mp (show r ∈ (stR k :: s.its.map fun x => sp x.ws) ++ (sd s.des).map fun p => sp (deW p) from hr) with hr | hr
        · rcases List.mem_cons.mp hr with rfl | hr
          · exact st_len (by omega)
          · obtain ⟨x, hx, rfl⟩ := List.mem_map.mp hr
            exact it_len (hs.its x hx).1 (hs.its x hx).2
        · obtain ⟨p, hp, rfl⟩ := List.mem_map.mp hr
          exact de_len (hs.des.ok p ((sd_perm _).mem_iff.mp hp))
      · exact b r hr
theorem Good.fit {ss : List ST} (h : Good ss) : Fit ss ∧ (textT (ss.map sdS)).length ≤ 60000 := by
  have hl := h.len
  obtain ⟨a, b⟩ := rows_few ss 0 h.st (by omega)
  have s := sum_le b
  have j := join_le "\n" (rowsT 0 (ss.map sdS))
  rw [show ("\n" : Str).length = 1 from by decide +kernel] at j
  refine ⟨⟨fun s hs => ⟨(h.st s hs).ok, (h.st s hs).des.nd⟩, by omega, fun r hr => by have := b r hr; omega, by omega⟩, ?_⟩
  show (Txt.join "\n" (rowsT 0 (ss.map sdS))).length ≤ _
  omega
theorem row_low {k : Nat} {ts : List ST} (h : ∀ s ∈ ts, s.Ok) : ∀ r ∈ rowsT k ts, Low r := by
  have lw : ∀ {ws : List Str}, (∀ w ∈ ws, Low w) → Low (sp ws) := fun h => Low.join (sw " ").low h
  have ln : ∀ n : Nat, Low (natS n) := fun n c hc => by
    rw [tl_natS] at hc
    have := numL_digits n c hc
    omega
  induction ts generalizing k with
  | nil => intro r hr; cases hr
  | cons s ts ih =>
    intro r hr
    have hs := h s List.mem_cons_self
    rcases List.mem_append.mp (show r ∈ rowS k s ++ rowsT (k + 1) ts from hr) with hr | hr
    · rcases List.mem_append.mp (show r ∈ (stR k :: s.its.map fun x => sp x.ws) ++ s.des.map fun p => sp (deW p) from hr) with hr | hr
      · rcases List.mem_cons.mp hr with rfl | hr
        · refine lw fun w hw => ?_
          simp only [List.mem_cons, List.not_mem_nil, or_false] at hw
          rcases hw with rfl | rfl
          · exact (sw "state").low
          · exact ln k
        · obtain ⟨x, hx, rfl⟩ := List.mem_map.mp hr
          have ox := hs.its x hx
          refine lw fun w hw => ?_
          have hw : w ∈ ("item" : Str) :: x.l :: natS x.n :: x.ah := hw
          rcases List.mem_cons.mp hw with rfl | hw
          · exact (sw "item").low
          rcases List.mem_cons.mp hw with rfl | hw
          · exact (mk_tk ox.l).low
          rcases List.mem_cons.mp hw with rfl | hw
          · exact ln _
          · exact (mk_tk (List.all_eq_true.mp ox.ah w hw)).low
      · obtain ⟨p, hp, rfl⟩ := List.mem_map.mp hr
        have op := hs.des p hp
        refine lw fun w hw => ?_
        have hw : w ∈ ("on" : Str) :: p.1 :: p.2.ps := hw
        rcases List.mem_cons.mp hw with rfl | hw
        · exact (sw "on").low
        rcases List.mem_cons.mp hw with rfl | hw
        · exact (mk_tk op.1).low
        · cases e : p.2 with
          | go n =>
            rw [e] at hw
            simp only [DE.ps, List.mem_cons, List.not_mem_nil, or_false] at hw
            rcases hw with rfl | rfl
            · exact (sw "go").low
            · exact ln n
          | «by» l n a =>
            have hn : mkF l = true ∧ n < 10000 ∧ mkF a = true := by have := op.2; rw [e] at this; exact this
            rw [e] at hw
            simp only [DE.ps, List.mem_cons, List.not_mem_nil, or_false] at hw
            rcases hw with rfl | rfl | rfl | rfl
            · exact (sw "by").low
            · exact (mk_tk hn.1).low
            · exact ln n
            · exact (mk_tk hn.2.2).low
          | fin =>
            rw [e] at hw
            simp only [DE.ps, List.mem_cons, List.not_mem_nil, or_false] at hw
            rw [hw]; exact (sw "done").low
    · exact ih (fun z hz => h z (List.mem_cons_of_mem _ hz)) r hr
theorem text_low {ss : List ST} (h : ∀ s ∈ ss, s.Ok) : Low (textT ss) := Low.join (sw "\n").low (row_low h)
/-- what was read fits -/
theorem rise_nd {l : List (Str × DE)} (h : Rise l) : (l.map (·.1)).Nodup :=
  List.pairwise_map.mpr (h.imp fun {a b} q z => by rw [z] at q; exact List.lt_irrefl _ q)
theorem sdS_id {ss : List ST} (h : ∀ s ∈ ss, ST.Rd s) : ss.map sdS = ss := by
  have : ss.map sdS = ss.map id := List.map_congr_left fun s hs => by
    show (⟨s.its, sd s.des⟩ : ST) = s
    rw [rise_sd (h s hs).up]
  rw [this, List.map_id]
theorem read_fit {y : Str} {ss : List ST} (hy : Low y) (hl : y.length ≤ 900000) (h : run [] 0 (Txt.split y "\n") = .inr ss) : Fit ss ∧ textT (ss.map sdS) = y := by
  obtain ⟨rd, er⟩ := run_ok _ _ _ _ h fun _ z => nomatch z
  have er : rowsT 0 ss = Txt.split y "\n" := er
  have ty : Tk y := ⟨hy.ok, by omega⟩
  have p := ptsR ty
  have ss_ := sum_split _ _ (PySem.StrLaws.join_split y "\n") p.ne (by decide +kernel)
  have ei := sdS_id rd
  refine ⟨⟨fun s hs => ⟨(rd s hs).ok, rise_nd (rd s hs).up⟩, ?_, ?_, ?_⟩, ?_⟩
  · rw [ei, er]; have := p.len; omega
  · rw [ei, er]; exact fun r hr => (p.tk r hr).1.few
  · rw [ei, er]; omega
  · rw [ei]; exact run_text h
/-! ### tables alike -/
theorem al_refl {k : Nat} {l : List D} (h : ∀ d ∈ l, Al k d d) (hl : l.length ≤ 100000) : Al (k + 1) (.tup l) (.tup l) :=
  .tup rfl hl fun i d e h1 h2 => by
    rw [h1] at h2
    cases h2
    exact h d (List.mem_of_getElem? h1)
theorem al_it {k : Nat} {x : IT} (h : x.Ok) (l : x.ah.length ≤ 3) : Al (k + 2) x.d x.d := al_refl (fun d hd => by
  simp only [List.mem_cons, List.not_mem_nil, or_false] at hd
  rcases hd with rfl | rfl | rfl
  · exact .str (mk_tk h.l)
  · exact .int
  · exact al_refl (fun d hd => by
      obtain ⟨w, hw, rfl⟩ := List.mem_map.mp hd
      exact .str (mk_tk (List.all_eq_true.mp h.ah w hw))) (by rw [List.length_map]; omega)) (by show 3 ≤ _; decide)
theorem al_de {k : Nat} {e : DE} (h : e.Ok) : Al (k + 1) e.d e.d := by
  cases e with
  | go n => exact al_refl (fun d hd => by
      simp only [List.mem_cons, List.not_mem_nil, or_false] at hd
      rcases hd with rfl | rfl
      · exact .str (sw _)
      · exact .int) (by show 2 ≤ _; decide)
  | «by» l n a => exact al_refl (fun d hd => by
      simp only [List.mem_cons, List.not_mem_nil, or_false] at hd
      rcases hd with rfl | rfl | rfl | rfl
      · exact .str (sw _)
      · exact .str (mk_tk h.1)
      · exact .int
      · exact .str (mk_tk h.2.2)) (by show 4 ≤ _; decide)
  | fin => exact al_refl (fun d hd => by
      simp only [List.mem_cons, List.not_mem_nil, or_false] at hd
      rw [hd]; exact .str (sw _)) (by show 1 ≤ _; decide)
theorem kget_none {l : List (Str × DE)} {x : Str} : ∀ {p : Str × DE}, (l.map (·.1)).Nodup → p ∈ l → p.1 = x → kget (desL l) (.inr x) = some p.2.d := fun nd hp e => by rw [← e]; exact dget_mem nd hp
theorem al_des {k : Nat} {l m : List (Str × DE)} (p : l.Perm m) (h : DsOk m) (hl : m.length ≤ 3) : Al (k + 2) (desD l) (desD m) := by
  have ndl : (l.map (·.1)).Nodup := (p.map (·.1)).nodup_iff.mpr h.nd
  refine .dic (l.map (·.1)) (m.map (·.1)) (fun x => (kget (desL l) (.inr x)).getD .non) (fun x => (kget (desL m) (.inr x)).getD .non) (keysL l) (keysL m) (p.map _) (fun x hx => ?_) (by rw [List.length_map, p.length_eq]; omega) (fun x hx => ?_) (fun x hx => ?_) fun x hx => ?_
  · obtain ⟨q, hq, rfl⟩ := List.mem_map.mp hx
    exact mk_tk (h.ok q (p.mem_iff.mp hq)).1
  · obtain ⟨q, hq, rfl⟩ := List.mem_map.mp hx
    rw [dget_mem ndl (p.mem_iff.mpr hq)]; rfl
  · obtain ⟨q, hq, rfl⟩ := List.mem_map.mp hx
    rw [dget_mem h.nd hq]; rfl
  · obtain ⟨q, hq, rfl⟩ := List.mem_map.mp hx
    rw [dget_mem ndl (p.mem_iff.mpr hq), dget_mem h.nd hq]
    exact al_de (h.ok q hq).2
theorem al_tbl {ss : List ST} (h : Good ss) (f : ST → ST) (hf : ∀ s, (f s).its = s.its ∧ (f s).des.Perm s.des) : Al 8 (tblD (ss.map f)) (tblD ss) := by
  have hl := h.len
  refine .tup rfl (by show 2 ≤ _; decide) fun i d e h1 h2 => ?_
  match i, h1, h2 with
  | 0, h1, h2 =>
    cases h1; cases h2
    refine .tup (by rw [List.length_map, List.length_map, List.length_map]) (by rw [List.length_map, List.length_map]; omega) fun i d e h1 h2 => ?_
    rw [List.getElem?_map, List.getElem?_map] at h1
    rw [List.getElem?_map] at h2
    obtain ⟨s, hs, rfl⟩ := Option.map_eq_some_iff.mp h2
    rw [hs] at h1
    cases h1
    have gs := h.st s (List.mem_of_getElem? hs)
    show Al 6 (itsD (f s).its) (itsD s.its)
    rw [(hf s).1]
    exact al_refl (fun d hd => by
      obtain ⟨x, hx, rfl⟩ := List.mem_map.mp hd
      exact al_it (gs.its x hx).1 (gs.its x hx).2) (by rw [List.length_map]; have := gs.li; omega)
  | 1, h1, h2 =>
    cases h1; cases h2
    refine .tup (by rw [List.length_map, List.length_map, List.length_map]) (by rw [List.length_map, List.length_map]; omega) fun i d e h1 h2 => ?_
    rw [List.getElem?_map, List.getElem?_map] at h1
    rw [List.getElem?_map] at h2
    obtain ⟨s, hs, rfl⟩ := Option.map_eq_some_iff.mp h2
    rw [hs] at h1
    cases h1
    have gs := h.st s (List.mem_of_getElem? hs)
    exact al_des (hf s).2 gs.des gs.ld
  | _ + 2, h1, _ => simp at h1
end K41
set_option maxRecDepth 100000
set_option maxHeartbeats 4000000
namespace K41
open PySem PySem.Spec PyProof.Rows L2 Yard YP TL
theorem seq_cutG {t u : USG} {E : EnG} {ρ : List Sl} {g : Gh} (P : List Sl → Gh → Prop) (h2 : ∀ ρ g, P ρ g → u E ρ g) (h1 : (∀ ρ g, P ρ g → u E ρ g) → uSeqG t u E ρ g) : uSeqG t u E ρ g := h1 h2
section
variable {P : Program} {w : World} {K : PySem.W.Frag} {mg : Str → Option Value} {base : Heap}
def uRdX (C : Addr) : UFX := fun ρ R RX => ∃ x : Str, ρ = [dat (.str x)] ∧ Tk x ∧ x.length ≤ 900000 ∧
  (∀ k, run [] 0 (Txt.split x "\n") = .inl k → ∀ s, RX C [("row", .int (k : Int))] [s]) ∧ ∀ ss, run [] 0 (Txt.split x "\n") = .inr ss → ∀ s, R (.val (tblD ss)) [s]
theorem ok_readX (T : Tx K w mg) : FnOk P w K mg base (L2.CX P w) 5 T.a_read_table T.f_read_table ["text"] (PSpX K 1 (uRdX T.c_NoTable)) := by
  refine (fn_rel (ok_read_table T)).imp fun vs H Q E h => ?_
  obtain ⟨ρ, F, B, R, RX, l1, l2, er, hu, g, gx⟩ := h
  obtain ⟨x, rfl, hx, hl, q1, q2⟩ := hu
  refine ⟨_, F, B, R, RX, l1, l2, er, ⟨x, rfl, hx, hl, q1, fun ss e es g' em hb hn sp s => ?_⟩, g, gx⟩
  have eb : ss.map (fun s => desD s.des) = es.map fun e => desD e.s.des := by rw [← em, List.map_map]; rfl
  refine ⟨_, tblD ss, [.un], rfl, ?_, .un .nil, q2 ss e _⟩
  unfold tblD
  rw [eb]
  exact .tup (.cons .id (.cons (.tup (resB hb)) .nil))
def uHeld : UF := fun ρ R => ∃ (d e : D), ρ = [own d, own e] ∧ WlOk 0 d ∧ WlOk 0 e ∧ ∀ d2 e2, R (.val (.bl true)) [own d2, own e2]
theorem sc__law_held : FnScope ["tables", "bends", "table", "text", "handed", "told", "other", "found", "row", "e", "wanted", "some"] ["tables", "bends"] (defScope s__law_held) := ⟨rfl, rfl, rfl, by decide +kernel, rfl, by decide +kernel, by decide +kernel⟩
theorem ok__law_held (T : Tx K w mg) : FnOk P w K mg base CX0 14 T.a__law_held T.f__law_held ["tables", "bends"] (PSp K 2 uHeld) := by
  refine fn_mk T.d__law_held.fn sc__law_held (by decide) fun cdv A outer s H E hr => ?_
  refine ⟨_, fb_g (fbg_cons (fsg_x (fx (fs_set (ps_set (i := 2) sc__law_held.nd rfl (.inl rfl) pe_S) (fe_call (ok__law_drawn T) (hr.mono (by omega)) (by rfl) T.d__law_drawn.at_ T.d__law_drawn.kp T.d__law_drawn.bd (fr_ref (fv 0) fr_nil)))))
      (fbg_cons (fsg_x (fx (fs_set (ps_set (i := 3) sc__law_held.nd rfl (.inl rfl) pe_S) (fe_call (ok__law_written T) (hr.mono (by omega)) (by rfl) T.d__law_written.at_ T.d__law_written.kp T.d__law_written.bd (fr_val (fv 2) fr_nil)))))
      (fbg_cons (fsg_x (fx (fs_set (ps_set (i := 4) sc__law_held.nd rfl (.inl rfl) pe_S) (fe_tup (fa_cons (fe_ix (fv 2) fe_int) (fa_cons (fe_bt cb_tuple (by rfl) T.z_tuple (by decide +kernel) (fr_ref (fe_lc rfl sc__law_held.nd (fi_tup (fe_ix (fv 2) fe_int)) (blkOk_by (own := [("some", 11)]) (N := ["tables", "bends", "table", "text", "handed", "told", "other", "found", "row", "e", "wanted", "some"]) (sc := defScope s__law_held) (by decide +kernel)) (fun _ _ _ _ _ => (fg_name (pg_name (i := 11) sc__law_held.nd rfl (.inl rfl)) (by intro l e; cases e; decide +kernel))) (fun _ _ _ _ _ => fts_nil) (fun _ _ _ _ _ => (fe_bt cb_dictD (by rfl) T.z_dict (by decide +kernel) (fr_ref (fv 11) fr_nil)))) fr_nil)) fa_nil))))))
      (fbg_cons (fsg_x (fx (fs_if (FW.ft (fw_or (ft_not (ft_tru (fe_call (ok__law_alike T 8) (hr.mono (by omega)) (by rfl) T.d__law_alike.at_ T.d__law_alike.kp T.d__law_alike.bd (fr_val (fe_call (ok_table_text T) (hr.mono (by omega)) (by rfl) T.d_table_text.at_ T.d_table_text.kp T.d_table_text.bd (fr_val (fv 4) fr_nil)) (fr_val (fv 3) fr_nil))))) (fw_or1 (ft_not (ft_tru (fe_call (ok__law_alike T 8) (hr.mono (by omega)) (by rfl) T.d__law_alike.at_ T.d__law_alike.kp T.d__law_alike.bd (fr_val (fv 4) (fr_val (fv 2) fr_nil))))))))
      (fb_one (fs_ret fe_bl))
      fb_nil)))
      (fbg_cons (fsg_set (ps_set (i := 5) sc__law_held.nd rfl (.inl rfl) pe_S) (feg_callG (ok_read_table T) (hr.mono (by omega)) (by rfl) T.d_read_table.at_ T.d_read_table.kp T.d_read_table.bd (fr_val (fv 3) fr_nil)))
      (fbg_cons (fsg_if (ftg_look (ft_not (ft_tru (fe_call (ok__law_alike T 8) (hr.mono (by omega)) (by rfl) T.d__law_alike.at_ T.d__law_alike.kp T.d__law_alike.bd (fr_val (fv 5) (fr_val (fv 2) fr_nil))))))
      (fbg_one (fsg_x (fx (fs_ret fe_bl))))
      fbg_nil)
      (fbg_cons (fsg_putK (rk hr) (fe_tup (fa_cons fe_str fa_nil)) (fe_ix (fe_ix (fv 5) fe_int) fe_int) fe_str)
      (fbg_cons (fsg_x (fx (fs_if (ft_not (ft_tru (fe_call (ok__law_alike T 8) (hr.mono (by omega)) (by rfl) T.d__law_alike.at_ T.d__law_alike.kp T.d__law_alike.bd (fr_val (fe_never (fex_call (ok_readX T) (hr.mono (by omega)) (by rfl) T.d_read_table.at_ T.d_read_table.kp T.d_read_table.bd (fr_val (fv 3) fr_nil))) (fr_val (fv 2) fr_nil)))))
      (fb_one (fs_ret fe_bl))
      fb_nil)))
      (fbg_cons (fsg_x (fx (fs_set (ps_set (i := 6) sc__law_held.nd rfl (.inl rfl) pe_S) (fe_call (ok__law_spoilt T) (hr.mono (by omega)) (by rfl) T.d__law_spoilt.at_ T.d__law_spoilt.kp T.d__law_spoilt.bd (fr_ref (fv 1) (fr_val (fe_call (ok__law_spoilt T) (hr.mono (by omega)) (by rfl) T.d__law_spoilt.at_ T.d__law_spoilt.kp T.d__law_spoilt.bd (fr_ref (fv 1) (fr_val (fv 3) fr_nil))) fr_nil))))))
      (fbg_cons (fsg_x (fx (fs_set (ps_set (i := 7) sc__law_held.nd rfl (.inl rfl) pe_S) fe_non)))
      (fbg_cons (fsg_x (fx (fs_set (ps_set (i := 8) sc__law_held.nd rfl (.inl rfl) pe_S) fe_non)))
      (fbg_cons (fsg_x (fsx_try (i := 9) (c := .ref T.c_NoTable) (ts := fun a dd C => uSet 8 (uIf (uTru (uIsX K a dd C (.ref T.c_YardError) (uVar 9))) (uXf a dd C "row" (uVar 9)) (uNeg (uC (.int 1))))) (fun C => C = T.c_NoTable) rfl rfl sc__law_held.nd rfl rfl ⟨by rfl, by decide, .inl T.g_NoTable⟩
        (fun pn xe hp => fbx_one (fsx_set (i := 7) (ps_set (i := 7) sc__law_held.nd rfl (.inl rfl) pe_S) (fex_call (ok_readX T) (hr.mono (by omega)) (by rfl) T.d_read_table.at_ T.d_read_table.kp T.d_read_table.bd (fr_val (fv 6) fr_nil))))
        (fun a oe C dd pn hC hz hf => by
          subst hC
          exact fb_one (fs_set (ps_set (i := 8) sc__law_held.nd rfl (.inl rfl) pe_S) (fe_if (ft_tru (fe_isX (c := .ref T.c_YardError) T.x_NoTable.is hz hf (by rfl) T.z_isinstance (fv 9) (pe_glob (by rfl) T.g_YardError rfl) (fun u r => r))) (fe_xf T.x_NoTable.xf T.n_NoTable_row hz hf (fv 9)) (fe_neg fe_int))))))
      (fbg_cons (fsg_x (fx (fs_set (ps_set (i := 10) sc__law_held.nd rfl (.inl rfl) pe_S) (fe_call (ok__law_wrong_row T) (hr.mono (by omega)) (by rfl) T.d__law_wrong_row.at_ T.d__law_wrong_row.kp T.d__law_wrong_row.bd (fr_val (fv 6) fr_nil)))))
      (fbg_cons (fsg_x (fx (fs_if (ft_cmp os_isnot (fv 10) fe_non)
      (fb_one (fs_ret (fe_call (ok__law_alike T 8) (hr.mono (by omega)) (by rfl) T.d__law_alike.at_ T.d__law_alike.kp T.d__law_alike.bd (fr_val (fv 8) (fr_val (fv 10) fr_nil)))))
      fb_nil)))
      (fbg_one (fsg_x (fx (fs_ret (fe_and (fe_cmp os_is (fv 8) fe_non) (fe_one (fe_call (ok__law_alike T 8) (hr.mono (by omega)) (by rfl) T.d__law_alike.at_ T.d__law_alike.kp T.d__law_alike.bd (fr_val (fe_call (ok_table_text T) (hr.mono (by omega)) (by rfl) T.d_table_text.at_ T.d_table_text.kp T.d_table_text.bd (fr_val (fv 7) fr_nil)) (fr_val (fv 6) fr_nil))))))))))))))))))))))), fun ρ R hl h => ?_⟩
  obtain ⟨d, e, rfl, hd, he, q⟩ := h
  have sz := sz24
  have s1 : 1 ≤ sizeLine := by omega
  have s2 : 2 ≤ sizeLine := by omega
  show uSeqG _ _ _ _ _
  refine seq_cutG (fun ρ g => ∃ d2 ss, Good ss ∧ ρ = [.sl true true d2, .sl true true e, dat (tblD ss), .un, .un, .un, .un, .un, .un, .un, .un, .un] ∧ g = g0) ?rest0 fun rest => ?here0
  case here0 =>
    exact ⟨nd1 _, d, rfl, hd, fun ss d2 hg => rest _ _ ⟨d2, ss, hg, rfl, rfl⟩⟩
  rintro ρ g ⟨d2, ss, hg, rfl, rfl⟩
  obtain ⟨fit, tlen⟩ := hg.fit
  have low := text_low (ss := ss.map sdS) fun s hs => by
    obtain ⟨z, hz, rfl⟩ := List.mem_map.mp hs
    exact (sdS_rd (hg.st z hz).ok (hg.st z hz).des.nd).ok
  have rdS : ∀ s ∈ ss.map sdS, ST.Rd s := fun s hs => by
    obtain ⟨z, hz, rfl⟩ := List.mem_map.mp hs
    exact sdS_rd (hg.st z hz).ok (hg.st z hz).des.nd
  have hrun := read_text (ts := ss.map sdS) (fun z => hg.ne (List.map_eq_nil_iff.mp z)) rdS
  obtain ⟨t, ht⟩ : ∃ t, t = textT (ss.map sdS) := ⟨_, rfl⟩
  have alD : Al 8 (tblD (ss.map sdS)) (tblD ss) := al_tbl hg sdS fun s => ⟨rfl, sd_perm _⟩
  have alR : Al 8 (tblD ss) (tblD ss) := by
    have := al_tbl hg id fun s => ⟨rfl, List.Perm.refl _⟩
    rw [List.map_id] at this
    exact this
  rw [← ht] at tlen low hrun
  have tk : Tk t := ⟨low.ok, by omega⟩
  refine seq_setG [.sl true true d2, .sl true true e, dat (tblD ss), dat (.str t), .un, .un, .un, .un, .un, .un, .un, .un] (fun Z z => ⟨List.nodup_nil, ss, rfl, fit, fun s => ?_⟩) ?_
  · dsimp only
    rw [wb_no (rs := [.val (tblD ss)]) [s] rfl, ← ht]
    exact z
  have lsz := hg.len
  refine seq_setG [.sl true true d2, .sl true true e, dat (tblD ss), dat (.str t), dat (tblD ss), .un, .un, .un, .un, .un, .un, .un] (fun Z z => ⟨.tup (ss.map fun s => itsD s.its), rfl, .tup (ss.map fun s => desD s.des), rfl, ?_⟩) ?_
  · refine ⟨fun i acc ρ => acc = (ss.take i).map (fun s => desD s.des) ∧ ρ = [.sl true true d2, .sl true true e, dat (tblD ss), dat (.str t), .un, .un, .un, .un, .un, .un, .un, .un], ⟨rfl, rfl⟩, ?_, ?_, ?_⟩
    · rintro i y acc ρ hi ⟨rfl, rfl⟩
      rw [List.getElem?_map] at hi
      obtain ⟨x, hx, rfl⟩ := Option.map_eq_some_iff.mp hi
      refine ⟨by rw [List.length_map, List.length_take]; omega, ?_, rfl⟩
      rw [List.take_succ, hx, List.map_append]; rfl
    · rintro i acc ρ ⟨_, rfl⟩
      exact ⟨_, (rfl : _ = YP.wipeS [.sl true true d2, .sl true true e, dat (tblD ss), dat (.str t), .un, .un, .un, .un, .un, .un, .un, .un] [11])⟩
    rintro acc ρ ⟨rfl, rfl⟩
    rw [List.length_map, List.take_length]
    exact ⟨s2, z⟩
  refine seq_cutG (fun ρ g => ρ = [.sl true true d2, .sl true true e, dat (tblD ss), dat (.str t), dat (tblD ss), .un, .un, .un, .un, .un, .un, .un] ∧ g = g0) ?rest1 fun rest => ?here1
  case here1 =>
    refine ⟨List.nodup_nil, ss, rfl, fit, fun s => ?_⟩
    dsimp only
    rw [wb_no (rs := [.val (tblD ss)]) [s] rfl, ← ht]
    refine ⟨List.nodup_nil, _, _, rfl, .str tk, fun t0 t1 => ?_⟩
    dsimp only
    rw [wb_no (rs := [.val (.str t), .val (.str t)]) [t0, t1] rfl]
    refine ⟨List.nodup_nil, _, _, rfl, alR, fun t0 t1 => ?_⟩
    dsimp only
    rw [wb_no (rs := [.val (tblD ss), .val (tblD ss)]) [t0, t1] rfl]
    exact rest _ _ ⟨rfl, rfl⟩
  rintro ρ g ⟨rfl, rfl⟩
  -- told, its dicts of deeds kept aside
  refine seq_cutG (fun ρ g => ∃ es : List E3, es.map E3.s = ss.map sdS ∧ (∀ x ∈ es, g x.b = some (desD x.s.des)) ∧ ρ = [.sl true true d2, .sl true true e, dat (tblD ss), dat (.str t), dat (tblD ss), dat (.tup [.tup ((ss.map sdS).map fun s => itsD s.its), .tup (es.map fun x => D.ref x.b)]), .un, .un, .un, .un, .un, .un]) ?rest2 fun rest => ?here2
  case here2 =>
    refine ⟨List.nodup_nil, t, rfl, tk, by omega, fun k hk => ?_, fun ss' hs es g2 em hb hn sp s => ⟨⟨_, rfl⟩, ?_⟩⟩
    · rw [hrun] at hk; cases hk
    rw [hrun] at hs
    have hs := Sum.inr.inj hs
    subst hs
    rw [wb_no (rs := [.val (.str t)]) [s] rfl]
    refine rest _ _ ⟨es, em, fun x hx => ?_, rfl⟩
    unfold gadd
    rw [hb x hx]
  rintro ρ g ⟨es, em, hb, rfl⟩
  have eD : es.map (fun x => desD x.s.des) = (ss.map sdS).map fun s => desD s.des := by rw [← em, List.map_map]; rfl
  refine seq_cutG (fun ρ g => (∀ x ∈ es, g x.b = some (desD x.s.des)) ∧ ρ = [.sl true true d2, .sl true true e, dat (tblD ss), dat (.str t), dat (tblD ss), dat (.tup [.tup ((ss.map sdS).map fun s => itsD s.its), .tup (es.map fun x => D.ref x.b)]), .un, .un, .un, .un, .un, .un]) ?rest3 fun rest => ?here3
  case here3 =>
    have rs : Res g (.tup [.tup ((ss.map sdS).map fun s => itsD s.its), .tup (es.map fun x => D.ref x.b)]) (tblD (ss.map sdS)) := by
      have r1 := resB (es := es) hb
      rw [eD] at r1
      exact .tup (.cons .id (.cons (.tup r1) .nil))
    refine ⟨[.sl false true d2, .sl false true e, dat (tblD ss), dat (.str t), dat (tblD ss), dat (tblD (ss.map sdS)), .un, .un, .un, .un, .un, .un], .sl .id (.sl .id (.sl .id (.sl .id (.sl .id (.sl rs (.un (.un (.un (.un (.un (.un .nil))))))))))), ?_⟩
    refine ⟨List.nodup_nil, _, _, rfl, alD, fun t0 t1 => ?_⟩
    dsimp only
    rw [wb_no (rs := [.val (tblD (ss.map sdS)), .val (tblD ss)]) [t0, t1] rfl]
    exact rest _ _ ⟨hb, rfl⟩
  rintro ρ g ⟨hb, rfl⟩
  refine seq_cutG (fun ρ g => ρ = [.sl true true d2, .sl true true e, dat (tblD ss), dat (.str t), dat (tblD ss), dat (.tup [.tup ((ss.map sdS).map fun s => itsD s.its), .tup (es.map fun x => D.ref x.b)]), .un, .un, .un, .un, .un, .un]) ?rest4 fun rest => ?here4
  case here4 =>
    cases es with
    | nil =>
      have := congrArg List.length em
      rw [List.length_map] at this
      exact absurd (List.length_eq_zero_iff.mp this.symm) fun z => hg.ne (List.map_eq_nil_iff.mp z)
    | cons x0 es =>
      have hx0 := hb x0 List.mem_cons_self
      have ld : x0.s.des.length ≤ 3 := by
        have hm : x0.s ∈ ss.map sdS := by rw [← em]; exact List.mem_map.mpr ⟨x0, List.mem_cons_self, rfl⟩
        obtain ⟨z, hz, ez⟩ := List.mem_map.mp hm
        rw [← ez]
        show (sd z.des).length ≤ 3
        rw [(sd_perm _).length_eq]
        exact (hg.st z hz).ld
      refine ⟨s1, .tup ((x0 :: es).map fun x => D.ref x.b), rfl, .ref x0.b, atI_nat (j := 0) rfl, x0.b, desL x0.s.des, .inr "zz", rfl, hx0, rfl, by unfold desL; rw [List.length_map]; omega, ?_⟩
      exact rest _ _ rfl
  rintro ρ g rfl
  generalize (D.tup [.tup ((ss.map sdS).map fun s => itsD s.its), .tup (es.map fun x => D.ref x.b)]) = told
  refine seq_cutG (fun ρ g => ρ = [.sl true true d2, .sl true true e, dat (tblD ss), dat (.str t), dat (tblD ss), dat told, .un, .un, .un, .un, .un, .un]) ?rest5 fun rest => ?here5
  case here5 =>
    refine ⟨List.nodup_nil, t, rfl, tk, by omega, fun k hk => ?_, fun ss' hs s => ?_⟩
    · rw [hrun] at hk; cases hk
    rw [hrun] at hs
    have hs := Sum.inr.inj hs
    subst hs
    dsimp only
    rw [wb_no (rs := [.val (.str t)]) [s] rfl]
    refine ⟨List.nodup_nil, _, _, rfl, alD, fun t0 t1 => ?_⟩
    dsimp only
    rw [wb_no (rs := [.val (tblD (ss.map sdS)), .val (tblD ss)]) [t0, t1] rfl]
    exact rest _ _ rfl
  rintro ρ g rfl
  refine seq_cutG (fun ρ g => ∃ (e3 : D) (y : Str), Low y ∧ y.length ≤ 900000 ∧ ρ = [.sl true true d2, .sl true true e3, dat (tblD ss), dat (.str t), dat (tblD ss), dat told, dat (.str y), .un, .un, .un, .un, .un]) ?rest6 fun rest => ?here6
  case here6 =>
    refine ⟨nd1 _, 0, e, t, rfl, he, by decide, low, by omega, fun y1 e2 t1 l1 g1 j1 => ?_⟩
    refine ⟨nd1 _, 7, e2, y1, rfl, j1, by decide, l1, by omega, fun y2 e3 t2 l2 g2 j2 => ?_⟩
    exact rest _ _ ⟨e3, y2, l2, by omega, rfl⟩
  rintro ρ g ⟨e3, y, ly, hy, rfl⟩
  have ty : Tk y := ⟨ly.ok, by omega⟩
  refine seq_setG [.sl true true d2, .sl true true e3, dat (tblD ss), dat (.str t), dat (tblD ss), dat told, dat (.str y), dat .non, .un, .un, .un, .un] (fun Z z => z) ?_
  refine seq_setG [.sl true true d2, .sl true true e3, dat (tblD ss), dat (.str t), dat (tblD ss), dat told, dat (.str y), dat .non, dat .non, .un, .un, .un] (fun Z z => z) ?_
  refine seq_cutG (fun ρ g => ∃ s9 : Sl, (∃ ss', run [] 0 (Txt.split y "\n") = .inr ss' ∧ ρ = [.sl true true d2, .sl true true e3, dat (tblD ss), dat (.str t), dat (tblD ss), dat told, dat (.str y), dat (tblD ss'), dat .non, s9, .un, .un]) ∨
    ∃ k : Nat, run [] 0 (Txt.split y "\n") = .inl k ∧ ρ = [.sl true true d2, .sl true true e3, dat (tblD ss), dat (.str t), dat (tblD ss), dat told, dat (.str y), dat .non, dat (.int (k : Int)), s9, .un, .un]) ?rest7 fun rest => ?here7
  case here7 =>
    refine ⟨List.nodup_nil, y, rfl, ty, hy, fun k hk s => ?_, fun ss' hs s => ?_⟩
    · refine ⟨true, T.m_NoTable, fun _ => ⟨rfl, fun a dd => ?_⟩, fun z => nomatch z⟩
      refine ⟨[("row", .int (k : Int))], true, rfl, T.i_NoTable_YardError, ?_⟩
      refine ⟨[("row", .int (k : Int))], .int (k : Int), rfl, ?_, ?_⟩
      · simp [List.lookup]
      · exact rest _ _ ⟨.un, .inr ⟨k, hk, rfl⟩⟩
    · exact rest _ _ ⟨.un, .inl ⟨ss', hs, rfl⟩⟩
  rintro ρ g ⟨s9, hor⟩
  rcases hor with ⟨ss', hs, rfl⟩ | ⟨k, hk, rfl⟩
  · have ew : wrongD y = .non := by unfold wrongD; rw [hs]
    obtain ⟨fit', et'⟩ := read_fit ly hy hs
    refine seq_setG [.sl true true d2, .sl true true e3, dat (tblD ss), dat (.str t), dat (tblD ss), dat told, dat (.str y), dat (tblD ss'), dat .non, s9, dat .non, .un] (fun Z z => ⟨List.nodup_nil, y, rfl, ty, hy, fun s => ?_⟩) ?_
    · dsimp only
      rw [wb_no (rs := [.val (.str y)]) [s] rfl, ew]
      exact z
    refine ⟨List.nodup_nil, ss', rfl, fit', fun s => ?_⟩
    dsimp only
    rw [wb_no (rs := [.val (tblD ss')]) [s] rfl, et']
    refine ⟨List.nodup_nil, _, _, rfl, .str ty, fun t0 t1 => ?_⟩
    dsimp only
    rw [wb_no (rs := [.val (.str y), .val (.str y)]) [t0, t1] rfl]
    exact q _ _
  · have ew : wrongD y = .int (k : Int) := by unfold wrongD; rw [hk]
    refine seq_setG [.sl true true d2, .sl true true e3, dat (tblD ss), dat (.str t), dat (tblD ss), dat told, dat (.str y), dat .non, dat (.int (k : Int)), s9, dat (.int (k : Int)), .un] (fun Z z => ⟨List.nodup_nil, y, rfl, ty, hy, fun s => ?_⟩) ?_
    · dsimp only
      rw [wb_no (rs := [.val (.str y)]) [s] rfl, ew]
      exact z
    refine ⟨List.nodup_nil, _, _, rfl, .int, fun t0 t1 => ?_⟩
    dsimp only
    rw [wb_no (rs := [.val (.int (k : Int)), .val (.int (k : Int))]) [t0, t1] rfl]
    exact q _ _
end
end K41
set_option maxRecDepth 100000
set_option maxHeartbeats 4000000
namespace K41
open PySem PySem.Spec PyProof.Rows L2 Yard YP
section
variable {P : Program} {w : World} {K : PySem.W.Frag} {mg : Str → Option Value} {base : Heap}
theorem sc_law : FnScope ["script", "k", "tables", "bends"] ["script"] (defScope s_law) := ⟨rfl, rfl, rfl, by decide +kernel, rfl, by decide +kernel, by decide +kernel⟩
theorem ok_law {F : FuncData} {f : Addr} (L : L2.Fun K "law" "law" s_law f F) (T : Tx K w mg) : FnOk P w K mg base CX0 51 f F ["script"] (spLaw K) := law_O (by
  refine fn_mk L sc_law (by decide) fun cdv A outer s H E hr => ?_
  refine ⟨_, (fb_cons (fs_for PassesOwn.never rfl (fi_range1 (by rfl) T.z_range (fa_cons (fe_b (cb_max rfl) (by rfl) T.z_max (by decide +kernel) (fr_ref fe_int (fr_ref (fe_b (cb_min rfl) (by rfl) T.z_min (by decide +kernel) (fr_ref (fe_op os_div (fe_op os_add (fe_b cb_len (by rfl) T.z_len (by decide +kernel) (fr_ref (fv 0) fr_nil)) fe_int) fe_int) (fr_ref fe_int fr_nil))) fr_nil))) fa_nil)) (fg_name (pg_name (i := 1) sc_law.nd rfl (.inl rfl)))
      (fb_cons (fs_set (ps_set (i := 2) sc_law.nd rfl (.inl rfl) pe_S) (fe_call (ok__law_well T) (hr.mono (by omega)) (by rfl) T.d__law_well.at_ T.d__law_well.kp T.d__law_well.bd (fr_val (fe_call (ok__law_cell T) (hr.mono (by omega)) (by rfl) T.d__law_cell.at_ T.d__law_cell.kp T.d__law_cell.bd (fr_val (fv 0) (fr_val (fe_op os_mul fe_int (fv 1)) fr_nil))) (fr_val (fe_op os_mul fe_int (fv 1)) fr_nil))))
      (fb_cons (fs_set (ps_set (i := 3) sc_law.nd rfl (.inl rfl) pe_S) (fe_call (ok__law_well T) (hr.mono (by omega)) (by rfl) T.d__law_well.at_ T.d__law_well.kp T.d__law_well.bd (fr_val (fe_call (ok__law_cell T) (hr.mono (by omega)) (by rfl) T.d__law_cell.at_ T.d__law_cell.kp T.d__law_cell.bd (fr_val (fv 0) (fr_val (fe_op os_add (fe_op os_mul fe_int (fv 1)) fe_int) fr_nil))) (fr_val (fe_op os_add (fe_op os_mul fe_int (fv 1)) fe_int) fr_nil))))
      (fb_one (fs_if (ft_not (ft_tru (fe_call (ok__law_held T) (hr.mono (by omega)) (by rfl) T.d__law_held.at_ T.d__law_held.kp T.d__law_held.bd (fr_ref (fv 2) (fr_ref (fv 3) fr_nil)))))
      (fb_one (fs_ret fe_bl))
      fb_nil)))))
      (fb_one (fs_ret fe_bl))), fun ρ R hl h => ?_⟩
  obtain ⟨ns, rfl, hn, q⟩ := h
  have hm12 : (if (if (12 : Int) < (((ns.length : Nat) : Int) + 1) / 2 then 12 else (((ns.length : Nat) : Int) + 1) / 2) > 1 then (if (12 : Int) < (((ns.length : Nat) : Int) + 1) / 2 then 12 else (((ns.length : Nat) : Int) + 1) / 2) else 1) ≤ 12 ∧ 0 ≤ (if (if (12 : Int) < (((ns.length : Nat) : Int) + 1) / 2 then 12 else (((ns.length : Nat) : Int) + 1) / 2) > 1 then (if (12 : Int) < (((ns.length : Nat) : Int) + 1) / 2 then 12 else (((ns.length : Nat) : Int) + 1) / 2) else 1) := by
    split <;> split <;> omega
  refine ⟨⟨by decide, by decide⟩, ?_⟩
  refine ⟨by omega, by omega, ?_⟩
  generalize (if (if (12 : Int) < (((ns.length : Nat) : Int) + 1) / 2 then 12 else (((ns.length : Nat) : Int) + 1) / 2) > 1 then (if (12 : Int) < (((ns.length : Nat) : Int) + 1) / 2 then 12 else (((ns.length : Nat) : Int) + 1) / 2) else 1) = m at hm12 ⊢
  refine ⟨fun _ ρ => ∃ s1 s2 s3 : Sl, ρ = [.sl false true (.scr ns), s1, s2, s3], ⟨_, _, _, rfl⟩, ?_, ?_⟩
  case refine_2 =>
    rintro ρ ⟨s1, s2, s3, rfl⟩
    exact q _
  rintro i y ρ hi ⟨s1, s2, s3, rfl⟩
  obtain ⟨li, rfl⟩ := intsD_get hi
  have li : i < 12 := by omega
  have e2 : (2 : Int) * (0 + (i : Int)) = ((2 * i : Nat) : Int) := by omega
  have e3 : (2 : Int) * (0 + (i : Int)) + 1 = ((2 * i + 1 : Nat) : Int) := by omega
  refine seq_cut (fun ρ => ∃ d, WlOk 0 d ∧ ρ = [.sl false true (.scr ns), dat (.int (0 + (i : Int))), own d, s3]) ?rest0 fun rest => ?here0
  case here0 =>
    refine ⟨.inl (by decide), List.nodup_nil, ns, 2 * i, (by rw [← e2]; rfl), fun n t0 t1 => ?_⟩
    dsimp only
    rw [wb_no (rs := [.val (.scr ns), .val (.int (2 * (0 + (i : Int))))]) [t0, t1] rfl]
    refine ⟨.inl (by decide), List.nodup_nil, n, 2 * i, (by rw [← e2]; rfl), by omega, fun d t2 t3 hd => ?_⟩
    dsimp only
    rw [wb_no (rs := [.val (.int n), .val (.int (2 * (0 + (i : Int))))]) [t2, t3] rfl]
    exact rest _ ⟨d, hd, rfl⟩
  rintro ρ ⟨d, hd, rfl⟩
  refine seq_cut (fun ρ => ∃ e, WlOk 0 e ∧ ρ = [.sl false true (.scr ns), dat (.int (0 + (i : Int))), own d, own e]) ?rest1 fun rest => ?here1
  case here1 =>
    refine ⟨.inl (by decide), List.nodup_nil, ns, 2 * i + 1, (by rw [← e3]; rfl), fun n t0 t1 => ?_⟩
    dsimp only
    rw [wb_no (rs := [.val (.scr ns), .val (.int (2 * (0 + (i : Int)) + 1))]) [t0, t1] rfl]
    refine ⟨.inl (by decide), List.nodup_nil, n, 2 * i + 1, (by rw [← e3]; rfl), by omega, fun e t2 t3 he => ?_⟩
    dsimp only
    rw [wb_no (rs := [.val (.int n), .val (.int (2 * (0 + (i : Int)) + 1))]) [t2, t3] rfl]
    exact rest _ ⟨e, he, rfl⟩
  rintro ρ ⟨e, he, rfl⟩
  refine ⟨by decide, d, e, rfl, hd, he, fun d2 e2 => ?_⟩
  exact ⟨_, _, _, rfl⟩)
end
end K41
set_option maxRecDepth 100000
set_option maxHeartbeats 1000000
namespace K41
open PySem PySem.Spec PyProof.Rows L2 Yard YP
/-- a def of the text, as the top has left it -/
theorem df_mk {K : PySem.W.Frag} {h : Heap} {mg : Str → Option Value} {x : Str} {st : Stmt} {ps : List Str} {f : Addr} {od an : Option Addr} {sl : Array (Option Value)} {oc kV dc pm cd ct : Value} (X : K.In h) (G : h.Ns mainGlobals mg)
    (a : PySem.W.nsIn K mainGlobals x = some (some (.ref f))) (l : K.lookup f = some ⟨oc, od, .func (PySem.W.fnOf x x (defArgs st) (defBody st) (defScope st) .none kV dc pm an cd ct), sl⟩) (c : PySem.W.codeIn K cd x = true) (k : PySem.W.keepIn K (.ref f) = true)
    (b : ∀ (kV doc pm : Value) (an : Option Addr) (cdv ct : Value) (us : List Value), us.length = ps.length → bindArgs (PySem.W.fnOf x x (defArgs st) (defBody st) (defScope st) .none kV doc pm an cdv ct) ⟨us, []⟩ = pure (ps.zip us)) :
    Df K mg x st ps f (PySem.W.fnOf x x (defArgs st) (defBody st) (defScope st) .none kV dc pm an cd ct) :=
  have F := fun_mk (st := st) l c k
  ⟨F, F.binds b, PySem.W.mg_of X G a⟩
theorem exm_sub {K : PySem.W.Frag} {cls : Value} {S : Addr} {b : Bool} (h1 : PySem.W.subIn K (.ref S) (.type "BaseException") = some true) (h2 : PySem.W.isClsIn K S = true) (h3 : PySem.W.typeIn K (.ref S) = some (.type "type")) (h4 : PySem.W.subIn K cls (.ref S) = some b) :
    PySem.W.exmOne K cls (.ref S) = some b := by
  have e1 : (PySem.W.subIn K (.ref S) (.type "BaseException") == some true) = true := by rw [h1] <;> rfl
  have e2 : ((PySem.W.clsIn K S).isSome && PySem.W.typeIn K (.ref S) == some (.type "type")) = true := by
    have h2' : (PySem.W.clsIn K S).isSome = true := h2
    rw [h2', h3] <;> rfl
  show (if (PySem.W.subIn K (.ref S) (.type "BaseException") == some true) = true then (if ((PySem.W.clsIn K S).isSome && PySem.W.typeIn K (.ref S) == some (.type "type")) = true then PySem.W.subIn K cls (.ref S) else none) else none) = some b
  rw [if_pos e1, if_pos e2]
  exact h4
theorem kit_ve {K : PySem.W.Frag} {C : Addr} (h : PySem.W.subIn K (.ref C) (.type "ValueError") = some true) : PySem.W.kitOne K (.ref C) (.type "ValueError") = some true := by
  show (if (Value.ref C == Value.type "ValueError") = true then some true else (if PySem.W.kitMeta "ValueError" = true then PySem.W.subIn K (.ref C) (.type "ValueError") else none)) = some true
  rw [if_neg (by intro z; cases z), if_pos (by decide +kernel), h]
theorem all_mk {l : PySem.W.OpenLaw} {w : World} {K : PySem.W.Frag} {h : Heap} {mg : Str → Option Value} {fa : Addr} (X : K.In h) (G : h.Ns mainGlobals mg) (hfa : mg "law" = some (.ref fa))
    {f0 : Addr} {od0 an0 : Option Addr} {sl0 : Array (Option Value)} {oc0 kV0 dc0 pm0 cd0 ct0 : Value}
    {f1 : Addr} {od1 an1 : Option Addr} {sl1 : Array (Option Value)} {oc1 kV1 dc1 pm1 cd1 ct1 : Value}
    {f2 : Addr} {od2 an2 : Option Addr} {sl2 : Array (Option Value)} {oc2 kV2 dc2 pm2 cd2 ct2 : Value}
    {f3 : Addr} {od3 an3 : Option Addr} {sl3 : Array (Option Value)} {oc3 kV3 dc3 pm3 cd3 ct3 : Value}
    {f4 : Addr} {od4 an4 : Option Addr} {sl4 : Array (Option Value)} {oc4 kV4 dc4 pm4 cd4 ct4 : Value}
    {f5 : Addr} {od5 an5 : Option Addr} {sl5 : Array (Option Value)} {oc5 kV5 dc5 pm5 cd5 ct5 : Value}
    {f6 : Addr} {od6 an6 : Option Addr} {sl6 : Array (Option Value)} {oc6 kV6 dc6 pm6 cd6 ct6 : Value}
    {f7 : Addr} {od7 an7 : Option Addr} {sl7 : Array (Option Value)} {oc7 kV7 dc7 pm7 cd7 ct7 : Value}
    {f8 : Addr} {od8 an8 : Option Addr} {sl8 : Array (Option Value)} {oc8 kV8 dc8 pm8 cd8 ct8 : Value}
    {f9 : Addr} {od9 an9 : Option Addr} {sl9 : Array (Option Value)} {oc9 kV9 dc9 pm9 cd9 ct9 : Value}
    {f10 : Addr} {od10 an10 : Option Addr} {sl10 : Array (Option Value)} {oc10 kV10 dc10 pm10 cd10 ct10 : Value}
    {f11 : Addr} {od11 an11 : Option Addr} {sl11 : Array (Option Value)} {oc11 kV11 dc11 pm11 cd11 ct11 : Value}
    {f12 : Addr} {od12 an12 : Option Addr} {sl12 : Array (Option Value)} {oc12 kV12 dc12 pm12 cd12 ct12 : Value}
    {f13 : Addr} {od13 an13 : Option Addr} {sl13 : Array (Option Value)} {oc13 kV13 dc13 pm13 cd13 ct13 : Value}
    {f14 : Addr} {od14 an14 : Option Addr} {sl14 : Array (Option Value)} {oc14 kV14 dc14 pm14 cd14 ct14 : Value}
    {f15 : Addr} {od15 an15 : Option Addr} {sl15 : Array (Option Value)} {oc15 kV15 dc15 pm15 cd15 ct15 : Value}
    {f16 : Addr} {od16 an16 : Option Addr} {sl16 : Array (Option Value)} {oc16 kV16 dc16 pm16 cd16 ct16 : Value}
    {f17 : Addr} {od17 an17 : Option Addr} {sl17 : Array (Option Value)} {oc17 kV17 dc17 pm17 cd17 ct17 : Value}
    {f18 : Addr} {od18 an18 : Option Addr} {sl18 : Array (Option Value)} {oc18 kV18 dc18 pm18 cd18 ct18 : Value}
    {f19 : Addr} {od19 an19 : Option Addr} {sl19 : Array (Option Value)} {oc19 kV19 dc19 pm19 cd19 ct19 : Value}
    {f20 : Addr} {od20 an20 : Option Addr} {sl20 : Array (Option Value)} {oc20 kV20 dc20 pm20 cd20 ct20 : Value}
    {f21 : Addr} {od21 an21 : Option Addr} {sl21 : Array (Option Value)} {oc21 kV21 dc21 pm21 cd21 ct21 : Value}
    {f22 : Addr} {od22 an22 : Option Addr} {sl22 : Array (Option Value)} {oc22 kV22 dc22 pm22 cd22 ct22 : Value}
    {c_YardError : Addr}
    {c_NoTable : Addr}
    {nm_NoTable qn_NoTable : Str} {N_NoTable : Addr} {bs_NoTable : List Value} {sn_NoTable : List Str} {su_NoTable : List Value} {ab_NoTable : Bool} {co_NoTable : Option Bool} {dd_NoTable : Option Addr} {m0_NoTable m1_NoTable m2_NoTable m3_NoTable m5_NoTable : Option Value}
    {fm0 : Addr} {odm0 anm0 : Option Addr} {slm0 : Array (Option Value)} {ocm0 kVm0 dcm0 pmm0 cdm0 ctm0 : Value}
    {t_LETTERS : Tok}
    {t_LONGEST : Tok}
    {a_KEPT_WORDS : Addr} {n_KEPT_WORDS : Nat} {t_KEPT_WORDS_0 t_KEPT_WORDS_1 t_KEPT_WORDS_2 t_KEPT_WORDS_3 t_KEPT_WORDS_4 : Tok} {sl_KEPT_WORDS : Array (Option Value)} {od_KEPT_WORDS : Option Addr}
    {t_END : Tok}
    {t_FIGURES : Tok}
    {t_MOST_FIGURES : Tok}
    (a0 : PySem.W.nsIn K mainGlobals "is_name" = some (some (.ref f0))) (l0 : K.lookup f0 = some ⟨oc0, od0, .func (PySem.W.fnOf "is_name" "is_name" (defArgs s_is_name) (defBody s_is_name) (defScope s_is_name) .none kV0 dc0 pm0 an0 cd0 ct0), sl0⟩) (c0 : PySem.W.codeIn K cd0 "is_name" = true) (k0 : PySem.W.keepIn K (.ref f0) = true)
    (a1 : PySem.W.nsIn K mainGlobals "table_text" = some (some (.ref f1))) (l1 : K.lookup f1 = some ⟨oc1, od1, .func (PySem.W.fnOf "table_text" "table_text" (defArgs s_table_text) (defBody s_table_text) (defScope s_table_text) .none kV1 dc1 pm1 an1 cd1 ct1), sl1⟩) (c1 : PySem.W.codeIn K cd1 "table_text" = true) (k1 : PySem.W.keepIn K (.ref f1) = true)
    (a2 : PySem.W.nsIn K mainGlobals "read_table" = some (some (.ref f2))) (l2 : K.lookup f2 = some ⟨oc2, od2, .func (PySem.W.fnOf "read_table" "read_table" (defArgs s_read_table) (defBody s_read_table) (defScope s_read_table) .none kV2 dc2 pm2 an2 cd2 ct2), sl2⟩) (c2 : PySem.W.codeIn K cd2 "read_table" = true) (k2 : PySem.W.keepIn K (.ref f2) = true)
    (a3 : PySem.W.nsIn K mainGlobals "is_behind" = some (some (.ref f3))) (l3 : K.lookup f3 = some ⟨oc3, od3, .func (PySem.W.fnOf "is_behind" "is_behind" (defArgs s_is_behind) (defBody s_is_behind) (defScope s_is_behind) .none kV3 dc3 pm3 an3 cd3 ct3), sl3⟩) (c3 : PySem.W.codeIn K cd3 "is_behind" = true) (k3 : PySem.W.keepIn K (.ref f3) = true)
    (a4 : PySem.W.nsIn K mainGlobals "read_item" = some (some (.ref f4))) (l4 : K.lookup f4 = some ⟨oc4, od4, .func (PySem.W.fnOf "read_item" "read_item" (defArgs s_read_item) (defBody s_read_item) (defScope s_read_item) .none kV4 dc4 pm4 an4 cd4 ct4), sl4⟩) (c4 : PySem.W.codeIn K cd4 "read_item" = true) (k4 : PySem.W.keepIn K (.ref f4) = true)
    (a5 : PySem.W.nsIn K mainGlobals "read_deed" = some (some (.ref f5))) (l5 : K.lookup f5 = some ⟨oc5, od5, .func (PySem.W.fnOf "read_deed" "read_deed" (defArgs s_read_deed) (defBody s_read_deed) (defScope s_read_deed) .none kV5 dc5 pm5 an5 cd5 ct5), sl5⟩) (c5 : PySem.W.codeIn K cd5 "read_deed" = true) (k5 : PySem.W.keepIn K (.ref f5) = true)
    (a6 : PySem.W.nsIn K mainGlobals "is_symbol" = some (some (.ref f6))) (l6 : K.lookup f6 = some ⟨oc6, od6, .func (PySem.W.fnOf "is_symbol" "is_symbol" (defArgs s_is_symbol) (defBody s_is_symbol) (defScope s_is_symbol) .none kV6 dc6 pm6 an6 cd6 ct6), sl6⟩) (c6 : PySem.W.codeIn K cd6 "is_symbol" = true) (k6 : PySem.W.keepIn K (.ref f6) = true)
    (a7 : PySem.W.nsIn K mainGlobals "read_number" = some (some (.ref f7))) (l7 : K.lookup f7 = some ⟨oc7, od7, .func (PySem.W.fnOf "read_number" "read_number" (defArgs s_read_number) (defBody s_read_number) (defScope s_read_number) .none kV7 dc7 pm7 an7 cd7 ct7), sl7⟩) (c7 : PySem.W.codeIn K cd7 "read_number" = true) (k7 : PySem.W.keepIn K (.ref f7) = true)
    (a8 : PySem.W.nsIn K mainGlobals "_law_cell" = some (some (.ref f8))) (l8 : K.lookup f8 = some ⟨oc8, od8, .func (PySem.W.fnOf "_law_cell" "_law_cell" (defArgs s__law_cell) (defBody s__law_cell) (defScope s__law_cell) .none kV8 dc8 pm8 an8 cd8 ct8), sl8⟩) (c8 : PySem.W.codeIn K cd8 "_law_cell" = true) (k8 : PySem.W.keepIn K (.ref f8) = true)
    (a9 : PySem.W.nsIn K mainGlobals "_law_well" = some (some (.ref f9))) (l9 : K.lookup f9 = some ⟨oc9, od9, .func (PySem.W.fnOf "_law_well" "_law_well" (defArgs s__law_well) (defBody s__law_well) (defScope s__law_well) .none kV9 dc9 pm9 an9 cd9 ct9), sl9⟩) (c9 : PySem.W.codeIn K cd9 "_law_well" = true) (k9 : PySem.W.keepIn K (.ref f9) = true)
    (a10 : PySem.W.nsIn K mainGlobals "_law_dip" = some (some (.ref f10))) (l10 : K.lookup f10 = some ⟨oc10, od10, .func (PySem.W.fnOf "_law_dip" "_law_dip" (defArgs s__law_dip) (defBody s__law_dip) (defScope s__law_dip) .none kV10 dc10 pm10 an10 cd10 ct10), sl10⟩) (c10 : PySem.W.codeIn K cd10 "_law_dip" = true) (k10 : PySem.W.keepIn K (.ref f10) = true)
    (a11 : PySem.W.nsIn K mainGlobals "_law_mark" = some (some (.ref f11))) (l11 : K.lookup f11 = some ⟨oc11, od11, .func (PySem.W.fnOf "_law_mark" "_law_mark" (defArgs s__law_mark) (defBody s__law_mark) (defScope s__law_mark) .none kV11 dc11 pm11 an11 cd11 ct11), sl11⟩) (c11 : PySem.W.codeIn K cd11 "_law_mark" = true) (k11 : PySem.W.keepIn K (.ref f11) = true)
    (a12 : PySem.W.nsIn K mainGlobals "_law_number" = some (some (.ref f12))) (l12 : K.lookup f12 = some ⟨oc12, od12, .func (PySem.W.fnOf "_law_number" "_law_number" (defArgs s__law_number) (defBody s__law_number) (defScope s__law_number) .none kV12 dc12 pm12 an12 cd12 ct12), sl12⟩) (c12 : PySem.W.codeIn K cd12 "_law_number" = true) (k12 : PySem.W.keepIn K (.ref f12) = true)
    (a13 : PySem.W.nsIn K mainGlobals "_law_drawn" = some (some (.ref f13))) (l13 : K.lookup f13 = some ⟨oc13, od13, .func (PySem.W.fnOf "_law_drawn" "_law_drawn" (defArgs s__law_drawn) (defBody s__law_drawn) (defScope s__law_drawn) .none kV13 dc13 pm13 an13 cd13 ct13), sl13⟩) (c13 : PySem.W.codeIn K cd13 "_law_drawn" = true) (k13 : PySem.W.keepIn K (.ref f13) = true)
    (a14 : PySem.W.nsIn K mainGlobals "_law_written" = some (some (.ref f14))) (l14 : K.lookup f14 = some ⟨oc14, od14, .func (PySem.W.fnOf "_law_written" "_law_written" (defArgs s__law_written) (defBody s__law_written) (defScope s__law_written) .none kV14 dc14 pm14 an14 cd14 ct14), sl14⟩) (c14 : PySem.W.codeIn K cd14 "_law_written" = true) (k14 : PySem.W.keepIn K (.ref f14) = true)
    (a15 : PySem.W.nsIn K mainGlobals "_law_is_mark" = some (some (.ref f15))) (l15 : K.lookup f15 = some ⟨oc15, od15, .func (PySem.W.fnOf "_law_is_mark" "_law_is_mark" (defArgs s__law_is_mark) (defBody s__law_is_mark) (defScope s__law_is_mark) .none kV15 dc15 pm15 an15 cd15 ct15), sl15⟩) (c15 : PySem.W.codeIn K cd15 "_law_is_mark" = true) (k15 : PySem.W.keepIn K (.ref f15) = true)
    (a16 : PySem.W.nsIn K mainGlobals "_law_is_number" = some (some (.ref f16))) (l16 : K.lookup f16 = some ⟨oc16, od16, .func (PySem.W.fnOf "_law_is_number" "_law_is_number" (defArgs s__law_is_number) (defBody s__law_is_number) (defScope s__law_is_number) .none kV16 dc16 pm16 an16 cd16 ct16), sl16⟩) (c16 : PySem.W.codeIn K cd16 "_law_is_number" = true) (k16 : PySem.W.keepIn K (.ref f16) = true)
    (a17 : PySem.W.nsIn K mainGlobals "_law_is_deed" = some (some (.ref f17))) (l17 : K.lookup f17 = some ⟨oc17, od17, .func (PySem.W.fnOf "_law_is_deed" "_law_is_deed" (defArgs s__law_is_deed) (defBody s__law_is_deed) (defScope s__law_is_deed) .none kV17 dc17 pm17 an17 cd17 ct17), sl17⟩) (c17 : PySem.W.codeIn K cd17 "_law_is_deed" = true) (k17 : PySem.W.keepIn K (.ref f17) = true)
    (a18 : PySem.W.nsIn K mainGlobals "_law_wrong_row" = some (some (.ref f18))) (l18 : K.lookup f18 = some ⟨oc18, od18, .func (PySem.W.fnOf "_law_wrong_row" "_law_wrong_row" (defArgs s__law_wrong_row) (defBody s__law_wrong_row) (defScope s__law_wrong_row) .none kV18 dc18 pm18 an18 cd18 ct18), sl18⟩) (c18 : PySem.W.codeIn K cd18 "_law_wrong_row" = true) (k18 : PySem.W.keepIn K (.ref f18) = true)
    (a19 : PySem.W.nsIn K mainGlobals "_law_spoilt" = some (some (.ref f19))) (l19 : K.lookup f19 = some ⟨oc19, od19, .func (PySem.W.fnOf "_law_spoilt" "_law_spoilt" (defArgs s__law_spoilt) (defBody s__law_spoilt) (defScope s__law_spoilt) .none kV19 dc19 pm19 an19 cd19 ct19), sl19⟩) (c19 : PySem.W.codeIn K cd19 "_law_spoilt" = true) (k19 : PySem.W.keepIn K (.ref f19) = true)
    (a20 : PySem.W.nsIn K mainGlobals "_law_alike" = some (some (.ref f20))) (l20 : K.lookup f20 = some ⟨oc20, od20, .func (PySem.W.fnOf "_law_alike" "_law_alike" (defArgs s__law_alike) (defBody s__law_alike) (defScope s__law_alike) .none kV20 dc20 pm20 an20 cd20 ct20), sl20⟩) (c20 : PySem.W.codeIn K cd20 "_law_alike" = true) (k20 : PySem.W.keepIn K (.ref f20) = true)
    (a21 : PySem.W.nsIn K mainGlobals "_law_held" = some (some (.ref f21))) (l21 : K.lookup f21 = some ⟨oc21, od21, .func (PySem.W.fnOf "_law_held" "_law_held" (defArgs s__law_held) (defBody s__law_held) (defScope s__law_held) .none kV21 dc21 pm21 an21 cd21 ct21), sl21⟩) (c21 : PySem.W.codeIn K cd21 "_law_held" = true) (k21 : PySem.W.keepIn K (.ref f21) = true)
    (a22 : PySem.W.nsIn K mainGlobals "law" = some (some (.ref f22))) (l22 : K.lookup f22 = some ⟨oc22, od22, .func (PySem.W.fnOf "law" "law" (defArgs s_law) (defBody s_law) (defScope s_law) .none kV22 dc22 pm22 an22 cd22 ct22), sl22⟩) (c22 : PySem.W.codeIn K cd22 "law" = true) (k22 : PySem.W.keepIn K (.ref f22) = true)
    (aC_YardError : PySem.W.nsIn K mainGlobals "YardError" = some (some (.ref c_YardError)))
    (aC_NoTable : PySem.W.nsIn K mainGlobals "NoTable" = some (some (.ref c_NoTable)))
    (ye_YardError : PySem.W.subIn K (.ref c_YardError) (.type "BaseException") = some true) (yc_YardError : PySem.W.isClsIn K c_YardError = true) (yt_YardError : PySem.W.typeIn K (.ref c_YardError) = some (.type "type"))
    (hn0 : PySem.W.specialIn K (.builtin "object.__class__") "__get__" = some (some (.builtin "getset_descriptor.__get__"))) (ht0 : PySem.W.takesIn K (.builtin "object.__class__") = some true)
    (xL_NoTable : K.lookup c_NoTable = some (excClassObj nm_NoTable qn_NoTable c_NoTable N_NoTable bs_NoTable [.ref c_YardError, .type "ValueError", .type "Exception", .type "BaseException", .type "object"] true sn_NoTable su_NoTable ab_NoTable co_NoTable dd_NoTable m0_NoTable m1_NoTable m2_NoTable m3_NoTable m5_NoTable "ValueError.__new__"))
    (sa_NoTable : PySem.W.findIn K (.ref c_NoTable) "__setattr__" = some (some (.builtin "object.__setattr__")))
    (ga_NoTable : PySem.W.findIn K (.ref c_NoTable) "__getattribute__" = some (some (.builtin "BaseException.__getattribute__")))
    (gg_NoTable : PySem.W.findIn K (.ref c_NoTable) "__getattr__" = some none)
    (xe_NoTable : PySem.W.subIn K (.ref c_NoTable) (.type "BaseException") = some true)
    (xt_NoTable : PySem.W.typeIn K (.ref c_NoTable) = some (.type "type"))
    (kC_NoTable : PySem.W.keepIn K (.ref c_NoTable) = true)
    (hd_NoTable : PySem.W.hasDictIn K c_NoTable = true)
    (cc_NoTable : PySem.W.findIn K (.ref c_NoTable) "__class__" = some (some (.builtin "object.__class__")))
    (mo_NoTable : PySem.W.mroIn K c_NoTable (.type "object") = some true)
    (sv_NoTable : PySem.W.subIn K (.ref c_NoTable) (.type "ValueError") = some true)
    (ss_NoTable : PySem.W.subIn K (.ref c_NoTable) (.ref c_YardError) = some true)
    (n_NoTable_row : PySem.W.findIn K (.ref c_NoTable) "row" = some none)
    (yk_NoTable : PySem.W.isClsIn K c_NoTable = true) (yz_NoTable : PySem.W.subIn K (.ref c_NoTable) (.ref c_NoTable) = some true)
    (is_NoTable_YardError : PySem.W.kitOne K (.ref c_NoTable) (.ref c_YardError) = some true)
    (am0 : PySem.W.findIn K (.ref c_NoTable) "__init__" = some (some (.ref fm0))) (lm0 : K.lookup fm0 = some ⟨ocm0, odm0, .func (PySem.W.fnOf "__init__" "NoTable.__init__" (defArgs s_NoTable___init__) (defBody s_NoTable___init__) (defScope s_NoTable___init__) .none kVm0 dcm0 pmm0 anm0 cdm0 ctm0), slm0⟩) (cm0 : PySem.W.codeIn K cdm0 "NoTable.__init__" = true) (km0 : PySem.W.keepIn K (.ref fm0) = true)
    (im0 : PySem.W.typeIn K (.ref fm0) = some (.type "function"))
    (g_LETTERS : PySem.W.nsIn K mainGlobals "LETTERS" = some (some (.str "abcdefghijklmnopqrstuvwxyz" t_LETTERS)))
    (g_LONGEST : PySem.W.nsIn K mainGlobals "LONGEST" = some (some (.int 8 t_LONGEST)))
    (g_KEPT_WORDS : PySem.W.nsIn K mainGlobals "KEPT_WORDS" = some (some (.ref a_KEPT_WORDS))) (lt_KEPT_WORDS : K.lookup a_KEPT_WORDS = some ⟨.type "tuple", od_KEPT_WORDS, .seq #[.str "word" t_KEPT_WORDS_0, .str "skip" t_KEPT_WORDS_1, .str "rule" t_KEPT_WORDS_2, .str "top" t_KEPT_WORDS_3, .str "bar" t_KEPT_WORDS_4] n_KEPT_WORDS, sl_KEPT_WORDS⟩)
    (g_END : PySem.W.nsIn K mainGlobals "END" = some (some (.str "." t_END)))
    (g_FIGURES : PySem.W.nsIn K mainGlobals "FIGURES" = some (some (.str "0123456789" t_FIGURES)))
    (g_MOST_FIGURES : PySem.W.nsIn K mainGlobals "MOST_FIGURES" = some (some (.int 4 t_MOST_FIGURES)))
    (z_ValueError : PySem.W.nsIn K mainGlobals "ValueError" = some none)
    (z_all : PySem.W.nsIn K mainGlobals "all" = some none)
    (z_bool : PySem.W.nsIn K mainGlobals "bool" = some none)
    (z_dict : PySem.W.nsIn K mainGlobals "dict" = some none)
    (z_enumerate : PySem.W.nsIn K mainGlobals "enumerate" = some none)
    (z_int : PySem.W.nsIn K mainGlobals "int" = some none)
    (z_isinstance : PySem.W.nsIn K mainGlobals "isinstance" = some none)
    (z_len : PySem.W.nsIn K mainGlobals "len" = some none)
    (z_list : PySem.W.nsIn K mainGlobals "list" = some none)
    (z_max : PySem.W.nsIn K mainGlobals "max" = some none)
    (z_min : PySem.W.nsIn K mainGlobals "min" = some none)
    (z_range : PySem.W.nsIn K mainGlobals "range" = some none)
    (z_sorted : PySem.W.nsIn K mainGlobals "sorted" = some none)
    (z_str : PySem.W.nsIn K mainGlobals "str" = some none)
    (z_tuple : PySem.W.nsIn K mainGlobals "tuple" = some none)
    (z_zip : PySem.W.nsIn K mainGlobals "zip" = some none) :
    ∃ fd : FuncData, (∀ (s : Shared) (v : Value), BindsTo s fd ⟨[v], []⟩ [("script", v)]) ∧ ∀ base : Heap, K.In base → base.Ns mainGlobals mg → FnOk l.prog w K mg base CX0 51 fa fd ["script"] (spLaw K) := by
  have e := hfa.symm.trans (PySem.W.mg_of X G a22)
  cases e
  have F := fun_mk (st := s_law) l22 c22 k22
  have D0 := df_mk (st := s_is_name) (ps := ["thing"]) X G a0 l0 c0 k0 fun _ _ _ _ _ _ us hl => match us, hl with | [_], _ => rfl
  have D1 := df_mk (st := s_table_text) (ps := ["table"]) X G a1 l1 c1 k1 fun _ _ _ _ _ _ us hl => match us, hl with | [_], _ => rfl
  have D2 := df_mk (st := s_read_table) (ps := ["text"]) X G a2 l2 c2 k2 fun _ _ _ _ _ _ us hl => match us, hl with | [_], _ => rfl
  have D3 := df_mk (st := s_is_behind) (ps := ["symbol", "deeds"]) X G a3 l3 c3 k3 fun _ _ _ _ _ _ us hl => match us, hl with | [_, _], _ => rfl
  have D4 := df_mk (st := s_read_item) (ps := ["words"]) X G a4 l4 c4 k4 fun _ _ _ _ _ _ us hl => match us, hl with | [_], _ => rfl
  have D5 := df_mk (st := s_read_deed) (ps := ["words"]) X G a5 l5 c5 k5 fun _ _ _ _ _ _ us hl => match us, hl with | [_], _ => rfl
  have D6 := df_mk (st := s_is_symbol) (ps := ["word"]) X G a6 l6 c6 k6 fun _ _ _ _ _ _ us hl => match us, hl with | [_], _ => rfl
  have D7 := df_mk (st := s_read_number) (ps := ["word"]) X G a7 l7 c7 k7 fun _ _ _ _ _ _ us hl => match us, hl with | [_], _ => rfl
  have D8 := df_mk (st := s__law_cell) (ps := ["script", "k"]) X G a8 l8 c8 k8 fun _ _ _ _ _ _ us hl => match us, hl with | [_, _], _ => rfl
  have D9 := df_mk (st := s__law_well) (ps := ["cell", "place"]) X G a9 l9 c9 k9 fun _ _ _ _ _ _ us hl => match us, hl with | [_, _], _ => rfl
  have D10 := df_mk (st := s__law_dip) (ps := ["well", "many"]) X G a10 l10 c10 k10 fun _ _ _ _ _ _ us hl => match us, hl with | [_, _], _ => rfl
  have D11 := df_mk (st := s__law_mark) (ps := ["well"]) X G a11 l11 c11 k11 fun _ _ _ _ _ _ us hl => match us, hl with | [_], _ => rfl
  have D12 := df_mk (st := s__law_number) (ps := ["well"]) X G a12 l12 c12 k12 fun _ _ _ _ _ _ us hl => match us, hl with | [_], _ => rfl
  have D13 := df_mk (st := s__law_drawn) (ps := ["well"]) X G a13 l13 c13 k13 fun _ _ _ _ _ _ us hl => match us, hl with | [_], _ => rfl
  have D14 := df_mk (st := s__law_written) (ps := ["table"]) X G a14 l14 c14 k14 fun _ _ _ _ _ _ us hl => match us, hl with | [_], _ => rfl
  have D15 := df_mk (st := s__law_is_mark) (ps := ["word"]) X G a15 l15 c15 k15 fun _ _ _ _ _ _ us hl => match us, hl with | [_], _ => rfl
  have D16 := df_mk (st := s__law_is_number) (ps := ["word"]) X G a16 l16 c16 k16 fun _ _ _ _ _ _ us hl => match us, hl with | [_], _ => rfl
  have D17 := df_mk (st := s__law_is_deed) (ps := ["words"]) X G a17 l17 c17 k17 fun _ _ _ _ _ _ us hl => match us, hl with | [_], _ => rfl
  have D18 := df_mk (st := s__law_wrong_row) (ps := ["text"]) X G a18 l18 c18 k18 fun _ _ _ _ _ _ us hl => match us, hl with | [_], _ => rfl
  have D19 := df_mk (st := s__law_spoilt) (ps := ["well", "text"]) X G a19 l19 c19 k19 fun _ _ _ _ _ _ us hl => match us, hl with | [_, _], _ => rfl
  have D20 := df_mk (st := s__law_alike) (ps := ["found", "wanted"]) X G a20 l20 c20 k20 fun _ _ _ _ _ _ us hl => match us, hl with | [_, _], _ => rfl
  have D21 := df_mk (st := s__law_held) (ps := ["tables", "bends"]) X G a21 l21 c21 k21 fun _ _ _ _ _ _ us hl => match us, hl with | [_, _], _ => rfl
  have D22 := df_mk (st := s_law) (ps := ["script"]) X G a22 l22 c22 k22 fun _ _ _ _ _ _ us hl => match us, hl with | [_], _ => rfl
  have FM0 := fun_mk (st := s_NoTable___init__) lm0 cm0 km0
  have BM0 := FM0.binds (ps := ["self", "row"]) fun _ _ _ _ _ _ us hl => match us, hl with | [_, _], _ => rfl
  have T : Tx K w mg := {
    a_is_name := f0,
    f_is_name := _,
    d_is_name := D0,
    a_table_text := f1,
    f_table_text := _,
    d_table_text := D1,
    a_read_table := f2,
    f_read_table := _,
    d_read_table := D2,
    a_is_behind := f3,
    f_is_behind := _,
    d_is_behind := D3,
    a_read_item := f4,
    f_read_item := _,
    d_read_item := D4,
    a_read_deed := f5,
    f_read_deed := _,
    d_read_deed := D5,
    a_is_symbol := f6,
    f_is_symbol := _,
    d_is_symbol := D6,
    a_read_number := f7,
    f_read_number := _,
    d_read_number := D7,
    a__law_cell := f8,
    f__law_cell := _,
    d__law_cell := D8,
    a__law_well := f9,
    f__law_well := _,
    d__law_well := D9,
    a__law_dip := f10,
    f__law_dip := _,
    d__law_dip := D10,
    a__law_mark := f11,
    f__law_mark := _,
    d__law_mark := D11,
    a__law_number := f12,
    f__law_number := _,
    d__law_number := D12,
    a__law_drawn := f13,
    f__law_drawn := _,
    d__law_drawn := D13,
    a__law_written := f14,
    f__law_written := _,
    d__law_written := D14,
    a__law_is_mark := f15,
    f__law_is_mark := _,
    d__law_is_mark := D15,
    a__law_is_number := f16,
    f__law_is_number := _,
    d__law_is_number := D16,
    a__law_is_deed := f17,
    f__law_is_deed := _,
    d__law_is_deed := D17,
    a__law_wrong_row := f18,
    f__law_wrong_row := _,
    d__law_wrong_row := D18,
    a__law_spoilt := f19,
    f__law_spoilt := _,
    d__law_spoilt := D19,
    a__law_alike := f20,
    f__law_alike := _,
    d__law_alike := D20,
    a__law_held := f21,
    f__law_held := _,
    d__law_held := D21,
    a_law := fa,
    f_law := _,
    d_law := D22,
    c_YardError := c_YardError,
    g_YardError := PySem.W.mg_of X G aC_YardError,
    c_NoTable := c_NoTable,
    g_NoTable := PySem.W.mg_of X G aC_NoTable,
    x_NoTable := ⟨PySem.W.mg_of X G aC_NoTable, ⟨⟨nm_NoTable, qn_NoTable, N_NoTable, bs_NoTable, _, sn_NoTable, su_NoTable, ab_NoTable, co_NoTable, dd_NoTable, m0_NoTable, m1_NoTable, m2_NoTable, m3_NoTable, m5_NoTable, xL_NoTable, rfl⟩, sa_NoTable, xe_NoTable, xt_NoTable, kC_NoTable⟩, ⟨ga_NoTable, gg_NoTable, xe_NoTable, hd_NoTable⟩, ⟨ga_NoTable, gg_NoTable, xe_NoTable, hd_NoTable, cc_NoTable, hn0, ht0, mo_NoTable⟩⟩,
    s_NoTable := exm_sub ye_YardError yc_YardError yt_YardError ss_NoTable,
    v_NoTable := kit_ve sv_NoTable,
    n_NoTable_row := n_NoTable_row,
    m_NoTable := exm_sub xe_NoTable yk_NoTable xt_NoTable yz_NoTable,
    i_NoTable_YardError := is_NoTable_YardError,
    a_NoTable___init__ := fm0,
    f_NoTable___init__ := _,
    d_NoTable___init__ := FM0,
    b_NoTable___init__ := BM0,
    k_NoTable___init__ := am0,
    t_NoTable___init__ := im0,
    t_LETTERS := t_LETTERS,
    g_LETTERS := PySem.W.mg_of X G g_LETTERS,
    t_LONGEST := t_LONGEST,
    g_LONGEST := PySem.W.mg_of X G g_LONGEST,
    a_KEPT_WORDS := a_KEPT_WORDS,
    g_KEPT_WORDS := PySem.W.mg_of X G g_KEPT_WORDS,
    k_KEPT_WORDS := fun H => .inr ⟨_, _, _, lt_KEPT_WORDS, rfl, rfl, by show 5 ≤ sizeLine; decide, (.cons ⟨_, rfl⟩ (.cons ⟨_, rfl⟩ (.cons ⟨_, rfl⟩ (.cons ⟨_, rfl⟩ (.cons ⟨_, rfl⟩ .nil)))))⟩,
    t_END := t_END,
    g_END := PySem.W.mg_of X G g_END,
    t_FIGURES := t_FIGURES,
    g_FIGURES := PySem.W.mg_of X G g_FIGURES,
    t_MOST_FIGURES := t_MOST_FIGURES,
    g_MOST_FIGURES := PySem.W.mg_of X G g_MOST_FIGURES,
    z_ValueError := PySem.W.mg_none_of X G z_ValueError,
    z_all := PySem.W.mg_none_of X G z_all,
    z_bool := PySem.W.mg_none_of X G z_bool,
    z_dict := PySem.W.mg_none_of X G z_dict,
    z_enumerate := PySem.W.mg_none_of X G z_enumerate,
    z_int := PySem.W.mg_none_of X G z_int,
    z_isinstance := PySem.W.mg_none_of X G z_isinstance,
    z_len := PySem.W.mg_none_of X G z_len,
    z_list := PySem.W.mg_none_of X G z_list,
    z_max := PySem.W.mg_none_of X G z_max,
    z_min := PySem.W.mg_none_of X G z_min,
    z_range := PySem.W.mg_none_of X G z_range,
    z_sorted := PySem.W.mg_none_of X G z_sorted,
    z_str := PySem.W.mg_none_of X G z_str,
    z_tuple := PySem.W.mg_none_of X G z_tuple,
    z_zip := PySem.W.mg_none_of X G z_zip }
  exact ⟨_, fun s v => .of_eq rfl, fun base _ _ => ok_law F T⟩
theorem walk {l : PySem.W.OpenLaw} {q : Program} {loose : List Str} {XP : (Str → Option Value) → Heap → Prop} {YP : World → Heap → Prop} {d : DefRec} {K : Params → PySem.W.Frag} (hn : l.most = some 63) (hdf : d.params.defaults = [])
    (hY : ∀ (w : World) (h : Heap), YP w h → (K w.params).In h)
    (F : ∀ (w : World) (mg : Str → Option Value) (fa : Addr) (h : Heap), (K w.params).In h → h.Ns mainGlobals mg → mg d.name = some (.ref fa) →
      ∃ fd : FuncData, (∀ (s : Shared) (u : Value), BindsTo s fd ⟨[u], []⟩ [("script", u)]) ∧ ∀ base : Heap, (K w.params).In base → base.Ns mainGlobals mg → FnOk l.prog w (K w.params) mg base CX0 51 fa fd ["script"] (spLaw (K w.params))) :
    PySem.W.WalkO q loose XP YP l.row.toRowW d [] (fun f vs => PySem.call f vs) :=
  L2.walk_of (n := 63) (k := 51) (x := "script") (CX := fun _ => CX0) (sp := fun w => spLaw (K w.params)) hn (by decide) hdf ⟨rfl, by decide, by decide⟩ hY F (fun _ _ a ns hl _ hS => ⟨a, ns, rfl, hS, hl, fun _ => rfl⟩) fun _ _ _ _ _ z => z
end K41
open PySem PySem.W PyProof.Rows
set_option maxHeartbeats 0 in
theorem PySem.Challenge.cw_tongueyard_k41_tables_as_texts_holds : PySem.Challenge.rw_tongueyard_k41_tables_as_texts.Holds := by
  w_on; o_law; k_head; (case hw => w_witness2)
  k_fill
  refine K41.walk (l := PySem.Challenge.rw_tongueyard_k41_tables_as_texts) rfl rfl (fun w h Y => PySem.W.kIn_of Y) ?F
  case F =>
    intro w mg fa h KX G hmg
    refine' K41.all_mk KX G hmg ?a0 ?l0 ?c0 ?k0 ?a1 ?l1 ?c1 ?k1 ?a2 ?l2 ?c2 ?k2 ?a3 ?l3 ?c3 ?k3 ?a4 ?l4 ?c4 ?k4 ?a5 ?l5 ?c5 ?k5 ?a6 ?l6 ?c6 ?k6 ?a7 ?l7 ?c7 ?k7 ?a8 ?l8 ?c8 ?k8 ?a9 ?l9 ?c9 ?k9 ?a10 ?l10 ?c10 ?k10 ?a11 ?l11 ?c11 ?k11 ?a12 ?l12 ?c12 ?k12 ?a13 ?l13 ?c13 ?k13 ?a14 ?l14 ?c14 ?k14 ?a15 ?l15 ?c15 ?k15 ?a16 ?l16 ?c16 ?k16 ?a17 ?l17 ?c17 ?k17 ?a18 ?l18 ?c18 ?k18 ?a19 ?l19 ?c19 ?k19 ?a20 ?l20 ?c20 ?k20 ?a21 ?l21 ?c21 ?k21 ?a22 ?l22 ?c22 ?k22 ?aC_YardError ?aC_NoTable ?ye_YardError ?yc_YardError ?yt_YardError ?hn0 ?ht0 ?xL_NoTable ?sa_NoTable ?ga_NoTable ?gg_NoTable ?xe_NoTable ?xt_NoTable ?kC_NoTable ?hd_NoTable ?cc_NoTable ?mo_NoTable ?sv_NoTable ?ss_NoTable ?n_NoTable_row ?yk_NoTable ?yz_NoTable ?is_NoTable_YardError ?am0 ?lm0 ?cm0 ?km0 ?im0 ?g_LETTERS ?g_LONGEST ?g_KEPT_WORDS ?lt_KEPT_WORDS ?g_END ?g_FIGURES ?g_MOST_FIGURES ?z_ValueError ?z_all ?z_bool ?z_dict ?z_enumerate ?z_int ?z_isinstance ?z_len ?z_list ?z_max ?z_min ?z_range ?z_sorted ?z_str ?z_tuple ?z_zip
    (case a0 => first | k_is | rfl)
    (case l0 => first | k_is | rfl)
    (case c0 => first | k_is | rfl)
    (case k0 => first | k_is | rfl)
    (case a1 => first | k_is | rfl)
    (case l1 => first | k_is | rfl)
    (case c1 => first | k_is | rfl)
    (case k1 => first | k_is | rfl)
    (case a2 => first | k_is | rfl)
    (case l2 => first | k_is | rfl)
    (case c2 => first | k_is | rfl)
    (case k2 => first | k_is | rfl)
    (case a3 => first | k_is | rfl)
    (case l3 => first | k_is | rfl)
    (case c3 => first | k_is | rfl)
    (case k3 => first | k_is | rfl)
    (case a4 => first | k_is | rfl)
    (case l4 => first | k_is | rfl)
    (case c4 => first | k_is | rfl)
    (case k4 => first | k_is | rfl)
    (case a5 => first | k_is | rfl)
    (case l5 => first | k_is | rfl)
    (case c5 => first | k_is | rfl)
    (case k5 => first | k_is | rfl)
    (case a6 => first | k_is | rfl)
    (case l6 => first | k_is | rfl)
    (case c6 => first | k_is | rfl)
    (case k6 => first | k_is | rfl)
    (case a7 => first | k_is | rfl)
    (case l7 => first | k_is | rfl)
    (case c7 => first | k_is | rfl)
    (case k7 => first | k_is | rfl)
    (case a8 => first | k_is | rfl)
    (case l8 => first | k_is | rfl)
    (case c8 => first | k_is | rfl)
    (case k8 => first | k_is | rfl)
    (case a9 => first | k_is | rfl)
    (case l9 => first | k_is | rfl)
    (case c9 => first | k_is | rfl)
    (case k9 => first | k_is | rfl)
    (case a10 => first | k_is | rfl)
    (case l10 => first | k_is | rfl)
    (case c10 => first | k_is | rfl)
    (case k10 => first | k_is | rfl)
    (case a11 => first | k_is | rfl)
    (case l11 => first | k_is | rfl)
    (case c11 => first | k_is | rfl)
    (case k11 => first | k_is | rfl)
    (case a12 => first | k_is | rfl)
    (case l12 => first | k_is | rfl)
    (case c12 => first | k_is | rfl)
    (case k12 => first | k_is | rfl)
    (case a13 => first | k_is | rfl)
    (case l13 => first | k_is | rfl)
    (case c13 => first | k_is | rfl)
    (case k13 => first | k_is | rfl)
    (case a14 => first | k_is | rfl)
    (case l14 => first | k_is | rfl)
    (case c14 => first | k_is | rfl)
    (case k14 => first | k_is | rfl)
    (case a15 => first | k_is | rfl)
    (case l15 => first | k_is | rfl)
    (case c15 => first | k_is | rfl)
    (case k15 => first | k_is | rfl)
    (case a16 => first | k_is | rfl)
    (case l16 => first | k_is | rfl)
    (case c16 => first | k_is | rfl)
    (case k16 => first | k_is | rfl)
    (case a17 => first | k_is | rfl)
    (case l17 => first | k_is | rfl)
    (case c17 => first | k_is | rfl)
    (case k17 => first | k_is | rfl)
    (case a18 => first | k_is | rfl)
    (case l18 => first | k_is | rfl)
    (case c18 => first | k_is | rfl)
    (case k18 => first | k_is | rfl)
    (case a19 => first | k_is | rfl)
    (case l19 => first | k_is | rfl)
    (case c19 => first | k_is | rfl)
    (case k19 => first | k_is | rfl)
    (case a20 => first | k_is | rfl)
    (case l20 => first | k_is | rfl)
    (case c20 => first | k_is | rfl)
    (case k20 => first | k_is | rfl)
    (case a21 => first | k_is | rfl)
    (case l21 => first | k_is | rfl)
    (case c21 => first | k_is | rfl)
    (case k21 => first | k_is | rfl)
    (case a22 => first | k_is | rfl)
    (case l22 => first | k_is | rfl)
    (case c22 => first | k_is | rfl)
    (case k22 => first | k_is | rfl)
    (case aC_YardError => first | k_is | rfl)
    (case aC_NoTable => first | k_is | rfl)
    (case ye_YardError => first | k_is | rfl)
    (case yc_YardError => first | k_is | rfl)
    (case yt_YardError => first | k_is | rfl)
    (case hn0 => first | k_is | rfl)
    (case ht0 => first | k_is | rfl)
    (case xL_NoTable => first | k_is | rfl)
    (case sa_NoTable => first | k_is | rfl)
    (case ga_NoTable => first | k_is | rfl)
    (case gg_NoTable => first | k_is | rfl)
    (case xe_NoTable => first | k_is | rfl)
    (case xt_NoTable => first | k_is | rfl)
    (case kC_NoTable => first | k_is | rfl)
    (case hd_NoTable => first | k_is | rfl)
    (case cc_NoTable => first | k_is | rfl)
    (case mo_NoTable => first | k_is | rfl)
    (case sv_NoTable => first | k_is | rfl)
    (case ss_NoTable => first | k_is | rfl)
    (case n_NoTable_row => first | k_is | rfl)
    (case yk_NoTable => first | k_is | rfl)
    (case yz_NoTable => first | k_is | rfl)
    (case is_NoTable_YardError => first | k_is | rfl)
    (case am0 => first | k_is | rfl)
    (case lm0 => first | k_is | rfl)
    (case cm0 => first | k_is | rfl)
    (case km0 => first | k_is | rfl)
    (case im0 => first | k_is | rfl)
    (case g_LETTERS => first | k_is | rfl)
    (case g_LONGEST => first | k_is | rfl)
    (case g_KEPT_WORDS => first | k_is | rfl)
    (case lt_KEPT_WORDS => first | k_is | rfl)
    (case g_END => first | k_is | rfl)
    (case g_FIGURES => first | k_is | rfl)
    (case g_MOST_FIGURES => first | k_is | rfl)
    (case z_ValueError => first | k_is | rfl)
    (case z_all => first | k_is | rfl)
    (case z_bool => first | k_is | rfl)
    (case z_dict => first | k_is | rfl)
    (case z_enumerate => first | k_is | rfl)
    (case z_int => first | k_is | rfl)
    (case z_isinstance => first | k_is | rfl)
    (case z_len => first | k_is | rfl)
    (case z_list => first | k_is | rfl)
    (case z_max => first | k_is | rfl)
    (case z_min => first | k_is | rfl)
    (case z_range => first | k_is | rfl)
    (case z_sorted => first | k_is | rfl)
    (case z_str => first | k_is | rfl)
    (case z_tuple => first | k_is | rfl)
    (case z_zip => first | k_is | rfl)
