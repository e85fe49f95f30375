import PyProof.Rows.All
import Wide.All
import OpenK.AllK
import Wide.FinOn
import HandS.Base
import HandS.Call
import HandS.List
import HandS.Ends
import HandS.Words
import PyProof.ReprRoads
import HandS.Dict
import HandS.Comp
import HandS.Text
import HandS.Iter
import PyProof.ReprLen
import PyProof.CallStr
import PyProof.CallFns
import HandS.Set
import HandS.SetFor
import HandS.SetTxt0
import HandS.Strs
import HandS.TupSets
import HandS.Style
import HandS.TupAny
import HandS.IsInst
import HandS.More
import HandS.Wide
import PyProof.Rows.RuleB_pow
import PyProof.NeKinds
import HandS.ForMost
import HandS.Walk
import HandS.DictTup
import HandS.Deep
import PyProof.ListStr
import HandS.ForExc
import HandS.ExcInit
import HandS.ExcField
import HandS.ExcIs
import PyProof.P3Eq
import HandS.TupMul
import HandS.DictComp
import HandS.MakeKwOnly
import HandS.TryOnly
import KE.GoesMore
import PyProof.StrOps2
import PyProof.StrLawsRepr
import PySem.Challenge.RW_tongueyard_k10_grammars_refused
set_option Elab.async false
set_option linter.all false
set_option maxRecDepth 100000
/-! The yard's own layer, part 1: promises of defs at places where nothing is being shown (no repr under way). -/
namespace Yard
open PySem PySem.Spec PyProof.Rows L2

/-- as the layer's promise, but only where no repr is under way -/
structure FnG (P : Program) (w : World) (K : PySem.W.Frag)
    (mg : Str → Option Value) (base : Heap) (CX : CXT) (k : Nat) (f : Addr)
    (fd : FuncData) (ps : List Str) (sp : Sp) : Prop where
  cnt : ∀ vs H Q E, sp vs H Q E → vs.length = ps.length
  go : ∀ (A : Around) (fr : List Env) (s : Shared) (H : Hp) (ar : Args)
    (us : List Value) (vs : List V) (Q : VK) (E : XK),
    A.guards = some [] → Room k A → Env0 P w K mg base A fr s H →
    BindsTo s fd ar (ps.zip us) → Vals vs us → sp vs H Q E →
    codeAny (model P w) A (.call (.ref f) ar) (CR CX fr P w H s Q E) s

variable {P : Program} {w : World} {K : PySem.W.Frag}
  {mg : Str → Option Value} {base : Heap}

theorem Fun.okG {x qual : Str} {st : Stmt} {f : Addr} {fd : FuncData}
    {N ps : List Str} {k : Nat} {sp : Sp} (F : Fun K x qual st f fd)
    (S : FnScope N ps (defScope st))
    (cnt : ∀ vs H Q E, sp vs H Q E → vs.length = ps.length)
    (bod : ∀ (cdv : Value) (A : Around) (fr : List Env) (s : Shared) (H : Hp)
      (vs : List V) (Q : VK) (E : XK), A.guards = some [] →
      Room k (A.deeper (envOfC qual (defScope st) s.heap.objs.size f cdv)) →
      sp vs H Q E → ∃ t,
        PSs (cxOf CX0 P w K mg base N qual (defScope st) f cdv A fr s H E).nox
          (defBody st) t ∧
        t { nx := fun _ H' => Q .non H', rt := Q } (start N vs) H) :
    FnG P w K mg base CX0 (k + 1) f fd ps sp := by
  obtain ⟨oc, od, kV, doc, pm, an, cdv, ct, osl, rfl, lk, hcd⟩ := F.ex
  refine ⟨cnt, fun A fr s H ar us vs Q E hg hr e0 hb r hsp => ?_⟩
  have inK : K.In s.heap := e0.mod.kin.keeps fun b o e => (e0.bs b o e).1
  have nol := e0.mod.nolimit.keeps fun b o e => (e0.bs b o e).1
  refine codeAny_call_function hr.depth (inK _ _ lk) rfl S.co S.gen rfl
    (PySem.W.codeRec_of inK hcd) (hb _ _ _ _ ?_)
  refine wpAny_newFunctionEnv_cells S.kind (fun ⟨n, v⟩ hy => ?_)
    fun env he s1 x => ?_
  · exact (S.par n (List.of_mem_zip hy).1).imp id
      fun q => ⟨q, PySem.W.cellsFrom_some _ _ _ (.inl q)⟩
  · subst he
    refine ⟨nol.keeps x.toInCall.keep, codeAny_func ?_⟩
    obtain ⟨t, ht, hq⟩ := bod cdv A fr s H vs Q E hg (hr.deeper _) hsp
    have I := inv_start (CX := CX0) (E := E) S hr.hd e0 (cnt _ _ _ _ hsp) r x
    refine wpAny_mono (ht.nox.run [] s1 (start N vs) H _ I hq)
      (fun fl s' hs => ?_) fun e s' hs => hs
    cases fl with
    | ret u =>
      obtain ⟨v, _, H', J, rv, q⟩ := hs
      exact ⟨v, H', J.os, J.bare, J.base, J.hok, rv, q⟩
    | next =>
      obtain ⟨_, H', J, q⟩ := hs
      exact ⟨.non, H', J.os, J.bare, J.base, J.hok, rfl, q⟩
    | brk => exact hs.elim fun _ h => h.elim fun _ h => h.2.elim
    | cont => exact hs.elim fun _ h => h.elim fun _ h => h.2.elim

/-! ### the law's own call -/
/-- a heap of one tracked thing -/
def lone (a : Addr) (o : HO) : Hp := fun b => if b = a then some o else none
/-- at the claim's own place nothing is being shown -/
theorem caller_guards : callerA.guards = some [] := rfl

theorem law_run {CX : CXT} {k : Nat} {fa a : Addr} {fd : FuncData} {x : Str}
    {sp : Sp} {s₁ : Shared} {vs : List Value} {ns : List Int} {mb : Str → Option Value}
    (KX : K.In s₁.heap) (g1 : s₁.heap.Ns mainGlobals mg) (g2 : s₁.heap.Ns builtinsNs mb)
    (g3 : ∀ x : Str, x ≠ "__name__" → mb x = bootBuiltins x) (g4 : s₁.heap.NoLimit)
    (g5 : s₁.gens = #[])
    (ha : s₁.heap.get? a = some { cls := .type "list", data := .seq vs.toArray })
    (hi : IntsAre vs ns) (hl : ns.length ≤ sizeLine) (hr : Room k callerA)
    (g6 : ∃ m, s₁.heap.Ns sysModules m)
    (F : ∀ base : Heap, K.In base → base.Ns mainGlobals mg →
      (∃ m, base.Ns sysModules m) → FnG P w K mg base CX k fa fd [x] sp)
    (hb : ∀ (s : Shared) (u : Value), BindsTo s fd ⟨[u], []⟩ [(x, u)])
    (hsp : ∀ H : Hp, Only H → SqL K H a (ns.map V.int) →
      sp [.ref a] H (fun v _ => v = .bl true) fun _ _ _ => False)
    (hX : ∀ H e s', CX [] H s₁ (fun _ _ _ => False) e s' → False) :
    codeAny (model P w) callerA (.call (.ref fa) ⟨[.ref a], []⟩)
      (fun r s' => r = .ok (.ret (.bool true)) ∧ OldK s₁.heap s'.heap ∧
        s'.os = s₁.os ∧ AllBare s'.gens) s₁ := by
  have rv := vals_ints hi
  -- H: nothing but the script may be tracked
  have main : ∀ H : Hp, Only H → SqL K H a (ns.map V.int) → HOk P w H s₁.heap →
      (∀ b, H b ≠ none → b = a) → (H a ≠ none → K.lookup a = none) →
      codeAny (model P w) callerA (.call (.ref fa) ⟨[.ref a], []⟩)
        (fun r s' => r = .ok (.ret (.bool true)) ∧ OldK s₁.heap s'.heap ∧
          s'.os = s₁.os ∧ AllBare s'.gens) s₁ := by
    intro H hO hS ok onlyA notK
    have freeOf : ∀ {b : Addr}, b ≠ a → H b = none := fun {b} ne =>
      Classical.byContradiction fun z => ne (onlyA b z)
    have dictFree : ∀ {b : Addr} {o : Obj} {es : Array DictEntry} {ep : Nat},
        s₁.heap.get? b = some o → o.data = .dict es ep → H b = none :=
      fun {b o es ep} e d => freeOf fun z => by
        subst z
        have q : some o = some _ := e.symm.trans ha
        cases q
        exact nomatch d
    have nsKeep : ∀ {b : Addr} {m : Str → Option Value}, s₁.heap.Ns b m →
        (hidT s₁.heap H).Ns b m := fun ⟨o, es, ep, e, d, r⟩ =>
      ⟨o, es, ep, hidT_get e (dictFree e d), d, r⟩
    have kKeep : K.In (hidT s₁.heap H) := fun b o e => hidT_get (KX b o e)
      (Classical.byContradiction fun z => by
        have z2 := onlyA b z
        subst z2
        have n := notK z
        rw [e] at n
        cases n)
    have md : Mod K mg (hidT s₁.heap H) := ⟨kKeep, nsKeep g1, ⟨mb, nsKeep g2, g3⟩,
      g4.elim fun mc h => ⟨mc, nsKeep h.1, h.2⟩⟩
    have env : Env0 P w K mg (hidT s₁.heap H) callerA [] s₁ H :=
      ⟨rfl, md, fun _ _ e => of_hidT e, Nat.le_of_eq (hidT_size _ _), trivial,
        fun _ z => (List.not_mem_nil z).elim, ok, .of_eq g5⟩
    refine codeAny_mono ((F _ kKeep (nsKeep g1) (g6.imp fun _ => nsKeep)).go callerA [] s₁ H _ [.ref a]
      [.ref a] _ _ caller_guards hr env (hb s₁ _) (.cons rfl .nil) (hsp H hO hS))
      fun r s' h => ?_
    cases r with
    | error e => exact (hX H e s' h).elim
    | ok fl =>
      cases fl with
      | ret u =>
        obtain ⟨v, H', os, bare, un, ok', r', q⟩ := h
        cases (show v = .bl true from q)
        cases (show u = Value.bool true from r')
        refine ⟨rfl, OldK.of_keep fun b o e => ?_, os, bare⟩
        rcases hO b with z | ⟨ob, xs, z⟩
        · exact un.keep b o e z (fun q => (List.not_mem_nil q).elim)
            fun q => (List.not_mem_nil q).elim
        · have e1 := (ok b _ z).1
          have e2 := (ok' b _ (un.frzs b ob _ z)).1
          rw [e2, ← e1, e]
      | _ => exact False.elim h
  cases hk : K.lookup a with
  | some o =>
    cases (KX a o hk).symm.trans ha
    exact main (fun _ => none) (fun _ => .inl rfl)
      (.inr ⟨_, vs.toArray, _, hk, rfl, rfl, rfl,
        by rw [List.size_toArray, hi.length]; exact hl, by simpa using rv⟩)
      (fun b u z => nomatch (show (none : Option HO) = some u from z))
      (fun _ z => (z rfl).elim) fun z => (z rfl).elim
  | none =>
    have at_ : ∀ {o : HO} {b : Addr} {u : HO}, lone a o b = some u → b = a ∧ u = o :=
      fun {o b u} z => by
      by_cases hb : b = a
      · exact ⟨hb, (Option.some.inj ((if_pos hb).symm.trans z)).symm⟩
      · exact nomatch (if_neg hb).symm.trans z
    refine main (lone a (HO.frz { cls := .type "list", data := .seq vs.toArray }
      (.lst (ns.map V.int)))) (fun b => ?_) (.inl (.inr ⟨_, if_pos rfl⟩))
      (fun b u z => ?_) (fun b z => ?_) fun _ => hk
    · by_cases hb : b = a
      · exact .inr ⟨_, _, if_pos hb⟩
      · exact .inl (if_neg hb)
    · obtain ⟨rfl, rfl⟩ := at_ z
      exact ⟨ha, by rw [List.length_map]; exact hl, vs, _, rv, ha⟩
    · exact Classical.byContradiction fun hb => z (if_neg hb)

/-- the row's end, from the law's promise -/
theorem walk_G {l : PySem.W.OpenLaw} {n k : Nat} {q : Program} {loose : List Str}
    {XP : (Str → Option Value) → Heap → Prop} {YP : World → Heap → Prop} {d : DefRec}
    {K : Params → PySem.W.Frag} {sp : PySem.W.Frag → Sp} {x : Str}
    (hn : l.most = some n) (hn2 : n ≤ sizeLine) (hdf : d.params.defaults = [])
    (hr : Room k callerA) (him : importsNone q = true)
    (hY : ∀ (w : World) (h : Heap), YP w h → (K w.params).In h)
    (F : ∀ (w : World) (mg : Str → Option Value) (fa : Addr) (h : Heap),
      (K w.params).In h → h.Ns mainGlobals mg → mg d.name = some (.ref fa) →
      ∃ fd : FuncData, (∀ (s : Shared) (u : Value), BindsTo s fd ⟨[u], []⟩ [(x, u)]) ∧
        ∀ base : Heap, (K w.params).In base → base.Ns mainGlobals mg →
          (∃ m, base.Ns sysModules m) → FnG l.prog w (K w.params) mg base CX0 k fa fd [x] (sp (K w.params)))
    (hsp : ∀ (K : PySem.W.Frag) (H : Hp) (a : Addr) (ns : List Int), ns.length ≤ n →
      Only H → SqL K H a (ns.map V.int) →
      sp K [.ref a] H (fun v _ => v = .bl true) fun _ _ _ => False) :
    PySem.W.WalkO q loose XP YP l.row.toRowW d [] (fun f vs => PySem.call f vs) := by
  refine Att.attach_call hn hdf fun w s₀ s₁ mg mb fa o pm cd doc a vs ns G Y ho hd hcd
    hmg hobj hints hlen hg => ?_
  obtain ⟨fd, hb, hF⟩ := F w mg fa _ (hY w _ Y) G.T.g hmg
  exact law_run (hY w _ Y) G.T.g G.T.b G.T.builtins G.T.nolimit hg hobj hints
    (Nat.le_trans hlen hn2) hr ((G.T.seer him).mods.imp fun _ h => h.1) hF hb (fun H hO hS => hsp _ H a ns hlen hO hS)
    fun _ _ _ z => z
end Yard
set_option maxRecDepth 100000
/-! The yard's own layer, part 2: data that the calls have made, at any depth; what they are shown as. -/
namespace Yard
open PySem PySem.Spec PyProof.Rows L2

mutual
/-- at the value stands the datum; all its parts are tracked -/
inductive Dq (H : Hp) : V → PyData → Prop
  | non : Dq H .non .none
  | bl (b : Bool) : Dq H (.bl b) (.bool b)
  | int (i : Int) : Dq H (.int i) (.int i)
  | str (x : Str) : Dq H (.str x) (.str x)
  | lst {a : Addr} {xs : List V} {ds : List PyData} : H a = some (.lst xs) → DqL H xs ds → Dq H (.ref a) (.list ds)
  | tup {a : Addr} {xs : List V} {ds : List PyData} : H a = some (.tup xs) → DqL H xs ds → Dq H (.ref a) (.tuple ds)
  | dic {a : Addr} : H a = some (.dK []) → Dq H (.ref a) (.dict [])
inductive DqL (H : Hp) : List V → List PyData → Prop
  | nil : DqL H [] []
  | cons {v : V} {vs : List V} {d : PyData} {ds : List PyData} : Dq H v d → DqL H vs ds → DqL H (v :: vs) (d :: ds)
end

mutual
theorem Dq.mono {H H' : Hp} (s : Same H H') : ∀ {v : V} {d : PyData}, Dq H v d → Dq H' v d
  | _, _, .non => .non
  | _, _, .bl b => .bl b
  | _, _, .int i => .int i
  | _, _, .str x => .str x
  | _, _, .lst h t => .lst (s _ _ h) (t.mono s)
  | _, _, .tup h t => .tup (s _ _ h) (t.mono s)
  | _, _, .dic h => .dic (s _ _ h)
theorem DqL.mono {H H' : Hp} (s : Same H H') : ∀ {vs : List V} {ds : List PyData}, DqL H vs ds → DqL H' vs ds
  | _, _, .nil => .nil
  | _, _, .cons h t => .cons (h.mono s) (t.mono s)
end
theorem DqL.len {H : Hp} : ∀ {vs : List V} {ds : List PyData}, DqL H vs ds → vs.length = ds.length
  | _, _, .nil => rfl
  | _, _, .cons _ t => congrArg (· + 1) t.len
theorem DqL.get {H : Hp} : ∀ {vs : List V} {ds : List PyData} {i : Nat} {v : V}, DqL H vs ds → vs[i]? = some v → ∃ d, ds[i]? = some d ∧ Dq H v d
  | _, _, 0, _, .cons h _, e => by cases e; exact ⟨_, rfl, h⟩
  | _, _, i + 1, _, .cons _ t, e => DqL.get (i := i) t e
theorem DqL.take {H : Hp} : ∀ {vs : List V} {ds : List PyData} (n : Nat), DqL H vs ds → DqL H (vs.take n) (ds.take n)
  | _, _, 0, _ => .nil
  | _, _, _ + 1, .nil => .nil
  | _, _, n + 1, .cons h t => .cons h (t.take n)
theorem DqL.drop {H : Hp} : ∀ {vs : List V} {ds : List PyData} (n : Nat), DqL H vs ds → DqL H (vs.drop n) (ds.drop n)
  | _, _, 0, h => h
  | _, _, _ + 1, .nil => .nil
  | _, _, n + 1, .cons _ t => t.drop n
theorem DqL.app {H : Hp} : ∀ {vs ws : List V} {ds es : List PyData}, DqL H vs ds → DqL H ws es → DqL H (vs ++ ws) (ds ++ es)
  | _, _, _, _, .nil, k => k
  | _, _, _, _, .cons h t, k => .cons h (t.app k)
theorem DqL.rev {H : Hp} : ∀ {vs : List V} {ds : List PyData}, DqL H vs ds → DqL H vs.reverse ds.reverse
  | _, _, .nil => .nil
  | _, _, .cons h t => by
    rw [List.reverse_cons, List.reverse_cons]
    exact t.rev.app (.cons h .nil)

section
variable {X : Cx} {pins : List (Addr × Obj)} {σ : L2.St} {H : Hp} {s : Shared}
mutual
theorem Dq.reads (I : Inv X pins σ H s) : ∀ {v : V} {d : PyData} {u : Value}, Dq H v d → RelV v u → ∃ as, Reads s.heap u d as ∧ ∀ b ∈ as, H b ≠ none
  | _, _, _, .non, r => by cases r; exact ⟨_, .none, fun _ h => nomatch h⟩
  | _, _, _, .bl b, r => by cases r; exact ⟨_, .bool b, fun _ h => nomatch h⟩
  | _, _, _, .int i, r => by obtain ⟨t, rfl⟩ := r; exact ⟨_, .int i t, fun _ h => nomatch h⟩
  | _, _, _, .str x, r => by obtain ⟨t, rfl⟩ := r; exact ⟨_, .str x t, fun _ h => nomatch h⟩
  | _, _, _, .lst h t, r => by
    cases r
    obtain ⟨_, its, n, rv, ho⟩ := I.hok _ _ h
    obtain ⟨as, k, q⟩ := DqL.reads I t rv
    refine ⟨_, .list (vs := its.toArray) ho rfl rfl (by simpa using k), fun b hb => ?_⟩
    rcases List.mem_cons.mp hb with z | z
    · rw [z, h]; exact fun y => nomatch y
    · exact q b z
  | _, _, _, .tup h t, r => by
    cases r
    obtain ⟨_, its, rv, o, ho, hc, n, hd⟩ := I.hok _ _ h
    obtain ⟨as, k, q⟩ := DqL.reads I t rv
    exact ⟨_, .tuple ho hc hd (by simpa using k), q⟩
  | _, _, _, .dic h, r => by
    cases r
    obtain ⟨_, _, vs, rv, o, es, ep, ho, hx, hd, _, hp, _⟩ := I.hok _ _ h
    cases rv
    have e0 : es.toList = [] := by
      generalize es.toList = l at hp
      cases hp
      rfl
    refine ⟨_, .dict (kvs := []) ho hx.1 hd (by rw [e0]; exact .nil) (by rw [e0]; exact .nil), fun b hb => ?_⟩
    have hb' : b ∈ [_] := hb
    rw [List.mem_singleton.mp hb', h]; exact fun y => nomatch y
theorem DqL.reads (I : Inv X pins σ H s) : ∀ {vs : List V} {ds : List PyData} {us : List Value}, DqL H vs ds → Vals vs us → ∃ as, ReadsAll s.heap us ds as ∧ ∀ b ∈ as, H b ≠ none
  | _, _, _, .nil, r => by cases r; exact ⟨_, .nil, fun _ h => nomatch h⟩
  | _, _, _, .cons h t, r => by
    cases r with
    | cons r1 r2 =>
      obtain ⟨as, k, q⟩ := Dq.reads I h r1
      obtain ⟨bs, k2, q2⟩ := DqL.reads I t r2
      exact ⟨_, .cons k k2, fun b hb => (List.mem_append.mp hb).elim (q b) (q2 b)⟩
end
end
end Yard
set_option maxRecDepth 100000
/-! The yard's own layer, part 3: str(x), repr(x) of data. -/
namespace Yard
open PySem PySem.Spec PyProof.Rows L2

/-- what str says of a datum -/
def strText : PyData → Str
  | .str x => x
  | d => d.shown

/-- str or repr of a datum, f the text -/
def rShow (f : PyData → Str) : List V → Hp → VK → Prop := fun xs H Q =>
  ∃ v d, xs = [v] ∧ Dq H v d ∧ d.showable = true ∧ d.depth ≤ 64 ∧
    d.shown.length ≤ sizeLine ∧ Q (.str (f d)) H

section
variable {X : Cx} {pins : List (Addr × Obj)} {σ : L2.St} {H : Hp} {s : Shared}
/-- no tracked thing is the table of modules -/
theorem no_sys (I : Inv X pins σ H s) (hs : ∃ m, X.base.Ns sysModules m)
    {as : List Addr} (h : ∀ b ∈ as, H b ≠ none) : sysModules ∉ as := fun hm => by
  obtain ⟨m, o, es, ep, e, _⟩ := hs
  exact h _ hm (I.bs _ _ e).2

theorem call_strQ (hg : X.A.guards = some []) (hs : ∃ m, X.base.Ns sysModules m)
    (hu : X.A.units + 80 < cLine) : CallR X (.type "str") (rShow strText) := by
  intro pins s σ H xs us Q I r h
  obtain ⟨v, d, rfl, hd, sh, dp, sz, q⟩ := h
  obtain ⟨u, rfl, rv⟩ := vals1 r
  have fin : ∀ (h' : Heap) (t : Nat) (x : Str) (tk : Tok), x = strText d →
      (∀ b o, s.heap.get? b = some o → h'.get? b = some o) →
      EP X pins σ Q (.str x tk) { s with heap := h', toks := t } :=
    fun h' t x tk e k => ⟨.str x, H, I.kept (t' := t) k, ⟨_, rfl⟩, by rw [e]; exact q⟩
  obtain ⟨as, rd, ha⟩ := hd.reads I rv
  have ref_ : ∀ a, u = .ref a → strText d = d.shown →
      wpAny (model X.prog X.w) X.A (PySem.call (.type "str") [u]) (EP X pins σ Q) X.xe s := by
    intro a e e2
    subst e
    refine str_of_reads rd sh (fun _ => no_sys I hs ha) hg (by omega)
      (fun _ _ z => z) (fun h' u tk k => fin h' tk _ u e2.symm k) sz
  cases hd with
  | non =>
    cases rv
    exact P.str_of_none (fin s.heap _ _ _ (by simp only [strText, PyData.shown]) fun _ _ z => z)
  | bl b =>
    cases rv
    refine P.str_of_bool (fin s.heap _ _ _ ?_ fun _ _ z => z)
    cases b <;> simp only [strText, PyData.shown] <;> rfl
  | int i =>
    obtain ⟨t, rfl⟩ := rv
    refine P.str_of_int (by simpa [PyData.showable] using sh)
      (fin s.heap _ _ _ ?_ fun _ _ z => z)
    simp only [strText, PyData.shown]
  | str x =>
    obtain ⟨t, rfl⟩ := rv
    exact P.str_of_str (fin s.heap _ _ _ rfl fun _ _ z => z)
  | lst h t => exact ref_ _ rv rfl
  | tup h t => exact ref_ _ rv rfl
  | dic h => exact ref_ _ rv rfl

theorem call_reprQ (hg : X.A.guards = some []) (hs : ∃ m, X.base.Ns sysModules m)
    (hu : X.A.units + 80 < cLine) : CallR X (.builtin "repr") (rShow PyData.shown) := by
  intro pins s σ H xs us Q I r h
  obtain ⟨v, d, rfl, hd, sh, dp, sz, q⟩ := h
  obtain ⟨u, rfl, rv⟩ := vals1 r
  have fin : ∀ (h' : Heap) (t : Nat) (x : Str) (tk : Tok), x = d.shown →
      (∀ b o, s.heap.get? b = some o → h'.get? b = some o) →
      EP X pins σ Q (.str x tk) { s with heap := h', toks := t } :=
    fun h' t x tk e k => ⟨.str x, H, I.kept (t' := t) k, ⟨_, rfl⟩, by rw [e]; exact q⟩
  obtain ⟨as, rd, ha⟩ := hd.reads I rv
  have ref_ : ∀ a, u = .ref a →
      wpAny (model X.prog X.w) X.A (PySem.call (.builtin "repr") [u]) (EP X pins σ Q) X.xe s := by
    intro a e
    subst e
    exact repr_of_reads' rd sh (fun _ => no_sys I hs ha) hg (by omega)
      (fun _ _ z => z) (fun h' u tk k => fin h' tk _ u rfl k) sz
  cases hd with
  | non =>
    cases rv
    exact P.repr_of_none (fin s.heap _ _ _ (by simp only [PyData.shown]) fun _ _ z => z)
  | bl b =>
    cases rv
    refine P.repr_of_bool (fin s.heap _ _ _ ?_ fun _ _ z => z)
    cases b <;> simp only [PyData.shown] <;> rfl
  | int i =>
    obtain ⟨t, rfl⟩ := rv
    refine P.repr_of_int (by simpa [PyData.showable] using sh)
      (fin s.heap _ _ _ ?_ fun _ _ z => z)
    simp only [PyData.shown]
  | str x =>
    obtain ⟨t, rfl⟩ := rv
    refine P.repr_of_str (fin s.heap _ _ _ ?_ fun _ _ z => z)
      (by simpa only [PyData.shown] using sz)
    simp only [PyData.shown]
  | lst h t => exact ref_ _ rv
  | tup h t => exact ref_ _ rv
  | dic h => exact ref_ _ rv
end
end Yard
set_option maxRecDepth 100000
/-! The yard's own layer, part 4: sorted(set(texts)). -/
namespace Yard
open PySem PySem.Spec PyProof.Rows L2 PySem.Froz

/-- a set's payload of texts that can be walked in any way of the world's -/
structure Walky (P : Program) (w : World) (D : SD) (l : List Str) : Prop where
  tx : TxOk P w D l
  ris : Ris D.2.2.place.toList
  led : w.params.followText "set-order" = true ∨ D.2.2.led = true
  nd : l.Nodup

theorem walky_new (P : Program) (w : World) :
    Walky P w (#[], 0, .fresh 0 0 (!w.params.followText "set-order")) [] where
  tx := TxOk.nil rfl
  ris := List.Pairwise.nil
  led := by
    cases h : w.params.followText "set-order"
    · exact .inr rfl
    · exact .inl rfl
  nd := List.nodup_nil

/-- what a new member makes of the table -/
theorem add_table (h : Int) (v : Value) (D : SD) (r : Ris D.2.2.place.toList) :
    Ris (addTx h v D).2.2.place.toList ∧ (addTx h v D).2.2.led = D.2.2.led := by
  obtain ⟨es, ep, t⟩ := D
  have r1 := layNew_ris t es h v r
  have l1 := layNew_led t es h v
  have tail : ∀ (t2 : SetTable) (b : Bool) (es1 : Array (Int × Value)),
      Ris t2.place.toList → t2.led = t.led →
      Ris (tailTx ep es1 t2 b).2.2.place.toList ∧ (tailTx ep es1 t2 b).2.2.led = t.led := by
    intro t2 b es1 a c
    unfold tailTx
    split
    · exact ⟨relayAll_ris _ _ _, (relayAll_led _ _ _).trans c⟩
    · exact ⟨a, c⟩
  unfold addTx
  refine tail _ _ _ ?_ ?_
  · split
    · exact r1
    · exact r1
  · split
    · exact l1
    · exact l1

theorem walky_add {P : Program} {w : World} {D : SD} {l : List Str} {k : Str} (u : Tok)
    (W : Walky P w D l) (hk : k ∉ l) : Walky P w (addTx (hashStr w k) (.str k u) D) (k :: l) where
  tx := add_ok u W.tx
  ris := (add_table _ _ D W.ris).1
  led := W.led.imp id fun h => (add_table _ _ D W.ris).2.trans h
  nd := List.nodup_cons.mpr ⟨hk, W.nd⟩

section
variable {P : Program} {w : World} {A : Around} {E : Value → Shared → Prop} {s : Shared}

/-- s.add(k) of a member that is there -/
theorem add_same {a : Addr} {T : String} {D : SD} {l : List Str} {k : Str} {u : Tok}
    {Q : Bool → Shared → Prop} (ho : s.heap.get? a = some (sObj T D)) (F : TxOk P w D l)
    (hk : k ∈ l) (hb : l.length < scanBound) (h : Q false s) :
    wpAny (model P w) A (setAddHashed a (.str k u) (hashStr w k)) Q E s := by
  obtain ⟨es, ep, t⟩ := D
  have fd : (sObj T (es, ep, t)).data = .set es ep t := rfl
  have key := is_str (P := P) (w := w) k u
  unfold setAddHashed setAddHashedIn
  refine wpAny_holding (wpAny_bind (wpAny_setState_of ho fd F.fit ?_))
  dsimp only
  rw [byScan_of (knd := strKind P w) rfl (by rw [show es.size = _ from F.sz]; exact hb) F.el]
  simp only [↓reduceIte]
  unfold setAddByScan
  refine wpAny_bind (wpAny_bind (wpAny_rule (wpAny_bind
    (wpAny_setScan_of (knd := strKind P w) (k := k) key ho fd F.fit F.el ?_))))
  cases hr : List.findIdx? (fun e => (strKind P w).is k e.2) es.toList with
  | some j => exact wpAny_pure (wpAny_pure h)
  | none =>
    obtain ⟨e, he, q⟩ := (F.mem k).mp hk
    have z := List.findIdx?_eq_none_iff.mp hr e he
    rw [q] at z
    cases z

/-- what stands at a set of texts -/
def TSet (P : Program) (w : World) (h : Heap) (a : Addr) (l : List Str) : Prop :=
  ∃ D, h.get? a = some (sObj "set" D) ∧ Walky P w D l

theorem tset_keep {h h' : Heap} {a : Addr} {l : List Str} (T : TSet P w h a l)
    (k : ∀ o, h.get? a = some o → h'.get? a = some o) : TSet P w h' a l :=
  let ⟨D, e, W⟩ := T; ⟨D, k _ e, W⟩

/-- s.add(k): what is in then -/
theorem add_text {a : Addr} {l : List Str} {k : Str} {u : Tok} {Q : Bool → Shared → Prop}
    (T : TSet P w s.heap a l) (hb : l.length + 1 < scanBound)
    (h : ∀ (b : Bool) (h' : Heap) (l' : List Str), Heap.SameBut a s.heap h' → TSet P w h' a l' →
      l'.length ≤ l.length + 1 → (∀ x, x ∈ l' ↔ x = k ∨ x ∈ l) → Q b { s with heap := h' }) :
    wpAny (model P w) A (setAddHashed a (.str k u) (hashStr w k)) Q E s := by
  obtain ⟨D, ho, W⟩ := T
  by_cases hk : k ∈ l
  · refine add_same ho W.tx hk (by omega) ?_
    exact h false s.heap l (Heap.SameBut.refl a s.heap) ⟨D, ho, W⟩ (Nat.le_succ _) fun x =>
      ⟨.inr, fun z => z.elim (fun e => e ▸ hk) id⟩
  · refine add_x ho W.tx hk hb ?_
    exact h true _ (k :: l) (Heap.SameBut.update s.heap a _) ⟨_, get_upd _ ho rfl, walky_add u W hk⟩
      (Nat.le_refl _) fun x => List.mem_cons

/-- the loop of set(..): all texts of a walk -/
theorem fill_texts {I : Addr} {fp wr : List Addr} {G : Array GenState → Array GenState → Prop}
    {n : Nat} {Pv : Nat → Value → Prop} {St : Nat → Shared → Prop} {R : Result → Shared → Prop}
    (W : WalksS P w A.in1 I fp wr G n Pv St) (S : Addr) (apart : S ∉ fp) (xs : List Str)
    (hn : n = xs.length) (small : xs.length + 1 < scanBound)
    (val : ∀ i v, Pv i v → ∃ x t, xs[i]? = some x ∧ v = .str x t)
    (fin : ∀ s0 s' l, Moved (S :: wr) G s0 s' → TSet P w s'.heap S l → l.length ≤ n →
      (∀ x, x ∈ l ↔ x ∈ xs) → s0 = s → R (.ok (.ret .none)) s') :
    ∀ (k i : Nat) (s1 : Shared), n - i = k → i ≤ n → St i s1 →
      (i = 0 ∧ s1 = s ∨ Moved (S :: wr) G s s1) →
      (∃ l, TSet P w s1.heap S l ∧ l.length ≤ i ∧ ∀ x, x ∈ l ↔ x ∈ xs.take i) →
      codeAny (model P w) A (.builtin "set.update.loop" ⟨[.ref S, .ref I], []⟩) R s1 := by
  have offW : S ∉ wr := fun z => apart (W.sub _ z)
  have wide : ∀ b ∈ wr, b ∈ S :: wr := fun b hb => List.mem_cons_of_mem _ hb
  have on : ∀ {s1 s2 : Shared} {i : Nat}, (i = 0 ∧ s1 = s ∨ Moved (S :: wr) G s s1) →
      Moved (S :: wr) G s1 s2 → Moved (S :: wr) G s s2 := fun {s1 s2 i} a b => by
    rcases a with ⟨_, e⟩ | a
    · rw [← e]; exact b
    · exact Moved.trans W.gtrans a b
  intro k
  induction k with
  | zero =>
    intro i s1 hk hi hst way ⟨l, hT, hl, hm⟩
    obtain rfl : i = n := by omega
    refine codeAny_builtin F.entry_set_update_loop ?_
    rw [Around.under_plainId F.plain_set_update_loop _]
    show wpAny _ A.in1 (pyNext (.ref I) >>= _) _ _ s1
    refine wpAny_bind (W.done s1 _ _ hst fun s' mv => ?_)
    have e : xs.take i = xs := List.take_of_length_le (by omega)
    rw [e] at hm
    exact wpAny_pure (fin s s' l (on way (mv.mono wide))
      (tset_keep hT fun o q => mv.heap S o offW q) hl hm rfl)
  | succ k ih =>
    intro i s1 hk hi hst way ⟨l, hT, hl, hm⟩
    have lt : i < n := by omega
    refine codeAny_builtin F.entry_set_update_loop ?_
    rw [Around.under_plainId F.plain_set_update_loop _]
    show wpAny _ A.in1 (pyNext (.ref I) >>= _) _ _ s1
    refine wpAny_bind (W.item i s1 _ _ lt hst fun v s' hP st2 mv => ?_)
    obtain ⟨x, t, hx, rfl⟩ := val i v hP
    show wpAny _ A.in1 (holding [Value.str x t] (setAdd S (.str x t)) >>= _) _ _ s'
    refine wpAny_bind (wpAny_holding ?_)
    unfold setAdd
    refine wpAny_holding (wpAny_bind ((strKind P w).pyHash (is_str x t) ?_))
    refine add_text (s := { s' with toks := s'.toks + 1 })
      (tset_keep hT fun o q => mv.heap S o offW q) (by omega) fun b h' l' sb hT' hl' hm' => ?_
    have here : ∀ b o, b ∉ S :: wr → s'.heap.get? b = some o → h'.get? b = some o :=
      fun b o nb e => (sb.2 b fun z => nb (by rw [z]; exact List.mem_cons_self)).trans e
    refine wpAny_pure ⟨plainId_quiet F.plain_set_update_loop _, ?_⟩
    refine ih (i + 1) _ (by omega) lt (W.frame _ s' _ _ st2 (Nat.le_succ _) fun b hb o e => ?_)
      (.inr (on way ((mv.mono wide).then_heap (Nat.le_succ _) fun b o nb e => here b o nb e)))
      ⟨l', hT', by omega, fun y => ?_⟩
    · exact (sb.2 b fun z => apart (by rw [← z]; exact hb)).trans e
    · rw [hm', List.take_add_one, hx, List.mem_append, hm]
      simp only [Option.toList_some, List.mem_singleton]
      exact or_comm
end
end Yard
set_option maxRecDepth 100000
namespace Yard
open PySem PySem.Spec PyProof.Rows L2 PySem.Froz

/-- the object that set(..) begins with -/
abbrev set0 (w : World) : Obj :=
  { cls := .type "set", dict := none, data := .set #[] 0 (.fresh 0 0 (!w.params.followText "set-order")) }

/-- how the set stands behind set(xs) -/
structure SetMade (P : Program) (w : World) (s s2 : Shared) (xs : List Str) : Prop where
  ex : ∃ h' tk m, s2 = { s with heap := h', toks := tk } ∧
    TSet P w h' s.heap.objs.size m ∧ m.length ≤ xs.length ∧ (∀ x, x ∈ m ↔ x ∈ xs) ∧
    ∀ b o, s.heap.get? b = some o → h'.get? b = some o

section
variable {P : Program} {w : World} {A : Around} {E : Value → Shared → Prop} {s : Shared}

set_option maxHeartbeats 3200000 in
/-- set(xs) of a list of texts -/
theorem call_set_texts {l : Addr} {items : Array Value} {xs : List Str} {Q : Value → Shared → Prop}
    (calm : A.handled = none) (hl : s.heap.IsList l items) (hit : StrsAre items.toList xs)
    (small : xs.length + 1 < scanBound)
    (hQ : ∀ s2, SetMade P w s s2 xs → Q (.ref s.heap.objs.size) s2) :
    wpAny (model P w) A (call (.type "set") [.ref l]) Q E s := by
  have len : items.size = xs.length := by
    have q := hit.length
    rwa [Array.length_toList] at q
  obtain ⟨_, _, mro⟩ := F.called_set.mro
  have a1 := F.called_set.made
  have a2 := F.called_set.sub
  have a3 := F.called_set.notType
  have a4 := F.called_set.canCreate
  have a5 := F.typeCall_set_1 (.ref l)
  refine wpAny_call (codeAny_of_tree ?_)
  show wpAny _ _ (callAny (.type "set") _) _ _ _
  refine wpAny_pure ⟨Code.quiet_builtin _ (by decide +kernel), ?_⟩
  refine codeAny_builtin F.entry_type_call ?_
  rw [Around.under_plain (weight_type_call_type "set" [.ref l] []) rfl]
  repeat (any_goals (first | assumption | wp_step))
  refine codeAny_mono (L2.code_set_led1 (.ref l) (E := E)
    (Q₁ := fun o s1 => o = .ref s.heap.objs.size ∧ s1 = { s with heap := s.heap.push (set0 w) })
    ⟨rfl, rfl⟩) fun r s1 hr => ?_
  match r, hr with
  | .error e, hr => exact hr
  | .ok (.ret _), hr =>
    obtain ⟨rfl, rfl⟩ := hr
    have new : (s.heap.push (set0 w)).get? s.heap.objs.size = some (set0 w) :=
      Heap.get?_push_size _ rfl
    have isSet : Shared.TypeIs { s with heap := s.heap.push (set0 w) }
      (.ref s.heap.objs.size) "set" := ⟨_, new, rfl⟩
    have b1 := F.called_set.init.lookup
    have b2 := F.called_set.init.bind (.ref s.heap.objs.size)
    repeat (any_goals (first | assumption | wp_step))
    refine codeAny_mono (codeAny_call_builtin
      (R := wants (fun r s2 => r = .none ∧ SetMade P w s s2 xs) E) F.called_set.init.plain
      F.entry_set_init (check_set_init_1 isSet ?_)) fun r2 s2 hr2 => ?_
    · obtain ⟨⟨c, od, da, sl⟩, ol, e1, nl, e2⟩ := id hl
      simp only at e1 e2
      subst e1 e2
      have ol2 : (s.heap.push (set0 w)).get? l = some ⟨.type "list", od, .seq items nl, sl⟩ :=
        Heap.get?_push_of_some _ ol
      have isl : (s.heap.push (set0 w)).IsList l items := ⟨_, ol2, rfl, nl, rfl⟩
      have q1 := F.sub_list_set
      have q2 := F.sub_list_frozenset
      have q3 : (Value.type "list" == Value.type "dict") = false := by decide
      unfold Builtin.«set.__init__» noKeywords Builtin.Frozenset.updateFrom
      generalize hPI : pyIter = PI
      wp_walk
      subst hPI
      refine wpAny_pyIter_list isl (wpAny_bind (wpAny_runValue ?_))
      have lS : l < s.heap.objs.size := Heap.lt_size ol
      have z1 : (s.heap.push (set0 w)).objs.size = s.heap.objs.size + 1 := Heap.size_push ..
      have lI : l ≠ (s.heap.push (set0 w)).objs.size := by
        rw [z1]; exact Nat.ne_of_lt (Nat.lt_succ_of_lt lS)
      have apart : s.heap.objs.size ∉ [(s.heap.push (set0 w)).objs.size, l] := by
        rw [z1]
        intro z
        rcases List.mem_cons.mp z with z | z
        · exact Nat.ne_of_lt (Nat.lt_succ_self _) z
        · exact Nat.ne_of_gt lS (List.mem_singleton.mp z)
      have val : ∀ (i : Nat) (v : Value), items[i]? = some v →
          ∃ x t, xs[i]? = some x ∧ v = .str x t := fun i v hv => by
        have hi : i < xs.length := by rw [← len]; exact (Array.getElem?_eq_some_iff.mp hv).1
        obtain ⟨t, e⟩ := SS.strs_at hit i v (by rw [Array.getElem?_toList]; exact hv)
        refine ⟨xs[i], t, List.getElem?_eq_getElem hi, ?_⟩
        rw [e, List.getD_eq_getElem?_getD, List.getElem?_eq_getElem hi] <;> rfl
      refine fill_texts (P := P) (w := w) ((Walks.list (by simp [calm]) _ l lI items).toS)
        s.heap.objs.size apart xs len small val ?fin (items.size - 0) 0 _ (by omega)
        (Nat.zero_le _) ⟨⟨_, Heap.get?_push_size _ rfl, rfl, rfl⟩, isl.push _⟩ (.inl ⟨rfl, rfl⟩)
        ⟨[], ⟨(#[], 0, .fresh 0 0 (!w.params.followText "set-order")),
          Heap.get?_push_of_some _ new, walky_new P w⟩, Nat.le_refl _, fun x => by simp⟩
      intro s0 s' m mv hT hm hx e0
      subst e0
      obtain ⟨h', g2, d2, t2, o2⟩ := s'
      obtain rfl : g2 = s.gens := mv.gens
      obtain rfl : d2 = s.drawn := mv.drawn
      obtain rfl : o2 = s.os := mv.os
      show wpAny _ _ _ _ _ _
      refine wpAny_pure ?_
      show wpAny _ _ (ret Value.none) _ _ _
      refine wpAny_pure ⟨rfl, h', t2, m, rfl, hT, by rw [← len]; exact hm, hx, fun b o e => ?_⟩
      have b0 : b < s.heap.objs.size := Heap.lt_size e
      refine mv.heap b o (fun z => ?_) (Heap.get?_push_of_some _ (Heap.get?_push_of_some _ e))
      rcases List.mem_cons.mp z with z | z
      · exact Nat.ne_of_lt b0 z
      · have z' := List.mem_singleton.mp z
        rw [z1] at z'
        exact Nat.ne_of_lt (Nat.lt_succ_of_lt b0) z'
    · match r2, hr2 with
      | .error e, hr2 => exact hr2
      | .ok (.ret _), hr2 =>
        obtain ⟨rfl, M⟩ := hr2
        obtain ⟨h', tk, m, rfl, k⟩ := id M.ex
        repeat (any_goals (first | assumption | wp_step))
        exact hQ _ M
      | .ok .next, hr2 => exact hr2.elim
      | .ok .brk, hr2 => exact hr2.elim
      | .ok .cont, hr2 => exact hr2.elim
  | .ok .next, hr => exact hr.elim
  | .ok .brk, hr => exact hr.elim
  | .ok .cont, hr => exact hr.elim
end
end Yard
set_option maxRecDepth 100000
set_option maxHeartbeats 4000000
namespace Yard
open PySem PySem.Spec PyProof.Rows L2 PySem.Froz
section
variable {P : Program} {w : World} {A : Around} {E : Value → Shared → Prop} {s : Shared}

theorem perm_of_sub {α : Type} [BEq α] [LawfulBEq α] : ∀ (l m : List α), l.Nodup →
    (∀ x ∈ l, x ∈ m) → m.length ≤ l.length → m.Perm l
  | [], m, _, _, h => by
    have : m = [] := List.eq_nil_of_length_eq_zero (by simpa using h)
    rw [this]
  | x :: l, m, nd, sub, h => by
    obtain ⟨n1, n2⟩ := List.nodup_cons.mp nd
    have hx : x ∈ m := sub x List.mem_cons_self
    have len := List.length_erase_of_mem hx
    have h' : m.length ≤ l.length + 1 := h
    refine (List.perm_cons_erase hx).trans (List.Perm.cons x (perm_of_sub l (m.erase x) n2 (fun y hy => ?_) ?_))
    · have ne : y ≠ x := fun e => n1 (e ▸ hy)
      exact (List.mem_erase_of_ne ne).mpr (sub y (List.mem_cons_of_mem _ hy))
    · rw [len]; omega

/-- members of a payload are texts, and they are just the listed ones -/
theorem walky_texts {D : SD} {l : List Str} (W : Walky P w D l) (vs : List Value)
    (pm : vs.Perm (D.1.toList.map (·.2))) : ∃ ys, StrsAre vs ys ∧ ys.Perm l := by
  have tx : ∀ v ∈ vs, ∃ x t, v = Value.str x t := fun v hv => by
    obtain ⟨e, he, q⟩ := List.mem_map.mp (pm.mem_iff.mp hv)
    obtain ⟨⟨k, hk, _⟩, _⟩ := W.tx.el e he
    obtain ⟨t, z⟩ := Value.isStrOf_shape (x := k) (v := e.2) hk
    exact ⟨k, t, q.symm.trans z⟩
  have sa := strsAre_map vs tx
  refine ⟨_, sa, ?_⟩
  have cnt : (vs.map strOf).length = l.length := by
    rw [List.length_map, pm.length_eq, List.length_map, Array.length_toList]
    exact W.tx.sz
  have sub : ∀ x ∈ l, x ∈ vs.map strOf := fun x hx => by
    obtain ⟨e, he, q⟩ := (W.tx.mem x).mp hx
    obtain ⟨t, z⟩ := Value.isStrOf_shape (x := x) (v := e.2) q
    exact List.mem_map.mpr ⟨e.2, pm.mem_iff.mpr (List.mem_map.mpr ⟨e, he, rfl⟩), by rw [z]; rfl⟩
  exact perm_of_sub l _ W.nd sub (Nat.le_of_eq cnt)

/-- sorted(s), s a set of fewer than 64 texts -/
theorem sorted_texts {a : Addr} {l : List Str} {Q : Value → Shared → Prop} (T : TSet P w s.heap a l)
    (calm : A.handled = none) (few : l.length < 64)
    (hQ : ∀ s' p (out : Array Value) (c : Nat) (ys : List Str),
      (∀ b o, s.heap.get? b = some o → s'.heap.get? b = some o) → s'.gens = s.gens →
      s'.os = s.os → s.heap.objs.size ≤ p → s'.heap.get? p = some (seqObj "list" out c) →
      StrsAre out.toList ys → ys.Perm l → sortedS ys = true → Q (.ref p) s') :
    wpAny (model P w) A (call (.builtin "sorted") [.ref a]) Q E s := by
  obtain ⟨D, ho, W⟩ := T
  have sz : D.1.size = l.length := W.tx.sz
  refine Calls.call_function_entry kind_sorted plain_sorted entry_sorted (args_sorted1 _) ?_
  unfold Builtin.«sorted»
  refine wpAny_bind (m := checkCount "sorted" 1 1 _) (wpAny_pure ?_)
  refine wpAny_bind (collect_set (es := D.1) (ep := D.2.1) (t := D.2.2) (A := A.in1) calm
    ⟨_, ho, rfl, rfl⟩ W.tx.fit (by unfold scanBound; omega) W.ris W.led
    fun s1 vs k1 hz g1 o1 pm => ?_)
  obtain ⟨ys, sa, py⟩ := walky_texts W vs pm
  have n : vs.length = l.length := by rw [sa.length, py.length_eq]
  refine wpAny_bind (wpAny_newList ?_ (by rw [n, sizeLine_eq]; omega))
  have new : (s1.heap.push (seqObj "list" vs.toArray 0)).get? s1.heap.objs.size =
    some (seqObj "list" vs.toArray 0) := Heap.get?_push_size _ rfl
  refine wpAny_bind (wpAny_holding (wpAny_call_entry slot_list_sort ⟨_, new, rfl⟩ entry_list_sort
    (list_sort_treeK (κ := PyProof.Rows.strKind) strKind_oneLt new sa.keysOf
      (fun _ _ _ e => keyKind_strs (by rw [← e]; exact sa)) (by rw [n]; exact few)
      fun st hp hs => ⟨_, rfl, ?_⟩) (args_list_sort _)))
  obtain ⟨zs, b1, b2, b3⟩ := sorted_out_str sa hp hs
  generalize (arrOf st).map (·.2) = out at b1
  obtain ⟨c, hc⟩ := sortedHeap_at (vs := vs) (out := out) new
  refine wpAny_pure ⟨_, rfl, hQ _ s1.heap.objs.size out c zs (fun b u e => ?_) g1 o1 hz hc b1
    (b2.trans py) b3⟩
  have lt := Heap.lt_size (k1 b u e)
  refine (sortedHeap_old (Nat.ne_of_lt lt) ?_).trans (Heap.get?_push_of_some _ (k1 b u e))
  rw [size_push']
  exact Nat.lt_succ_of_lt lt
end

/-- the set of texts at a, in the layer's heap -/
def TxO (P : Program) (w : World) (a : Addr) (l : List Str) : HO := .ext fun h => TSet P w h a l
theorem txO_ok {P : Program} {w : World} {H : Hp} {h : Heap} {a : Addr} {l : List Str}
    (T : TSet P w h a l) : ObjOk P w H h a (TxO P w a l) :=
  ⟨T, T.elim fun _ q => ⟨_, q.1⟩, fun _ _ p k => tset_keep p k⟩

section
variable {X : Cx}
def rSetTx (K : PySem.W.Frag) (P : Program) (w : World) : List V → Hp → VK → Prop := fun xs H Q =>
  ∃ (l : Addr) (ts : List Str), xs = [.ref l] ∧ SqL K H l (ts.map V.str) ∧ ts.length ≤ 1000 ∧
    ∀ a m, H a = none → m.length ≤ ts.length → (∀ x, x ∈ m ↔ x ∈ ts) →
      Q (.ref a) (upd H a (TxO P w a m))
theorem cr_setTx (hc : X.calm = true) : CallR X (.type "set") (rSetTx X.K X.prog X.w) := by
  intro pins s σ H xs us Q I r h
  obtain ⟨l, ts, rfl, hl, few, q⟩ := h
  rw [Vals.ref1 r]
  obtain ⟨its, rv, pl, hz⟩ := I.list hl
  refine call_set_texts (P := X.prog) (w := X.w) (I.ok.hd hc) pl.isList (by simpa using rv.strs)
    (by unfold scanBound; omega) fun s2 M => ?_
  obtain ⟨h', tk, m, rfl, T, n, mem, k⟩ := M.ex
  exact ⟨.ref s.heap.objs.size, _, I.laid (t' := tk) k (Nat.le_refl _) (txO_ok T), rfl,
    q _ m (I.hok.fresh (Nat.le_refl _)) n mem⟩
def rSortedTx (P : Program) (w : World) : List V → Hp → VK → Prop := fun xs H Q =>
  ∃ (a : Addr) (m : List Str), xs = [.ref a] ∧ H a = some (TxO P w a m) ∧ m.length < 64 ∧
    ∀ ys p, ys.Perm m → sortedS ys = true → H p = none → Q (.ref p) (upd H p (.lst (ys.map V.str)))
theorem cr_sortedTx (hc : X.calm = true) : CallR X (.builtin "sorted") (rSortedTx X.prog X.w) := by
  intro pins s σ H xs us Q I r h
  obtain ⟨a, m, rfl, ha, few, q⟩ := h
  have T : TSet X.prog X.w s.heap a m := (I.hok a _ ha).1
  rw [Vals.ref1 r]
  refine sorted_texts T (I.ok.hd hc) few fun s' p out c ys k g o hp hg sa pm so => ?_
  have fr : H p = none := I.hok.fresh hp
  have ln : (ys.map V.str).length ≤ sizeLine := by
    rw [List.length_map, pm.length_eq, sizeLine_eq]; omega
  have J : Inv X pins σ (upd H p (.lst (ys.map V.str)))
      { s with heap := s'.heap, gens := s'.gens, drawn := s'.drawn, toks := s'.toks } :=
    I.call (ch := []) (Un.laid k hp fr)
      (I.hok.laid k hp ⟨ln, out.toList, c, vals_of_strs sa, hg⟩) (by rw [g]; exact I.bare)
      fun _ z => nomatch z
  have same : s' = { s with heap := s'.heap, gens := s'.gens, drawn := s'.drawn, toks := s'.toks } := by
    cases s'; cases s; cases o; rfl
  rw [same]
  exact ⟨.ref p, _, J, rfl, q ys p pm so fr⟩
end
end Yard
set_option maxRecDepth 100000
set_option maxHeartbeats 2000000
/-! The yard's own layer, part 5: powers of great numbers, texts and tuples turned round, a tuple held against (). -/
namespace Yard
open PySem PySem.Spec PyProof.Rows L2

/-! ### i ** j, of any size that fits -/
def CPowW (i j : Int) : Prop := 0 ≤ j ∧ ∃ b : Nat, i.natAbs < 2 ^ b ∧ 0 < b ∧ (b : Int) * j ≤ 2 ^ 27
theorem bits_le {i : Int} {b : Nat} (h : i.natAbs < 2 ^ b) (h0 : 0 < b) : Builtin.Int.intBits i ≤ b := by
  have h1 := PySem.Flt.log2_lt_of h0 h
  unfold Builtin.Int.intBits
  split <;> omega
theorem op_powW {X : Cx} : OpR X (binaryOp .Pow) (rI CPowW fun i j => .int (i ^ j.toNat)) :=
  opI fun i j _ _ _ _ _ hc q => by
    obtain ⟨h0, b, h1, h2, h3⟩ := hc
    refine pow_int h0 (Int.le_trans (Int.mul_le_mul_of_nonneg_right ?_ h0) h3) q
    exact Int.ofNat_le.mpr (bits_le h1 h2)

/-! ### s[::-1], t[::-1] -/
/-- the slice of all, backwards -/
abbrev backE (e : Expr) (k : Nat) (p1 p2 p3 pos : Pos) : Expr :=
  .Subscript e (.Slice none none (some (.UnaryOp .USub (.Constant (.int 1) k p1) p2)) p3) pos
def tBackS (te : TE) : TE := fun σ H Q => te σ H fun x H1 => ∃ z : Str, x = .str z ∧ z.length ≤ sizeLine ∧
  ∀ y : Str, y.length ≤ z.length → (∀ c ∈ y.cps.toList, c ∈ z.cps.toList) → Q (.str y) H1
def tBackT (K : PySem.W.Frag) (te : TE) : TE := fun σ H Q => te σ H fun x H1 => ∃ a xs, x = .ref a ∧
  SqT K H1 a xs ∧ ∀ p, H1 p = none → Q (.ref p) (upd H1 p (.tup xs.reverse))

theorem picked_le {α : Type} (f : Nat → Option α) : ∀ l : List Nat, (l.filterMap f).length ≤ l.length
  | [] => Nat.le_refl _
  | x :: l => by
    have h := picked_le f l
    cases e : f x <;> simp [e] <;> omega

section
variable {X : Cx} {e : Expr} {te : TE} {k : Nat} {p1 p2 p3 pos : Pos}
/-- behind the value, the slice's object -/
theorem back_of {R : V → Hp → VK → Prop} (he : PE X e te)
    (step : ∀ (pins : List (Addr × Obj)) (σ : L2.St) (H : Hp) (Q : VK) (s : Shared) (v : Value) (x : V) (vl vu vs : Value),
      Inv X pins σ H { s with heap := s.heap.push { cls := .type "slice", data := .fields #[vl, vu, vs] } } →
      RelV x v → IsPart vl none → IsPart vu none → IsPart vs (some (-1)) → R x H Q →
      ∃ T id, (∃ name, True ∧ name = ()) ∧ ({ s with heap := s.heap.push { cls := .type "slice", data := .fields #[vl, vu, vs] } } : Shared).TypeIs v T ∧
        Slot T "__getitem__" id ∧
        wpAny (model X.prog X.w) X.A (getItem v (.ref s.heap.objs.size)) (EP X pins σ Q) X.xe
          { s with heap := s.heap.push { cls := .type "slice", data := .fields #[vl, vu, vs] } }) :
    PE X (backE e k p1 p2 p3 pos) (fun σ H Q => te σ H fun x H1 => R x H1 Q) := by
  refine ⟨fun pins s σ H Q I h => Subscript_ (thn (he.run pins s σ H _ I h) fun v s1 ⟨x, H1, I1, r1, q1⟩ => ?_)⟩
  have neg1 : PO X (some (.UnaryOp .USub (.Constant (.int 1) k p1) p2))
    (tPart (tUn (rU fun i => .int (-i)) (tC (.int 1)))) := po_some (pe_un un_neg pe_int)
  refine wpAny_Slice (thn (po_none.run pins s1 σ H1 (fun o H' => o = none ∧ H' = H1) I1 ⟨rfl, rfl⟩)
    fun vl s2 ⟨_, _, I2, pl, el, e2⟩ => ?_)
  subst el e2
  refine thn (po_none.run pins s2 σ _ (fun o H' => o = none ∧ H' = _) I2 ⟨rfl, rfl⟩)
    fun vu s3 ⟨_, _, I3, pu, eu, e3⟩ => ?_
  subst eu e3
  refine thn (neg1.run pins s3 σ _ (fun o H' => o = some (-1) ∧ H' = _) I3 ⟨1, rfl, -1, rfl, rfl, rfl⟩)
    fun vs s4 ⟨_, _, I4, ps, eo, e4⟩ => ?_
  subst eo e4
  have J := I4.kept (t' := s4.toks) (h' := s4.heap.push { cls := .type "slice", data := .fields #[vl, vu, vs] })
    fun b o q => Heap.get?_push_of_some _ q
  obtain ⟨T, id, _, ht, sl, g⟩ := step pins σ _ Q s4 v x vl vu vs J r1 pl pu ps q1
  show wpAny (model X.prog X.w) X.A (subscriptTail e _ v (.ref s4.heap.objs.size)) _ _
    { s4 with heap := s4.heap.push { cls := .type "slice", data := .fields #[vl, vu, vs] } }
  exact tail_any (ops := [v, .ref s4.heap.objs.size]) ht sl.lookup g (by with_unfolding_all rfl)
end
end Yard
namespace Yard
open PySem PySem.Spec PyProof.Rows L2
section
variable {X : Cx} {e : Expr} {te : TE} {k : Nat} {p1 p2 p3 pos : Pos}
theorem strIdx_le (n : Nat) : (Builtin.Str.strSliceIndices none none (-1) n).length ≤ n := by
  show (sliceRange ((n : Int) - 1) (-1) (-1)).length ≤ n
  rw [PySem.W.krv_sliceRange, List.length_map, List.length_range]
  exact Nat.le_refl _
/-- s[::-1]: some text of its signs, no longer -/
theorem pe_revS (he : PE X e te) : PE X (backE e k p1 p2 p3 pos) (tBackS te) := by
  refine back_of (R := fun x H Q => ∃ z : Str, x = .str z ∧ z.length ≤ sizeLine ∧
    ∀ y : Str, y.length ≤ z.length → (∀ c ∈ y.cps.toList, c ∈ z.cps.toList) → Q (.str y) H) he ?_
  intro pins σ H Q s v x vl vu vs J rx pl pu ps h
  obtain ⟨z, rfl, hz, q⟩ := h
  obtain ⟨t, rfl⟩ := rx
  obtain ⟨l, rfl, hl⟩ := IsPart.raw pl
  obtain ⟨u, rfl, hu⟩ := IsPart.raw pu
  obtain ⟨m, rfl, hm⟩ := IsPart.raw ps
  obtain rfl : l = none := by cases l <;> first | rfl | cases hl
  obtain rfl : u = none := by cases u <;> first | rfl | cases hu
  obtain ⟨tk, rfl⟩ : ∃ tk, m = some (-1, tk) := by
    match m, hm with
    | some (i, tk), hm =>
      have e : i = -1 := Option.some.inj hm
      exact ⟨tk, by rw [e]⟩
  refine ⟨"str", _, ⟨(), trivial, rfl⟩, typeIs_str _ _ _, F.slot_str_getitem, ?_⟩
  refine wpAny_getItem_str_slice (l := none) (u := none) (st := some (-1, tk))
    ⟨_, Heap.get?_push_size _ rfl, rfl, rfl⟩ (by show ((-1 : Int) == 0) = false; decide) ?_
  have pick : ∀ l : List Nat, ∀ c ∈ l.filterMap (z.cps[·]?), c ∈ z.cps.toList := fun l c hc => by
    obtain ⟨i, _, hi⟩ := List.mem_filterMap.mp hc
    exact Array.mem_toList_iff.mpr (Array.mem_of_getElem? hi)
  have len : ((⟨((Builtin.Str.strSliceIndices none none (-1) z.length).filterMap (z.cps[·]?)).toArray⟩ : Str)).length ≤ z.length := by
    show (List.toArray _).size ≤ _
    rw [List.size_toArray]
    exact Nat.le_trans (picked_le _ _) (strIdx_le _)
  show Made.post (if ((-1 : Int) == 1 && (Builtin.Str.strSliceIndices none none (-1) z.length).length == z.length) = true then Made.val (.str z t)
    else Made.str ⟨((Builtin.Str.strSliceIndices none none (-1) z.length).filterMap (z.cps[·]?)).toArray⟩) _ _
  rw [if_neg (by simp)]
  exact ⟨Nat.le_trans len hz, .str _, H, J.tok _, ⟨_, rfl⟩, q _ len (fun c hc => pick _ c (by simpa using hc))⟩
end
end Yard

namespace Yard
open PySem PySem.Spec PyProof.Rows L2
theorem adjust_back (n : Nat) : Builtin.Slice.sliceAdjust none none (-1) (n : Int) = ((n : Int) - 1, -1) := by
  unfold Builtin.Slice.sliceAdjust
  simp
theorem places_back (n : Nat) : Builtin.Slice.slicePlaces ((n : Int) - 1) (-1) (-1) = n := by
  unfold Builtin.Slice.slicePlaces
  rw [if_neg (by decide)]
  split
  all_goals first | omega | (simp; done) | (simp; omega)
theorem congr_filterMap {α β : Type} {f g : α → Option β} : ∀ {l : List α}, (∀ x ∈ l, f x = g x) →
    l.filterMap f = l.filterMap g
  | [], _ => rfl
  | x :: l, h => by
    rw [List.filterMap_cons, List.filterMap_cons, h x List.mem_cons_self,
      congr_filterMap fun y hy => h y (List.mem_cons_of_mem _ hy)]
theorem pick_back (xs : Array Value) : ((List.range xs.size).filterMap fun (m : Nat) =>
    xs[(((xs.size : Int) - 1) + (m : Int) * (-1)).toNat]?).toArray = xs.toList.reverse.toArray := by
  have e : ∀ m ∈ List.range xs.size, xs[(((xs.size : Int) - 1) + (m : Int) * (-1)).toNat]? =
      xs.toList.reverse[m]? := fun m hm => by
    have hm' := List.mem_range.mp hm
    have q : (((xs.size : Int) - 1) + (m : Int) * (-1)).toNat = xs.size - 1 - m := by omega
    rw [q, List.getElem?_reverse (by simpa using hm'), ← Array.getElem?_toList]
    simp
  rw [congr_filterMap e]
  have z := PySem.W.krv_all xs.toList.reverse.toArray
  have n : xs.toList.reverse.toArray.size = xs.size := by simp
  rw [n] at z
  have z2 : ((List.range xs.size).filterMap fun m => xs.toList.reverse[m]?) = xs.toList.reverse := by
    simpa using z
  rw [z2]
section
variable {P : Program} {w : World} {A : Around} {E : Value → Shared → Prop} {s : Shared}
/-- t[::-1] -/
theorem getItem_back {t sl : Addr} {items : Array Value} {vl vu vs : Value} {Q : Value → Shared → Prop}
    (ht : IsTup s.heap t items) (hs : s.heap.IsSliceOf sl vl vu vs) (pl : IsPart vl none)
    (pu : IsPart vu none) (ps : IsPart vs (some (-1))) (hz : items.size ≤ sizeLine)
    (h : Q (.ref s.heap.objs.size) { s with heap := (s.heap.push
      ({ cls := .type "tuple", data := .seq items.toList.reverse.toArray } : Obj)) }) :
    wpAny (model P w) A (getItem (.ref t) (.ref sl)) Q E s := by
  have small : sizeOk (.seq items.toList.reverse.toArray) := by
    show items.toList.reverse.toArray.size ≤ sizeLine
    simpa using hz
  obtain ⟨so, at_, sc, sd⟩ := id hs
  have isSl : s.TypeIs (.ref sl) "slice" := ⟨so, at_, sc⟩
  unfold getItem
  try with_reducible refine wpAny_holding ?_
  try refine wpAny_bind (wpAny_pure ?_)
  refine wpAny_bind (wpAny_sequenceKey ht.typeIs (by decide) ?_)
  refine wpAny_bind (wpAny_callSpecial?_slot (name := Str.ofString "__getitem__") ht.typeIs
    PyProof.Rows.slot_tuple_getitem (wpAny_call_entry PyProof.Rows.slot_tuple_getitem ht.typeIs
      entry_tuple_getitem ?_ (args_tuple_getitem _ _)))
  show wpAny _ _ (Builtin.Tuple.tupleItemsOf (.ref t) >>= _) _ _ s
  refine wpAny_bind (PyProof.Rows.tupleItemsOf_ ht (wpAny_bind (wpAny_typeOf isSl ?_)))
  rw [if_pos (by decide)]
  have applied : ∀ {R : Int × Int × Nat → Shared → Prop}, R ((items.size : Int) - 1, -1, items.size) s →
      wpAny (model P w) A.in1 (Builtin.Slice.sliceApplied (.ref sl) (pure (items.size : Int))) R
        (fun e s' => E e s') s := by
    intro R hR
    unfold Builtin.Slice.sliceApplied Builtin.Slice.sliceFields
    refine wpAny_bind (wpAny_bind (wpAny_field at_ sd (x := vl) rfl (wpAny_bind (wpAny_field at_ sd
      (x := vu) rfl (wpAny_bind (wpAny_field at_ sd (x := vs) rfl (wpAny_pure ?_)))))))
    refine wpAny_bind (HT.slicePart_ ps ?_)
    show wpAny _ _ (if ((-1 : Int) == 0) = true then _ else _) _ _ s
    rw [if_neg (by decide)]
    refine wpAny_bind (HT.slicePart_ pl (wpAny_bind (HT.slicePart_ pu (wpAny_bind (wpAny_pure ?_)))))
    show wpAny _ _ (match Builtin.Slice.sliceAdjust none none (-1) (items.size : Int) with
      | (lo, hi) => pure (lo, (-1 : Int), Builtin.Slice.slicePlaces lo hi (-1))) _ _ s
    rw [adjust_back]
    show wpAny _ _ (pure ((items.size : Int) - 1, (-1 : Int),
      Builtin.Slice.slicePlaces ((items.size : Int) - 1) (-1) (-1))) _ _ s
    rw [places_back]
    exact wpAny_pure hR
  refine wpAny_bind (applied ?_)
  show wpAny _ _ (if (((items.size : Int) - 1) == 0 && (-1 : Int) == 1 && items.size == items.size) = true
    then _ else _) _ _ s
  rw [if_neg (by simp), pick_back]
  first
    | exact wpAny_bind (m := Builtin.Tuple.tupleExact _)
        (wpAny_newObj_type (wpAny_pure ⟨_, rfl, wpAny_pure h⟩) small)
    | exact wpAny_bind (m := Builtin.Tuple.tupleExact _)
        (wpAny_newObj_type (wpAny_bind (wpAny_pure (wpAny_pure ⟨_, rfl, wpAny_pure h⟩))) small)
    | exact wpAny_bind (wpAny_bind (m := Builtin.Tuple.tupleExact _)
        (wpAny_newObj_type (wpAny_pure (wpAny_pure ⟨_, rfl, wpAny_pure h⟩)) small))
    | exact wpAny_bind (wpAny_bind (m := Builtin.Tuple.tupleExact _)
        (wpAny_newObj_type (wpAny_pure ⟨_, rfl, wpAny_pure h⟩) small))
end
section
variable {X : Cx} {e : Expr} {te : TE} {k : Nat} {p1 p2 p3 pos : Pos}
theorem pe_revT (he : PE X e te) : PE X (backE e k p1 p2 p3 pos) (tBackT X.K te) := by
  refine back_of (R := fun x H Q => ∃ a xs, x = .ref a ∧ SqT X.K H a xs ∧
    ∀ p, H p = none → Q (.ref p) (upd H p (.tup xs.reverse))) he ?_
  intro pins σ H Q s v x vl vu vs J rx pl pu ps h
  obtain ⟨a, xs, rfl, hx, q⟩ := h
  cases rx
  obtain ⟨its, r, ht, hz⟩ := J.tuple hx
  refine ⟨"tuple", _, ⟨(), trivial, rfl⟩, ht.typeIs, PyProof.Rows.slot_tuple_getitem, ?_⟩
  refine getItem_back ht (Heap.IsSliceOf.new _ vl vu vs) pl pu ps
    (by rw [List.size_toArray, ← r.length]; exact hz) ?_
  have fr := J.hok.fresh (Nat.le_refl _)
  refine ⟨.ref _, _, J.laid (t' := s.toks) (o := .tup xs.reverse)
    (fun b o q => Heap.get?_push_of_some _ q) (Nat.le_refl _) ?_, rfl, q _ fr⟩
  exact ⟨by rw [List.length_reverse]; exact hz, its.reverse, r.reverse,
    ⟨_, Heap.get?_push_size _ rfl, rfl, _, rfl⟩⟩
end
end Yard
set_option maxRecDepth 100000
/-! The yard's own layer, part 6: a tuple held against (). -/
namespace Yard
open PySem PySem.Spec PyProof.Rows L2
def rEqE (K : PySem.W.Frag) (neg : Bool) : R2 := fun x y H Q => ∃ a b xs, x = .ref a ∧ y = .ref b ∧
  SqT K H a xs ∧ SqT K H b [] ∧ Q (.bl (if neg then !xs.isEmpty else xs.isEmpty)) H
section
variable {X : Cx}
theorem size_empty {xs : List V} {us : List Value} (r : Vals xs us) :
    ((List.range (min us.toArray.size (#[] : Array Value).size)).all (fun _ => true) &&
      us.toArray.size == (#[] : Array Value).size) = xs.isEmpty := by
  cases r <;> simp
theorem op_eqE {k : Nat} (hr : Room k X.A) : OpR X (compareOp .Eq) (rEqE X.K false) := by
  intro pins s σ H x y v u Q I rx ry h
  obtain ⟨a, b, xs, rfl, rfl, ha, hb, q⟩ := h
  cases rx
  cases ry
  obtain ⟨us, r, ⟨o1, p1, p2, p3⟩, _⟩ := I.tuple ha
  obtain ⟨ws, r2, ⟨o2, q1, q2, q3⟩, _⟩ := I.tuple hb
  cases r2
  refine SeqAt.eq_tupleAt (e := fun _ => true) ⟨o1, p1, p2, p3⟩ ⟨o2, q1, q2, q3⟩ hr.units0
    (fun j _ h2 => absurd h2 (by simp)) ?_
  rw [size_empty r]
  exact ⟨.bl xs.isEmpty, H, I, rfl, q⟩
theorem op_neE {k : Nat} (hr : Room k X.A) : OpR X (compareOp .NotEq) (rEqE X.K true) := by
  intro pins s σ H x y v u Q I rx ry h
  obtain ⟨a, b, xs, rfl, rfl, ha, hb, q⟩ := h
  cases rx
  cases ry
  obtain ⟨us, r, ⟨o1, p1, p2, p3⟩, _⟩ := I.tuple ha
  obtain ⟨ws, r2, ⟨o2, q1, q2, q3⟩, _⟩ := I.tuple hb
  cases r2
  refine SeqAt.RcNeAt.tuples (e := fun _ => true) ⟨o1, p1, p2, p3⟩ ⟨o2, q1, q2, q3⟩ hr.units0
    (fun j _ h2 => absurd h2 (by simp)) _ _ _ _ ?_
  rw [size_empty r]
  exact ⟨.bl (!xs.isEmpty), H, I, rfl, q⟩
end
end Yard
set_option maxRecDepth 100000
/-! The yard's own layer, part 7: defs of the text, the jar of draws. -/
namespace Yard
open PySem PySem.Spec PyProof.Rows L2

/-- a def of the text as the top has left it -/
structure Df (K : PySem.W.Frag) (mg : Str → Option Value) (x : Str) (st : Stmt) (ps : List Str) (f : Addr) (fd : FuncData) : Prop where
  fn : Fun K x x st f fd
  bd : Binds K fd ps []
  at_ : mg x = some (.ref f)
theorem Df.kp {K : PySem.W.Frag} {mg : Str → Option Value} {x : Str} {st : Stmt} {ps : List Str} {f : Addr} {fd : FuncData} (D : Df K mg x st ps f fd) : PySem.W.keepIn K (.ref f) = true := D.fn.kp

/-- all but what stands at a is as before -/
def Off (a : Addr) (H H' : Hp) : Prop := ∀ b o, b ≠ a → H b = some o → H' b = some o
theorem Off.refl (a : Addr) (H : Hp) : Off a H H := fun _ _ _ h => h
theorem Off.trans {a : Addr} {H H1 H2 : Hp} (h : Off a H H1) (k : Off a H1 H2) : Off a H H2 := fun b o n e => k b o n (h b o n e)
theorem Off.of_same {a : Addr} {H H' : Hp} (h : Same H H') : Off a H H' := fun b o _ e => h b o e
theorem Off.new {a p : Addr} {H : Hp} {o : HO} (h : H p = none) : Off a H (upd H p o) := fun b u _ e => by rw [upd_ne (ne_of_none e h)]; exact e
theorem Off.at_ {a : Addr} {H : Hp} {o : HO} : Off a H (upd H a o) := fun b u n e => by rw [upd_ne n]; exact e
theorem same_new {H : Hp} {p : Addr} {o : HO} (h : H p = none) : Same H (upd H p o) := fun b u e => by rw [upd_ne (ne_of_none e h)]; exact e
/-- the heap but for a -/
def wo (a : Addr) (H : Hp) : Hp := fun b => if b = a then none else H b
theorem wo_le (a : Addr) (H : Hp) : Same (wo a H) H := fun b o e => by
  unfold wo at e
  split at e
  · cases e
  · exact e
theorem wo_off {a : Addr} {H H' : Hp} (h : Off a H H') : Same (wo a H) (wo a H') := fun b o e => by
  unfold wo at e ⊢
  by_cases n : b = a
  · rw [if_pos n] at e; cases e
  · rw [if_neg n] at e ⊢; exact h b o n e
theorem wo_get {a b : Addr} {H : Hp} {o : HO} (n : b ≠ a) (h : H b = some o) : wo a H b = some o := by
  unfold wo; rw [if_neg n]; exact h

/-! ### the jar: what is left of a cell's digits, the cell mixed, how many draws were mixed -/
def JarAt (H : Hp) (a : Addr) (c : Nat) : Prop := ∃ x y z : Int, H a = some (.lst [.int x, .int y, .int z]) ∧ 0 ≤ x ∧ 0 ≤ y ∧ y < 2 ^ 100 ∧ 0 ≤ z ∧ z ≤ c
theorem JarAt.same {H H' : Hp} {a : Addr} {c : Nat} (h : JarAt H a c) (s : Same H H') : JarAt H' a c :=
  let ⟨x, y, z, e, r⟩ := h; ⟨x, y, z, s _ _ e, r⟩
theorem JarAt.ne {H : Hp} {a p : Addr} {c : Nat} (h : JarAt H a c) (n : H p = none) : p ≠ a := fun e => by
  obtain ⟨x, y, z, q, _⟩ := h
  rw [e, q] at n; cases n
theorem JarAt.mono {H : Hp} {a : Addr} {c c' : Nat} (h : JarAt H a c) (n : c ≤ c') : JarAt H a c' :=
  let ⟨x, y, z, e, r1, r2, r3, r4, r5⟩ := h; ⟨x, y, z, e, r1, r2, r3, r4, by omega⟩
end Yard
set_option maxRecDepth 100000
/-! The yard's own layer, part 8: comprehensions whose turns keep what stands; types of data. -/
namespace Yard
open PySem PySem.Spec PyProof.Rows L2

theorem same_mut {H H4 : Hp} {D : Addr} {o : HO} (s : Same H H4) (n : H D = none) : Same H (upd H4 D o) := fun b u e => by
  rw [upd_ne (ne_of_none e n)]; exact s b u e
theorem range_snoc {α : Type} (f : Nat → α) (i : Nat) : (List.range (i + 1)).map f = (List.range i).map f ++ [f i] := by
  rw [List.range_succ, List.map_append]; rfl

section
variable {J : It} {n : Nat} {G : Hp → Prop} {Y : Nat → Hp → V → Hp → Prop}
/-- [e for x in ..], e keeps the heap: the list of the values ys -/
theorem lc_pure (w : Walk J n G Y) (ys : Nat → V) {g : TG} {te : TE} {vs : List Nat} {σ : L2.St} {H1 : Hp} {D : Addr} {Qd : Hp → Prop} (hD : H1 D = none) (hn : n ≤ sizeLine)
    (hG : ∀ H, Same H1 H → G H)
    (hs : ∀ i x H H' (N : VK), i < n → Same H1 H → Y i H x H' → (∀ H4, Same H H4 → N (ys i) H4) → g x (wipe σ vs) H' fun σ2 H2 => wipe σ2 vs = wipe σ vs ∧ te σ2 H2 N)
    (hd : ∀ H, Same H1 H → H D = some (.lst ((List.range n).map ys)) → Qd H)
    (mono : ∀ x σ H (N N' : L2.St → Hp → Prop), (∀ σ2 H2, N σ2 H2 → N' σ2 H2) → g x σ H N → g x σ H N' := by exact fun _ _ _ _ _ h q => h _ _ q) :
    ∃ W : Nat → Nat → Hp → Prop, (∃ m, W 0 m (upd H1 D (.lst []))) ∧ ∀ i m H, W i m H →
      (J.stop i H ∧ Qd H) ∨ (J.go i H ∧ ∃ Nx : Hp → Prop, (∀ H', Nx H' → ∃ m', m' < m ∧ W (i + 1) m' H') ∧ ∀ x H', J.yld i H x H' → g x (wipe σ vs) H' fun σ2 H2 => wipe σ2 vs = wipe σ vs ∧ tYes σ2 H2 fun b H3 =>
        if b = true then te σ2 H3 fun y H4 => ∃ acc, H4 D = some (.lst acc) ∧ acc.length < sizeLine ∧ Nx (upd H4 D (.lst (acc ++ [y]))) else Nx H3) := by
  refine lc_it w (fun i H => Same H1 H ∧ H D = some (.lst ((List.range i).map ys))) ⟨same_new hD, upd_same⟩ (fun i H _ p => hG H p.1) ?_ (fun H p => hd H p.1 p.2)
  rintro i x H H' hi ⟨sm, e⟩ y
  refine mono _ _ _ _ _ ?_ (hs i x H H' (fun y H4 => ∃ acc, H4 D = some (.lst acc) ∧ acc.length < sizeLine ∧ Same H1 (upd H4 D (.lst (acc ++ [y]))) ∧
    upd H4 D (.lst (acc ++ [y])) D = some (.lst ((List.range (i + 1)).map ys))) hi sm y fun H4 s4 =>
      ⟨_, s4 _ _ e, by rw [List.length_map, List.length_range]; omega, same_mut (fun b o q => s4 b o (sm b o q)) hD, by rw [upd_same, range_snoc]⟩)
  rintro σ2 H2 ⟨z1, z2⟩
  exact ⟨z1, z2⟩

/-- [x for x in .. if t], the test keeps the heap: those of the values ys whose test bs is true -/
theorem lc_filt (w : Walk J n G Y) (ys : Nat → V) (bs : Nat → Bool) {g : TG} {tt : TT} {te : TE} {vs : List Nat} {σ : L2.St} {H1 : Hp} {D : Addr} {Qd : Hp → Prop} (hD : H1 D = none) (hn : n ≤ sizeLine)
    (hG : ∀ H, Same H1 H → G H)
    (hs : ∀ i x H H' (N : Bool → Hp → Prop), i < n → Same H1 H → Y i H x H' → (∀ H3, Same H H3 → N (bs i) H3) → g x (wipe σ vs) H' fun σ2 H2 => wipe σ2 vs = wipe σ vs ∧ tt σ2 H2 N ∧ ∀ H3 (M : VK), M (ys i) H3 → te σ2 H3 M)
    (hd : ∀ H, Same H1 H → H D = some (.lst (((List.range n).filter bs).map ys)) → Qd H)
    (mono : ∀ x σ H (N N' : L2.St → Hp → Prop), (∀ σ2 H2, N σ2 H2 → N' σ2 H2) → g x σ H N → g x σ H N' := by exact fun _ _ _ _ _ h q => h _ _ q)
    (mono2 : ∀ σ H (N N' : Bool → Hp → Prop), (∀ b H2, N b H2 → N' b H2) → tt σ H N → tt σ H N') :
    ∃ W : Nat → Nat → Hp → Prop, (∃ m, W 0 m (upd H1 D (.lst []))) ∧ ∀ i m H, W i m H →
      (J.stop i H ∧ Qd H) ∨ (J.go i H ∧ ∃ Nx : Hp → Prop, (∀ H', Nx H' → ∃ m', m' < m ∧ W (i + 1) m' H') ∧ ∀ x H', J.yld i H x H' → g x (wipe σ vs) H' fun σ2 H2 => wipe σ2 vs = wipe σ vs ∧ tt σ2 H2 fun b H3 =>
        if b = true then te σ2 H3 fun y H4 => ∃ acc, H4 D = some (.lst acc) ∧ acc.length < sizeLine ∧ Nx (upd H4 D (.lst (acc ++ [y]))) else Nx H3) := by
  refine lc_it w (fun i H => Same H1 H ∧ H D = some (.lst (((List.range i).filter bs).map ys))) ⟨same_new hD, upd_same⟩ (fun i H _ p => hG H p.1) ?_ (fun H p => hd H p.1 p.2)
  rintro i x H H' hi ⟨sm, e⟩ y
  have snoc : (List.range (i + 1)).filter bs = (List.range i).filter bs ++ (if bs i = true then [i] else []) := by
    rw [List.range_succ, List.filter_append]
    cases q : bs i <;> simp [q]
  refine mono _ _ _ _ _ ?_ (hs i x H H' (fun b H3 => b = bs i ∧ Same H H3) hi sm y fun H3 s3 => ⟨rfl, s3⟩)
  rintro σ2 H2 ⟨z1, z2, z3⟩
  refine ⟨z1, mono2 _ _ _ _ ?_ z2⟩
  rintro b H3 ⟨rfl, s3⟩
  have s1 : Same H1 H3 := fun c o q => s3 c o (sm c o q)
  have e3 := s3 _ _ e
  by_cases hb : bs i = true
  · rw [if_pos hb]
    refine z3 H3 _ ⟨_, e3, ?_, same_mut s1 hD, ?_⟩
    · rw [List.length_map]
      exact Nat.lt_of_le_of_lt (List.length_filter_le _ _) (by rw [List.length_range]; omega)
    · rw [upd_same, snoc, if_pos hb, List.map_append]; rfl
  · rw [if_neg hb]
    refine ⟨s1, ?_⟩
    rw [e3, snoc, if_neg hb, List.append_nil]

/-- [e for x in ..]: any turns, by a word over the list made so far -/
theorem lc_acc (w : Walk J n G Y) (Pv : Nat → List V → Hp → Prop) {g : TG} {te : TE} {vs : List Nat} {σ : L2.St} {H1 : Hp} {D : Addr} {Qd : Hp → Prop} (hn : n ≤ sizeLine)
    (h0 : Pv 0 [] (upd H1 D (.lst []))) (hG : ∀ i acc H, i ≤ n → Pv i acc H → G H)
    (hs : ∀ i x H H' acc (N : VK), i < n → Pv i acc H → H D = some (.lst acc) → acc.length = i → Y i H x H' →
      (∀ y H4, H4 D = some (.lst acc) → Pv (i + 1) (acc ++ [y]) (upd H4 D (.lst (acc ++ [y]))) → N y H4) → g x (wipe σ vs) H' fun σ2 H2 => wipe σ2 vs = wipe σ vs ∧ te σ2 H2 N)
    (hd : ∀ H acc, Pv n acc H → H D = some (.lst acc) → acc.length = n → Qd H)
    (mono : ∀ x σ H (N N' : L2.St → Hp → Prop), (∀ σ2 H2, N σ2 H2 → N' σ2 H2) → g x σ H N → g x σ H N' := by exact fun _ _ _ _ _ h q => h _ _ q) :
    ∃ W : Nat → Nat → Hp → Prop, (∃ m, W 0 m (upd H1 D (.lst []))) ∧ ∀ i m H, W i m H →
      (J.stop i H ∧ Qd H) ∨ (J.go i H ∧ ∃ Nx : Hp → Prop, (∀ H', Nx H' → ∃ m', m' < m ∧ W (i + 1) m' H') ∧ ∀ x H', J.yld i H x H' → g x (wipe σ vs) H' fun σ2 H2 => wipe σ2 vs = wipe σ vs ∧ tYes σ2 H2 fun b H3 =>
        if b = true then te σ2 H3 fun y H4 => ∃ acc, H4 D = some (.lst acc) ∧ acc.length < sizeLine ∧ Nx (upd H4 D (.lst (acc ++ [y]))) else Nx H3) := by
  refine lc_it w (fun i H => ∃ acc, Pv i acc H ∧ H D = some (.lst acc) ∧ acc.length = i) ⟨[], h0, upd_same, rfl⟩ (fun i H hi ⟨acc, p, _⟩ => hG i acc H hi p) ?_ (fun H ⟨acc, p, e, l⟩ => hd H acc p e l)
  rintro i x H H' hi ⟨acc, p, e, l⟩ y
  refine mono _ _ _ _ _ ?_ (hs i x H H' acc (fun y H4 => ∃ acc, H4 D = some (.lst acc) ∧ acc.length < sizeLine ∧ ∃ acc', Pv (i + 1) acc' (upd H4 D (.lst (acc ++ [y]))) ∧
    upd H4 D (.lst (acc ++ [y])) D = some (.lst acc') ∧ acc'.length = i + 1) hi p e l y fun y H4 e4 p4 =>
      ⟨acc, e4, by omega, acc ++ [y], p4, upd_same, by rw [List.length_append, l]; rfl⟩)
  rintro σ2 H2 ⟨z1, z2⟩
  exact ⟨z1, z2⟩
end

/-! ### isinstance of data -/
def tyName : PyData → String
  | .none => "NoneType"
  | .bool _ => "bool"
  | .int _ => "int"
  | .str _ => "str"
  | .list _ => "list"
  | .tuple _ => "tuple"
  | .dict _ => "dict"
theorem Dq.ty {K : PySem.W.Frag} {H : Hp} {v : V} {d : PyData} (h : Dq H v d) : TyX K H v (.type (tyName d)) := by
  cases h with
  | non => exact .base .non
  | bl b => exact .base (.bl b)
  | int i => exact .base (.int i)
  | str x => exact .base (.str x)
  | lst e _ => exact .base (.lst e)
  | tup e _ => exact .base (.tup e)
  | dic e => exact .base (.dK e)
theorem isi_data {K : PySem.W.Frag} {H : Hp} {v : V} {d : PyData} {c : String} {b : Bool} {Q : VK} (h : Dq H v d) (hb : kitB (tyName d) c = some b) (q : Q (.bl b) H) : rIsi K [v, .ty c] H Q :=
  ⟨v, .ty c, _, _, b, rfl, .ty c, h.ty, kit_ty hb, q⟩
def isTup : PyData → Bool
  | .tuple _ => true
  | _ => false
def isStr : PyData → Bool
  | .str _ => true
  | _ => false
theorem kit_tup (d : PyData) : kitB (tyName d) "tuple" = some (isTup d) := by
  have k0 : kitB "NoneType" "tuple" = some false := by decide +kernel
  have k1 : kitB "bool" "tuple" = some false := by decide +kernel
  have k2 : kitB "int" "tuple" = some false := by decide +kernel
  have k3 : kitB "str" "tuple" = some false := by decide +kernel
  have k4 : kitB "list" "tuple" = some false := by decide +kernel
  have k5 : kitB "tuple" "tuple" = some true := by decide +kernel
  have k6 : kitB "dict" "tuple" = some false := by decide +kernel
  cases d <;> first | exact k0 | exact k1 | exact k2 | exact k3 | exact k4 | exact k5 | exact k6
theorem kit_str (d : PyData) : kitB (tyName d) "str" = some (isStr d) := by
  have k0 : kitB "NoneType" "str" = some false := by decide +kernel
  have k1 : kitB "bool" "str" = some false := by decide +kernel
  have k2 : kitB "int" "str" = some false := by decide +kernel
  have k3 : kitB "str" "str" = some true := by decide +kernel
  have k4 : kitB "list" "str" = some false := by decide +kernel
  have k5 : kitB "tuple" "str" = some false := by decide +kernel
  have k6 : kitB "dict" "str" = some false := by decide +kernel
  cases d <;> first | exact k0 | exact k1 | exact k2 | exact k3 | exact k4 | exact k5 | exact k6
end Yard
set_option maxRecDepth 100000
/-! The yard's own layer, part 9: readings that make data beside the jar. -/
namespace Yard
open PySem PySem.Spec PyProof.Rows L2

theorem atI_at {α : Type} {l : List α} {r : Int} (h0 : 0 ≤ r) (h : r.toNat < l.length) : atI l r = some l[r.toNat] := by
  have e : r = ((r.toNat : Nat) : Int) := by omega
  have g : atI l ((r.toNat : Nat) : Int) = some l[r.toNat] := atI_nat (List.getElem?_eq_getElem h)
  rw [← e] at g
  exact g
theorem JarAt.upd {H : Hp} {a p : Addr} {c : Nat} {o : HO} (j : JarAt H a c) (n : p ≠ a) : JarAt (L2.upd H p o) a c :=
  let ⟨x, y, z, e, r⟩ := j
  ⟨x, y, z, by rw [upd_ne (Ne.symm n)]; exact e, r⟩
theorem Off.upd {H H' : Hp} {a p : Addr} {o : HO} (h : Off a H H') (n : H p = none) : Off a H (L2.upd H' p o) := fun b u nb e => by
  rw [upd_ne (ne_of_none e n)]; exact h b u nb e
/-- a[lo:hi] of any list -/
def cutL {α : Type} (xs : List α) (lo hi : Option Int) : List α := (xs.drop (HT.sIx xs.length 0 lo)).take (HT.sIx xs.length xs.length hi - HT.sIx xs.length 0 lo)
theorem DqL.cut {H : Hp} {vs : List V} {ds : List PyData} (h : DqL H vs ds) (lo hi : Option Int) : DqL H (cutV vs lo hi) (cutL ds lo hi) := by
  unfold cutV cutL
  rw [h.len]
  exact (h.drop _).take _
theorem cutL_whole {α : Type} {xs : List α} {lo hi : Option Int} (h : HT.sIx xs.length 0 lo = 0 ∧ HT.sIx xs.length xs.length hi = xs.length) : cutL xs lo hi = xs := by
  unfold cutL
  rw [h.1, h.2]
  show List.take (xs.length - 0) xs = xs
  rw [Nat.sub_zero]
  exact List.take_length
theorem DqL.nil_of {H : Hp} {ds : List PyData} (h : DqL H [] ds) : ds = [] := by
  cases h; rfl

/-- what is known of data in a heap -/
def Knows (a : Addr) (H : Hp) (G : List (V × PyData)) : Prop := ∀ x ∈ G, Dq (wo a H) x.1 x.2
theorem Knows.mono {a : Addr} {H H' : Hp} {G : List (V × PyData)} (k : Knows a H G) (o : Off a H H') : Knows a H' G := fun x hx => (k x hx).mono (wo_off o)
theorem Knows.cons {a : Addr} {H : Hp} {G : List (V × PyData)} {v : V} {d : PyData} (k : Knows a H G) (h : Dq (wo a H) v d) : Knows a H ((v, d) :: G) := fun x hx => by
  rcases List.mem_cons.mp hx with e | e
  · rw [e]; exact h
  · exact k x e
/-- the reading makes a datum of the kind; c, c': draws before and behind -/
def Made (a : Addr) (c c' : Nat) (σ : L2.St) (G : List (V × PyData)) (t : TE) (Pd : PyData → Prop) : Prop :=
  ∀ H Q, JarAt H a c → Knows a H G → (∀ v d H', Off a H H' → JarAt H' a c' → Dq (wo a H') v d → Pd d → Q v H') → t σ H Q
def MadeL (a : Addr) (c c' : Nat) (σ : L2.St) (G : List (V × PyData)) (t : TA) (Pd : List PyData → Prop) : Prop :=
  ∀ H Q, JarAt H a c → Knows a H G → (∀ vs ds H', Off a H H' → JarAt H' a c' → DqL (wo a H') vs ds → Pd ds → Q vs H') → t σ H Q
/-- a part of a slice, known -/
def MadeO (σ : L2.St) (t : TO) (o : Option Int) : Prop := ∀ H Q, Q o H → t σ H Q
section
variable {a : Addr} {c c' c'' : Nat} {σ : L2.St} {G : List (V × PyData)} {t t1 t2 : TE} {ta : TA}
theorem Made.imp {P P' : PyData → Prop} (h : Made a c c' σ G t P) (i : ∀ d, P d → P' d) : Made a c c' σ G t P' := fun H Q j k q =>
  h H Q j k fun v d H' o j' dq p => q v d H' o j' dq (i d p)
theorem MadeL.imp {P P' : List PyData → Prop} (h : MadeL a c c' σ G ta P) (i : ∀ d, P d → P' d) : MadeL a c c' σ G ta P' := fun H Q j k q =>
  h H Q j k fun v d H' o j' dq p => q v d H' o j' dq (i d p)
theorem made_c {v : V} {d : PyData} (h : ∀ H, Dq H v d) : Made a c c σ G (tC v) (· = d) := fun H Q j _ q => q v d H (Off.refl _ _) j (h _) rfl
theorem made_non : Made a c c σ G (tC .non) (· = .none) := made_c fun _ => .non
theorem made_bl (b : Bool) : Made a c c σ G (tC (.bl b)) (· = .bool b) := made_c fun _ => .bl b
theorem made_int (i : Int) : Made a c c σ G (tC (.int i)) (· = .int i) := made_c fun _ => .int i
theorem made_str (x : Str) : Made a c c σ G (tC (.str x)) (· = .str x) := made_c fun _ => .str x
theorem made_var {i : Nat} {v : V} {d : PyData} (hs : σ[i]? = some (some v)) (hg : (v, d) ∈ G) : Made a c c σ G (tVar i) (· = d) := fun H Q j k q =>
  ⟨v, hs, q v d H (Off.refl _ _) j (k _ hg) rfl⟩
theorem madeL_nil : MadeL a c c σ G tNil (· = []) := fun H Q j _ q => q [] [] H (Off.refl _ _) j .nil rfl
theorem madeL_cons {Pd : PyData → Prop} {Ps Pn : List PyData → Prop} (h : Made a c c' σ G t Pd) (h2 : MadeL a c' c'' σ G ta Ps) (i : ∀ d ds, Pd d → Ps ds → Pn (d :: ds)) : MadeL a c c'' σ G (tCons t ta) Pn := fun H Q j k q =>
  h H _ j k fun v d H1 o1 j1 dq1 p1 => h2 H1 _ j1 (k.mono o1) fun vs ds H2 o2 j2 dq2 p2 => q _ (d :: ds) H2 (o1.trans o2) j2 (.cons (dq1.mono (wo_off o2)) dq2) (i d ds p1 p2)
theorem madeL_e {d : PyData} {ds : List PyData} (h : Made a c c' σ G t (· = d)) (h2 : MadeL a c' c'' σ G ta (· = ds)) : MadeL a c c'' σ G (tCons t ta) (· = d :: ds) :=
  madeL_cons h h2 fun _ _ e1 e2 => by rw [e1, e2]
/-- n data of one kind -/
def Alls (Pd : PyData → Prop) (n : Nat) (ds : List PyData) : Prop := ds.length = n ∧ ∀ d ∈ ds, Pd d
theorem madeL_a {Pd : PyData → Prop} {n : Nat} (h : Made a c c' σ G t Pd) (h2 : MadeL a c' c'' σ G ta (Alls Pd n)) : MadeL a c c'' σ G (tCons t ta) (Alls Pd (n + 1)) :=
  madeL_cons h h2 fun d ds e1 e2 => ⟨congrArg (· + 1) e2.1, fun x hx => by
    rcases List.mem_cons.mp hx with e | e
    · rw [e]; exact e1
    · exact e2.2 x e⟩
theorem madeL_0 {Pd : PyData → Prop} : MadeL a c c σ G tNil (Alls Pd 0) := madeL_nil.imp fun _ e => by rw [e]; exact ⟨rfl, fun _ h => nomatch h⟩
theorem made_tup {Ps : List PyData → Prop} {Pd : PyData → Prop} (h : MadeL a c c' σ G ta Ps) (l : ∀ ds, Ps ds → ds.length ≤ sizeLine) (i : ∀ ds, Ps ds → Pd (.tuple ds)) : Made a c c' σ G (tTup ta) Pd := fun H Q j k q =>
  h H _ j k fun vs ds H1 o1 j1 dq p => ⟨by rw [dq.len]; exact l ds p, fun r nr => by
    have nra := j1.ne nr
    have w1 : Same (wo a H1) (wo a (L2.upd H1 r (.tup vs))) := wo_off (Off.new nr)
    exact q _ (.tuple ds) _ (o1.trans (Off.new nr)) (j1.upd nra) (.tup (wo_get nra upd_same) (dq.mono w1)) (i ds p)⟩
theorem made_tupE {ds : List PyData} (h : MadeL a c c' σ G ta (· = ds)) (l : ds.length ≤ 100) : Made a c c' σ G (tTup ta) (· = .tuple ds) :=
  made_tup h (fun _ e => by rw [e, sizeLine_eq]; omega) fun _ e => by rw [e]
theorem made_lst {Ps : List PyData → Prop} {Pd : PyData → Prop} (h : MadeL a c c' σ G ta Ps) (l : ∀ ds, Ps ds → ds.length ≤ sizeLine) (i : ∀ ds, Ps ds → Pd (.list ds)) : Made a c c' σ G (tLst ta) Pd := fun H Q j k q =>
  h H _ j k fun vs ds H1 o1 j1 dq p => ⟨by rw [dq.len]; exact l ds p, fun r nr => by
    have nra := j1.ne nr
    have w1 : Same (wo a H1) (wo a (L2.upd H1 r (.lst vs))) := wo_off (Off.new nr)
    exact q _ (.list ds) _ (o1.trans (Off.new nr)) (j1.upd nra) (.lst (wo_get nra upd_same) (dq.mono w1)) (i ds p)⟩
theorem made_lstE {ds : List PyData} (h : MadeL a c c' σ G ta (· = ds)) (l : ds.length ≤ 100) : Made a c c' σ G (tLst ta) (· = .list ds) :=
  made_lst h (fun _ e => by rw [e, sizeLine_eq]; omega) fun _ e => by rw [e]
/-- a list of n data of one kind -/
def ListOf (Pd : PyData → Prop) (n : Nat) (d : PyData) : Prop := ∃ ds, d = .list ds ∧ Alls Pd n ds
theorem made_lstA {Pd : PyData → Prop} {n : Nat} (h : MadeL a c c' σ G ta (Alls Pd n)) (l : n ≤ 100) : Made a c c' σ G (tLst ta) (ListOf Pd n) :=
  made_lst h (fun _ e => by rw [e.1, sizeLine_eq]; omega) fun ds e => ⟨ds, rfl, e⟩
theorem made_dic : Made a c c σ G tDNewK (· = .dict []) := fun H Q j k q r nr => by
  have nra := j.ne nr
  exact q _ (.dict []) _ (Off.new nr) (j.upd nra) (.dic (wo_get nra upd_same)) rfl
theorem made_set {i : Nat} {u : TS} {D : Ends} {H : Hp} {Pd : PyData → Prop} (h : Made a c c' σ G t Pd) (j : JarAt H a c) (k : Knows a H G)
    (q : ∀ v d H', Off a H H' → JarAt H' a c' → Dq (wo a H') v d → Pd d → u D (σ.set i (some v)) H') : tSeq (tAsg t (gName i)) u D σ H := h H _ j k q
theorem madeL_alls {Pd : PyData → Prop} {ds : List PyData} (h : MadeL a c c' σ G ta (· = ds)) (p : ∀ d ∈ ds, Pd d) : MadeL a c c' σ G ta (Alls Pd ds.length) := h.imp fun _ e => by rw [e]; exact ⟨rfl, p⟩
/-- two lists, one behind the other -/
theorem made_cat {Pd : PyData → Prop} {n m : Nat} (h : Made a c c' σ G t1 (ListOf Pd n)) (h2 : Made a c' c'' σ G t2 (ListOf Pd m)) (l : n + m ≤ 100) : Made a c c'' σ G (tOp rCat t1 t2) (ListOf Pd (n + m)) := fun H Q j k q =>
  h H _ j k fun v d H1 o1 j1 dq1 ⟨ds, e1, p1⟩ => h2 H1 _ j1 (k.mono o1) fun u e H2 o2 j2 dq2 ⟨es, e2, p2⟩ => by
    subst e1 e2
    have dq1' := dq1.mono (wo_off o2)
    cases dq1' with
    | @lst p xs _ ep hl1 =>
    cases dq2 with
    | @lst r ys _ er hl2 =>
      refine ⟨p, r, xs, ys, rfl, rfl, wo_le _ _ _ _ ep, wo_le _ _ _ _ er, by rw [hl1.len, hl2.len, p1.1, p2.1, sizeLine_eq]; omega, fun z nz => ?_⟩
      have nza := j2.ne nz
      have w1 : Same (wo a H2) (wo a (L2.upd H2 z (.lst (xs ++ ys)))) := wo_off (Off.new nz)
      refine q _ (.list (ds ++ es)) _ (o1.trans (o2.trans (Off.new nz))) (j2.upd nza) (.lst (wo_get nza upd_same) ((hl1.mono w1).app (hl2.mono w1))) ⟨_, rfl, by rw [List.length_append, p1.1, p2.1], fun x hx => ?_⟩
      rcases List.mem_append.mp hx with e | e
      · exact p1.2 x e
      · exact p2.2 x e
/-- two tuples, one behind the other -/
theorem made_catT {K : PySem.W.Frag} {Ps Qs : List PyData → Prop} {Pd : PyData → Prop} (h : Made a c c' σ G t1 (fun d => ∃ ds, d = .tuple ds ∧ Ps ds)) (h2 : Made a c' c'' σ G t2 (fun d => ∃ ds, d = .tuple ds ∧ Qs ds))
    (l : ∀ ds es, Ps ds → Qs es → ds.length + es.length ≤ sizeLine) (i : ∀ ds es, Ps ds → Qs es → Pd (.tuple (ds ++ es))) : Made a c c'' σ G (tOp (rCatA K) t1 t2) Pd := fun H Q j k q =>
  h H _ j k fun v d H1 o1 j1 dq1 ⟨ds, e1, p1⟩ => h2 H1 _ j1 (k.mono o1) fun u e H2 o2 j2 dq2 ⟨es, e2, p2⟩ => by
    subst e1 e2
    have dq1' := dq1.mono (wo_off o2)
    cases dq1' with
    | @tup p xs _ ep hl1 =>
    cases dq2 with
    | @tup r ys _ er hl2 =>
      have gp := i ds es p1 p2
      refine ⟨p, r, xs, ys, rfl, rfl, SqT.of (wo_le _ _ _ _ ep), SqT.of (wo_le _ _ _ _ er), by rw [hl1.len, hl2.len]; exact l _ _ p1 p2, fun e => ?_, fun _ e => ?_, fun _ _ z nz => ?_⟩
      · subst e
        have := hl1.nil_of
        subst this
        exact q _ (.tuple es) H2 (o1.trans o2) j2 (.tup er hl2) gp
      · subst e
        have := hl2.nil_of
        subst this
        rw [List.append_nil] at gp
        exact q _ (.tuple ds) H2 (o1.trans o2) j2 (.tup ep hl1) gp
      · have nza := j2.ne nz
        have w1 : Same (wo a H2) (wo a (L2.upd H2 z (.tup (xs ++ ys)))) := wo_off (Off.new nz)
        exact q _ (.tuple (ds ++ es)) _ (o1.trans (o2.trans (Off.new nz))) (j2.upd nza) (.tup (wo_get nza upd_same) ((hl1.mono w1).app (hl2.mono w1))) gp
theorem made_sl {K : PySem.W.Frag} {ds : List PyData} {tl th : TO} {lo hi : Option Int} (h : Made a c c' σ G t (· = .tuple ds)) (hl : MadeO σ tl lo) (hh : MadeO σ th hi) : Made a c c' σ G (tSl (rSlA K) t tl th) (· = .tuple (cutL ds lo hi)) := fun H Q j k q =>
  h H _ j k fun v d H1 o1 j1 dq1 e1 => hl _ _ (hh _ _ (by
    subst e1
    have q' := fun v d H' o j' dq e => q v d H' (o1.trans o) j' dq e
    cases dq1 with
    | @tup p xs _ ep hl1 =>
      refine ⟨p, xs, rfl, SqT.of (wo_le _ _ _ _ ep), fun e => ?_, fun _ z nz => ?_⟩
      · refine q' _ _ H1 (Off.refl _ _) j1 (.tup ep hl1) ?_
        rw [cutL_whole (by rw [← hl1.len]; exact e)]
      · have nza := j1.ne nz
        have w1 : Same (wo a H1) (wo a (L2.upd H1 z (.tup (cutV xs lo hi)))) := wo_off (Off.new nz)
        exact q' _ _ _ (Off.new nz) (j1.upd nza) (.tup (wo_get nza upd_same) ((hl1.cut lo hi).mono w1)) rfl))
theorem madeO_none : MadeO σ tNoPart none := fun _ _ q => q
theorem madeO_int {i : Int} : MadeO σ (tPart (tC (.int i))) (some i) := fun _ _ q => ⟨i, rfl, q⟩
theorem madeO_var {n : Nat} {i : Int} (h : σ[n]? = some (some (.int i))) : MadeO σ (tPart (tVar n)) (some i) := fun _ _ q => ⟨_, h, i, rfl, q⟩
theorem madeO_add {n : Nat} {i j : Int} (h : σ[n]? = some (some (.int i))) : MadeO σ (tPart (tOp (rI0 fun i j => .int (i + j)) (tVar n) (tC (.int j)))) (some (i + j)) := fun _ _ q => ⟨_, h, i, j, rfl, rfl, _, rfl, q⟩
end
end Yard
set_option maxRecDepth 100000
/-! The yard's own layer, part 10: the order of tuples of texts and numbers, told place by place. -/
namespace Yard
open PySem PySem.Spec PyProof.Rows L2
def EqAll (v w : Value) (e : Bool) : Prop := ∀ A s, SeqAt.EqAt A s v w e
def LtAll (v w : Value) (r : Bool) : Prop :=
  ∀ (A : Around) (s : Shared) (prog : Program) (wd : World) (E : Value → Shared → Prop)
    (Q : Value → Shared → Prop), Q (.bool r) s →
    wpAny (model prog wd) A (richCompare .Lt v w) Q E s
/-- the first places at which they differ decide -/
inductive Lex : List Value → List Value → Bool → Prop
  | nn : Lex [] [] false
  | nc {w : Value} {ws : List Value} : Lex [] (w :: ws) true
  | cn {v : Value} {vs : List Value} : Lex (v :: vs) [] false
  | same {v w : Value} {vs ws : List Value} {r : Bool} : EqAll v w true → Lex vs ws r →
      Lex (v :: vs) (w :: ws) r
  | unlike {v w : Value} {vs ws : List Value} {r : Bool} : EqAll v w false → LtAll v w r →
      Lex (v :: vs) (w :: ws) r
theorem Lex.ends {vs ws : List Value} {r : Bool} (h : Lex vs ws r) (n m : Nat)
    (k : vs.length + m = ws.length + n) (z : vs.zip ws = []) : r = decide (n < m) := by
  cases h with
  | nn => exact (decide_eq_false (by simp at k; omega)).symm
  | nc => exact (decide_eq_true (by simp at k; omega)).symm
  | cn => exact (decide_eq_false (by simp at k; omega)).symm
  | same _ _ => cases z
  | unlike _ _ => cases z
section
open PySem.SeqAt
open PySem.AutoSeq1 (wpAny_loadPart')
open PySem.MeetsSeq PySem.MeetsSeq2 PySem.MeetsSeq3
theorem tuple_lt_lex (l b : Addr) (xs ys : Array Value) (n m : Nat) (d1 d2 : Option Addr)
    (s1 s2 : Array (Option Value)) (r : Bool) (hx : Lex xs.toList ys.toList r) :
    Meets (Builtin.«tuple.__lt__» ⟨[.ref l, .ref b], []⟩) fun _ R s =>
      s.heap.get? l = some { cls := .type "tuple", dict := d1, data := .seq xs n, slots := s1 } ∧
      s.heap.get? b = some { cls := .type "tuple", dict := d2, data := .seq ys m, slots := s2 } ∧
      R (.ok (.ret (.bool r))) s :=
  .of_wp fun prog w A R s h => by
    obtain ⟨hp, g, d, tk, os⟩ := s
    obtain ⟨hl, hb, h⟩ := h
    have f2 := AutoSeq1.sub_tuple_tuple
    wp_walk using wpAny_loadPart' hl, wpAny_loadPart' hb,
      wpAny_forIn_list _ (fun rest c s' => c.1 = none ∧ s' = ⟨hp, g, d, tk, os⟩ ∧
        ∃ (us vs : List Value) (q : Bool), rest = us.zip vs ∧ Lex us vs q ∧
          us.length + ys.size = vs.length + xs.size ∧
          R (.ok (.ret (.bool q))) ⟨hp, g, d, tk, os⟩) _
    case turn =>
      rintro ⟨y, x⟩ rest c s' ⟨hc, rfl, us, vs, q, hz, hL, hlen, hR⟩
      cases hL with
      | nn => cases hz
      | nc => rw [List.zip_nil_left] at hz; cases hz
      | cn => rw [List.zip_nil_right] at hz; cases hz
      | @same v v2 us vs _ he t =>
        rw [List.zip_cons_cons] at hz
        injection hz with hyx hrest
        injection hyx with hy hx2
        subst hy hx2
        refine wpAny_bind (he A.in1 _ prog w _ _ ?_)
        wp_walk
        simp only [List.length_cons] at hlen
        exact ⟨rfl, rfl, us, vs, q, hrest, t, by omega, hR⟩
      | @unlike v v2 us vs _ he lt =>
        rw [List.zip_cons_cons] at hz
        injection hz with hyx hrest
        injection hyx with hy hx2
        subst hy hx2
        refine wpAny_bind (he A.in1 _ prog w _ _ ?_)
        have hri := lt A.in1 ⟨hp, g, d, tk, os⟩ prog w
        wp_walk using hri
        exact ⟨_, rfl, by simpa using hR⟩
    case fin =>
      rintro ⟨c1, c2⟩ s' ⟨hc, rfl, us, vs, q, hz, hL, hlen, hR⟩
      simp only at hc
      subst hc
      rw [hL.ends xs.size ys.size hlen hz.symm] at hR
      wp_walk
      exact ⟨_, rfl, by simpa [Builtin.Tuple.tupleCompareSizes] using hR⟩
    case h => exact ⟨rfl, rfl, _, _, r, rfl, hx, by simp; omega, h⟩
end
section
variable {prog : Program} {w : World} {A : Around} {E : Value → Shared → Prop} {s : Shared}
theorem lt_lex {l b : Addr} {xs ys : Array Value} {r : Bool} {Q : Value → Shared → Prop}
    (hl : IsTup s.heap l xs) (hb : IsTup s.heap b ys) (hx : Lex xs.toList ys.toList r)
    (hu : A.units < cLine) (h : Q (.bool r) s) :
    wpAny (model prog w) A (compareOp .Lt (.ref l) (.ref b)) Q E s := by
  obtain ⟨⟨c1, d1, t1, s1⟩, ho, hc, n, hd⟩ := id hl
  obtain ⟨⟨c2, d2, t2, s2⟩, ho2, hc2, m, hd2⟩ := id hb
  simp only at hc hd hc2 hd2
  subst hc hd hc2 hd2
  refine richCompare_meets_room (op := .Lt) ⟨_, ho, rfl⟩ ⟨_, ho2, rfl⟩ PySem.F.slot_tuple_lt
    PySem.F.entry_tuple_lt (PySem.F.args_tuple_lt_2 _ _)
    (tuple_lt_lex l b xs ys n m d1 d2 s1 s2 r hx) ⟨ho, ho2, ?_⟩ hu
  exact ⟨(fun x => nomatch x), h⟩
end
/-- (i, x) < (j, y) -/
def rLtIS (K : PySem.W.Frag) : R2 := fun x y H Q => ∃ (a b : Addr) (i j : Int) (u v : Str),
  x = .ref a ∧ y = .ref b ∧ SqT K H a [.int i, .str u] ∧ SqT K H b [.int j, .str v] ∧
  Q (.bl (if i = j then decide (u.cps.toList < v.cps.toList) else decide (i < j))) H
theorem op_ltIS {X : Cx} (hu : X.A.units < cLine) : OpR X (compareOp .Lt) (rLtIS X.K) := by
  intro pins s σ H x y vx vy Q I rx ry h
  obtain ⟨a, b, i, j, u, v, rfl, rfl, ha, hb, q⟩ := h
  cases rx
  cases ry
  obtain ⟨xs, r1, p1, _⟩ := I.tuple ha
  obtain ⟨ys, r2, p2, _⟩ := I.tuple hb
  cases r1 with
  | cons e1 r1 =>
  cases r1 with
  | cons e2 r1 =>
  cases r1
  cases r2 with
  | cons f1 r2 =>
  cases r2 with
  | cons f2 r2 =>
  cases r2
  obtain ⟨t1, rfl⟩ := e1
  obtain ⟨t2, rfl⟩ := e2
  obtain ⟨t3, rfl⟩ := f1
  obtain ⟨t4, rfl⟩ := f2
  have ei : EqAll (.int i t1) (.int j t3) (i == j) := fun A s => SeqAt.EqAt.int_int i t1 j t3
  have es : EqAll (.str u t2) (.str v t4) (u == v) := fun A s => SeqAt.EqAt.str_str u t2 v t4
  have li : LtAll (.int i t1) (.int j t3) (decide (i < j)) := fun A s prog wd E Q h => HT.rcLt_int A s i t1 j t3 prog wd E Q h
  refine lt_lex p1 p2 (r := if i = j then decide (u.cps.toList < v.cps.toList) else decide (i < j)) ?_ hu ⟨.bl _, H, I, rfl, q⟩
  show Lex [.int i t1, .str u t2] [.int j t3, .str v t4] _
  by_cases c : i = j
  · rw [if_pos c]
    refine .same (by rw [← beq_iff_eq.mpr c]; exact ei) ?_
    by_cases k : u = v
    · have z : decide (u.cps.toList < v.cps.toList) = false := by
        rw [k]
        exact decide_eq_false (List.lt_irrefl _)
      rw [z]
      exact .same (by rw [← beq_iff_eq.mpr k]; exact es) .nn
    · refine .unlike (by rw [← beq_eq_false_iff_ne.mpr k]; exact es) fun A s prog wd E Q h => ?_
      exact (PyProof.Rows.lt_str h : wpAny (model prog wd) A (compareOp .Lt (.str u t2) (.str v t4)) Q E s)
  · rw [if_neg c]
    exact .unlike (by rw [← beq_eq_false_iff_ne.mpr c]; exact ei) li
end Yard
set_option maxRecDepth 100000
/-! The yard's own layer, part 11: data beside some lists that change. -/
namespace Yard
open PySem PySem.Spec PyProof.Rows L2
/-- the heap but for what stands at S -/
def wox (S : List Addr) (H : Hp) : Hp := fun b => if b ∈ S then none else H b
/-- all but what stands at S is as before -/
def OffS (S : List Addr) (H H' : Hp) : Prop := ∀ b o, b ∉ S → H b = some o → H' b = some o
theorem OffS.refl (S : List Addr) (H : Hp) : OffS S H H := fun _ _ _ h => h
theorem OffS.trans {S : List Addr} {H H1 H2 : Hp} (h : OffS S H H1) (k : OffS S H1 H2) : OffS S H H2 := fun b o n e => k b o n (h b o n e)
theorem OffS.of_same {S : List Addr} {H H' : Hp} (h : Same H H') : OffS S H H' := fun b o _ e => h b o e
theorem OffS.at_ {S : List Addr} {H : Hp} {a : Addr} {o : HO} (h : a ∈ S) : OffS S H (upd H a o) := fun b u n e => by
  rw [upd_ne (fun z : b = a => n (by rw [z]; exact h))]; exact e
theorem wox_le (S : List Addr) (H : Hp) : Same (wox S H) H := fun b o e => by
  unfold wox at e
  split at e
  · cases e
  · exact e
theorem wox_off {S : List Addr} {H H' : Hp} (h : OffS S H H') : Same (wox S H) (wox S H') := fun b o e => by
  unfold wox at e ⊢
  by_cases n : b ∈ S
  · rw [if_pos n] at e; cases e
  · rw [if_neg n] at e ⊢; exact h b o n e
theorem wox_get {S : List Addr} {b : Addr} {H : Hp} {o : HO} (n : b ∉ S) (h : H b = some o) : wox S H b = some o := by
  unfold wox; rw [if_neg n]; exact h
/-- more lists that change: data that stood ahead of them stay data -/
theorem wox_more {S S' : List Addr} {H : Hp} (h : ∀ b ∈ S', b ∉ S → H b = none) : Same (wox S H) (wox S' H) := fun b o e => by
  unfold wox at e ⊢
  by_cases n : b ∈ S
  · rw [if_pos n] at e; cases e
  · rw [if_neg n] at e
    by_cases k : b ∈ S'
    · rw [h b k n] at e; cases e
    · rw [if_neg k]; exact e
theorem DqL.snoc {H : Hp} {vs : List V} {ds : List PyData} {v : V} {d : PyData} (h : DqL H vs ds) (k : Dq H v d) : DqL H (vs ++ [v]) (ds ++ [d]) := h.app (.cons k .nil)
/-- the last of a list taken off -/
theorem DqL.last {H : Hp} {vs : List V} {ds : List PyData} (h : DqL H vs ds) (n : ds ≠ []) : ∃ us v es d, vs = us ++ [v] ∧ ds = es ++ [d] ∧ DqL H us es ∧ Dq H v d := by
  have l := h.len
  have nv : vs ≠ [] := fun e => by
    rw [e] at l
    exact n (List.eq_nil_of_length_eq_zero l.symm)
  have k1 : vs = vs.take (vs.length - 1) ++ [vs.getLast nv] := by
    rw [← List.dropLast_eq_take]; exact (List.dropLast_concat_getLast nv).symm
  have k2 : ds = ds.take (ds.length - 1) ++ [ds.getLast n] := by
    rw [← List.dropLast_eq_take]; exact (List.dropLast_concat_getLast n).symm
  refine ⟨_, _, _, _, k1, k2, by rw [l]; exact h.take _, ?_⟩
  have g : vs[vs.length - 1]? = some (vs.getLast nv) := by rw [List.getLast_eq_getElem, List.getElem?_eq_getElem]
  obtain ⟨d, hd, q⟩ := h.get g
  have g2 : ds[ds.length - 1]? = some (ds.getLast n) := by rw [List.getLast_eq_getElem, List.getElem?_eq_getElem]
  rw [l, g2] at hd
  cases hd
  exact q
end Yard
set_option maxRecDepth 100000
/-! The yard's pure layer, part 1: data as trees, slots, what is one's own and what stays. -/
namespace YP
open PySem PySem.Spec PyProof.Rows L2

/-- data as trees -/
inductive D where
  | non | bl (b : Bool) | int (i : Int) | str (x : Str) | lst (l : List D) | tup (l : List D) | dic (l : List (Key × D))
  | obj (C : Addr) (fs : List (Str × D)) | ref (a : Addr) | ty (n : String) | exc (a dd C : Addr) (fs : List (Str × D)) | scr (ns : List Int)

mutual
/-- a value that stays: all its parts stand in F, which nobody changes -/
inductive RD (K : PySem.W.Frag) (F : Hp) : V → D → Prop
  | non : RD K F .non .non
  | bl (b : Bool) : RD K F (.bl b) (.bl b)
  | int (i : Int) : RD K F (.int i) (.int i)
  | str (x : Str) : RD K F (.str x) (.str x)
  | ty (n : String) : RD K F (.ty n) (.ty n)
  | ref (a : Addr) : RD K F (.ref a) (.ref a)
  | lst {a : Addr} {vs : List V} {ds : List D} : F a = some (.lst vs) → RL K F vs ds → RD K F (.ref a) (.lst ds)
  | tup {a : Addr} {vs : List V} {ds : List D} : SqT K F a vs → RL K F vs ds → RD K F (.ref a) (.tup ds)
  | dic {a : Addr} {kvs : List (Key × V)} {ds : List (Key × D)} : F a = some (.dK kvs) → RK K F kvs ds → RD K F (.ref a) (.dic ds)
  | obj {a C dx : Addr} {fs : List (Str × V)} {ds : List (Str × D)} : F a = some (.ins C dx fs) → RF K F fs ds → RD K F (.ref a) (.obj C ds)
  | exc {a dd C : Addr} {fs : List (Str × V)} {ds : List (Str × D)} : F dd = some (.xd fs) → RF K F fs ds → RD K F (.ref a) (.exc a dd C ds)
  | scr {a : Addr} {ns : List Int} : SqL K F a (ns.map V.int) → RD K F (.ref a) (.scr ns)
inductive RL (K : PySem.W.Frag) (F : Hp) : List V → List D → Prop
  | nil : RL K F [] []
  | cons {v : V} {vs : List V} {d : D} {ds : List D} : RD K F v d → RL K F vs ds → RL K F (v :: vs) (d :: ds)
inductive RK (K : PySem.W.Frag) (F : Hp) : List (Key × V) → List (Key × D) → Prop
  | nil : RK K F [] []
  | cons {k : Key} {v : V} {vs : List (Key × V)} {d : D} {ds : List (Key × D)} : RD K F v d → RK K F vs ds → RK K F ((k, v) :: vs) ((k, d) :: ds)
inductive RF (K : PySem.W.Frag) (F : Hp) : List (Str × V) → List (Str × D) → Prop
  | nil : RF K F [] []
  | cons {k : Str} {v : V} {vs : List (Str × V)} {d : D} {ds : List (Str × D)} : RD K F v d → RF K F vs ds → RF K F ((k, v) :: vs) ((k, d) :: ds)
end
section
variable {K : PySem.W.Frag} {F F' H H' : Hp}
theorem rd_mono {a : Addr} {u : HO} (s : Same F F') (h : Rd F a u) : Rd F' a u := h.imp (s _ _) fun ⟨o, e⟩ => ⟨o, s _ _ e⟩
theorem sqT_mono {a : Addr} {xs : List V} (s : Same F F') (h : SqT K F a xs) : SqT K F' a xs := h.imp (rd_mono s) fun h => h
mutual
theorem RD.mono (s : Same F F') : ∀ {v : V} {d : D}, RD K F v d → RD K F' v d
  | _, _, .non => .non
  | _, _, .bl b => .bl b
  | _, _, .int i => .int i
  | _, _, .str x => .str x
  | _, _, .ty n => .ty n
  | _, _, .ref a => .ref a
  | _, _, .lst h t => .lst (s _ _ h) (t.mono s)
  | _, _, .tup h t => .tup (sqT_mono s h) (t.mono s)
  | _, _, .dic h t => .dic (s _ _ h) (t.mono s)
  | _, _, .obj h t => .obj (s _ _ h) (t.mono s)
  | _, _, .exc h t => .exc (s _ _ h) (t.mono s)
  | _, _, .scr h => .scr (Same.seq s h)
theorem RL.mono (s : Same F F') : ∀ {vs : List V} {ds : List D}, RL K F vs ds → RL K F' vs ds
  | _, _, .nil => .nil
  | _, _, .cons h t => .cons (h.mono s) (t.mono s)
theorem RK.mono (s : Same F F') : ∀ {vs : List (Key × V)} {ds : List (Key × D)}, RK K F vs ds → RK K F' vs ds
  | _, _, .nil => .nil
  | _, _, .cons h t => .cons (h.mono s) (t.mono s)
theorem RF.mono (s : Same F F') : ∀ {vs : List (Str × V)} {ds : List (Str × D)}, RF K F vs ds → RF K F' vs ds
  | _, _, .nil => .nil
  | _, _, .cons h t => .cons (h.mono s) (t.mono s)
end
theorem RL.len : ∀ {vs : List V} {ds : List D}, RL K F vs ds → vs.length = ds.length
  | _, _, .nil => rfl
  | _, _, .cons _ t => congrArg (· + 1) t.len
theorem RL.get : ∀ {vs : List V} {ds : List D} {i : Nat} {v : V}, RL K F vs ds → vs[i]? = some v → ∃ d, ds[i]? = some d ∧ RD K F v d
  | _, _, 0, _, .cons h _, e => by cases e; exact ⟨_, rfl, h⟩
  | _, _, i + 1, _, .cons _ t, e => RL.get (i := i) t e
theorem RL.got : ∀ {vs : List V} {ds : List D} {i : Nat} {d : D}, RL K F vs ds → ds[i]? = some d → ∃ v, vs[i]? = some v ∧ RD K F v d
  | _, _, 0, _, .cons h _, e => by cases e; exact ⟨_, rfl, h⟩
  | _, _, i + 1, _, .cons _ t, e => RL.got (i := i) t e
theorem RL.take : ∀ {vs : List V} {ds : List D} (n : Nat), RL K F vs ds → RL K F (vs.take n) (ds.take n)
  | _, _, 0, _ => .nil
  | _, _, _ + 1, .nil => .nil
  | _, _, n + 1, .cons h t => .cons h (t.take n)
theorem RL.drop : ∀ {vs : List V} {ds : List D} (n : Nat), RL K F vs ds → RL K F (vs.drop n) (ds.drop n)
  | _, _, 0, h => h
  | _, _, _ + 1, .nil => .nil
  | _, _, n + 1, .cons _ t => t.drop n
theorem RL.app : ∀ {vs ws : List V} {ds es : List D}, RL K F vs ds → RL K F ws es → RL K F (vs ++ ws) (ds ++ es)
  | _, _, _, _, .nil, k => k
  | _, _, _, _, .cons h t, k => .cons h (t.app k)
theorem RL.rev : ∀ {vs : List V} {ds : List D}, RL K F vs ds → RL K F vs.reverse ds.reverse
  | _, _, .nil => .nil
  | _, _, .cons h t => by
    rw [List.reverse_cons, List.reverse_cons]
    exact t.rev.app (.cons h .nil)
theorem RL.snoc {vs : List V} {ds : List D} {v : V} {d : D} (h : RL K F vs ds) (k : RD K F v d) : RL K F (vs ++ [v]) (ds ++ [d]) := h.app (.cons k .nil)
theorem RL.set : ∀ {vs : List V} {ds : List D} {v : V} {d : D} (i : Nat), RL K F vs ds → RD K F v d → RL K F (vs.set i v) (ds.set i d)
  | _, _, _, _, _, .nil, _ => .nil
  | _, _, _, _, 0, .cons _ t, k => .cons k t
  | _, _, _, _, i + 1, .cons h t, k => .cons h (t.set i k)
theorem RL.last {vs : List V} {ds : List D} (h : RL K F vs ds) (n : ds ≠ []) : ∃ us v es d, vs = us ++ [v] ∧ ds = es ++ [d] ∧ RL K F us es ∧ RD K F v d := by
  have r := h.rev
  have nr : ds.reverse ≠ [] := fun e => n (List.reverse_eq_nil_iff.mp e)
  generalize e1 : vs.reverse = vr at r
  generalize e2 : ds.reverse = dr at r nr
  cases r with
  | nil => exact absurd rfl nr
  | @cons v us d es h1 h2 =>
    refine ⟨us.reverse, v, es.reverse, d, ?_, ?_, h2.rev, h1⟩
    · rw [← List.reverse_reverse vs, e1, List.reverse_cons]
    · rw [← List.reverse_reverse ds, e2, List.reverse_cons]
theorem RK.len : ∀ {vs : List (Key × V)} {ds : List (Key × D)}, RK K F vs ds → vs.length = ds.length
  | _, _, .nil => rfl
  | _, _, .cons _ t => congrArg (· + 1) t.len

/-- a value that is one's own: its object may be changed, its parts stay -/
inductive RO (K : PySem.W.Frag) (F H : Hp) : V → D → Prop
  | lst {a : Addr} {vs : List V} {ds : List D} : H a = some (.lst vs) → RL K F vs ds → RO K F H (.ref a) (.lst ds)
  | dic {a : Addr} {kvs : List (Key × V)} {ds : List (Key × D)} : H a = some (.dK kvs) → RK K F kvs ds → RO K F H (.ref a) (.dic ds)
  | obj {a C dx : Addr} {fs : List (Str × V)} {ds : List (Str × D)} : H a = some (.ins C dx fs) → RF K F fs ds → RO K F H (.ref a) (.obj C ds)
theorem RO.there {v : V} {d : D} (h : RO K F H v d) : ∃ a o, v = .ref a ∧ H a = some o := by
  cases h with
  | lst h _ => exact ⟨_, _, rfl, h⟩
  | dic h _ => exact ⟨_, _, rfl, h⟩
  | obj h _ => exact ⟨_, _, rfl, h⟩
theorem RO.keep {a : Addr} {d : D} (s : Same F F') (e : H' a = H a) (h : RO K F H (.ref a) d) : RO K F' H' (.ref a) d := by
  cases h with
  | lst h t => exact .lst (e.trans h) (t.mono s)
  | dic h t => exact .dic (e.trans h) (t.mono s)
  | obj h t => exact .obj (e.trans h) (t.mono s)
/-- one's own, from now on not changed -/
theorem RO.froze {a : Addr} {d : D} {o : HO} (n : F a = none) (e : H a = some o) (h : RO K F H (.ref a) d) : RD K (upd F a o) (.ref a) d := by
  have s : Same F (upd F a o) := fun b u q => by rw [upd_ne (ne_of_none q n)]; exact q
  cases h with
  | lst h t => rw [e] at h; cases h; exact .lst upd_same (t.mono s)
  | dic h t => rw [e] at h; cases h; exact .dic upd_same (t.mono s)
  | obj h t => rw [e] at h; cases h; exact .obj upd_same (t.mono s)
/-- either -/
def RW (K : PySem.W.Frag) (F H : Hp) (v : V) (d : D) : Prop := RD K F v d ∨ RO K F H v d
theorem RW.non {v : V} (h : RW K F H v .non) : v = .non := by rcases h with h | h <;> cases h; rfl
theorem RW.bl {v : V} {b : Bool} (h : RW K F H v (.bl b)) : v = .bl b := by rcases h with h | h <;> cases h; rfl
theorem RW.int {v : V} {i : Int} (h : RW K F H v (.int i)) : v = .int i := by rcases h with h | h <;> cases h; rfl
theorem RW.str {v : V} {i : Str} (h : RW K F H v (.str i)) : v = .str i := by rcases h with h | h <;> cases h; rfl
theorem RW.ty {v : V} {i : String} (h : RW K F H v (.ty i)) : v = .ty i := by rcases h with h | h <;> cases h; rfl
theorem RW.exc {v : V} {a dd C : Addr} {fs : List (Str × D)} (h : RW K F H v (.exc a dd C fs)) : v = .ref a ∧ ∃ vfs, F dd = some (.xd vfs) ∧ RF K F vfs fs := by rcases h with h | h <;> cases h; exact ⟨rfl, _, ‹_›, ‹_›⟩
theorem RW.scr {v : V} {ns : List Int} (s : Same F H) (h : RW K F H v (.scr ns)) : ∃ a, v = .ref a ∧ SqL K H a (ns.map V.int) := by rcases h with h | h <;> cases h; exact ⟨_, rfl, Same.seq s ‹_›⟩
theorem RW.ref {v : V} {a : Addr} (h : RW K F H v (.ref a)) : v = .ref a := by rcases h with h | h <;> cases h; rfl
theorem RW.lst {v : V} {ds : List D} (s : Same F H) (h : RW K F H v (.lst ds)) : ∃ a vs, v = .ref a ∧ H a = some (.lst vs) ∧ RL K F vs ds := by
  rcases h with h | h <;> cases h
  · exact ⟨_, _, rfl, s _ _ ‹_›, ‹_›⟩
  · exact ⟨_, _, rfl, ‹_›, ‹_›⟩
theorem RW.tup {v : V} {ds : List D} (s : Same F H) (h : RW K F H v (.tup ds)) : ∃ a vs, v = .ref a ∧ SqT K H a vs ∧ RL K F vs ds := by
  rcases h with h | h <;> cases h
  exact ⟨_, _, rfl, sqT_mono s ‹_›, ‹_›⟩
theorem RW.dic {v : V} {ds : List (Key × D)} (s : Same F H) (h : RW K F H v (.dic ds)) : ∃ a kvs, v = .ref a ∧ H a = some (.dK kvs) ∧ RK K F kvs ds := by
  rcases h with h | h <;> cases h
  · exact ⟨_, _, rfl, s _ _ ‹_›, ‹_›⟩
  · exact ⟨_, _, rfl, ‹_›, ‹_›⟩
theorem RW.obj {v : V} {C : Addr} {ds : List (Str × D)} (s : Same F H) (h : RW K F H v (.obj C ds)) : ∃ a dx fs, v = .ref a ∧ H a = some (.ins C dx fs) ∧ RF K F fs ds := by
  rcases h with h | h <;> cases h
  · exact ⟨_, _, _, rfl, s _ _ ‹_›, ‹_›⟩
  · exact ⟨_, _, _, rfl, ‹_›, ‹_›⟩
end

/-- a slot: empty, or a datum: one's own or not, still what was handed in or not -/
inductive Sl where
  | un | sl (o p : Bool) (d : D)
/-- what an expression gives: a datum that stays, one of one's own that nobody holds, what the slot i holds -/
inductive Rv where
  | val (d : D) | own (d : D) | at (i : Nat)
/-- the datum as it stands -/
def wv (ρ : List Sl) (r : Rv) (k : D → Prop) : Prop := match r with
  | .val d => k d
  | .own d => k d
  | .at i => match ρ[i]? with
    | some (.sl _ _ d) => k d
    | _ => False
/-- the slots behind it where it stays from now on -/
def frz (ρ : List Sl) (r : Rv) : List Sl := match r with
  | .at i => match ρ[i]? with
    | some (.sl _ p d) => ρ.set i (Sl.sl false p d)
    | _ => ρ
  | _ => ρ

structure ER (K : PySem.W.Frag) (F H : Hp) (σ0 : L2.St) (ρ : List Sl) (σ : L2.St) (B : Addr → Prop) : Prop where
  len : ρ.length = σ.length
  sub : Same F H
  fz : ∀ (i : Nat) p d, ρ[i]? = some (Sl.sl false p d) → ∃ v, σ[i]? = some (some v) ∧ RD K F v d
  ow : ∀ (i : Nat) p d, ρ[i]? = some (Sl.sl true p d) → ∃ a, σ[i]? = some (some (V.ref a)) ∧ RO K F H (.ref a) d ∧ F a = none ∧ ¬ B a
  inj : ∀ (i j : Nat) a p q d e, ρ[i]? = some (Sl.sl true p d) → ρ[j]? = some (Sl.sl true q e) → σ[i]? = some (some (V.ref a)) → σ[j]? = some (some (V.ref a)) → i = j
  par : ∀ (i : Nat) o d, ρ[i]? = some (Sl.sl o true d) → σ[i]? = σ0[i]?
  out : ∀ a, B a → H a ≠ none ∧ F a = none
structure Nx (F H F' H' : Hp) (B : Addr → Prop) : Prop where
  fz : Same F F'
  out : ∀ a, B a → H' a = H a
theorem Nx.refl (F H : Hp) (B : Addr → Prop) : Nx F H F H B := ⟨Same.refl _, fun _ _ => rfl⟩
theorem Nx.trans {F H F1 H1 F2 H2 : Hp} {B : Addr → Prop} (a : Nx F H F1 H1 B) (b : Nx F1 H1 F2 H2 B) : Nx F H F2 H2 B := ⟨a.fz.trans b.fz, fun c h => (b.out c h).trans (a.out c h)⟩
theorem Nx.mono {F H F' H' : Hp} {B B' : Addr → Prop} (a : Nx F H F' H' B') (h : ∀ c, B c → B' c) : Nx F H F' H' B := ⟨a.fz, fun c z => a.out c (h c z)⟩
def RR (K : PySem.W.Frag) (F H : Hp) (ρ : List Sl) (σ : L2.St) (B : Addr → Prop) (r : Rv) (v : V) : Prop := match r with
  | .val d => RD K F v d
  | .own d => ∃ a, v = .ref a ∧ RO K F H v d ∧ F a = none ∧ ¬ B a ∧ ∀ (i : Nat) p e, ρ[i]? = some (Sl.sl true p e) → σ[i]? ≠ some (some (V.ref a))
  | .at i => σ[i]? = some (some v)
def hB (B : Addr → Prop) (r : Rv) (v : V) : Addr → Prop := match r with
  | .own _ => fun a => B a ∨ v = .ref a
  | _ => B
section
variable {K : PySem.W.Frag} {F F' H H' : Hp} {σ0 σ : L2.St} {ρ ρ' : List Sl} {B : Addr → Prop} {r : Rv} {v : V} {d : D}
theorem hB_sub : ∀ c, B c → hB B r v c := fun c h => by cases r <;> first | exact h | exact .inl h
/-- the datum as it stands, of a result -/
theorem ER.seen (E : ER K F H σ0 ρ σ B) (h : RR K F H ρ σ B r v) {k : D → Prop} (w : wv ρ r k) : ∃ d, RW K F H v d ∧ k d := by
  cases r with
  | val d => exact ⟨d, .inl h, w⟩
  | own d => obtain ⟨a, _, ro, _⟩ := h; exact ⟨d, .inr ro, w⟩
  | «at» i =>
    unfold wv at w
    dsimp only at w
    cases q : ρ[i]? with
    | none => rw [q] at w; exact w.elim
    | some s =>
      cases s with
      | un => rw [q] at w; exact w.elim
      | sl o p d =>
        rw [q] at w
        have h' : σ[i]? = some (some v) := h
        cases o with
        | false =>
          obtain ⟨u, e, rd⟩ := E.fz i p d q
          rw [h'] at e; cases e
          exact ⟨d, .inl rd, w⟩
        | true =>
          obtain ⟨a, e, ro, _⟩ := E.ow i p d q
          rw [h'] at e; cases e
          exact ⟨d, .inr ro, w⟩
/-- a result is held while others are reckoned -/
theorem ER.hold (E : ER K F H σ0 ρ σ B) (h : RR K F H ρ σ B r v) : ER K F H σ0 ρ σ (hB B r v) := by
  cases r with
  | val d => exact E
  | «at» i => exact E
  | own d =>
    obtain ⟨a, rfl, ro, n, nb, ns⟩ := h
    refine ⟨E.len, E.sub, E.fz, fun i p d q => ?_, E.inj, E.par, fun b hb => ?_⟩
    · obtain ⟨b, e, z⟩ := E.ow i p d q
      refine ⟨b, e, z.1, z.2.1, fun hb => ?_⟩
      rcases hb with hb | hb
      · exact z.2.2 hb
      · cases hb; exact ns i p d q e
    · rcases hb with hb | hb
      · exact E.out b hb
      · cases hb
        obtain ⟨_, o, e, z⟩ := ro.there
        cases e
        exact ⟨by rw [z]; exact fun y => (nomatch y), n⟩
theorem ER.unhold (E : ER K F' H' σ0 ρ' σ (hB B r v)) : ER K F' H' σ0 ρ' σ B :=
  ⟨E.len, E.sub, E.fz, fun i p d q => let ⟨a, e, x, y, z⟩ := E.ow i p d q; ⟨a, e, x, y, fun hb => z (hB_sub _ hb)⟩, E.inj, E.par, fun a h => E.out a (hB_sub _ h)⟩
theorem RR.held (E : ER K F H σ0 ρ σ B) (E' : ER K F' H' σ0 ρ' σ (hB B r v)) (h : RR K F H ρ σ B r v) (n : Nx F H F' H' (hB B r v)) : RR K F' H' ρ' σ B r v := by
  cases r with
  | val d => exact RD.mono n.fz h
  | «at» i => exact h
  | own d =>
    obtain ⟨a, rfl, ro, n1, nb, ns⟩ := h
    refine ⟨a, rfl, ro.keep n.fz (n.out a (.inr rfl)), (E'.out a (.inr rfl)).2, nb, fun i p e q z => ?_⟩
    obtain ⟨b, e2, _, _, nb2⟩ := E'.ow i p e q
    rw [z] at e2; cases e2
    exact nb2 (.inr rfl)
/-- a result stays from now on -/
theorem ER.freeze (E : ER K F H σ0 ρ σ B) (h : RR K F H ρ σ B r v) {k : D → Prop} (w : wv ρ r k) : ∃ F' d, Nx F H F' H B ∧ ER K F' H σ0 (frz ρ r) σ B ∧ RD K F' v d ∧ k d := by
  cases r with
  | val d => exact ⟨F, d, .refl _ _ _, E, h, w⟩
  | own d =>
    obtain ⟨a, rfl, ro, n, nb, ns⟩ := h
    obtain ⟨_, o, e, z⟩ := ro.there
    cases e
    have s : Same F (upd F a o) := fun b u q => by rw [upd_ne (ne_of_none q n)]; exact q
    refine ⟨upd F a o, d, ⟨s, fun _ _ => rfl⟩, ⟨E.len, fun b u q => ?_, fun i p d q => ?_, fun i p d q => ?_, E.inj, E.par, fun b hb => ?_⟩, ro.froze n z, w⟩
    · by_cases hb : b = a
      · subst hb; rw [upd_same] at q; cases q; exact z
      · rw [upd_ne hb] at q; exact E.sub b u q
    · obtain ⟨v, e, rd⟩ := E.fz i p d q
      exact ⟨v, e, rd.mono s⟩
    · obtain ⟨b, e, ro2, n2, nb2⟩ := E.ow i p d q
      have hb : b ≠ a := fun y => by subst y; exact ns i p d q e
      exact ⟨b, e, ro2.keep s rfl, by rw [upd_ne hb]; exact n2, nb2⟩
    · have hb' : b ≠ a := fun y => by subst y; exact nb hb
      rw [upd_ne hb']; exact E.out b hb
  | «at» i =>
    have h' : σ[i]? = some (some v) := h
    unfold wv at w
    dsimp only at w
    cases q : ρ[i]? with
    | none => rw [q] at w; exact w.elim
    | some s =>
      cases s with
      | un => rw [q] at w; exact w.elim
      | sl o p d =>
        rw [q] at w
        have fe : frz ρ (.at i) = ρ.set i (Sl.sl false p d) := by simp only [frz, q]
        have hi : i < ρ.length := (List.getElem?_eq_some_iff.mp q).1
        have at_ : ∀ (j : Nat) s, (ρ.set i (Sl.sl false p d))[j]? = some s → (j = i ∧ s = .sl false p d) ∨ (j ≠ i ∧ ρ[j]? = some s) := fun j s e => by
          by_cases hj : j = i
          · subst hj; rw [List.getElem?_set_self hi] at e; cases e; exact .inl ⟨rfl, rfl⟩
          · rw [List.getElem?_set_ne (Ne.symm hj)] at e; exact .inr ⟨hj, e⟩
        cases o with
        | false =>
          obtain ⟨u, e, rd⟩ := E.fz i p d q
          rw [h'] at e; cases e
          refine ⟨F, d, .refl _ _ _, ?_, rd, w⟩
          rw [fe]
          have : ρ.set i (Sl.sl false p d) = ρ := by
            refine List.ext_getElem? fun j => ?_
            by_cases hj : j = i
            · subst hj; rw [List.getElem?_set_self hi, q]
            · rw [List.getElem?_set_ne (Ne.symm hj)]
          rw [this]; exact E
        | true =>
          obtain ⟨a, e, ro, n, nb⟩ := E.ow i p d q
          rw [h'] at e; cases e
          obtain ⟨_, o, e, z⟩ := ro.there
          cases e
          have s : Same F (upd F a o) := fun b u q => by rw [upd_ne (ne_of_none q n)]; exact q
          refine ⟨upd F a o, d, ⟨s, fun _ _ => rfl⟩, ?_, ro.froze n z, w⟩
          rw [fe]
          refine ⟨by rw [List.length_set]; exact E.len, fun b u q => ?_, fun j p' d' q' => ?_, fun j p' d' q' => ?_, fun j k b p1 p2 d1 d2 q1 q2 => ?_, fun j o' d' q' => ?_, fun b hb => ?_⟩
          · by_cases hb : b = a
            · subst hb; rw [upd_same] at q; cases q; exact z
            · rw [upd_ne hb] at q; exact E.sub b u q
          · rcases at_ _ _ q' with ⟨rfl, y⟩ | ⟨_, y⟩
            · cases y
              exact ⟨_, h', ro.froze n z⟩
            · obtain ⟨v, e, rd⟩ := E.fz j p' d' y
              exact ⟨v, e, rd.mono s⟩
          · rcases at_ _ _ q' with ⟨rfl, y⟩ | ⟨hj, y⟩
            · cases y
            · obtain ⟨b, e, ro2, n2, nb2⟩ := E.ow j p' d' y
              have hb : b ≠ a := fun w => by subst w; exact hj (E.inj j i b _ _ _ _ y q e h')
              exact ⟨b, e, ro2.keep s rfl, by rw [upd_ne hb]; exact n2, nb2⟩
          · rcases at_ _ _ q1 with ⟨rfl, y⟩ | ⟨_, y⟩
            · cases y
            · rcases at_ _ _ q2 with ⟨rfl, y2⟩ | ⟨_, y2⟩
              · cases y2
              · exact E.inj j k b _ _ _ _ y y2
          · rcases at_ _ _ q' with ⟨rfl, y⟩ | ⟨_, y⟩
            · cases y; exact E.par j true d q
            · exact E.par j o' d' y
          · have hb' : b ≠ a := fun y => by subst y; exact nb hb
            rw [upd_ne hb']; exact E.out b hb
/-! ### new objects -/
theorem ER.free (E : ER K F H σ0 ρ σ B) {p : Addr} (h : H p = none) : F p = none := E.sub.free h
theorem ER.nB (E : ER K F H σ0 ρ σ B) {p : Addr} (h : H p = none) : ¬ B p := fun b => (E.out p b).1 h
theorem ER.nS (E : ER K F H σ0 ρ σ B) {p : Addr} (h : H p = none) : ∀ (i : Nat) q e, ρ[i]? = some (Sl.sl true q e) → σ[i]? ≠ some (some (V.ref p)) := fun i q e z y => by
  obtain ⟨b, e1, ro, _⟩ := E.ow i q e z
  rw [y] at e1; cases e1
  obtain ⟨_, o, e2, w⟩ := ro.there
  cases e2
  rw [h] at w; cases w
theorem nx_new {p : Addr} {o : HO} (E : ER K F H σ0 ρ σ B) (h : H p = none) : Nx F H F (upd H p o) B := ⟨Same.refl _, fun a b => upd_ne fun e => by subst e; exact E.nB h b⟩
/-- a new object, one's own -/
theorem ER.laid {p : Addr} {o : HO} (E : ER K F H σ0 ρ σ B) (h : H p = none) : ER K F (upd H p o) σ0 ρ σ B := by
  have keep : ∀ b u, H b = some u → upd H p o b = some u := fun b u e => by rw [upd_ne (ne_of_none e h)]; exact e
  refine ⟨E.len, fun b u e => keep b u (E.sub b u e), E.fz, fun i q d z => ?_, E.inj, E.par, fun a b => ⟨?_, (E.out a b).2⟩⟩
  · obtain ⟨b, e, ro, n, nb⟩ := E.ow i q d z
    obtain ⟨_, u, e2, w⟩ := ro.there
    cases e2
    exact ⟨b, e, ro.keep (Same.refl _) (by rw [keep b u w, w]), n, nb⟩
  · rw [upd_ne fun e => by subst e; exact E.nB h b]; exact (E.out a b).1
theorem ER.laid_own {p : Addr} {o : HO} {d : D} (E : ER K F H σ0 ρ σ B) (h : H p = none) (ro : RO K F (upd H p o) (.ref p) d) : RR K F (upd H p o) ρ σ B (.own d) (.ref p) :=
  ⟨p, rfl, ro, E.free h, E.nB h, E.nS h⟩
/-- a new object that stays -/
theorem ER.laid_val {p : Addr} {o : HO} (E : ER K F H σ0 ρ σ B) (h : H p = none) : ER K (upd F p o) (upd H p o) σ0 ρ σ B ∧ Nx F H (upd F p o) (upd H p o) B := by
  have nF := E.free h
  have s : Same F (upd F p o) := fun b u q => by rw [upd_ne (ne_of_none q nF)]; exact q
  have E1 := E.laid (o := o) h
  refine ⟨⟨E.len, fun b u e => ?_, fun i q d z => ?_, fun i q d z => ?_, E.inj, E.par, fun a b => ⟨(E1.out a b).1, ?_⟩⟩, s, (nx_new E h).out⟩
  · by_cases hb : b = p
    · subst hb; rw [upd_same] at e ⊢; exact e
    · rw [upd_ne hb] at e ⊢; exact E.sub b u e
  · obtain ⟨v, e, rd⟩ := E.fz i q d z
    exact ⟨v, e, rd.mono s⟩
  · obtain ⟨b, e, ro, n, nb⟩ := E1.ow i q d z
    have hb : b ≠ p := fun y => by subst y; exact E.nS h i q d z e
    exact ⟨b, e, ro.keep s rfl, by rw [upd_ne hb]; exact n, nb⟩
  · rw [upd_ne fun e => by subst e; exact E.nB h b]; exact (E.out a b).2
/-- one's own object is written -/
theorem ER.wrote {i : Nat} {q : Bool} {a : Addr} {d e : D} {o : HO} (E : ER K F H σ0 ρ σ B) (hi : ρ[i]? = some (Sl.sl true q d)) (ha : σ[i]? = some (some (V.ref a))) (ro : RO K F (upd H a o) (.ref a) e) :
    ER K F (upd H a o) σ0 (ρ.set i (Sl.sl true q e)) σ B ∧ Nx F H F (upd H a o) B := by
  have hl : i < ρ.length := (List.getElem?_eq_some_iff.mp hi).1
  obtain ⟨a', e1, ro1, n1, nb1⟩ := E.ow i q d hi
  rw [ha] at e1; cases e1
  have at_ : ∀ (j : Nat) s, (ρ.set i (Sl.sl true q e))[j]? = some s → (j = i ∧ s = .sl true q e) ∨ (j ≠ i ∧ ρ[j]? = some s) := fun j s z => by
    by_cases hj : j = i
    · subst hj; rw [List.getElem?_set_self hl] at z; cases z; exact .inl ⟨rfl, rfl⟩
    · rw [List.getElem?_set_ne (Ne.symm hj)] at z; exact .inr ⟨hj, z⟩
  refine ⟨⟨by rw [List.length_set]; exact E.len, fun b u z => ?_, fun j p f z => ?_, fun j p f z => ?_, fun j k b p1 p2 d1 d2 q1 q2 h1 h2 => ?_, fun j o' f z => ?_, fun b hb => ⟨?_, (E.out b hb).2⟩⟩, Same.refl _, fun b hb => upd_ne fun y => by subst y; exact nb1 hb⟩
  · rw [upd_ne (ne_of_none z n1)]; exact E.sub b u z
  · rcases at_ _ _ z with ⟨_, y⟩ | ⟨_, y⟩
    · cases y
    · exact E.fz j p f y
  · rcases at_ _ _ z with ⟨rfl, y⟩ | ⟨hj, y⟩
    · cases y; exact ⟨a, ha, ro, n1, nb1⟩
    · obtain ⟨b, e2, ro2, n2, nb2⟩ := E.ow j p f y
      have hb : b ≠ a := fun w => by subst w; exact hj (E.inj j i b _ _ _ _ y hi e2 ha)
      exact ⟨b, e2, ro2.keep (Same.refl _) (upd_ne hb), n2, nb2⟩
  · have g : ∀ (j : Nat) p (d1 : D), (ρ.set i (Sl.sl true q e))[j]? = some (Sl.sl true p d1) → ∃ p' d', ρ[j]? = some (Sl.sl true p' d') := fun j p d1 z => by
      rcases at_ _ _ z with ⟨rfl, _⟩ | ⟨_, y⟩
      · exact ⟨_, _, hi⟩
      · exact ⟨_, _, y⟩
    obtain ⟨_, _, y1⟩ := g _ _ _ q1
    obtain ⟨_, _, y2⟩ := g _ _ _ q2
    exact E.inj j k b _ _ _ _ y1 y2 h1 h2
  · rcases at_ _ _ z with ⟨rfl, y⟩ | ⟨_, y⟩
    · cases y; exact E.par j true d hi
    · exact E.par j o' f y
  · rw [upd_ne fun y => by subst y; exact nb1 hb]; exact (E.out b hb).1
/-- a name is stored -/
def put (ρ : List Sl) (i : Nat) (r : Rv) (k : List Sl → Prop) : Prop := match r with
  | .val d => k (ρ.set i (Sl.sl false false d))
  | .own d => k (ρ.set i (Sl.sl true false d))
  | .at j => match ρ[j]? with
    | some (.sl _ p d) => k ((ρ.set j (Sl.sl false p d)).set i (Sl.sl false false d))
    | _ => False
theorem ER.set_val {i : Nat} (E : ER K F H σ0 ρ σ B) (h : RD K F v d) : ER K F H σ0 (ρ.set i (Sl.sl false false d)) (σ.set i (some v)) B := by
  by_cases hl : i < ρ.length
  · have hs : i < σ.length := by rw [← E.len]; exact hl
    have at_ : ∀ (j : Nat) s, (ρ.set i (Sl.sl false false d))[j]? = some s → (j = i ∧ s = .sl false false d) ∨ (j ≠ i ∧ ρ[j]? = some s) := fun j s z => by
      by_cases hj : j = i
      · subst hj; rw [List.getElem?_set_self hl] at z; cases z; exact .inl ⟨rfl, rfl⟩
      · rw [List.getElem?_set_ne (Ne.symm hj)] at z; exact .inr ⟨hj, z⟩
    have sn : ∀ (j : Nat), j ≠ i → (σ.set i (some v))[j]? = σ[j]? := fun j hj => List.getElem?_set_ne (Ne.symm hj)
    refine ⟨by rw [List.length_set, List.length_set]; exact E.len, E.sub, fun j p f z => ?_, fun j p f z => ?_, fun j k b p1 p2 d1 d2 q1 q2 h1 h2 => ?_, fun j o' f z => ?_, E.out⟩
    · rcases at_ _ _ z with ⟨rfl, y⟩ | ⟨hj, y⟩
      · cases y; exact ⟨v, List.getElem?_set_self hs, h⟩
      · rw [sn j hj]; exact E.fz j p f y
    · rcases at_ _ _ z with ⟨rfl, y⟩ | ⟨hj, y⟩
      · cases y
      · rw [sn j hj]; exact E.ow j p f y
    · rcases at_ _ _ q1 with ⟨rfl, y⟩ | ⟨hj, y⟩
      · cases y
      · rcases at_ _ _ q2 with ⟨rfl, y2⟩ | ⟨hk, y2⟩
        · cases y2
        · rw [sn j hj] at h1; rw [sn k hk] at h2
          exact E.inj j k b _ _ _ _ y y2 h1 h2
    · rcases at_ _ _ z with ⟨rfl, y⟩ | ⟨hj, y⟩
      · cases y
      · rw [sn j hj]; exact E.par j o' f y
  · have e1 : ρ.set i (Sl.sl false false d) = ρ := List.set_eq_of_length_le (by omega)
    have e2 : σ.set i (some v) = σ := List.set_eq_of_length_le (by have := E.len; omega)
    rw [e1, e2]; exact E
theorem ER.set_own {i : Nat} (E : ER K F H σ0 ρ σ B) (h : RR K F H ρ σ B (.own d) v) : ER K F H σ0 (ρ.set i (Sl.sl true false d)) (σ.set i (some v)) B := by
  obtain ⟨a, rfl, ro, n, nb, ns⟩ := h
  by_cases hl : i < ρ.length
  · have hs : i < σ.length := by rw [← E.len]; exact hl
    have at_ : ∀ (j : Nat) s, (ρ.set i (Sl.sl true false d))[j]? = some s → (j = i ∧ s = .sl true false d) ∨ (j ≠ i ∧ ρ[j]? = some s) := fun j s z => by
      by_cases hj : j = i
      · subst hj; rw [List.getElem?_set_self hl] at z; cases z; exact .inl ⟨rfl, rfl⟩
      · rw [List.getElem?_set_ne (Ne.symm hj)] at z; exact .inr ⟨hj, z⟩
    have sn : ∀ (j : Nat), j ≠ i → (σ.set i (some (V.ref a)))[j]? = σ[j]? := fun j hj => List.getElem?_set_ne (Ne.symm hj)
    have si : (σ.set i (some (V.ref a)))[i]? = some (some (V.ref a)) := List.getElem?_set_self hs
    refine ⟨by rw [List.length_set, List.length_set]; exact E.len, E.sub, fun j p f z => ?_, fun j p f z => ?_, fun j k b p1 p2 d1 d2 q1 q2 h1 h2 => ?_, fun j o' f z => ?_, E.out⟩
    · rcases at_ _ _ z with ⟨rfl, y⟩ | ⟨hj, y⟩
      · cases y
      · rw [sn j hj]; exact E.fz j p f y
    · rcases at_ _ _ z with ⟨rfl, y⟩ | ⟨hj, y⟩
      · cases y; exact ⟨a, si, ro, n, nb⟩
      · rw [sn j hj]; exact E.ow j p f y
    · rcases at_ _ _ q1 with ⟨rfl, y⟩ | ⟨hj, y⟩
      · rcases at_ _ _ q2 with ⟨rfl, y2⟩ | ⟨hk, y2⟩
        · rfl
        · rw [si] at h1; cases h1
          rw [sn k hk] at h2
          exact absurd h2 (ns k _ _ y2)
      · rw [sn j hj] at h1
        rcases at_ _ _ q2 with ⟨rfl, y2⟩ | ⟨hk, y2⟩
        · rw [si] at h2; cases h2
          exact absurd h1 (ns j _ _ y)
        · rw [sn k hk] at h2
          exact E.inj j k b _ _ _ _ y y2 h1 h2
    · rcases at_ _ _ z with ⟨rfl, y⟩ | ⟨hj, y⟩
      · cases y
      · rw [sn j hj]; exact E.par j o' f y
  · have e1 : ρ.set i (Sl.sl true false d) = ρ := List.set_eq_of_length_le (by omega)
    have e2 : σ.set i (some (V.ref a)) = σ := List.set_eq_of_length_le (by have := E.len; omega)
    rw [e1, e2]; exact E
theorem ER.put {i : Nat} {k : List Sl → Prop} (E : ER K F H σ0 ρ σ B) (h : RR K F H ρ σ B r v) (p : put ρ i r k) : ∃ F' ρ', Nx F H F' H B ∧ ER K F' H σ0 ρ' (σ.set i (some v)) B ∧ k ρ' := by
  cases r with
  | val d => exact ⟨F, _, .refl _ _ _, E.set_val h, p⟩
  | own d => exact ⟨F, _, .refl _ _ _, E.set_own h, p⟩
  | «at» j =>
    unfold YP.put at p
    dsimp only at p
    cases q : ρ[j]? with
    | none => rw [q] at p; exact p.elim
    | some s =>
      cases s with
      | un => rw [q] at p; exact p.elim
      | sl o pp d =>
        rw [q] at p
        have w : wv ρ (.at j) (fun e => e = d) := by simp only [wv, q]
        obtain ⟨F', d', nx, E', rd, rfl⟩ := E.freeze h w
        refine ⟨F', _, nx, ?_, p⟩
        have fe : frz ρ (.at j) = ρ.set j (Sl.sl false pp d') := by simp only [frz, q]
        rw [fe] at E'
        exact E'.set_val rd
end
end YP
set_option maxRecDepth 100000
/-! The yard's pure layer, part 2: expressions. -/
namespace YP
open PySem PySem.Spec PyProof.Rows L2

abbrev UE := List Sl → (Rv → List Sl → Prop) → Prop
abbrev UT := List Sl → (Bool → List Sl → Prop) → Prop
def tS (X : Cx) (e : Expr) : TE := fun σ H Q => ∀ pins s, Inv X pins σ H s → wpAny (model X.prog X.w) X.A (eval e X.env) (EP X pins σ Q) X.xe s
def tST (X : Cx) (e : Expr) : TT := fun σ H Q => ∀ pins s, Inv X pins σ H s → wpAny (model X.prog X.w) X.A (isTrue e X.env (eval e X.env)) (TP X pins σ Q) X.xe s
def tSW (X : Cx) (e : Expr) : TT := fun σ H Q => ∀ whole pins s, Inv X pins σ H s → wpAny (model X.prog X.w) X.A (isTrue e X.env whole) (TP X pins σ Q) X.xe s
theorem pe_S {X : Cx} {e : Expr} : PE X e (tS X e) := ⟨fun pins s σ H Q I h => h pins s I⟩
theorem pt_S {X : Cx} {e : Expr} : PT X e (tST X e) := ⟨fun pins s σ H Q I h => h pins s I⟩
theorem pw_S {X : Cx} {e : Expr} : PW X e (tSW X e) := ⟨fun whole pins s σ H Q I h => h whole pins s I⟩
/-- a state that was come to -/
structure Gd (K : PySem.W.Frag) (F H F' H' : Hp) (σ0 : L2.St) (ρ : List Sl) (σ : L2.St) (B : Addr → Prop) : Prop where
  nx : Nx F H F' H' B
  er : ER K F' H' σ0 ρ σ B
structure Gt (K : PySem.W.Frag) (F H F' H' : Hp) (σ0 : L2.St) (ρ : List Sl) (σ : L2.St) (B : Addr → Prop) (r : Rv) (v : V) : Prop where
  nx : Nx F H F' H' B
  er : ER K F' H' σ0 ρ σ B
  rr : RR K F' H' ρ σ B r v
structure FE (X : Cx) (e : Expr) (u : UE) : Prop where
  run : ∀ (ρ : List Sl) (R : Rv → List Sl → Prop), u ρ R → ∀ (F H : Hp) (σ0 σ : L2.St) (B : Addr → Prop) (Q : VK), ER X.K F H σ0 ρ σ B →
    (∀ r ρ' v F' H', R r ρ' → Gt X.K F H F' H' σ0 ρ' σ B r v → Q v H') → tS X e σ H Q
instance {X : Cx} {e : Expr} {u : UE} : CoeFun (FE X e u) (fun _ => ∀ (ρ : List Sl) (R : Rv → List Sl → Prop), u ρ R → ∀ (F H : Hp) (σ0 σ : L2.St) (B : Addr → Prop) (Q : VK), ER X.K F H σ0 ρ σ B →
  (∀ r ρ' v F' H', R r ρ' → Gt X.K F H F' H' σ0 ρ' σ B r v → Q v H') → tS X e σ H Q) := ⟨FE.run⟩
structure FT (X : Cx) (e : Expr) (u : UT) : Prop where
  run : ∀ (ρ : List Sl) (R : Bool → List Sl → Prop), u ρ R → ∀ (F H : Hp) (σ0 σ : L2.St) (B : Addr → Prop) (Q : Bool → Hp → Prop), ER X.K F H σ0 ρ σ B →
    (∀ b ρ' F' H', R b ρ' → Gd X.K F H F' H' σ0 ρ' σ B → Q b H') → tST X e σ H Q
instance {X : Cx} {e : Expr} {u : UT} : CoeFun (FT X e u) (fun _ => ∀ (ρ : List Sl) (R : Bool → List Sl → Prop), u ρ R → ∀ (F H : Hp) (σ0 σ : L2.St) (B : Addr → Prop) (Q : Bool → Hp → Prop), ER X.K F H σ0 ρ σ B →
  (∀ b ρ' F' H', R b ρ' → Gd X.K F H F' H' σ0 ρ' σ B → Q b H') → tST X e σ H Q) := ⟨FT.run⟩
structure FW (X : Cx) (e : Expr) (u : UT) : Prop where
  run : ∀ (ρ : List Sl) (R : Bool → List Sl → Prop), u ρ R → ∀ (F H : Hp) (σ0 σ : L2.St) (B : Addr → Prop) (Q : Bool → Hp → Prop), ER X.K F H σ0 ρ σ B →
    (∀ b ρ' F' H', R b ρ' → Gd X.K F H F' H' σ0 ρ' σ B → Q b H') → tSW X e σ H Q
instance {X : Cx} {e : Expr} {u : UT} : CoeFun (FW X e u) (fun _ => ∀ (ρ : List Sl) (R : Bool → List Sl → Prop), u ρ R → ∀ (F H : Hp) (σ0 σ : L2.St) (B : Addr → Prop) (Q : Bool → Hp → Prop), ER X.K F H σ0 ρ σ B →
  (∀ b ρ' F' H', R b ρ' → Gd X.K F H F' H' σ0 ρ' σ B → Q b H') → tSW X e σ H Q) := ⟨FW.run⟩
section
variable {X : Cx} {e a b : Expr} {ua ub : UE} {F H : Hp} {σ0 σ : L2.St} {ρ : List Sl} {B : Addr → Prop}
theorem to_S {t : TE} {Q : VK} (h : PE X e t) (q : t σ H Q) : tS X e σ H Q := fun pins s I => h.run pins s σ H Q I q
theorem to_ST {t : TT} {Q : Bool → Hp → Prop} (h : PT X e t) (q : t σ H Q) : tST X e σ H Q := fun pins s I => h.run pins s σ H Q I q
theorem to_SW {t : TT} {Q : Bool → Hp → Prop} (h : PW X e t) (q : t σ H Q) : tSW X e σ H Q := fun wh pins s I => h.run wh pins s σ H Q I q
theorem FW.ft {u : UT} (h : FW X e u) : FT X e u := ⟨fun ρ R q F H σ0 σ B Q E g pins s I => h ρ R q F H σ0 σ B Q E g _ pins s I⟩
/-- two in a row -/
theorem FE.two (ha : FE X a ua) (hb : FE X b ub) {T : Rv → Rv → List Sl → Prop} (h : ua ρ fun r ρ1 => ub ρ1 fun q ρ2 => T r q ρ2) (E : ER X.K F H σ0 ρ σ B) (S : V → V → Hp → Prop)
    (g : ∀ r q ρ2 x y F2 H2, T r q ρ2 → Nx F H F2 H2 B → ER X.K F2 H2 σ0 ρ2 σ B → RR X.K F2 H2 ρ2 σ B r x → RR X.K F2 H2 ρ2 σ (hB B r x) q y → S x y H2) : tS X a σ H fun x H1 => tS X b σ H1 fun y H2 => S x y H2 :=
  ha ρ _ h F H σ0 σ B _ E fun r ρ1 x F1 H1 h1 A1 => hb ρ1 _ h1 F1 H1 σ0 σ (hB B r x) _ (A1.er.hold A1.rr) fun q ρ2 y F2 H2 h2 A2 =>
    g r q ρ2 x y F2 H2 h2 (A1.nx.trans (A2.nx.mono hB_sub)) A2.er.unhold (A1.rr.held A1.er A2.er A2.nx) A2.rr
theorem RR.weak {K : PySem.W.Frag} {B' : Addr → Prop} {r : Rv} {v : V} (h : RR K F H ρ σ B' r v) (s : ∀ c, B c → B' c) : RR K F H ρ σ B r v := by
  cases r with
  | val d => exact h
  | «at» i => exact h
  | own d => obtain ⟨a, x, y, z, n, w⟩ := h; exact ⟨a, x, y, z, fun b => n (s _ b), w⟩

/-! ### names and constants -/
def uVar (i : Nat) : UE := fun ρ R => match ρ[i]? with
  | some (.sl false _ d) => R (.val d) ρ
  | some (.sl true _ _) => R (.at i) ρ
  | _ => False
theorem fe_pv {i : Nat} (h : PE X e (tVar i)) : FE X e (uVar i) := ⟨fun ρ R q F H σ0 σ B Q E g => by
  refine to_S h ?_
  unfold uVar at q
  cases z : ρ[i]? with
  | none => rw [z] at q; exact q.elim
  | some s =>
    cases s with
    | un => rw [z] at q; exact q.elim
    | sl o p d =>
      rw [z] at q
      cases o with
      | false =>
        obtain ⟨v, e1, rd⟩ := E.fz i p d z
        exact ⟨v, e1, g _ _ _ _ _ q ⟨.refl _ _ _, E, rd⟩⟩
      | true =>
        obtain ⟨a, e1, _⟩ := E.ow i p d z
        exact ⟨_, e1, g _ _ _ _ _ q ⟨.refl _ _ _, E, e1⟩⟩⟩
theorem fv (i : Nat) {x : Str} {pos : Pos} (hN : X.N[i]? = some x := by rfl) (hv : Vis X.env.scope x := by first | exact Or.inl rfl | exact Or.inr (Or.inl rfl) | exact Or.inr (Or.inr rfl)) (hd : (x == ("__debug__" : Str)) = false := by decide)
    (hcd : (x == ("__classdict__" : Str)) = false := by decide) : FE X (.Name x pos) (uVar i) := fe_pv (pe_var hN hv hd hcd)
def uC (d : D) : UE := fun ρ R => R (.val d) ρ
theorem fe_c {v : V} {d : D} (h : PE X e (tC v)) (rd : ∀ F, RD X.K F v d) : FE X e (uC d) := ⟨fun ρ R q F H σ0 σ B Q E g =>
  to_S h (g _ _ _ _ _ q ⟨.refl _ _ _, E, rd F⟩)⟩
theorem fe_int {i : Int} {j pos} : FE X (.Constant (.int i) j pos) (uC (.int i)) := fe_c pe_int fun _ => .int i
theorem fe_bl {b : Bool} {j pos} : FE X (.Constant (.bool b) j pos) (uC (.bl b)) := fe_c pe_bl fun _ => .bl b
theorem fe_non {j pos} : FE X (.Constant .none j pos) (uC .non) := fe_c pe_non fun _ => .non
theorem fe_str {x : Str} {j pos} : FE X (.Constant (.str x) j pos) (uC (.str x)) := fe_c pe_str fun _ => .str x
theorem fe_glob {x : Str} {v : V} {d : D} {u : Value} {pos : Pos} (hg : Gl X x) (hm : X.mg x = some u) (r : RelV v u) (rd : ∀ F, RD X.K F v d) (hd : (x == ("__debug__" : Str)) = false := by decide) : FE X (.Name x pos) (uC d) := fe_c (pe_glob hg hm r hd) rd
theorem fe_ty {x : Str} {n : String} {pos : Pos} (hg : Gl X x) (hm : X.mg x = none) (hv : bootBuiltins x = some (.type n)) (hn : x ≠ "__name__" := by decide) (hd : (x == ("__debug__" : Str)) = false := by decide) : FE X (.Name x pos) (uC (.ty n)) :=
  fe_c (pe_bltn (v := .ty n) hg hm hv rfl hn hd) fun _ => .ty n

/-! ### operations of two -/
structure OpS (X : Cx) (f : Value → Value → Sem Value) (o : D → D → (Rv → Prop) → Prop) : Prop where
  ex : ∃ r : R2, OpR X f r ∧ ∀ {F H : Hp} {σ0 σ : L2.St} {ρ : List Sl} {B : Addr → Prop} {x y : V} {d e : D} {T : Rv → Prop} {Q : VK}, ER X.K F H σ0 ρ σ B → RW X.K F H x d → RW X.K F H y e → o d e T →
    (∀ z v F' H', T z → Gt X.K F H F' H' σ0 ρ σ B z v → Q v H') → r x y H Q
def uBin (o : D → D → (Rv → Prop) → Prop) (ua ub : UE) : UE := fun ρ R => ua ρ fun r ρ1 => ub ρ1 fun q ρ2 => wv ρ2 r fun d => wv ρ2 q fun e => o d e fun z => R z ρ2
theorem FE.binR {o : D → D → (Rv → Prop) → Prop} {f : Value → Value → Sem Value} (ho : OpS X f o) (ha : FE X a ua) (hb : FE X b ub) {R : Rv → List Sl → Prop} {Q : VK} (h : uBin o ua ub ρ R) (E : ER X.K F H σ0 ρ σ B)
    (g : ∀ r ρ' v F' H', R r ρ' → Gt X.K F H F' H' σ0 ρ' σ B r v → Q v H') : ∃ r : R2, OpR X f r ∧ tS X a σ H fun x H1 => tS X b σ H1 fun y H2 => r x y H2 Q := by
  obtain ⟨r, hr, k⟩ := ho.ex
  refine ⟨r, hr, FE.two ha hb h E (fun x y H2 => r x y H2 Q) fun p q ρ2 x y F2 H2 t n2 E2 r1 r2 => ?_⟩
  obtain ⟨d, w1, t⟩ := E2.seen r1 t
  obtain ⟨e, w2, t⟩ := E2.seen (r2.weak hB_sub) t
  exact k E2 w1 w2 t fun z v F' H' tz G => g z ρ2 v F' H' tz ⟨n2.trans G.nx, G.er, G.rr⟩
theorem fe_op {op : Operator} {o : D → D → (Rv → Prop) → Prop} {pos : Pos} (ho : OpS X (binaryOp op) o) (ha : FE X a ua) (hb : FE X b ub) : FE X (.BinOp a op b pos) (uBin o ua ub) := ⟨fun ρ R q F H σ0 σ B Q E g => by
  obtain ⟨r, hr, t⟩ := FE.binR ho ha hb q E g
  exact to_S (pe_op hr pe_S pe_S) t⟩
theorem fe_cmp {op : CmpOp} {o : D → D → (Rv → Prop) → Prop} {pos : Pos} (ho : OpS X (compareOp op) o) (ha : FE X a ua) (hb : FE X b ub) (hm : behindInMarks op b = false := by rfl) : FE X (.Compare a [op] [b] pos) (uBin o ua ub) := ⟨fun ρ R q F H σ0 σ B Q E g => by
  obtain ⟨r, hr, t⟩ := FE.binR ho ha hb q E g
  exact to_S (pe_cmpR hr pe_S pe_S hm) t⟩
/-- a test: of a value that is a truth -/
def isB (R : Bool → List Sl → Prop) : Rv → List Sl → Prop := fun r ρ => match r with
  | .val (.bl c) => R c ρ
  | _ => False
theorem ft_cmp {op : CmpOp} {o : D → D → (Rv → Prop) → Prop} {pos : Pos} (ho : OpS X (compareOp op) o) (ha : FE X a ua) (hb : FE X b ub) (hm : behindInMarks op b = false := by rfl) : FT X (.Compare a [op] [b] pos) (fun ρ R => uBin o ua ub ρ (isB R)) := ⟨fun ρ R q F H σ0 σ B Q E g => by
  obtain ⟨r, hr, t⟩ := FE.binR (Q := fun x H' => ∃ k, x = .bl k ∧ Q k H') ho ha hb q E fun r ρ' v F' H' h G => by
    unfold isB at h
    split at h
    · rename_i c
      have rr : RD X.K F' v (.bl c) := G.rr
      cases rr
      exact ⟨c, rfl, g c ρ' F' H' h ⟨G.nx, G.er⟩⟩
    · exact h.elim
  exact to_ST (pt_cmpR hr pe_S pe_S hm) t⟩
/-- the truth of a datum -/
def tru : D → (Bool → Prop) → Prop
  | .non, k => k false
  | .bl b, k => k b
  | .int i, k => k (i != 0)
  | .str y, k => y.length ≤ sizeLine ∧ k ((y.length : Int) != 0)
  | .lst l, k => k (!l.isEmpty)
  | .tup l, k => k (!l.isEmpty)
  | .dic l, k => k (!l.isEmpty)
  | _, _ => False
theorem tru_ex {K : PySem.W.Frag} {v : V} {d : D} {k : Bool → Prop} (E : ER K F H σ0 ρ σ B) (h : RW K F H v d) (t : tru d k) : ∃ c, TruV K v H c ∧ k c := by
  cases d with
  | non => cases h.non; exact ⟨_, rfl, t⟩
  | bl b => cases h.bl; exact ⟨_, rfl, t⟩
  | int b => cases h.int; exact ⟨_, rfl, t⟩
  | str b => cases h.str; exact ⟨_, ⟨t.1, rfl⟩, t.2⟩
  | lst l =>
    obtain ⟨a, vs, rfl, h1, h2⟩ := h.lst E.sub
    have e : vs.isEmpty = l.isEmpty := by cases h2 <;> rfl
    exact ⟨_, .inl ⟨vs, .of h1, rfl⟩, by rw [e]; exact t⟩
  | tup l =>
    obtain ⟨a, vs, rfl, h1, h2⟩ := h.tup E.sub
    have e : vs.isEmpty = l.isEmpty := by cases h2 <;> rfl
    exact ⟨_, .inr (.inl ⟨vs, h1, rfl⟩), by rw [e]; exact t⟩
  | dic l =>
    obtain ⟨a, vs, rfl, h1, h2⟩ := h.dic E.sub
    have e : vs.isEmpty = l.isEmpty := by cases h2 <;> rfl
    exact ⟨_, .inr (.inr ⟨vs, h1, rfl⟩), by rw [e]; exact t⟩
  | _ => exact t.elim
def uTru (u : UE) : UT := fun ρ R => u ρ fun r ρ1 => wv ρ1 r fun d => tru d fun c => R c ρ1
theorem ft_tru (ha : FE X a ua) (he : ∀ whole, isTrue a X.env whole = (do let v ← whole; standAt a.pos; holding [v] (truthy v)) := by intro _; rfl) : FT X a (uTru ua) := ⟨fun ρ R q F H σ0 σ B Q E g => by
  refine to_ST (pt_truth pe_S he) (ha ρ _ q F H σ0 σ B _ E fun r ρ1 v F1 H1 h G => ?_)
  obtain ⟨d, w, h⟩ := G.er.seen G.rr h
  obtain ⟨c, w, h⟩ := tru_ex G.er w h
  exact ⟨c, w, g c ρ1 F1 H1 h ⟨G.nx, G.er⟩⟩⟩

/-! ### and, or, not -/
section
variable {rest : List Expr} {t1 t2 : UT} {pos : Pos}
def uAnd (t u : UT) : UT := fun ρ R => t ρ fun c ρ1 => if c = true then u ρ1 R else R false ρ1
def uOr (t u : UT) : UT := fun ρ R => t ρ fun c ρ1 => if c = true then R true ρ1 else u ρ1 R
def uNot (t : UT) : UT := fun ρ R => t ρ fun c ρ1 => R (!c) ρ1
theorem fw_and1 (h : FT X a t1) : FW X (.BoolOp .And [a] pos) t1 := ⟨fun ρ R q F H σ0 σ B Q E g => to_SW (pw_and1 pt_S) (h ρ R q F H σ0 σ B Q E g)⟩
theorem fw_or1 (h : FT X a t1) : FW X (.BoolOp .Or [a] pos) t1 := ⟨fun ρ R q F H σ0 σ B Q E g => to_SW (pw_or1 pt_S) (h ρ R q F H σ0 σ B Q E g)⟩
theorem fw_and (h : FT X a t1) (k : FW X (.BoolOp .And (b :: rest) pos) t2) : FW X (.BoolOp .And (a :: b :: rest) pos) (uAnd t1 t2) := ⟨fun ρ R q F H σ0 σ B Q E g => by
  refine to_SW (pw_and pt_S pw_S) (h ρ _ q F H σ0 σ B _ E fun c ρ1 F1 H1 z G => ?_)
  cases c with
  | true => exact k ρ1 R z F1 H1 σ0 σ B Q G.er fun b ρ' F' H' r G' => g b ρ' F' H' r ⟨G.nx.trans G'.nx, G'.er⟩
  | false => exact g false ρ1 F1 H1 z G⟩
theorem fw_or (h : FT X a t1) (k : FW X (.BoolOp .Or (b :: rest) pos) t2) : FW X (.BoolOp .Or (a :: b :: rest) pos) (uOr t1 t2) := ⟨fun ρ R q F H σ0 σ B Q E g => by
  refine to_SW (pw_or pt_S pw_S) (h ρ _ q F H σ0 σ B _ E fun c ρ1 F1 H1 z G => ?_)
  cases c with
  | false => exact k ρ1 R z F1 H1 σ0 σ B Q G.er fun b ρ' F' H' r G' => g b ρ' F' H' r ⟨G.nx.trans G'.nx, G'.er⟩
  | true => exact g true ρ1 F1 H1 z G⟩
theorem ft_not (h : FT X a t1) : FT X (.UnaryOp .Not a pos) (uNot t1) := ⟨fun ρ R q F H σ0 σ B Q E g => to_ST (pt_not pt_S) (h ρ _ q F H σ0 σ B _ E fun c ρ1 F1 H1 z G => g (!c) ρ1 F1 H1 z G)⟩
/-- .. as values, where they are truths -/
def uAndV (ua ub : UE) : UE := fun ρ R => ua ρ fun r ρ1 => match r with
  | .val (.bl c) => if c = true then ub ρ1 R else R (.val (.bl false)) ρ1
  | _ => False
def uOrV (ua ub : UE) : UE := fun ρ R => ua ρ fun r ρ1 => match r with
  | .val (.bl c) => if c = true then R (.val (.bl true)) ρ1 else ub ρ1 R
  | _ => False
def uNotV (ua : UE) : UE := fun ρ R => ua ρ fun r ρ1 => match r with
  | .val (.bl c) => R (.val (.bl (!c))) ρ1
  | _ => False
theorem fe_one {op} (h : FE X a ua) : FE X (.BoolOp op [a] pos) ua := ⟨fun ρ R q F H σ0 σ B Q E g => to_S (pe_one pe_S) (h ρ R q F H σ0 σ B Q E g)⟩
theorem fe_and (h : FE X a ua) (k : FE X (.BoolOp .And (b :: rest) pos) ub) : FE X (.BoolOp .And (a :: b :: rest) pos) (uAndV ua ub) := ⟨fun ρ R q F H σ0 σ B Q E g => by
  refine to_S (pe_and pe_S pe_S) (h ρ _ q F H σ0 σ B _ E fun r ρ1 v F1 H1 z G => ?_)
  split at z
  · rename_i c
    have rr : RD X.K F1 v (.bl c) := G.rr
    cases rr
    refine ⟨c, rfl, ?_⟩
    cases c with
    | true => exact k ρ1 R z F1 H1 σ0 σ B Q G.er fun r ρ' v F' H' y G' => g r ρ' v F' H' y ⟨G.nx.trans G'.nx, G'.er, G'.rr⟩
    | false => exact g _ _ _ _ _ z G
  · exact z.elim⟩
theorem fe_or (h : FE X a ua) (k : FE X (.BoolOp .Or (b :: rest) pos) ub) : FE X (.BoolOp .Or (a :: b :: rest) pos) (uOrV ua ub) := ⟨fun ρ R q F H σ0 σ B Q E g => by
  refine to_S (pe_or pe_S pe_S) (h ρ _ q F H σ0 σ B _ E fun r ρ1 v F1 H1 z G => ?_)
  split at z
  · rename_i c
    have rr : RD X.K F1 v (.bl c) := G.rr
    cases rr
    refine ⟨c, rfl, ?_⟩
    cases c with
    | false => exact k ρ1 R z F1 H1 σ0 σ B Q G.er fun r ρ' v F' H' y G' => g r ρ' v F' H' y ⟨G.nx.trans G'.nx, G'.er, G'.rr⟩
    | true => exact g _ _ _ _ _ z G
  · exact z.elim⟩
theorem fe_not (h : FE X a ua) : FE X (.UnaryOp .Not a pos) (uNotV ua) := ⟨fun ρ R q F H σ0 σ B Q E g => by
  refine to_S (pe_not pe_S) (h ρ _ q F H σ0 σ B _ E fun r ρ1 v F1 H1 z G => ?_)
  split at z
  · rename_i c
    have rr : RD X.K F1 v (.bl c) := G.rr
    cases rr
    exact ⟨c, rfl, g _ _ _ _ _ z ⟨G.nx, G.er, .bl _⟩⟩
  · exact z.elim⟩
def uIf (t : UT) (ua ub : UE) : UE := fun ρ R => t ρ fun c ρ1 => if c = true then ua ρ1 R else ub ρ1 R
theorem fe_if {c : Expr} (hc : FT X c t1) (ha : FE X a ua) (hb : FE X b ub) : FE X (.IfExp c a b pos) (uIf t1 ua ub) := ⟨fun ρ R q F H σ0 σ B Q E g => by
  refine to_S (pe_ifExp pt_S pe_S pe_S) (hc ρ _ q F H σ0 σ B _ E fun c ρ1 F1 H1 z G => ?_)
  cases c with
  | true => exact ha ρ1 R z F1 H1 σ0 σ B Q G.er fun r ρ' v F' H' y G' => g r ρ' v F' H' y ⟨G.nx.trans G'.nx, G'.er, G'.rr⟩
  | false => exact hb ρ1 R z F1 H1 σ0 σ B Q G.er fun r ρ' v F' H' y G' => g r ρ' v F' H' y ⟨G.nx.trans G'.nx, G'.er, G'.rr⟩⟩
end

/-! ### lists of expressions whose values stay -/
abbrev UA := List Sl → (List D → List Sl → Prop) → Prop
def tA (X : Cx) (es : List Expr) : TA := fun σ H Q => ∀ pos pins s, Inv X pins σ H s → wpAny (model X.prog X.w) X.A (spliced (backTo pos (starEach es X.env))) (AP X pins σ Q) X.xe s
theorem pa_S {es : List Expr} : PA X es (tA X es) := ⟨fun pos pins s σ H Q I h => h pos pins s I⟩
theorem to_A {es : List Expr} {t : TA} {Q : List V → Hp → Prop} (h : PA X es t) (q : t σ H Q) : tA X es σ H Q := fun pos pins s I => h.run pos pins s σ H Q I q
structure FA (X : Cx) (es : List Expr) (u : UA) : Prop where
  run : ∀ (ρ : List Sl) (R : List D → List Sl → Prop), u ρ R → ∀ (F H : Hp) (σ0 σ : L2.St) (B : Addr → Prop) (Q : List V → Hp → Prop), ER X.K F H σ0 ρ σ B →
    (∀ ds ρ' vs F' H', R ds ρ' → Gd X.K F H F' H' σ0 ρ' σ B → RL X.K F' vs ds → Q vs H') → tA X es σ H Q
instance {X : Cx} {es : List Expr} {u : UA} : CoeFun (FA X es u) (fun _ => ∀ (ρ : List Sl) (R : List D → List Sl → Prop), u ρ R → ∀ (F H : Hp) (σ0 σ : L2.St) (B : Addr → Prop) (Q : List V → Hp → Prop), ER X.K F H σ0 ρ σ B →
  (∀ ds ρ' vs F' H', R ds ρ' → Gd X.K F H F' H' σ0 ρ' σ B → RL X.K F' vs ds → Q vs H') → tA X es σ H Q) := ⟨FA.run⟩
def uNil : UA := fun ρ R => R [] ρ
def uCons (ue : UE) (u : UA) : UA := fun ρ R => ue ρ fun r ρ1 => wv ρ1 r fun d => u (frz ρ1 r) fun ds ρ2 => R (d :: ds) ρ2
theorem fa_nil : FA X [] uNil := ⟨fun ρ R q F H σ0 σ B Q E g => to_A pa_nil (g [] ρ [] F H q ⟨.refl _ _ _, E⟩ .nil)⟩
theorem fa_cons {es : List Expr} {u : UA} (ha : FE X a ua) (hr : FA X es u) (hs : starEach (a :: es) X.env = (false, eval a X.env) :: starEach es X.env := by rfl) : FA X (a :: es) (uCons ua u) := ⟨fun ρ R q F H σ0 σ B Q E g => by
  refine to_A (pa_cons pe_S pa_S hs) (ha ρ _ q F H σ0 σ B _ E fun r ρ1 v F1 H1 z G => ?_)
  obtain ⟨F2, d, n2, E2, rd, z⟩ := G.er.freeze G.rr z
  exact hr _ _ z F2 H1 σ0 σ B _ E2 fun ds ρ' vs F' H' y G' l => g (d :: ds) ρ' (v :: vs) F' H' y ⟨G.nx.trans (n2.trans G'.nx), G'.er⟩ (.cons (rd.mono G'.nx.fz) l)⟩
def uTup (u : UA) : UE := fun ρ R => u ρ fun ds ρ1 => ds.length ≤ sizeLine ∧ R (.val (.tup ds)) ρ1
def uLst (u : UA) : UE := fun ρ R => u ρ fun ds ρ1 => ds.length ≤ sizeLine ∧ R (.own (.lst ds)) ρ1
theorem fe_tup {es : List Expr} {u : UA} {k pos} (h : FA X es u) : FE X (.Tuple es k pos) (uTup u) := ⟨fun ρ R q F H σ0 σ B Q E g => by
  refine to_S (pe_tup pa_S) (h ρ _ q F H σ0 σ B _ E fun ds ρ1 vs F1 H1 ⟨y, z⟩ G l => ⟨by rw [l.len]; exact y, fun p np => ?_⟩)
  obtain ⟨E2, n2⟩ := G.er.laid_val (o := .tup vs) np
  exact g _ _ _ _ _ z ⟨G.nx.trans n2, E2, .tup (.of upd_same) (l.mono n2.fz)⟩⟩
theorem fe_lst {es : List Expr} {u : UA} {pos} (h : FA X es u) : FE X (.List es pos) (uLst u) := ⟨fun ρ R q F H σ0 σ B Q E g => by
  refine to_S (pe_lst pa_S) (h ρ _ q F H σ0 σ B _ E fun ds ρ1 vs F1 H1 ⟨y, z⟩ G l => ⟨by rw [l.len]; exact y, fun p np => ?_⟩)
  exact g _ _ _ _ _ z ⟨G.nx.trans (nx_new G.er np), G.er.laid np, G.er.laid_own np (.lst upd_same l)⟩⟩
end
end YP
set_option maxRecDepth 100000
/-! The yard's pure layer, part 3: targets, statements, loops, comprehensions. -/
namespace YP
open PySem PySem.Spec PyProof.Rows L2

/-! ### targets, what is stored stays -/
abbrev UG := D → List Sl → (List Sl → Prop) → Prop
abbrev UGs := List D → List Sl → (List Sl → Prop) → Prop
def tG (X : Cx) (tg : Expr) : TG := fun v σ H Q => ∀ pins s u, Inv X pins σ H s → RelV v u → wpAny (model X.prog X.w) X.A (assign tg X.env u) (fun _ s' => ∃ σ' H', Inv X pins σ' H' s' ∧ Q σ' H') X.xe s
def tGs (X : Cx) (ts : List Expr) : TGs := fun vs σ H Q => ∀ pins s us, Inv X pins σ H s → Vals vs us → wpAny (model X.prog X.w) X.A (assignInOrder ((assignEach ts X.env).map (·.2)) us) (fun _ s' => ∃ σ' H', Inv X pins σ' H' s' ∧ Q σ' H') X.xe s
theorem pg_S {X : Cx} {tg : Expr} : PG X tg (tG X tg) := ⟨fun pins s σ H v u Q I r h => h pins s u I r⟩
theorem pgs_S {X : Cx} {ts : List Expr} : PGs X ts (tGs X ts) := ⟨fun pins s σ H v u Q I r h => h pins s u I r⟩
theorem to_G {X : Cx} {tg : Expr} {t : TG} {v : V} {σ : L2.St} {H : Hp} {Q : L2.St → Hp → Prop} (h : PG X tg t) (q : t v σ H Q) : tG X tg v σ H Q := fun pins s u I r => h.run pins s σ H v u Q I r q
theorem to_Gs {X : Cx} {ts : List Expr} {t : TGs} {v : List V} {σ : L2.St} {H : Hp} {Q : L2.St → Hp → Prop} (h : PGs X ts t) (q : t v σ H Q) : tGs X ts v σ H Q := fun pins s u I r => h.run pins s σ H v u Q I r q
/-- only own slots are stored: what a comprehension's target keeps -/
def Keeps (vs : Option (List Nat)) (σ σ' : L2.St) : Prop := match vs with
  | none => True
  | some vs => wipe σ' vs = wipe σ vs
structure FG (X : Cx) (vs : Option (List Nat)) (tg : Expr) (w : UG) : Prop where
  run : ∀ (d : D) (ρ : List Sl) (R : List Sl → Prop), w d ρ R → ∀ (F H : Hp) (σ0 σ : L2.St) (B : Addr → Prop) (v : V) (Q : L2.St → Hp → Prop), ER X.K F H σ0 ρ σ B → RD X.K F v d →
    (∀ ρ' σ' F' H', R ρ' → Gd X.K F H F' H' σ0 ρ' σ' B → Keeps vs σ σ' → Q σ' H') → tG X tg v σ H Q
instance (X : Cx) (vs : Option (List Nat)) (tg : Expr) (w : UG) : CoeFun (FG X vs tg w) (fun _ => ∀ (d : D) (ρ : List Sl) (R : List Sl → Prop), w d ρ R → ∀ (F H : Hp) (σ0 σ : L2.St) (B : Addr → Prop) (v : V) (Q : L2.St → Hp → Prop), ER X.K F H σ0 ρ σ B → RD X.K F v d →
  (∀ ρ' σ' F' H', R ρ' → Gd X.K F H F' H' σ0 ρ' σ' B → Keeps vs σ σ' → Q σ' H') → tG X tg v σ H Q) := ⟨FG.run⟩
structure FGs (X : Cx) (vs : Option (List Nat)) (ts : List Expr) (w : UGs) : Prop where
  run : ∀ (ds : List D) (ρ : List Sl) (R : List Sl → Prop), w ds ρ R → ∀ (F H : Hp) (σ0 σ : L2.St) (B : Addr → Prop) (l : List V) (Q : L2.St → Hp → Prop), ER X.K F H σ0 ρ σ B → RL X.K F l ds →
    (∀ ρ' σ' F' H', R ρ' → Gd X.K F H F' H' σ0 ρ' σ' B → Keeps vs σ σ' → Q σ' H') → tGs X ts l σ H Q
instance (X : Cx) (vs : Option (List Nat)) (ts : List Expr) (w : UGs) : CoeFun (FGs X vs ts w) (fun _ => ∀ (ds : List D) (ρ : List Sl) (R : List Sl → Prop), w ds ρ R → ∀ (F H : Hp) (σ0 σ : L2.St) (B : Addr → Prop) (l : List V) (Q : L2.St → Hp → Prop), ER X.K F H σ0 ρ σ B → RL X.K F l ds →
  (∀ ρ' σ' F' H', R ρ' → Gd X.K F H F' H' σ0 ρ' σ' B → Keeps vs σ σ' → Q σ' H') → tGs X ts l σ H Q) := ⟨FGs.run⟩
theorem Keeps.refl {vs : Option (List Nat)} {σ : L2.St} : Keeps vs σ σ := by cases vs <;> first | trivial | rfl
theorem Keeps.trans {vs : Option (List Nat)} {σ σ1 σ2 : L2.St} (h : Keeps vs σ σ1) (k : Keeps vs σ1 σ2) : Keeps vs σ σ2 := by
  cases vs with
  | none => trivial
  | some vs => exact (show wipe σ2 vs = wipe σ1 vs from k).trans h
def uName (i : Nat) : UG := fun d ρ R => R (ρ.set i (.sl false false d))
theorem wipe_set {i : Nat} {x : Option V} : ∀ {vs : List Nat} {σ : L2.St}, i ∈ vs → wipe (σ.set i x) vs = wipe σ vs
  | [], _, h => nomatch h
  | v :: vs, σ, h => by
    show (wipe (σ.set i x) vs).set v none = (wipe σ vs).set v none
    by_cases e : i ∈ vs
    · rw [wipe_set e]
    · have ei : i = v := by
        rcases List.mem_cons.mp h with z | z
        · exact z
        · exact absurd z e
      subst ei
      have c : ∀ (l : List Nat) (σ : L2.St), i ∉ l → wipe (σ.set i x) l = (wipe σ l).set i x := by
        intro l
        induction l with
        | nil => intro σ _; rfl
        | cons a l ih =>
          intro σ h
          show (wipe (σ.set i x) l).set a none = ((wipe σ l).set a none).set i x
          rw [ih σ (fun z => h (List.mem_cons_of_mem _ z)), List.set_comm _ _ (fun z => h (by rw [z]; exact List.mem_cons_self))]
      rw [c vs σ e, List.set_set]
theorem fg_name {X : Cx} {tg : Expr} {i : Nat} {vs : Option (List Nat)} (h : PG X tg (gName i)) (k : ∀ l, vs = some l → i ∈ l := by first | exact fun _ e => by cases e | (intro l e; cases e; decide)) : FG X vs tg (uName i) := ⟨fun d ρ R w F H σ0 σ B v Q E rd g =>
  to_G h (g _ _ F H w ⟨.refl _ _ _, E.set_val rd⟩ (by
    cases vs with
    | none => trivial
    | some l => exact wipe_set (k l rfl)))⟩
def uGNil : UGs := fun ds ρ R => match ds with
  | [] => R ρ
  | _ => False
def uGCons (t : UG) (u : UGs) : UGs := fun ds ρ R => match ds with
  | d :: r => t d ρ fun ρ1 => u r ρ1 R
  | _ => False
theorem fgs_nil {X : Cx} {vs : Option (List Nat)} : FGs X vs [] uGNil := ⟨fun ds ρ R w F H σ0 σ B l Q E rl g => by
  cases rl with
  | nil => exact to_Gs pgs_nil ⟨rfl, g _ _ F H w ⟨.refl _ _ _, E⟩ .refl⟩
  | cons _ _ => exact w.elim⟩
theorem fgs_cons {X : Cx} {vs : Option (List Nat)} {e : Expr} {es : List Expr} {t : UG} {u : UGs} (h1 : FG X vs e t) (h2 : FGs X vs es u)
    (hs : (assignEach (e :: es) X.env).map (·.2) = assign e X.env :: (assignEach es X.env).map (·.2) := by rfl) : FGs X vs (e :: es) (uGCons t u) := ⟨fun ds ρ R w F H σ0 σ B l Q E rl g => by
  cases rl with
  | nil => exact w.elim
  | @cons v l d ds rd rl =>
    exact to_Gs (pgs_cons pg_S pgs_S hs) ⟨v, l, rfl, h1 d ρ _ w F H σ0 σ B v _ E rd fun ρ1 σ1 F1 H1 w1 G1 k1 =>
      h2 ds ρ1 R w1 F1 H1 σ0 σ1 B l Q G1.er (rl.mono G1.nx.fz) fun ρ2 σ2 F2 H2 w2 G2 k2 => g ρ2 σ2 F2 H2 w2 ⟨G1.nx.trans G2.nx, G2.er⟩ (k1.trans k2)⟩⟩
def uGTup (n : Nat) (u : UGs) : UG := fun d ρ R => match d with
  | .tup ds => ds.length = n ∧ u ds ρ R
  | _ => False
theorem fg_tup {X : Cx} {vs : Option (List Nat)} {es : List Expr} {k : Nat} {u : UGs} {n : Nat} {pos : Pos} (hc : X.calm = true) (h : FGs X vs es u)
    (hn : (assignEach es X.env).length = n := by rfl) (hst : (assignEach es X.env).findIdx? (·.1) = none := by rfl) : FG X vs (.Tuple es k pos) (uGTup n u) := ⟨fun d ρ R w F H σ0 σ B v Q E rd g => by
  cases rd with
  | tup h1 h2 => exact to_G (pg_tup hc pgs_S hn hst) ⟨_, _, rfl, sqT_mono E.sub h1, by rw [h2.len]; exact w.1, h _ ρ R w.2 F H σ0 σ B _ Q E h2 g⟩
  | _ => exact w.elim⟩

/-! ### statements -/
structure En where
  nx : List Sl → Prop
  rt : Rv → List Sl → Prop
  bk : List Sl → Prop := fun _ => False
  ct : List Sl → Prop := fun _ => False
abbrev US := En → List Sl → Prop
def tSS (X : Cx) (st : Stmt) : TS := fun D σ H => ∀ pins s, Inv X pins σ H s → wpAny (model X.prog X.w) X.A (exec st X.env) (SP X pins D) X.xe s
def tBs (X : Cx) (sts : List Stmt) : TS := fun D σ H => ∀ pins s, Inv X pins σ H s → wpAny (model X.prog X.w) X.A (execs sts X.env) (SP X pins D) X.xe s
theorem ps_S {X : Cx} {st : Stmt} : PS X st (tSS X st) := ⟨fun pins s σ H D I h => h pins s I⟩
theorem pss_S {X : Cx} {sts : List Stmt} : PSs X sts (tBs X sts) := ⟨fun pins s σ H D I h => h pins s I⟩
theorem to_SS {X : Cx} {st : Stmt} {t : TS} {D : Ends} {σ : L2.St} {H : Hp} (h : PS X st t) (q : t D σ H) : tSS X st D σ H := fun pins s I => h.run pins s σ H D I q
theorem to_Bs {X : Cx} {sts : List Stmt} {t : TS} {D : Ends} {σ : L2.St} {H : Hp} (h : PSs X sts t) (q : t D σ H) : tBs X sts D σ H := fun pins s I => h.run pins s σ H D I q
structure Fol (K : PySem.W.Frag) (F H : Hp) (σ0 : L2.St) (B : Addr → Prop) (E : En) (D : Ends) : Prop where
  nx : ∀ ρ' σ' F' H', E.nx ρ' → Gd K F H F' H' σ0 ρ' σ' B → D.nx σ' H'
  rt : ∀ r ρ' v σ' F' H', E.rt r ρ' → Gt K F H F' H' σ0 ρ' σ' B r v → D.rt v H'
  bk : ∀ ρ' σ' F' H', E.bk ρ' → Gd K F H F' H' σ0 ρ' σ' B → D.bk σ' H'
  ct : ∀ ρ' σ' F' H', E.ct ρ' → Gd K F H F' H' σ0 ρ' σ' B → D.ct σ' H'
theorem Fol.on {K : PySem.W.Frag} {F H F1 H1 : Hp} {σ0 : L2.St} {B : Addr → Prop} {E : En} {D : Ends} (f : Fol K F H σ0 B E D) (n : Nx F H F1 H1 B) : Fol K F1 H1 σ0 B E D :=
  ⟨fun ρ' σ' F' H' e G => f.nx ρ' σ' F' H' e ⟨n.trans G.nx, G.er⟩, fun r ρ' v σ' F' H' e G => f.rt r ρ' v σ' F' H' e ⟨n.trans G.nx, G.er, G.rr⟩,
    fun ρ' σ' F' H' e G => f.bk ρ' σ' F' H' e ⟨n.trans G.nx, G.er⟩, fun ρ' σ' F' H' e G => f.ct ρ' σ' F' H' e ⟨n.trans G.nx, G.er⟩⟩
structure FS (X : Cx) (st : Stmt) (u : US) : Prop where
  run : ∀ (E : En) (ρ : List Sl), u E ρ → ∀ (F H : Hp) (σ0 σ : L2.St) (B : Addr → Prop) (D : Ends), ER X.K F H σ0 ρ σ B → Fol X.K F H σ0 B E D → tSS X st D σ H
instance {X : Cx} {st : Stmt} {u : US} : CoeFun (FS X st u) (fun _ => ∀ (E : En) (ρ : List Sl), u E ρ → ∀ (F H : Hp) (σ0 σ : L2.St) (B : Addr → Prop) (D : Ends), ER X.K F H σ0 ρ σ B → Fol X.K F H σ0 B E D → tSS X st D σ H) := ⟨FS.run⟩
structure FB (X : Cx) (sts : List Stmt) (u : US) : Prop where
  run : ∀ (E : En) (ρ : List Sl), u E ρ → ∀ (F H : Hp) (σ0 σ : L2.St) (B : Addr → Prop) (D : Ends), ER X.K F H σ0 ρ σ B → Fol X.K F H σ0 B E D → tBs X sts D σ H
instance {X : Cx} {sts : List Stmt} {u : US} : CoeFun (FB X sts u) (fun _ => ∀ (E : En) (ρ : List Sl), u E ρ → ∀ (F H : Hp) (σ0 σ : L2.St) (B : Addr → Prop) (D : Ends), ER X.K F H σ0 ρ σ B → Fol X.K F H σ0 B E D → tBs X sts D σ H) := ⟨FB.run⟩
section
variable {X : Cx} {st : Stmt} {rest body : List Stmt} {t u : US} {e : Expr} {ue : UE} {pos : Pos}
def uNext : US := fun E ρ => E.nx ρ
def uSeq (t u : US) : US := fun E ρ => t { E with nx := u E } ρ
theorem fb_nil : FB X [] uNext := ⟨fun E ρ q F H σ0 σ B D er f => to_Bs pss_nil (f.nx ρ σ F H q ⟨.refl _ _ _, er⟩)⟩
theorem fb_cons (h1 : FS X st t) (h2 : FB X rest u) : FB X (st :: rest) (uSeq t u) := ⟨fun E ρ q F H σ0 σ B D er f =>
  to_Bs (pss_cons ps_S pss_S) (h1 _ ρ q F H σ0 σ B _ er ⟨fun ρ' σ' F' H' z G => h2 E ρ' z F' H' σ0 σ' B D G.er (f.on G.nx), f.rt, f.bk, f.ct⟩)⟩
theorem fb_one (h1 : FS X st t) : FB X [st] t := ⟨fun E ρ q F H σ0 σ B D er f => to_Bs (pss_one ps_S) (h1 E ρ q F H σ0 σ B D er f)⟩
def uBreak : US := fun E ρ => E.bk ρ
def uCont : US := fun E ρ => E.ct ρ
theorem fs_pass : FS X (.Pass pos) uNext := ⟨fun E ρ q F H σ0 σ B D er f => to_SS ps_pass (f.nx ρ σ F H q ⟨.refl _ _ _, er⟩)⟩
theorem fs_break : FS X (.Break pos) uBreak := ⟨fun E ρ q F H σ0 σ B D er f => to_SS ps_break (f.bk ρ σ F H q ⟨.refl _ _ _, er⟩)⟩
theorem fs_continue : FS X (.Continue pos) uCont := ⟨fun E ρ q F H σ0 σ B D er f => to_SS ps_continue (f.ct ρ σ F H q ⟨.refl _ _ _, er⟩)⟩
def uDrop (ue : UE) : US := fun E ρ => ue ρ fun _ ρ1 => E.nx ρ1
theorem fs_expr (he : FE X e ue) (hs : swapsWith e none pos.line X.env = pure false := by rfl) : FS X (.Expr e pos) (uDrop ue) := ⟨fun E ρ q F H σ0 σ B D er f =>
  to_SS (ps_expr pe_S hs) (he ρ _ q F H σ0 σ B _ er fun r ρ1 v F1 H1 z G => f.nx ρ1 σ F1 H1 z ⟨G.nx, G.er⟩)⟩
def uRet (ue : UE) : US := fun E ρ => ue ρ E.rt
theorem fs_ret (he : FE X e ue) : FS X (.Return (some e) pos) (uRet ue) := ⟨fun E ρ q F H σ0 σ B D er f =>
  to_SS (ps_ret pe_S) (he ρ _ q F H σ0 σ B _ er fun r ρ1 v F1 H1 z G => f.rt r ρ1 v σ F1 H1 z G)⟩
def uRetN : US := fun E ρ => E.rt (.val .non) ρ
theorem fs_retN : FS X (.Return none pos) uRetN := ⟨fun E ρ q F H σ0 σ B D er f => to_SS ps_retN (f.rt _ ρ _ σ F H q ⟨.refl _ _ _, er, .non⟩)⟩
def uIfS (c : UT) (t u : US) : US := fun E ρ => c ρ fun b ρ1 => if b = true then t E ρ1 else u E ρ1
theorem fs_if {c : Expr} {a b : List Stmt} {tc : UT} (hc : FT X c tc) (ha : FB X a t) (hb : FB X b u) : FS X (.If c a b pos) (uIfS tc t u) := ⟨fun E ρ q F H σ0 σ B D er f => by
  refine to_SS (ps_if pt_S pss_S pss_S) (hc ρ _ q F H σ0 σ B _ er fun c ρ1 F1 H1 z G => ?_)
  cases c with
  | true => exact ha E ρ1 z F1 H1 σ0 σ B D G.er (f.on G.nx)
  | false => exact hb E ρ1 z F1 H1 σ0 σ B D G.er (f.on G.nx)⟩
/-- name = value: the statement's rule, with tS for the value -/
def uSet (i : Nat) (ue : UE) : US := fun E ρ => ue ρ fun r ρ1 => put ρ1 i r E.nx
theorem fs_set {i : Nat} (h : PS X st (tAsg (tS X e) (gName i))) (he : FE X e ue) : FS X st (uSet i ue) := ⟨fun E ρ q F H σ0 σ B D er f =>
  to_SS h (he ρ _ q F H σ0 σ B _ er fun r ρ1 v F1 H1 z G => by
    obtain ⟨F2, ρ2, n2, er2, z⟩ := G.er.put G.rr z
    exact f.nx ρ2 _ F2 H1 z ⟨G.nx.trans n2, er2⟩)⟩
/-- target = value, the value stays -/
def uAsg (ue : UE) (g : UG) : US := fun E ρ => ue ρ fun r ρ1 => wv ρ1 r fun d => g d (frz ρ1 r) E.nx
theorem fs_asg {tg : Expr} {g : UG} (h : PS X st (tAsg (tS X e) (tG X tg))) (he : FE X e ue) (hg : FG X none tg g) : FS X st (uAsg ue g) := ⟨fun E ρ q F H σ0 σ B D er f =>
  to_SS h (he ρ _ q F H σ0 σ B _ er fun r ρ1 v F1 H1 z G => by
    obtain ⟨F2, d, n2, E2, rd, z⟩ := G.er.freeze G.rr z
    exact hg d _ _ z F2 H1 σ0 σ B v _ E2 rd fun ρ' σ' F' H' y G' _ => f.nx ρ' σ' F' H' y ⟨G.nx.trans (n2.trans G'.nx), G'.er⟩)⟩
/-- name op= value -/
def uAug (i : Nat) (o : D → D → (Rv → Prop) → Prop) (ue : UE) : US := fun E ρ => match ρ[i]? with
  | some (.sl false _ d) => ue ρ fun r ρ1 => wv ρ1 r fun e => o d e fun z => put ρ1 i z E.nx
  | _ => False
theorem fs_aug {i : Nat} {op : Operator} {o : D → D → (Rv → Prop) → Prop} (ho : OpS X (inplaceOp op) o) (h : ∀ ti, PIp X op ti → PS X st (tAug i (tS X e) ti)) (he : FE X e ue) : FS X st (uAug i o ue) := ⟨fun E ρ q F H σ0 σ B D er f => by
  obtain ⟨r, hr, k⟩ := ho.ex
  unfold uAug at q
  cases z : ρ[i]? with
  | none => rw [z] at q; exact q.elim
  | some s =>
    cases s with
    | un => rw [z] at q; exact q.elim
    | sl o' p d =>
      rw [z] at q
      cases o' with
      | true => exact q.elim
      | false =>
        obtain ⟨x, e1, rd⟩ := er.fz i p d z
        refine to_SS (h r fun pins s σ H x y v u Q I rx ry t => hr pins s σ H x y v u Q I rx ry t) ⟨x, e1, he ρ _ q F H σ0 σ B _ er fun r1 ρ1 v F1 H1 z G => ?_⟩
        obtain ⟨e, w, z⟩ := G.er.seen G.rr z
        refine k G.er (.inl (rd.mono G.nx.fz)) w z fun r2 v2 F2 H2 z2 G2 => ?_
        obtain ⟨F3, ρ3, n3, er3, z3⟩ := G2.er.put G2.rr z2
        exact f.nx ρ3 _ F3 H2 z3 ⟨G.nx.trans (G2.nx.trans n3), er3⟩⟩

/-! ### while -/
def uWhile (c : UT) (tb : US) : US := fun E ρ => ∃ W : Nat → List Sl → Prop, (∃ m, W m ρ) ∧ ∀ m ρ, W m ρ →
  c ρ fun b ρ1 => if b = true then tb { E with nx := fun ρ2 => ∃ m', m' < m ∧ W m' ρ2, ct := fun ρ2 => ∃ m', m' < m ∧ W m' ρ2, bk := E.nx } ρ1 else E.nx ρ1
theorem fs_while {c : Expr} {tc : UT} (hp : PassesOwn (model X.prog X.w) X.A X.env X.xe) (hc : FT X c tc) (hb : FB X body t) : FS X (.While c body [] pos) (uWhile tc t) := ⟨fun E ρ q F H σ0 σ B D er f => by
  obtain ⟨W, ⟨m0, w0⟩, turn⟩ := q
  refine to_SS (ps_while hp pt_S pss_S) ⟨fun m σ' H' => ∃ ρ' F', W m ρ' ∧ Gd X.K F H F' H' σ0 ρ' σ' B, ⟨m0, ρ, F, w0, .refl _ _ _, er⟩, ?_⟩
  rintro m σ1 H1 ⟨ρ1, F1, w1, G1⟩
  refine hc ρ1 _ (turn m ρ1 w1) F1 H1 σ0 σ1 B _ G1.er fun b ρ2 F2 H2 z G2 => ?_
  cases b with
  | false => exact f.nx ρ2 σ1 F2 H2 z ⟨G1.nx.trans G2.nx, G2.er⟩
  | true =>
    refine ⟨fun σ' H' => ∃ m', m' < m ∧ ∃ ρ' F', W m' ρ' ∧ Gd X.K F H F' H' σ0 ρ' σ' B, fun σ' H' h => h, ?_⟩
    have n2 := G1.nx.trans G2.nx
    have f2 := f.on n2
    exact hb _ ρ2 z F2 H2 σ0 σ1 B _ G2.er ⟨fun ρ' σ' F' H' ⟨m', l, w⟩ G => ⟨m', l, ρ', F', w, n2.trans G.nx, G.er⟩, f2.rt, f2.nx, fun ρ' σ' F' H' ⟨m', l, w⟩ G => ⟨m', l, ρ', F', w, n2.trans G.nx, G.er⟩⟩⟩

/-! ### what is walked -/
abbrev UI := List Sl → (List D → List Sl → Prop) → Prop
def tI (X : Cx) (tg iter : Expr) : TI := fun σ H R => ∀ pins s, Inv X pins σ H s → wpAny (model X.prog X.w) X.A (eval iter X.env) (fun v s1 => wpAny (model X.prog X.w) X.A (pyIter v) (PIE X pins σ tg R) X.xe s1) X.xe s
theorem pi_S {tg iter : Expr} : PI X tg iter (tI X tg iter) := ⟨fun pins s σ H R I h => h pins s I⟩
theorem to_I {tg iter : Expr} {w : TI} {σ : L2.St} {H : Hp} {R : It → Hp → Prop} (h : PI X tg iter w) (q : w σ H R) : tI X tg iter σ H R := fun pins s I => h.run pins s σ H R I q
/-- at a turn it gives the i-th datum: one that stays, or a new one -/
def YD (K : PySem.W.Frag) (F : Hp) (ds : List D) : Nat → Hp → V → Hp → Prop := fun i H x H' => ∃ d, ds[i]? = some d ∧
  ((H' = H ∧ RD K F x d) ∨ ∃ p o, H' = upd H p o ∧ H p = none ∧ ∀ F', Same F F' → F' p = none → RD K (upd F' p o) x d)
abbrev WD (K : PySem.W.Frag) (F : Hp) (J : It) (ds : List D) : Prop := Walk J ds.length (fun H => Same F H) (YD K F ds)
structure FI (X : Cx) (tg iter : Expr) (w : UI) : Prop where
  run : ∀ (ρ : List Sl) (R : List D → List Sl → Prop), w ρ R → ∀ (F H : Hp) (σ0 σ : L2.St) (B : Addr → Prop) (Q : It → Hp → Prop), ER X.K F H σ0 ρ σ B →
    (∀ ds ρ' J F' H', R ds ρ' → Gd X.K F H F' H' σ0 ρ' σ B → WD X.K F' J ds → Q J H') → tI X tg iter σ H Q
instance {X : Cx} {tg iter : Expr} {w : UI} : CoeFun (FI X tg iter w) (fun _ => ∀ (ρ : List Sl) (R : List D → List Sl → Prop), w ρ R → ∀ (F H : Hp) (σ0 σ : L2.St) (B : Addr → Prop) (Q : It → Hp → Prop), ER X.K F H σ0 ρ σ B →
  (∀ ds ρ' J F' H', R ds ρ' → Gd X.K F H F' H' σ0 ρ' σ B → WD X.K F' J ds → Q J H') → tI X tg iter σ H Q) := ⟨FI.run⟩
/-- what it gives, in the state behind -/
theorem yd_er {K : PySem.W.Frag} {F0 F H H' : Hp} {σ0 σ : L2.St} {ρ : List Sl} {B : Addr → Prop} {ds : List D} {i : Nat} {x : V} (E : ER K F H σ0 ρ σ B) (s : Same F0 F) (y : YD K F0 ds i H x H') :
    ∃ d F', ds[i]? = some d ∧ Gd K F H F' H' σ0 ρ σ B ∧ RD K F' x d := by
  obtain ⟨d, e, ⟨rfl, rd⟩ | ⟨p, o, rfl, np, rd⟩⟩ := y
  · exact ⟨d, F, e, ⟨.refl _ _ _, E⟩, rd.mono s⟩
  · obtain ⟨E2, n2⟩ := E.laid_val (o := o) np
    exact ⟨d, _, e, ⟨n2, E2⟩, rd F s (E.free np)⟩
def uFor (w : UI) (g : UG) (tb : US) : US := fun E ρ => w ρ fun ds ρ1 => ∃ W : Nat → List Sl → Prop, W 0 ρ1 ∧ (∀ i d ρ, ds[i]? = some d → W i ρ →
  g d ρ fun ρ2 => tb { E with nx := W (i + 1), ct := W (i + 1), bk := E.nx } ρ2) ∧ ∀ ρ, W ds.length ρ → E.nx ρ
theorem fs_for {tg iter : Expr} {w : UI} {g : UG} (hp : PassesOwn (model X.prog X.w) X.A X.env X.xe) (hc : X.calm = true) (hi : FI X tg iter w) (hg : FG X none tg g) (hb : FB X body t)
    (hs : ∀ x, foldedSetIterable iter X.env x = pure x := by intro _; rfl) : FS X (.For tg iter body [] pos) (uFor w g t) := ⟨fun E ρ q F H σ0 σ B D er f => by
  refine to_SS (ps_for hp hc pi_S pg_S pss_S hs) (hi ρ _ q F H σ0 σ B _ er fun ds ρ1 J F1 H1 ⟨W, w0, turn, done⟩ G1 wd => ?_)
  refine for_it wd (fun i σ' H' => ∃ ρ' F', W i ρ' ∧ Gd X.K F1 H1 F' H' σ0 ρ' σ' B) ⟨ρ1, F1, w0, .refl _ _ _, G1.er⟩ (fun i σ' H' _ ⟨ρ', F', _, G⟩ => G.nx.fz.trans G.er.sub) ?_ (fun σ' H' ⟨ρ', F', w', G⟩ => f.nx ρ' σ' F' H' (done ρ' w') ⟨G1.nx.trans G.nx, G.er⟩)
  rintro i x σ2 H2 H3 hi ⟨ρ2, F2, w2, G2⟩ y
  obtain ⟨d, F3, e, G3, rd⟩ := yd_er G2.er G2.nx.fz y
  refine hg d ρ2 _ (turn i d ρ2 e w2) F3 H3 σ0 σ2 B x _ G3.er rd fun ρ4 σ4 F4 H4 z G4 _ => ?_
  have n4 := G2.nx.trans (G3.nx.trans G4.nx)
  have f4 := f.on (G1.nx.trans n4)
  exact hb _ ρ4 z F4 H4 σ0 σ4 B _ G4.er ⟨fun ρ' σ' F' H' w' G => ⟨ρ', F', w', n4.trans G.nx, G.er⟩, f4.rt, f4.nx, fun ρ' σ' F' H' w' G => ⟨ρ', F', w', n4.trans G.nx, G.er⟩⟩⟩

/-! ### comprehensions -/
def wipeS (ρ : List Sl) : List Nat → List Sl
  | [] => ρ
  | v :: vs => (wipeS ρ vs).set v .un
theorem ER.forget {K : PySem.W.Frag} {F H : Hp} {σ0 σ : L2.St} {ρ : List Sl} {B : Addr → Prop} (E : ER K F H σ0 ρ σ B) (v : Nat) : ER K F H σ0 (ρ.set v .un) σ B := by
  have at_ : ∀ (j : Nat) o p d, (ρ.set v .un)[j]? = some (Sl.sl o p d) → ρ[j]? = some (Sl.sl o p d) ∧ j ≠ v := fun j o p d e => by
    by_cases hj : j = v
    · subst hj
      by_cases hl : j < ρ.length
      · rw [List.getElem?_set_self hl] at e; cases e
      · rw [List.getElem?_eq_none (by rw [List.length_set]; omega)] at e; cases e
    · rw [List.getElem?_set_ne (Ne.symm hj)] at e; exact ⟨e, hj⟩
  exact ⟨by rw [List.length_set]; exact E.len, E.sub, fun i p d h => E.fz i p d (at_ _ _ _ _ h).1, fun i p d h => E.ow i p d (at_ _ _ _ _ h).1, fun i j a p q d e h k => E.inj i j a p q d e (at_ _ _ _ _ h).1 (at_ _ _ _ _ k).1, fun i o d h => E.par i o d (at_ _ _ _ _ h).1, E.out⟩
theorem ER.unset {K : PySem.W.Frag} {F H : Hp} {σ0 σ : L2.St} {ρ : List Sl} {B : Addr → Prop} {v : Nat} {x : Option V} (E : ER K F H σ0 ρ σ B) : ER K F H σ0 (ρ.set v .un) (σ.set v x) B := by
  have E1 := E.forget v
  have at_ : ∀ (j : Nat) o p d, (ρ.set v .un)[j]? = some (Sl.sl o p d) → (σ.set v x)[j]? = σ[j]? := fun j o p d e => by
    by_cases hj : j = v
    · subst hj
      by_cases hl : j < ρ.length
      · rw [List.getElem?_set_self hl] at e; cases e
      · rw [List.getElem?_eq_none (by rw [List.length_set]; omega)] at e; cases e
    · exact List.getElem?_set_ne (Ne.symm hj)
  exact ⟨by rw [List.length_set, List.length_set]; exact E.len, E.sub, fun i p d h => by rw [at_ _ _ _ _ h]; exact E1.fz i p d h, fun i p d h => by rw [at_ _ _ _ _ h]; exact E1.ow i p d h,
    fun i j a p q d e h k hi hj => by rw [at_ _ _ _ _ h] at hi; rw [at_ _ _ _ _ k] at hj; exact E1.inj i j a p q d e h k hi hj, fun i o d h => by rw [at_ _ _ _ _ h]; exact E1.par i o d h, E.out⟩
theorem ER.wipe {K : PySem.W.Frag} {F H : Hp} {σ0 σ : L2.St} {ρ : List Sl} {B : Addr → Prop} (E : ER K F H σ0 ρ σ B) : ∀ vs : List Nat, ER K F H σ0 (wipeS ρ vs) (L2.wipe σ vs) B
  | [] => E
  | v :: vs => (E.wipe vs).unset
theorem wipeS_get {ρ : List Sl} {j : Nat} {o p : Bool} {d : D} : ∀ {vs : List Nat}, (wipeS ρ vs)[j]? = some (Sl.sl o p d) → j ∉ vs
  | [], _ => fun h => nomatch h
  | v :: vs, e => by
    have e' : ((wipeS ρ vs).set v .un)[j]? = some (Sl.sl o p d) := e
    by_cases hj : j = v
    · subst hj
      by_cases hl : j < (wipeS ρ vs).length
      · rw [List.getElem?_set_self hl] at e'; cases e'
      · rw [List.getElem?_eq_none (by rw [List.length_set]; omega)] at e'; cases e'
    · rw [List.getElem?_set_ne (Ne.symm hj)] at e'
      exact fun h => (List.mem_cons.mp h).elim hj (wipeS_get e')
theorem wipe_get {σ : L2.St} {j : Nat} : ∀ {vs : List Nat}, j ∉ vs → (L2.wipe σ vs)[j]? = σ[j]?
  | [], _ => rfl
  | v :: vs, h => by
    show ((L2.wipe σ vs).set v none)[j]? = _
    rw [List.getElem?_set_ne (fun z => h (by rw [z]; exact List.mem_cons_self)), wipe_get fun z => h (List.mem_cons_of_mem _ z)]
/-- the slots within a comprehension's block are forgotten behind it -/
theorem ER.unwipe {K : PySem.W.Frag} {F H : Hp} {σ0 σ : L2.St} {ρ : List Sl} {B : Addr → Prop} {vs : List Nat} (E : ER K F H σ0 (wipeS ρ vs) (L2.wipe σ vs) B) : ER K F H σ0 (wipeS ρ vs) σ B := by
  have at_ : ∀ (j : Nat) o p d, (wipeS ρ vs)[j]? = some (Sl.sl o p d) → (L2.wipe σ vs)[j]? = σ[j]? := fun j o p d e => wipe_get (wipeS_get e)
  exact ⟨by rw [E.len, wipe_length], E.sub, fun i p d h => by rw [← at_ _ _ _ _ h]; exact E.fz i p d h, fun i p d h => by rw [← at_ _ _ _ _ h]; exact E.ow i p d h,
    fun i j a p q d e h k hi hj => by rw [← at_ _ _ _ _ h] at hi; rw [← at_ _ _ _ _ k] at hj; exact E.inj i j a p q d e h k hi hj, fun i o d h => by rw [← at_ _ _ _ _ h]; exact E.par i o d h, E.out⟩
/-- W: by the turn, what is made so far, the slots -/
def uLc (w : UI) (g : UG) (tt : UT) (te : UE) (vs : List Nat) : UE := fun ρ R => w ρ fun ds ρ1 => ∃ W : Nat → List D → List Sl → Prop, W 0 [] (wipeS ρ1 vs) ∧ (∀ i d acc ρ, ds[i]? = some d → W i acc ρ →
  g d ρ fun ρ2 => tt ρ2 fun b ρ3 => if b = true then te ρ3 fun r ρ4 => wv ρ4 r fun e => acc.length < sizeLine ∧ W (i + 1) (acc ++ [e]) (wipeS (frz ρ4 r) vs) else W (i + 1) acc (wipeS ρ3 vs)) ∧
  (∀ i acc ρ, W i acc ρ → ∃ ρ', ρ = wipeS ρ' vs) ∧ ∀ acc ρ, W ds.length acc ρ → R (.own (.lst acc)) ρ
structure FTs (X : Cx) (ifs : List Expr) (u : UT) : Prop where
  run : ∀ (ρ : List Sl) (R : Bool → List Sl → Prop), u ρ R → ∀ (F H : Hp) (σ0 σ : L2.St) (B : Addr → Prop) (Q : Bool → Hp → Prop), ER X.K F H σ0 ρ σ B →
    (∀ b ρ' F' H', R b ρ' → Gd X.K F H F' H' σ0 ρ' σ B → Q b H') → ∀ pins s, Inv X pins σ H s → wpAny (model X.prog X.w) X.A (forIn ifs true fun c r => if r = true then do let ok ← isTrue c X.env (eval c X.env); pure (ForInStep.yield ok) else pure (ForInStep.yield r)) (TP X pins σ Q) X.xe s
instance {X : Cx} {ifs : List Expr} {u : UT} : CoeFun (FTs X ifs u) (fun _ => ∀ (ρ : List Sl) (R : Bool → List Sl → Prop), u ρ R → ∀ (F H : Hp) (σ0 σ : L2.St) (B : Addr → Prop) (Q : Bool → Hp → Prop), ER X.K F H σ0 ρ σ B →
  (∀ b ρ' F' H', R b ρ' → Gd X.K F H F' H' σ0 ρ' σ B → Q b H') → ∀ pins s, Inv X pins σ H s → wpAny (model X.prog X.w) X.A (forIn ifs true fun c r => if r = true then do let ok ← isTrue c X.env (eval c X.env); pure (ForInStep.yield ok) else pure (ForInStep.yield r)) (TP X pins σ Q) X.xe s) := ⟨FTs.run⟩
def uYes : UT := fun ρ R => R true ρ
theorem fts_nil : FTs X [] uYes := ⟨fun ρ R q F H σ0 σ B Q E g pins s I => pts_nil.run pins s σ H Q I (g true ρ F H q ⟨.refl _ _ _, E⟩)⟩
theorem fts_one {c : Expr} {u : UT} (h : FT X c u) : FTs X [c] u := ⟨fun ρ R q F H σ0 σ B Q E g pins s I => (pts_one pt_S).run pins s σ H Q I (h ρ R q F H σ0 σ B Q E g)⟩
def bG (X : Cx) (scope : Scope) (tg : Expr) : TG := fun v σ H Q => ∀ s H0 C cl fp, tG (X.blk s H0 scope (compEnvC scope cl C X.env) fp) tg v σ H Q
def bT (X : Cx) (scope : Scope) (ifs : List Expr) : TT := fun σ H Q => ∀ s0 H0 C cl fp pins s, Inv (X.blk s0 H0 scope (compEnvC scope cl C X.env) fp) pins σ H s → wpAny (model X.prog X.w) (X.blk s0 H0 scope (compEnvC scope cl C X.env) fp).A (forIn ifs true fun c r => if r = true then do let ok ← isTrue c (X.blk s0 H0 scope (compEnvC scope cl C X.env) fp).env (eval c (X.blk s0 H0 scope (compEnvC scope cl C X.env) fp).env); pure (ForInStep.yield ok) else pure (ForInStep.yield r)) (TP (X.blk s0 H0 scope (compEnvC scope cl C X.env) fp) pins σ Q) (X.blk s0 H0 scope (compEnvC scope cl C X.env) fp).xe s
def bE (X : Cx) (scope : Scope) (elt : Expr) : TE := fun σ H Q => ∀ s H0 C cl fp, tS (X.blk s H0 scope (compEnvC scope cl C X.env) fp) elt σ H Q
theorem pg_bS {scope : Scope} {tg : Expr} (s : Shared) (H : Hp) (C : Addr) (cl : List (Str × Addr)) (fp : List Addr) : PG (X.blk s H scope (compEnvC scope cl C X.env) fp) tg (bG X scope tg) := ⟨fun pins s' σ _ v u Q I r h => h s H C cl fp pins s' u I r⟩
theorem pts_bS {scope : Scope} {ifs : List Expr} (s : Shared) (H : Hp) (C : Addr) (cl : List (Str × Addr)) (fp : List Addr) : PTs (X.blk s H scope (compEnvC scope cl C X.env) fp) ifs (bT X scope ifs) := ⟨fun pins s' σ _ Q I h => h s H C cl fp pins s' I⟩
theorem pe_bS {scope : Scope} {elt : Expr} (s : Shared) (H : Hp) (C : Addr) (cl : List (Str × Addr)) (fp : List Addr) : PE (X.blk s H scope (compEnvC scope cl C X.env) fp) elt (bE X scope elt) := ⟨fun pins s' σ _ Q I h => h s H C cl fp pins s' I⟩
theorem lc_tl {elt tg iter : Expr} {ifs : List Expr} {scope : Scope} {own : List (Str × Nat)} {w : UI} {g : UG} {tt : UT} {te : UE}
    (hi : FI X tg iter w) (hK : ∀ (s : Shared) (H : Hp) (C : Addr) (cl : List (Str × Addr)) (fp : List Addr), (X.blk s H scope (compEnvC scope cl C X.env) fp).K = X.K)
    (hg : ∀ (s : Shared) (H : Hp) (C : Addr) (cl : List (Str × Addr)) (fp : List Addr), FG (X.blk s H scope (compEnvC scope cl C X.env) fp) (some (own.map (·.2))) tg g)
    (ht : ∀ (s : Shared) (H : Hp) (C : Addr) (cl : List (Str × Addr)) (fp : List Addr), FTs (X.blk s H scope (compEnvC scope cl C X.env) fp) ifs tt)
    (he : ∀ (s : Shared) (H : Hp) (C : Addr) (cl : List (Str × Addr)) (fp : List Addr), FE (X.blk s H scope (compEnvC scope cl C X.env) fp) elt te)
    {ρ : List Sl} {R : Rv → List Sl → Prop} (q : uLc w g tt te (own.map (·.2)) ρ R) {F H : Hp} {σ0 σ : L2.St} {B : Addr → Prop} {Q : VK} (E : ER X.K F H σ0 ρ σ B)
    (k : ∀ r ρ' v F' H', R r ρ' → Gt X.K F H F' H' σ0 ρ' σ B r v → Q v H') : tLc (tI X tg iter) (bG X scope tg) (bT X scope ifs) (bE X scope elt) (own.map (·.2)) σ H Q := by
  refine hi ρ _ q F H σ0 σ B _ E fun ds ρ1 J F1 H1 ⟨W, w0, turn, form, done⟩ G1 wd D nD => ?_
  have hD : ¬ B D := G1.er.nB nD
  have keepB : ∀ {H : Hp} {o : HO} (c : Addr), B c → upd H D o c = H c := fun c b => upd_ne fun z => by subst z; exact hD b
  refine lc_it wd (fun i H' => ∃ acc vacc ρ' F', W i acc ρ' ∧ ER X.K F' H' σ0 ρ' (L2.wipe σ (own.map (·.2))) (fun c => B c ∨ c = D) ∧ Nx F1 H1 F' H' B ∧ H' D = some (.lst vacc) ∧ RL X.K F' vacc acc) ?_ (fun i H' _ ⟨_, _, _, _, _, E', n', _⟩ => n'.fz.trans E'.sub) ?_ ?_
  · refine ⟨[], [], _, F1, w0, ?_, ?_, upd_same, .nil⟩
    · have E2 := (G1.er.laid (o := .lst []) nD).wipe (own.map (·.2))
      refine ⟨E2.len, E2.sub, E2.fz, fun i p d h => ?_, E2.inj, E2.par, fun c hc => ?_⟩
      · obtain ⟨a, e, ro, n, nb⟩ := E2.ow i p d h
        refine ⟨a, e, ro, n, fun hb => hb.elim nb fun z => ?_⟩
        subst z
        have hs : (L2.wipe σ (own.map (·.2)))[i]? = σ[i]? := wipe_get (wipeS_get h)
        have hj := wipeS_get h
        rw [hs] at e
        -- the slot holds an address that was free
        have gq : ∀ {ρ : List Sl} {vs : List Nat}, i ∉ vs → (wipeS ρ vs)[i]? = ρ[i]? := by
          intro ρ vs
          induction vs with
          | nil => intro _; rfl
          | cons v vs ih =>
            intro hv
            show ((wipeS ρ vs).set v .un)[i]? = _
            rw [List.getElem?_set_ne (fun z => hv (by rw [z]; exact List.mem_cons_self)), ih fun z => hv (List.mem_cons_of_mem _ z)]
        rw [gq hj] at h
        exact G1.er.nS nD i p d h e
      · rcases hc with hc | rfl
        · exact E2.out c hc
        · exact ⟨by rw [upd_same]; exact fun z => (nomatch z), G1.er.free nD⟩
    · exact ⟨Same.refl _, fun c b => keepB c b⟩
  · rintro i x H2 H3 hi ⟨acc, vacc, ρ2, F2, w2, E2, n2, eD, rl⟩ y
    obtain ⟨d, F3, ed, G3, rd⟩ := yd_er E2 n2.fz y
    intro s0 H0 C cl fp
    refine hg s0 H0 C cl fp d ρ2 _ (turn i d acc ρ2 ed w2) F3 H3 σ0 _ _ x _ (by rw [hK]; exact G3.er) (by rw [hK]; exact rd) fun ρ4 σ4 F4 H4 z G4 kp => ?_
    rw [hK] at G4
    have kp' : L2.wipe σ4 (own.map (·.2)) = L2.wipe (L2.wipe σ (own.map (·.2))) (own.map (·.2)) := kp
    have ww : ∀ (l : List Nat) (σ : L2.St), (∀ v ∈ l, v < σ.length → σ[v]? = some none) → L2.wipe σ l = σ := by
      intro l
      induction l with
      | nil => intro σ _; rfl
      | cons v l ih =>
        intro σ h
        show (L2.wipe σ l).set v none = σ
        rw [ih σ fun u hu => h u (List.mem_cons_of_mem _ hu)]
        refine List.ext_getElem? fun j => ?_
        by_cases hj : j = v
        · subst hj
          by_cases hl : j < σ.length
          · rw [List.getElem?_set_self hl, h j List.mem_cons_self hl]
          · rw [List.getElem?_eq_none (by rw [List.length_set]; omega), List.getElem?_eq_none (by omega)]
        · rw [List.getElem?_set_ne (Ne.symm hj)]
    have wn : ∀ (l : List Nat) (σ : L2.St) (v : Nat), v ∈ l → v < σ.length → (L2.wipe σ l)[v]? = some none := by
      intro l
      induction l with
      | nil => intro σ v h; exact nomatch h
      | cons u l ih =>
        intro σ v h hl
        show ((L2.wipe σ l).set u none)[v]? = _
        by_cases e : v = u
        · subst e; exact List.getElem?_set_self (by rw [wipe_length]; exact hl)
        · rw [List.getElem?_set_ne (Ne.symm e)]
          rcases List.mem_cons.mp h with z | z
          · exact absurd z e
          · exact ih σ v z hl
    have w4 : L2.wipe σ4 (own.map (·.2)) = L2.wipe σ (own.map (·.2)) := by
      rw [kp']
      exact ww _ _ fun v hv hl => wn _ _ v hv (by rw [wipe_length] at hl; exact hl)
    refine ⟨w4, ?_⟩
    intro s1 H01 C1 cl1 fp1 pins s' I'
    refine ht s1 H01 C1 cl1 fp1 ρ4 _ z F4 H4 σ0 σ4 _ _ (by rw [hK]; exact G4.er) (fun b ρ5 F5 H5 z5 G5 => ?_) pins s' I'
    rw [hK] at G5
    have n5 : Nx F2 H2 F5 H5 (fun c => B c ∨ c = D) := G3.nx.trans (G4.nx.trans G5.nx)
    have fin : ∀ {ρ6 : List Sl} {F6 H6 : Hp}, ER X.K F6 H6 σ0 ρ6 σ4 (fun c => B c ∨ c = D) → ER X.K F6 H6 σ0 (wipeS ρ6 (own.map (·.2))) (L2.wipe σ (own.map (·.2))) (fun c => B c ∨ c = D) := fun {ρ6 F6 H6} er => by
      have := er.wipe (own.map (·.2))
      rw [w4] at this
      exact this
    have sub5 : ∀ c, B c → B c ∨ c = D := fun c => .inl
    cases b with
    | false =>
      simp only [Bool.false_eq_true, if_false] at z5 ⊢
      exact ⟨acc, vacc, _, F5, z5, fin G5.er, n2.trans (n5.mono sub5), by rw [n5.out D (.inr rfl)]; exact eD, rl.mono n5.fz⟩
    | true =>
      simp only [if_true] at z5 ⊢
      intro s2 H02 C2 cl2 fp2
      refine he s2 H02 C2 cl2 fp2 ρ5 _ z5 F5 H5 σ0 σ4 _ _ (by rw [hK]; exact G5.er) fun r ρ6 yv F6 H6 z6 G6 => ?_
      rw [hK] at G6
      obtain ⟨F7, e7, nn7, E7, rd7, lt7, w7⟩ := G6.er.freeze G6.rr z6
      have n7 : Nx F2 H2 F7 H6 (fun c => B c ∨ c = D) := n5.trans (G6.nx.trans nn7)
      have e6 : H6 D = some (.lst vacc) := by rw [n7.out D (.inr rfl)]; exact eD
      have rl7 := rl.mono n7.fz
      refine ⟨vacc, e6, by rw [rl7.len]; exact lt7, acc ++ [e7], vacc ++ [yv], _, F7, w7, ?_, ?_, upd_same, rl7.snoc rd7⟩
      · have E8 := fin E7
        have fD : F7 D = none := (E7.out D (.inr rfl)).2
        refine ⟨E8.len, fun b u q => by rw [upd_ne (ne_of_none q fD)]; exact E8.sub b u q, E8.fz, fun i p d h => ?_, E8.inj, E8.par, fun c hc => ⟨?_, (E8.out c hc).2⟩⟩
        · obtain ⟨a, ea, ro, n, nb⟩ := E8.ow i p d h
          exact ⟨a, ea, ro.keep (Same.refl _) (upd_ne fun z => nb (.inr z)), n, nb⟩
        · by_cases hc' : c = D
          · subst hc'; rw [upd_same]; exact fun z => (nomatch z)
          · rw [upd_ne hc']; exact (E8.out c hc).1
      · exact ⟨n2.fz.trans n7.fz, fun c b => by rw [keepB c b]; exact (n7.out c (.inl b)).trans (n2.out c b)⟩
  · rintro H' ⟨acc, vacc, ρ', F', w', E', n', eD, rl⟩
    obtain ⟨ρ'', rfl⟩ := form _ _ _ w'
    have E3 := E'.unwipe
    refine k _ _ _ F' H' (done acc _ w') ⟨G1.nx.trans n', ⟨E3.len, E3.sub, E3.fz, fun i p d h => let ⟨a, e, x, y, z⟩ := E3.ow i p d h; ⟨a, e, x, y, fun b => z (.inl b)⟩, E3.inj, E3.par, fun c b => E3.out c (.inl b)⟩, D, rfl, .lst eD rl, (E3.out D (.inr rfl)).2, hD, fun i p e h z => ?_⟩
    obtain ⟨a, e2, _, _, nb⟩ := E3.ow i p e h
    rw [z] at e2; cases e2
    exact nb (.inr rfl)
theorem fe_lc {elt tg iter : Expr} {ifs : List Expr} {scope : Scope} {own : List (Str × Nat)} {pos : Pos} {w : UI} {g : UG} {tt : UT} {te : UE} (hc : X.calm = true) (hN : X.N.Nodup) (hi : FI X tg iter w) (ok : BlkOk X.N X.env.scope scope own)
    (hg : ∀ (s : Shared) (H : Hp) (C : Addr) (cl : List (Str × Addr)) (fp : List Addr), FG (X.blk s H scope (compEnvC scope cl C X.env) fp) (some (own.map (·.2))) tg g)
    (ht : ∀ (s : Shared) (H : Hp) (C : Addr) (cl : List (Str × Addr)) (fp : List Addr), FTs (X.blk s H scope (compEnvC scope cl C X.env) fp) ifs tt)
    (he : ∀ (s : Shared) (H : Hp) (C : Addr) (cl : List (Str × Addr)) (fp : List Addr), FE (X.blk s H scope (compEnvC scope cl C X.env) fp) elt te) (hs : ∀ x, foldedSetIterable iter X.env x = pure x := by intro _; rfl) :
    FE X (.ListComp elt [⟨tg, iter, ifs, 0⟩] scope pos) (uLc w g tt te (own.map (·.2))) := ⟨fun ρ R q F H σ0 σ B Q E k =>
  to_S (pe_lc hc hN pi_S ok pg_bS pts_bS pe_bS hs)
    (lc_tl hi (fun _ _ _ _ _ => rfl) hg ht he q E k)⟩
/-- name = [..] on one line -/
theorem fs_setLc {i : Nat} {y : Str} {py : Pos} {elt tg iter : Expr} {ifs : List Expr} {scope : Scope} {own : List (Str × Nat)} {pos spos : Pos} {w : UI} {g : UG} {tt : UT} {te : UE} (hc : X.calm = true) (hN : X.N.Nodup) (hy : X.N[i]? = some y) (hyl : X.env.scope.names.lookup y = some .local)
    (hsw : swapsWith (.ListComp elt [⟨tg, iter, ifs, 0⟩] scope pos) (some (.Name y py)) spos.line X.env = pure true) (hi : FI X tg iter w) (ok : BlkOk X.N X.env.scope scope own)
    (hg : ∀ (s : Shared) (H : Hp) (C : Addr) (cl : List (Str × Addr)) (fp : List Addr), FG (X.blk s H scope (compEnvC scope cl C X.env) fp) (some (own.map (·.2))) tg g)
    (ht : ∀ (s : Shared) (H : Hp) (C : Addr) (cl : List (Str × Addr)) (fp : List Addr), FTs (X.blk s H scope (compEnvC scope cl C X.env) fp) ifs tt)
    (he : ∀ (s : Shared) (H : Hp) (C : Addr) (cl : List (Str × Addr)) (fp : List Addr), FE (X.blk s H scope (compEnvC scope cl C X.env) fp) elt te) (hs : ∀ x, foldedSetIterable iter X.env x = pure x := by intro _; rfl) :
    FS X (.Assign [.Name y py] (.ListComp elt [⟨tg, iter, ifs, 0⟩] scope pos) spos) (uSet i (uLc w g tt te (own.map (·.2)))) := ⟨fun E ρ q F H σ0 σ B D er f => by
  refine to_SS (ps_setLc hc hN hy hyl hsw pi_S ok pg_bS pts_bS pe_bS hs) ?_
  refine lc_tl hi (fun _ _ _ _ _ => rfl) hg ht he q er fun r ρ1 v F1 H1 z G => ?_
  obtain ⟨F2, ρ2, n2, er2, z⟩ := G.er.put G.rr z
  exact f.nx ρ2 _ F2 H1 z ⟨G.nx.trans n2, er2⟩⟩

/-! ### what is walked: lists, tuples, texts, ranges -/
def uItL (u : UE) : UI := fun ρ R => u ρ fun r ρ1 => wv ρ1 r fun d => match d with
  | .lst l => R l (frz ρ1 r)
  | _ => False
def uItT (u : UE) : UI := fun ρ R => u ρ fun r ρ1 => wv ρ1 r fun d => match d with
  | .tup l => R l (frz ρ1 r)
  | _ => False
def uItS (u : UE) : UI := fun ρ R => u ρ fun r ρ1 => match r with
  | .val (.str x) => R (x.cps.toList.map fun c => .str ⟨#[c]⟩) ρ1
  | _ => False
theorem wd_at {K : PySem.W.Frag} {F : Hp} {J : It} {vs : List V} {ds : List D} {G : Hp → Prop} (w : Walk J vs.length G (YAt vs)) (hG : ∀ H, Same F H → G H) (l : RL K F vs ds) : WD K F J ds := by
  have e := l.len
  rw [e] at w
  exact w.mono hG fun i H x H' hi s ⟨e1, e2⟩ => by
    obtain ⟨d, e3, rd⟩ := l.get e2
    exact ⟨d, e3, .inl ⟨e1, rd⟩⟩
theorem fi_list {tg iter : Expr} {u : UE} (h : FE X iter u) : FI X tg iter (uItL u) := ⟨fun ρ R q F H σ0 σ B Q E g => by
  refine to_I (pi_list pe_S) (h ρ _ q F H σ0 σ B _ E fun r ρ1 v F1 H1 z G => ?_)
  obtain ⟨F2, d, n2, E2, rd, z⟩ := G.er.freeze G.rr z
  cases rd with
  | @lst a vs ds h1 l => exact ⟨a, rfl, ⟨vs, .of (E2.sub _ _ h1)⟩, g _ _ _ F2 H1 z ⟨G.nx.trans n2, E2⟩ (wd_at walk_list (fun H s => .of (s _ _ h1)) l)⟩
  | _ => exact z.elim⟩
theorem fi_tup {tg iter : Expr} {u : UE} (h : FE X iter u) : FI X tg iter (uItT u) := ⟨fun ρ R q F H σ0 σ B Q E g => by
  refine to_I (pi_tup pe_S) (h ρ _ q F H σ0 σ B _ E fun r ρ1 v F1 H1 z G => ?_)
  obtain ⟨F2, d, n2, E2, rd, z⟩ := G.er.freeze G.rr z
  cases rd with
  | @tup a vs ds h1 l => exact ⟨a, rfl, ⟨vs, sqT_mono E2.sub h1⟩, g _ _ _ F2 H1 z ⟨G.nx.trans n2, E2⟩ (wd_at walk_tup (fun H s => sqT_mono s h1) l)⟩
  | _ => exact z.elim⟩
theorem fi_str {tg iter : Expr} {u : UE} (h : FE X iter u) : FI X tg iter (uItS u) := ⟨fun ρ R q F H σ0 σ B Q E g => by
  refine to_I (pi_str pe_S) (h ρ _ q F H σ0 σ B _ E fun r ρ1 v F1 H1 z G => ?_)
  split at z
  · rename_i x
    have rr : RD X.K F1 v (.str x) := G.rr
    cases rr
    refine ⟨x, rfl, g _ _ _ F1 H1 z ⟨G.nx, G.er⟩ ?_⟩
    have w := walk_str (z := x)
    have e : x.cps.size = (x.cps.toList.map fun c => D.str ⟨#[c]⟩).length := by simp
    rw [e] at w
    refine w.mono (fun _ _ => trivial) fun i H x' H' hi s ⟨e1, c, e2, e3⟩ => ⟨.str ⟨#[c]⟩, ?_, .inl ⟨e1, by rw [e3]; exact .str _⟩⟩
    rw [List.getElem?_map, Array.getElem?_toList, e2]; rfl
  · exact z.elim⟩
def intsD (lo : Int) (n : Nat) : List D := (List.range n).map fun (i : Nat) => D.int (lo + (i : Int))
def uRng1 (u : UA) : UI := fun ρ R => u ρ fun ds ρ1 => match ds with
  | [.int j] => -(2 ^ 62) ≤ j ∧ j < 2 ^ 62 ∧ R (intsD 0 j.toNat) ρ1
  | _ => False
def uRng2 (u : UA) : UI := fun ρ R => u ρ fun ds ρ1 => match ds with
  | [.int i, .int j] => (-(2 ^ 62) ≤ i ∧ i < 2 ^ 62 ∧ -(2 ^ 62) ≤ j ∧ j < 2 ^ 62) ∧ R (intsD i (j - i).toNat) ρ1
  | _ => False
theorem wd_ints {K : PySem.W.Frag} {F : Hp} {lo : Int} {n : Nat} : WD K F (Itr lo n) (intsD lo n) := by
  have w := walk_range (lo := lo) (n := n)
  have e : n = (intsD lo n).length := by simp [intsD]
  have w' : Walk (Itr lo n) (intsD lo n).length (fun _ => True) (YFn fun i => V.int (lo + (i : Nat))) := by rw [← e]; exact w
  refine w'.mono (fun _ _ => trivial) fun i H x H' hi s ⟨e1, e2⟩ => ⟨.int (lo + (i : Nat)), ?_, .inl ⟨e1, by rw [e2]; exact .int _⟩⟩
  rw [← e] at hi
  simp [intsD, hi]
theorem fi_range1 {tg a : Expr} {u : UA} {p pos : Pos} (hg : Gl X "range") (hm : X.mg "range" = none) (ha : FA X [a] u) (hs : starEach [a] X.env = [(false, eval a X.env)] := by rfl) : FI X tg (.Call (.Name "range" p) [a] [] pos) (uRng1 u) := ⟨fun ρ R q F H σ0 σ B Q E g => by
  refine to_I (pi_range1 hg hm pa_S hs) (ha ρ _ q F H σ0 σ B _ E fun ds ρ1 vs F1 H1 z G l => ?_)
  split at z
  · rename_i j
    cases l with
    | cons l1 l2 =>
      cases l1; cases l2
      exact ⟨j, rfl, z.1, z.2.1, g _ _ _ F1 H1 z.2.2 G wd_ints⟩
  · exact z.elim⟩
theorem fi_range2 {tg a b : Expr} {u : UA} {p pos : Pos} (hg : Gl X "range") (hm : X.mg "range" = none) (ha : FA X [a, b] u) (hs : starEach [a, b] X.env = [(false, eval a X.env), (false, eval b X.env)] := by rfl) (hs2 : starEach [b] X.env = [(false, eval b X.env)] := by rfl) :
    FI X tg (.Call (.Name "range" p) [a, b] [] pos) (uRng2 u) := ⟨fun ρ R q F H σ0 σ B Q E g => by
  refine to_I (pi_range2 hg hm pa_S hs hs2) (ha ρ _ q F H σ0 σ B _ E fun ds ρ1 vs F1 H1 z G l => ?_)
  split at z
  · rename_i i j
    cases l with
    | cons l1 l2 =>
      cases l1
      cases l2 with
      | cons l2 l3 =>
        cases l2; cases l3
        exact ⟨i, j, rfl, z.1, g _ _ _ F1 H1 z.2 G wd_ints⟩
  · exact z.elim⟩
/-- enumerate of a list -/
def nums (ds : List D) : List D := (List.range ds.length).map fun (i : Nat) => D.tup [.int (i : Int), ds.getD i .non]
def uEnum (u : UA) : UI := fun ρ R => u ρ fun ds ρ1 => match ds with
  | [.lst l] => R (nums l) ρ1
  | _ => False
theorem fi_enum {e : Expr} {u : UA} {p pos tpos : Pos} {elts : List Expr} {kk : Nat} (hg : Gl X "enumerate") (hm : X.mg "enumerate" = none) (ha : FA X [e] u) (hs : starEach [e] X.env = [(false, eval e X.env)] := by rfl) :
    FI X (.Tuple elts kk tpos) (.Call (.Name "enumerate" p) [e] [] pos) (uEnum u) := ⟨fun ρ R q F H σ0 σ B Q E g => by
  refine to_I (pi_enum hg hm pa_S hs) (ha ρ _ q F H σ0 σ B _ E fun ds ρ1 vs F1 H1 z G l => ?_)
  split at z
  case h_2 => exact z.elim
  rename_i ds
  cases l with
  | cons l0 l9 =>
  cases l9
  cases l0 with
  | @lst a vs _ h1 l =>
    refine ⟨a, vs, rfl, .of (G.er.sub _ _ h1), g _ _ _ F1 H1 z G ?_⟩
    have w := walk_enum (K := X.K) (a := a) (xs := vs)
    have e : vs.length = (nums ds).length := by simp [nums, l.len]
    rw [e] at w
    refine w.mono (fun H s => .of (s _ _ h1)) fun i H x H' hi s ⟨t, x1, y1, e1, e2, e3, e4, e5⟩ => ?_
    obtain ⟨d', ed, rd'⟩ := l.get e5
    have hi' : i < ds.length := (List.getElem?_eq_some_iff.mp ed).1
    refine ⟨.tup [.int (i : Int), d'], ?_, .inr ⟨t, .tup [x1, y1], e3, e2, fun F' s' nF => ?_⟩⟩
    · have ed2 : ds[i] = d' := by
        have := List.getElem?_eq_getElem hi'
        rw [ed] at this
        exact (Option.some.inj this).symm
      simp [nums, hi', ed2]
    · cases e4
      subst e1
      have s2 : Same F' (upd F' t (.tup [.int (i : Nat), y1])) := fun b u q => by rw [upd_ne (ne_of_none q nF)]; exact q
      exact .tup (.of upd_same) (.cons (.int _) (.cons (rd'.mono (s'.trans s2)) .nil))⟩
end
end YP
set_option maxRecDepth 100000
/-! The yard's pure layer, part 4: defs and their calls. -/
namespace YP
open PySem PySem.Spec PyProof.Rows L2

/-! ### arguments: what stays, one's own, what a slot holds -/
def RRs (K : PySem.W.Frag) (F H : Hp) (ρ : List Sl) (σ : L2.St) : (Addr → Prop) → List Rv → List V → Prop
  | _, [], [] => True
  | B, r :: rs, v :: vs => RR K F H ρ σ B r v ∧ RRs K F H ρ σ (hB B r v) rs vs
  | _, _, _ => False
abbrev UR := List Sl → (List Rv → List Sl → Prop) → Prop
structure FR (X : Cx) (es : List Expr) (u : UR) : Prop where
  run : ∀ (ρ : List Sl) (R : List Rv → List Sl → Prop), u ρ R → ∀ (F H : Hp) (σ0 σ : L2.St) (B : Addr → Prop) (Q : List V → Hp → Prop), ER X.K F H σ0 ρ σ B →
    (∀ rs ρ' vs F' H', R rs ρ' → Gd X.K F H F' H' σ0 ρ' σ B → RRs X.K F' H' ρ' σ B rs vs → rs.length = es.length → Q vs H') → tA X es σ H Q
instance {X : Cx} {es : List Expr} {u : UR} : CoeFun (FR X es u) (fun _ => ∀ (ρ : List Sl) (R : List Rv → List Sl → Prop), u ρ R → ∀ (F H : Hp) (σ0 σ : L2.St) (B : Addr → Prop) (Q : List V → Hp → Prop), ER X.K F H σ0 ρ σ B →
  (∀ rs ρ' vs F' H', R rs ρ' → Gd X.K F H F' H' σ0 ρ' σ B → RRs X.K F' H' ρ' σ B rs vs → rs.length = es.length → Q vs H') → tA X es σ H Q) := ⟨FR.run⟩
section
variable {X : Cx} {e a : Expr} {ua : UE} {F H : Hp} {σ0 σ : L2.St} {ρ : List Sl} {B : Addr → Prop}
def uRNil : UR := fun ρ R => R [] ρ
/-- kept as it is -/
def uRRef (ue : UE) (u : UR) : UR := fun ρ R => ue ρ fun r ρ1 => u ρ1 fun rs ρ2 => R (r :: rs) ρ2
/-- it stays from now on -/
def uRVal (ue : UE) (u : UR) : UR := fun ρ R => ue ρ fun r ρ1 => wv ρ1 r fun d => u (frz ρ1 r) fun rs ρ2 => R (.val d :: rs) ρ2
theorem fr_nil : FR X [] uRNil := ⟨fun ρ R q F H σ0 σ B Q E g => to_A pa_nil (g [] ρ [] F H q ⟨.refl _ _ _, E⟩ trivial rfl)⟩
theorem fr_ref {es : List Expr} {u : UR} (ha : FE X a ua) (hr : FR X es u) (hs : starEach (a :: es) X.env = (false, eval a X.env) :: starEach es X.env := by rfl) : FR X (a :: es) (uRRef ua u) := ⟨fun ρ R q F H σ0 σ B Q E g =>
  to_A (pa_cons pe_S pa_S hs) (ha ρ _ q F H σ0 σ B _ E fun r ρ1 v F1 H1 z G =>
    hr ρ1 _ z F1 H1 σ0 σ (hB B r v) _ (G.er.hold G.rr) fun rs ρ2 vs F2 H2 y G2 l ll =>
      g (r :: rs) ρ2 (v :: vs) F2 H2 y ⟨G.nx.trans (G2.nx.mono hB_sub), G2.er.unhold⟩ ⟨G.rr.held G.er G2.er G2.nx, l⟩ (congrArg (· + 1) ll))⟩
theorem fr_val {es : List Expr} {u : UR} (ha : FE X a ua) (hr : FR X es u) (hs : starEach (a :: es) X.env = (false, eval a X.env) :: starEach es X.env := by rfl) : FR X (a :: es) (uRVal ua u) := ⟨fun ρ R q F H σ0 σ B Q E g =>
  to_A (pa_cons pe_S pa_S hs) (ha ρ _ q F H σ0 σ B _ E fun r ρ1 v F1 H1 z G => by
    obtain ⟨F2, d, n2, E2, rd, z⟩ := G.er.freeze G.rr z
    exact hr _ _ z F2 H1 σ0 σ B _ E2 fun rs ρ3 vs F3 H3 y G3 l ll => g (.val d :: rs) ρ3 (v :: vs) F3 H3 y ⟨G.nx.trans (n2.trans G3.nx), G3.er⟩ ⟨rd.mono G3.nx.fz, l⟩ (congrArg (· + 1) ll))⟩
end

/-- the slots that are handed in -/
def ats : List Rv → List Nat
  | [] => []
  | .at i :: rs => i :: ats rs
  | _ :: rs => ats rs
def slOf (ρ : List Sl) : Rv → Sl
  | .val d => .sl false false d
  | .own d => .sl true false d
  | .at i => match ρ[i]? with
    | some (.sl o _ d) => .sl o false d
    | _ => .un
def wb1 (s : Sl) (t : Option Sl) : Sl := match s, t with
  | .sl o _ d, some (.sl _ p _) => .sl o p d
  | _, _ => .un
/-- the caller's slots behind a call -/
def wb (ρ : List Sl) : List Rv → List Sl → List Sl
  | .at i :: rs, s :: ss => (wb ρ rs ss).set i (wb1 s ρ[i]?)
  | _ :: rs, _ :: ss => wb ρ rs ss
  | _, _ => ρ
abbrev UF := List Sl → (Rv → List Sl → Prop) → Prop
/-- the promise of a def: slots of its parameters in, the result and these slots out -/
def PSp (K : PySem.W.Frag) (n : Nat) (u : UF) : Sp := fun vs H Q _ => ∃ ρ F B R, ρ.length = n ∧ vs.length = n ∧ ER K F H [] ρ (vs.map some) B ∧ u ρ R ∧
  ∀ r ρ' v F' H', R r ρ' → Nx F H F' H' B → ER K F' H' [] ρ' (vs.map some) B → RR K F' H' ρ' (vs.map some) B r v → (∀ i, r ≠ .at i) → Q v H'
def uCall (u : UF) (ua : UR) : UE := fun ρ R => ua ρ fun rs ρ1 => (ats rs).Nodup ∧ u (rs.map (slOf ρ1)) fun r ss => R r (wb ρ1 rs ss)

section
variable {K : PySem.W.Frag} {F F' H H' : Hp} {σ0 σ : L2.St} {ρ : List Sl} {B : Addr → Prop}
theorem RRs.len : ∀ {B : Addr → Prop} {rs : List Rv} {vs : List V}, RRs K F H ρ σ B rs vs → rs.length = vs.length
  | _, [], [], _ => rfl
  | _, _ :: _, _ :: _, h => congrArg (· + 1) (RRs.len h.2)
  | _, [], _ :: _, h => h.elim
  | _, _ :: _, [], h => h.elim
theorem RRs.at_ : ∀ {B : Addr → Prop} {rs : List Rv} {vs : List V} {i : Nat} {r : Rv} {v : V}, RRs K F H ρ σ B rs vs → rs[i]? = some r → vs[i]? = some v → RR K F H ρ σ B r v
  | _, [], _, _, _, _, _, e, _ => nomatch e
  | _, _ :: _, [], _, _, _, h, _, _ => h.elim
  | _, _ :: _, _ :: _, 0, _, _, h, e, k => by cases e; cases k; exact h.1
  | B, r0 :: rs, v0 :: vs, i + 1, r, v, h, e, k => (RRs.at_ (i := i) h.2 e k).weak hB_sub
theorem RRs.apart : ∀ {B : Addr → Prop} {rs : List Rv} {vs : List V} {i j : Nat} {d e : D} {a : Addr}, RRs K F H ρ σ B rs vs → i < j → rs[i]? = some (.own d) → rs[j]? = some (.own e) → vs[i]? = some (.ref a) → vs[j]? = some (.ref a) → False
  | _, [], _, _, _, _, _, _, _, _, e, _, _, _ => nomatch e
  | _, _ :: _, [], _, _, _, _, _, h, _, _, _, _, _ => h.elim
  | _, _ :: _, _ :: _, _, 0, _, _, _, _, l, _, _, _, _ => absurd l (Nat.not_lt_zero _)
  | B, r0 :: rs, v0 :: vs, 0, j + 1, d, e, a, h, _, e1, e2, e3, e4 => by
    cases e1; cases e3
    obtain ⟨b, eb, _, _, nb, _⟩ := RRs.at_ (i := j) h.2 e2 e4
    cases eb
    exact nb (.inr rfl)
  | B, r0 :: rs, v0 :: vs, i + 1, j + 1, d, e, a, h, l, e1, e2, e3, e4 => RRs.apart (i := i) (j := j) h.2 (Nat.lt_of_succ_lt_succ l) e1 e2 e3 e4
theorem ats_mem : ∀ {rs : List Rv} {i k : Nat}, rs[k]? = some (.at i) → i ∈ ats rs
  | [], _, _, e => nomatch e
  | r :: rs, i, 0, e => by cases e; exact List.mem_cons_self
  | r :: rs, i, k + 1, e => by
    have h := ats_mem (rs := rs) (i := i) (k := k) e
    cases r <;> first | exact h | exact List.mem_cons_of_mem _ h
theorem ats_inj : ∀ {rs : List Rv} {i k l : Nat}, (ats rs).Nodup → rs[k]? = some (.at i) → rs[l]? = some (.at i) → k = l
  | [], _, _, _, _, e, _ => nomatch e
  | r :: rs, i, 0, 0, _, _, _ => rfl
  | r :: rs, i, 0, l + 1, n, e, f => by
    cases e
    exact absurd (ats_mem (rs := rs) (k := l) f) (List.nodup_cons.mp n).1
  | r :: rs, i, k + 1, 0, n, e, f => by
    cases f
    exact absurd (ats_mem (rs := rs) (k := k) e) (List.nodup_cons.mp n).1
  | r :: rs, i, k + 1, l + 1, n, e, f => by
    have n' : (ats rs).Nodup := by cases r <;> first | exact n | exact (List.nodup_cons.mp n).2
    exact congrArg (· + 1) (ats_inj (rs := rs) n' e f)
theorem wb_len : ∀ (rs : List Rv) (ss : List Sl), (wb ρ rs ss).length = ρ.length
  | [], _ => rfl
  | r :: rs, [] => by cases r <;> rfl
  | r :: rs, s :: ss => by
    cases r with
    | «at» i => show ((wb ρ rs ss).set i _).length = _; rw [List.length_set, wb_len rs ss]
    | val d => exact wb_len rs ss
    | own d => exact wb_len rs ss
theorem wb_out : ∀ {rs : List Rv} {ss : List Sl} {j : Nat}, j ∉ ats rs → (wb ρ rs ss)[j]? = ρ[j]?
  | [], _, _, _ => rfl
  | r :: rs, [], _, _ => by cases r <;> rfl
  | r :: rs, s :: ss, j, h => by
    cases r with
    | «at» i =>
      show ((wb ρ rs ss).set i _)[j]? = _
      have hj : j ≠ i := fun z => h (by rw [z]; exact List.mem_cons_self)
      rw [List.getElem?_set_ne (Ne.symm hj)]
      exact wb_out fun z => h (List.mem_cons_of_mem _ z)
    | val d => exact wb_out (rs := rs) h
    | own d => exact wb_out (rs := rs) h
theorem wb_in : ∀ {rs : List Rv} {ss : List Sl} {j k : Nat} {s : Sl}, (ats rs).Nodup → rs[k]? = some (.at j) → ss[k]? = some s → j < ρ.length → (wb ρ rs ss)[j]? = some (wb1 s ρ[j]?)
  | [], _, _, _, _, _, e, _, _ => nomatch e
  | r :: rs, [], _, _, _, _, _, e, _ => nomatch e
  | r :: rs, s0 :: ss, j, 0, s, n, e, f, l => by
    cases e; cases f
    show ((wb ρ rs ss).set j _)[j]? = _
    rw [List.getElem?_set_self (by rw [wb_len]; exact l)]
  | r :: rs, s0 :: ss, j, k + 1, s, n, e, f, l => by
    have n' : (ats rs).Nodup := by cases r <;> first | exact n | exact (List.nodup_cons.mp n).2
    have h := wb_in (rs := rs) (ss := ss) (k := k) n' e f l
    cases r with
    | «at» i =>
      show ((wb ρ rs ss).set i _)[j]? = _
      have hj : j ≠ i := fun z => by subst z; exact (List.nodup_cons.mp n).1 (ats_mem (rs := rs) (k := k) e)
      rw [List.getElem?_set_ne (Ne.symm hj)]; exact h
    | val d => exact h
    | own d => exact h
/-- an index among those handed in -/
theorem mem_ats : ∀ {rs : List Rv} {j : Nat}, j ∈ ats rs → ∃ k : Nat, rs[k]? = some (Rv.at j)
  | [], _, h => nomatch h
  | r :: rs, j, h => by
    cases r with
    | «at» i =>
      rcases List.mem_cons.mp h with z | z
      · subst z; exact ⟨0, rfl⟩
      · obtain ⟨k, e⟩ := mem_ats (rs := rs) z; exact ⟨k + 1, e⟩
    | val d => obtain ⟨k, e⟩ := mem_ats (rs := rs) h; exact ⟨k + 1, e⟩
    | own d => obtain ⟨k, e⟩ := mem_ats (rs := rs) h; exact ⟨k + 1, e⟩
/-- what the callee may not change -/
def bB (B : Addr → Prop) (ρ : List Sl) (σ : L2.St) (rs : List Rv) : Addr → Prop := fun c => B c ∨ ∃ (j : Nat) (p : Bool) (d : D), ρ[j]? = some (Sl.sl true p d) ∧ j ∉ ats rs ∧ σ[j]? = some (some (.ref c))
theorem sl_own {r : Rv} {d : D} {p : Bool} (h : slOf ρ r = .sl true p d) : p = false ∧ (r = .own d ∨ ∃ i q, r = .at i ∧ ρ[i]? = some (.sl true q d)) := by
  cases r with
  | val e => cases h
  | own e => cases h; exact ⟨rfl, .inl rfl⟩
  | «at» i =>
    cases z : ρ[i]? with
    | none => simp only [slOf, z] at h; cases h
    | some s =>
      cases s with
      | un => simp only [slOf, z] at h; cases h
      | sl o q e => simp only [slOf, z] at h; cases h; exact ⟨rfl, .inr ⟨i, q, rfl, z⟩⟩
theorem sl_val {r : Rv} {d : D} {p : Bool} (h : slOf ρ r = .sl false p d) : p = false ∧ (r = .val d ∨ ∃ i q, r = .at i ∧ ρ[i]? = some (.sl false q d)) := by
  cases r with
  | val e => cases h; exact ⟨rfl, .inl rfl⟩
  | own e => cases h
  | «at» i =>
    cases z : ρ[i]? with
    | none => simp only [slOf, z] at h; cases h
    | some s =>
      cases s with
      | un => simp only [slOf, z] at h; cases h
      | sl o q e => simp only [slOf, z] at h; cases h; exact ⟨rfl, .inr ⟨i, q, rfl, z⟩⟩
/-- into the callee -/
theorem ER.into {rs : List Rv} {vs : List V} (E : ER K F H σ0 ρ σ B) (h : RRs K F H ρ σ B rs vs) (n : (ats rs).Nodup) : ER K F H [] (rs.map (slOf ρ)) (vs.map some) (bB B ρ σ rs) := by
  have lv := h.len
  have gv : ∀ (i : Nat) s, (rs.map (slOf ρ))[i]? = some s → ∃ r v, rs[i]? = some r ∧ slOf ρ r = s ∧ vs[i]? = some v ∧ (vs.map some)[i]? = some (some v) := fun i s e => by
    rw [List.getElem?_map] at e
    cases q : rs[i]? with
    | none => rw [q] at e; cases e
    | some r =>
      rw [q] at e
      have hi : i < rs.length := (List.getElem?_eq_some_iff.mp q).1
      have e3 : vs[i]? = some (vs[i]'(by omega)) := List.getElem?_eq_getElem (by omega)
      refine ⟨r, vs[i]'(by omega), rfl, Option.some.inj e, e3, ?_⟩
      rw [List.getElem?_map, e3]; rfl
  have ow : ∀ (i : Nat) (p : Bool) (d : D), (rs.map (slOf ρ))[i]? = some (Sl.sl true p d) → ∃ r a, rs[i]? = some r ∧ vs[i]? = some (.ref a) ∧ (vs.map some)[i]? = some (some (.ref a)) ∧ RO K F H (.ref a) d ∧ F a = none ∧ ¬ B a ∧
      ((r = .own d ∧ ∀ (j : Nat) q e, ρ[j]? = some (Sl.sl true q e) → σ[j]? ≠ some (some (.ref a))) ∨ ∃ j q, r = .at j ∧ ρ[j]? = some (.sl true q d) ∧ σ[j]? = some (some (.ref a))) := fun i p d e => by
    obtain ⟨r, v, e1, e2, e3, e4⟩ := gv i _ e
    have rr := h.at_ e1 e3
    rcases (sl_own e2).2 with rfl | ⟨j, q, rfl, z⟩
    · obtain ⟨a, rfl, ro, x, y, w⟩ := rr
      exact ⟨_, a, e1, e3, e4, ro, x, y, .inl ⟨rfl, w⟩⟩
    · have rr' : σ[j]? = some (some v) := rr
      obtain ⟨a, e5, ro, x, y⟩ := E.ow j q d z
      rw [rr'] at e5; cases e5
      exact ⟨_, a, e1, e3, e4, ro, x, y, .inr ⟨j, q, rfl, z, rr'⟩⟩
  refine ⟨by simp [lv], E.sub, fun i p d e => ?_, fun i p d e => ?_, fun i j a p q d e h1 h2 h3 h4 => ?_, fun i o d e => ?_, fun c hc => ?_⟩
  · obtain ⟨r, v, e1, e2, e3, e4⟩ := gv i _ e
    have rr := h.at_ e1 e3
    rcases (sl_val e2).2 with rfl | ⟨j, q, rfl, z⟩
    · exact ⟨v, e4, rr⟩
    · have rr' : σ[j]? = some (some v) := rr
      obtain ⟨u, e5, rd⟩ := E.fz j q d z
      rw [rr'] at e5; cases e5
      exact ⟨v, e4, rd⟩
  · obtain ⟨r, a, e1, e3, e4, ro, x, y, w⟩ := ow i p d e
    refine ⟨a, e4, ro, x, fun hb => ?_⟩
    rcases hb with hb | ⟨j, q, f, z1, z2, z3⟩
    · exact y hb
    · rcases w with ⟨rfl, w⟩ | ⟨k, q', rfl, z4, z5⟩
      · exact w j q f z1 z3
      · have := E.inj j k a q q' f d z1 z4 z3 z5
        subst this
        exact z2 (ats_mem e1)
  · obtain ⟨r1, a1, e1, e3, e4, ro, x, y, w⟩ := ow i p d h1
    obtain ⟨r2, a2, f1, f3, f4, ro2, x2, y2, w2⟩ := ow j q e h2
    rw [e4] at h3; cases h3
    rw [f4] at h4; cases h4
    rcases w with ⟨rfl, w⟩ | ⟨k, q1, rfl, z1, z2⟩
    · rcases w2 with ⟨rfl, w2⟩ | ⟨l, q2, rfl, z3, z4⟩
      · rcases Nat.lt_trichotomy i j with l | l | l
        · exact (h.apart l e1 f1 e3 f3).elim
        · exact l
        · exact (h.apart l f1 e1 f3 e3).elim
      · exact absurd z4 (w l q2 e z3)
    · rcases w2 with ⟨rfl, w2⟩ | ⟨l, q2, rfl, z3, z4⟩
      · exact absurd z2 (w2 k q1 d z1)
      · have := E.inj k l a q1 q2 d e z1 z3 z2 z4
        subst this
        exact ats_inj n e1 f1
  · obtain ⟨r, v, e1, e2, e3, e4⟩ := gv i _ e
    cases o with
    | false => cases (sl_val e2).1
    | true => cases (sl_own e2).1
  · rcases hc with hc | ⟨j, q, f, z1, z2, z3⟩
    · exact E.out c hc
    · obtain ⟨a, e5, ro, x, y⟩ := E.ow j q f z1
      rw [z3] at e5; cases e5
      obtain ⟨_, o, e6, e7⟩ := ro.there
      cases e6
      exact ⟨by rw [e7]; exact fun z => (nomatch z), x⟩
/-- back from the callee -/
theorem ER.behind {rs : List Rv} {vs : List V} {ss : List Sl} {r : Rv} {v : V} (E : ER K F H σ0 ρ σ B) (h : RRs K F H ρ σ B rs vs) (n : (ats rs).Nodup) (nx : Nx F H F' H' (bB B ρ σ rs))
    (E' : ER K F' H' [] ss (vs.map some) (bB B ρ σ rs)) (rr : RR K F' H' ss (vs.map some) (bB B ρ σ rs) r v) (na : ∀ i, r ≠ .at i) : Gt K F H F' H' σ0 (wb ρ rs ss) σ B r v := by
  have lv := h.len
  have ls : ss.length = rs.length := by rw [E'.len, List.length_map, lv]
  -- a slot behind the call
  have wh : ∀ (j : Nat) o p d, (wb ρ rs ss)[j]? = some (Sl.sl o p d) → (j ∉ ats rs ∧ ρ[j]? = some (.sl o p d)) ∨
      ∃ (k : Nat) (q o' : Bool) (d' : D) (u : V), rs[k]? = some (.at j) ∧ ss[k]? = some (.sl o q d) ∧ ρ[j]? = some (.sl o' p d') ∧ vs[k]? = some u ∧ (vs.map some)[k]? = some (some u) ∧ σ[j]? = some (some u) := fun j o p d e => by
    by_cases hj : j ∈ ats rs
    · obtain ⟨k, ek⟩ := mem_ats hj
      have hk : k < rs.length := (List.getElem?_eq_some_iff.mp ek).1
      have es : ss[k]? = some (ss[k]'(by omega)) := List.getElem?_eq_getElem (by omega)
      have ev : vs[k]? = some (vs[k]'(by omega)) := List.getElem?_eq_getElem (by omega)
      by_cases hl : j < ρ.length
      · rw [wb_in n ek es hl] at e
        have e := Option.some.inj e
        have rj : σ[j]? = some (some (vs[k]'(by omega))) := h.at_ ek ev
        generalize ss[k]'(by omega) = s at es e
        cases s with
        | un => simp only [wb1] at e; cases e
        | sl o2 q2 d2 =>
          cases zr : ρ[j]? with
          | none => rw [zr] at e; simp only [wb1] at e; cases e
          | some t =>
            cases t with
            | un => rw [zr] at e; simp only [wb1] at e; cases e
            | sl o3 p3 d3 =>
              rw [zr] at e; simp only [wb1] at e
              cases e
              exact .inr ⟨k, q2, o3, d3, _, ek, es, rfl, ev, by rw [List.getElem?_map, ev]; rfl, rj⟩
      · rw [List.getElem?_eq_none (by rw [wb_len]; omega)] at e; cases e
    · rw [wb_out hj] at e; exact .inl ⟨hj, e⟩
  have ow : ∀ (j : Nat) p d, (wb ρ rs ss)[j]? = some (Sl.sl true p d) → ∃ a, σ[j]? = some (some (.ref a)) ∧ RO K F' H' (.ref a) d ∧ F' a = none ∧ ¬ B a ∧
      ((j ∉ ats rs ∧ ρ[j]? = some (.sl true p d)) ∨ ∃ (k : Nat) (q : Bool), rs[k]? = some (.at j) ∧ ss[k]? = some (.sl true q d) ∧ (vs.map some)[k]? = some (some (.ref a)) ∧ ¬ bB B ρ σ rs a) := fun j p d e => by
    rcases wh j _ _ _ e with ⟨hj, z⟩ | ⟨k, q, o', d', u, ek, es, _, ev, em, ej⟩
    · obtain ⟨a, e1, ro, x, y⟩ := E.ow j p d z
      have ba : bB B ρ σ rs a := .inr ⟨j, p, d, z, hj, e1⟩
      exact ⟨a, e1, ro.keep nx.fz (nx.out a ba), (E'.out a ba).2, y, .inl ⟨hj, z⟩⟩
    · obtain ⟨a, e1, ro, x, y⟩ := E'.ow k q d es
      rw [em] at e1; cases e1
      exact ⟨a, ej, ro, x, fun hb => y (.inl hb), .inr ⟨k, q, ek, es, em, y⟩⟩
  have er : ER K F' H' σ0 (wb ρ rs ss) σ B := by
    refine ⟨by rw [wb_len]; exact E.len, E'.sub, fun j p d e => ?_, fun j p d e => ?_, fun i j a p q d e h1 h2 h3 h4 => ?_, fun j o d e => ?_, fun c hc => ⟨?_, (E'.out c (.inl hc)).2⟩⟩
    · rcases wh j _ _ _ e with ⟨hj, z⟩ | ⟨k, q, o', d', u, ek, es, _, ev, em, ej⟩
      · obtain ⟨u, e1, rd⟩ := E.fz j p d z
        exact ⟨u, e1, rd.mono nx.fz⟩
      · obtain ⟨u', e1, rd⟩ := E'.fz k q d es
        rw [em] at e1; cases e1
        exact ⟨u, ej, rd⟩
    · obtain ⟨a, x, y, z, w, _⟩ := ow j p d e
      exact ⟨a, x, y, z, w⟩
    · obtain ⟨a1, x1, _, _, _, w1⟩ := ow i p d h1
      obtain ⟨a2, x2, _, _, _, w2⟩ := ow j q e h2
      rw [x1] at h3; cases h3
      rw [x2] at h4; cases h4
      rcases w1 with ⟨n1, z1⟩ | ⟨k, q1, z1, z2, z3, z4⟩
      · rcases w2 with ⟨n2, y1⟩ | ⟨l, q2, y1, y2, y3, y4⟩
        · exact E.inj i j a p q d e z1 y1 x1 x2
        · exact absurd (Or.inr ⟨i, p, d, z1, n1, x1⟩) y4
      · rcases w2 with ⟨n2, y1⟩ | ⟨l, q2, y1, y2, y3, y4⟩
        · exact absurd (Or.inr ⟨j, q, e, y1, n2, x2⟩) z4
        · have := E'.inj k l a q1 q2 d e z2 y2 z3 y3
          subst this
          rw [z1] at y1; cases y1; rfl
    · rcases wh j _ _ _ e with ⟨hj, z⟩ | ⟨k, q, o', d', u, ek, es, z, ev, em, ej⟩
      · exact E.par j o d z
      · exact E.par j o' d' z
    · rw [nx.out c (.inl hc)]; exact (E.out c hc).1
  refine ⟨nx.mono fun c => .inl, er, ?_⟩
  cases r with
  | val d => exact rr
  | «at» i => exact absurd rfl (na i)
  | own d =>
    obtain ⟨a, rfl, ro, x, y, w⟩ := rr
    refine ⟨a, rfl, ro, x, fun hb => y (.inl hb), fun j p e h1 h2 => ?_⟩
    obtain ⟨a1, x1, _, _, _, w1⟩ := ow j p e h1
    rw [x1] at h2; cases h2
    rcases w1 with ⟨n1, z1⟩ | ⟨k, q1, z1, z2, z3, z4⟩
    · exact y (.inr ⟨j, p, e, z1, n1, x1⟩)
    · exact w k q1 e z2 z3
end

/-- a call of a def -/
theorem fe_call {X : Cx} {ea : Expr} {es : List Expr} {pf pos : Pos} {x : Str} {u : UF} {ua : UR} {k : Nat} {f : Addr} {fd : FuncData} {ps : List Str} (Fn : FnOk X.prog X.w X.K X.mg X.base CX0 k f fd ps (PSp X.K ps.length u)) (hr : Room k X.A) (hg : Gl X x) (hm : X.mg x = some (.ref f)) (hk : PySem.W.keepIn X.K (.ref f) = true) (hb : Binds X.K fd ps [])
    (ha : FR X (ea :: es) ua) (hn : (ea :: es).length = ps.length := by rfl) (hdb : (x == ("__debug__" : Str)) = false := by decide) (he : starEach (ea :: es) X.env = (false, eval ea X.env) :: starEach es X.env := by rfl) (hpl : (backTo pos (starEach es X.env)).any (·.1) = false := by rfl) :
    FE X (.Call (.Name x pf) (ea :: es) [] pos) (uCall u ua) := ⟨fun ρ R q F H σ0 σ B Q E g => by
  refine to_S (pe_call Fn hr hg hm hk hb .nil (E := fun _ _ _ => False) pass0 pa_S hdb he hpl) (ha ρ _ q F H σ0 σ B _ E fun rs ρ1 vs F1 H1 ⟨n1, z⟩ G l ll => ?_)
  have ln := ll.trans hn
  have lv := l.len
  refine ⟨_, F1, bB B ρ1 σ rs, _, by rw [List.length_map]; exact ln, by rw [List.length_append, ← lv, ln]; rfl, by rw [List.append_nil]; exact G.er.into l n1, z, fun r ss v F' H' y nx E' rr na => ?_⟩
  rw [List.append_nil] at E' rr
  have G' := G.er.behind l n1 nx E' rr na
  exact g r _ v F' H' y ⟨G.nx.trans G'.nx, G'.er, G'.rr⟩⟩
end YP
set_option maxRecDepth 100000
/-! The yard's pure layer, part 5: a def's body. -/
namespace YP
open PySem PySem.Spec PyProof.Rows L2

def mark : Sl → Sl
  | .sl o _ d => .sl o true d
  | .un => .un
def enter (N : Nat) (ρ : List Sl) : List Sl := ρ.map mark ++ List.replicate (N - ρ.length) .un
def unmark : Sl → Sl
  | .sl o true d => .sl o false d
  | _ => .un
def back : Nat → List Sl → List Sl
  | 0, _ => []
  | n + 1, [] => .un :: back n []
  | n + 1, s :: ρ => unmark s :: back n ρ
/-- a result as it leaves the def -/
def fin (ρ : List Sl) (r : Rv) (k : Rv → List Sl → Prop) : Prop := match r with
  | .at i => match ρ[i]? with
    | some (.sl true false d) => k (.own d) ρ
    | some (.sl true true d) => k (.val d) (ρ.set i (.sl false true d))
    | some (.sl false _ d) => k (.val d) ρ
    | _ => False
  | r => k r ρ
section
variable {K : PySem.W.Frag} {F F' H H' : Hp} {σ0 σ : L2.St} {ρ : List Sl} {B : Addr → Prop} {n : Nat}
theorem back_len : ∀ (n : Nat) (ρ : List Sl), (back n ρ).length = n
  | 0, _ => rfl
  | n + 1, [] => congrArg (· + 1) (back_len n [])
  | n + 1, _ :: ρ => congrArg (· + 1) (back_len n ρ)
theorem back_get {o p : Bool} {d : D} : ∀ {n i : Nat} {ρ : List Sl}, (back n ρ)[i]? = some (Sl.sl o p d) → i < n ∧ p = false ∧ ρ[i]? = some (.sl o true d)
  | 0, _, _, h => nomatch h
  | n + 1, 0, [], h => nomatch h
  | n + 1, i + 1, [], h => by
    obtain ⟨a, b, c⟩ := back_get (n := n) (i := i) (ρ := []) h
    exact nomatch c
  | n + 1, 0, s :: ρ, h => by
    have h : some (unmark s) = some (Sl.sl o p d) := h
    have h := Option.some.inj h
    cases s with
    | un => cases h
    | sl o' p' d' => cases p' <;> cases h; exact ⟨by omega, rfl, rfl⟩
  | n + 1, i + 1, s :: ρ, h => by
    obtain ⟨a, b, c⟩ := back_get (n := n) (i := i) (ρ := ρ) h
    exact ⟨by omega, b, c⟩
theorem ER.back (E : ER K F H σ0 ρ σ B) (hn : n = σ0.length) : ER K F H [] (back n ρ) σ0 B := by
  refine ⟨by rw [back_len]; exact hn, E.sub, fun i p d h => ?_, fun i p d h => ?_, fun i j a p q d e h1 h2 h3 h4 => ?_, fun i o d h => ?_, E.out⟩
  · obtain ⟨_, _, z⟩ := back_get h
    rw [← E.par i _ d z]
    exact E.fz i true d z
  · obtain ⟨_, _, z⟩ := back_get h
    rw [← E.par i _ d z]
    exact E.ow i true d z
  · obtain ⟨_, _, z⟩ := back_get h1
    obtain ⟨_, _, y⟩ := back_get h2
    rw [← E.par i _ d z] at h3
    rw [← E.par j _ e y] at h4
    exact E.inj i j a _ _ d e z y h3 h4
  · obtain ⟨_, y, _⟩ := back_get h
    cases y
theorem fin_ok {r : Rv} {v : V} {k : Rv → List Sl → Prop} (E : ER K F H σ0 ρ σ B) (rr : RR K F H ρ σ B r v) (h : fin ρ r k) (hn : n = σ0.length) :
    ∃ F' r' ρ', k r' ρ' ∧ Nx F H F' H B ∧ ER K F' H [] (back n ρ') σ0 B ∧ RR K F' H (back n ρ') σ0 B r' v ∧ ∀ i, r' ≠ .at i := by
  cases r with
  | val d => exact ⟨F, _, ρ, h, .refl _ _ _, E.back hn, rr, fun _ z => nomatch z⟩
  | own d =>
    refine ⟨F, _, ρ, h, .refl _ _ _, E.back hn, ?_, fun _ z => nomatch z⟩
    obtain ⟨a, x, ro, y, z, w⟩ := rr
    refine ⟨a, x, ro, y, z, fun i p e q => ?_⟩
    obtain ⟨_, _, z⟩ := back_get q
    rw [← E.par i _ e z]
    exact w i _ e z
  | «at» i =>
    unfold fin at h
    dsimp only at h
    have rr' : σ[i]? = some (some v) := rr
    cases q : ρ[i]? with
    | none => rw [q] at h; exact h.elim
    | some s =>
      cases s with
      | un => rw [q] at h; exact h.elim
      | sl o p d =>
        cases o with
        | false =>
          rw [q] at h
          obtain ⟨u, e, rd⟩ := E.fz i p d q
          rw [rr'] at e; cases e
          refine ⟨F, _, ρ, ?_, .refl _ _ _, E.back hn, (show RR K F H _ _ B (.val d) v from rd), fun _ z => nomatch z⟩
          cases p <;> exact h
        | true =>
          cases p with
          | false =>
            rw [q] at h
            obtain ⟨a, e, ro, x, y⟩ := E.ow i _ d q
            rw [rr'] at e; cases e
            refine ⟨F, _, ρ, h, .refl _ _ _, E.back hn, ⟨a, rfl, ro, x, y, fun j p e z w => ?_⟩, fun _ z => nomatch z⟩
            obtain ⟨_, _, z2⟩ := back_get z
            rw [← E.par j _ e z2] at w
            have := E.inj j i a _ _ e d z2 q w rr'
            subst this
            rw [z2] at q; cases q
          | true =>
            rw [q] at h
            have w : wv ρ (.at i) (fun e => e = d) := by simp only [wv, q]
            obtain ⟨F', d', nx, E', rd, rfl⟩ := E.freeze rr w
            have fe : frz ρ (.at i) = ρ.set i (Sl.sl false true d') := by simp only [frz, q]
            rw [fe] at E'
            exact ⟨F', _, _, h, nx, E'.back hn, (show RR K F' H _ _ B (.val d') v from rd), fun _ z => nomatch z⟩
theorem ER.enter {vs : List V} {N : List Str} (E : ER K F H [] ρ (vs.map some) B) : ER K F H (vs.map some) (enter N.length ρ) (L2.start N vs) B := by
  have lv : ρ.length = vs.length := by have := E.len; rwa [List.length_map] at this
  have g : ∀ (i : Nat) o p d, (YP.enter N.length ρ)[i]? = some (Sl.sl o p d) → i < ρ.length ∧ (∃ p', ρ[i]? = some (.sl o p' d)) ∧ (L2.start N vs)[i]? = (vs.map some)[i]? := fun i o p d e => by
    unfold YP.enter at e
    by_cases hi : i < ρ.length
    · rw [List.getElem?_append_left (by rw [List.length_map]; exact hi), List.getElem?_map] at e
      cases q : ρ[i]? with
      | none => rw [q] at e; cases e
      | some s =>
        rw [q] at e
        have e := Option.some.inj e
        cases s with
        | un => cases e
        | sl o' p' d' =>
          cases e
          refine ⟨hi, ⟨p', rfl⟩, ?_⟩
          unfold L2.start
          rw [List.getElem?_append_left (by rw [List.length_map]; omega)]
    · rw [List.getElem?_append_right (by rw [List.length_map]; omega), List.getElem?_replicate] at e
      split at e <;> cases e
  refine ⟨?_, E.sub, fun i p d h => ?_, fun i p d h => ?_, fun i j a p q d e h1 h2 h3 h4 => ?_, fun i o d h => (g _ _ _ _ h).2.2, E.out⟩
  · unfold YP.enter L2.start
    rw [List.length_append, List.length_append, List.length_map, List.length_map, List.length_replicate, List.length_replicate, lv]
  · obtain ⟨_, ⟨p', z⟩, y⟩ := g _ _ _ _ h
    rw [y]; exact E.fz i p' d z
  · obtain ⟨_, ⟨p', z⟩, y⟩ := g _ _ _ _ h
    rw [y]; exact E.ow i p' d z
  · obtain ⟨_, ⟨p', z⟩, y⟩ := g _ _ _ _ h1
    obtain ⟨_, ⟨q', z2⟩, y2⟩ := g _ _ _ _ h2
    rw [y] at h3; rw [y2] at h4
    exact E.inj i j a _ _ d e z z2 h3 h4
end
theorem ru {k : Nat} {A : Around} (hr : Room k A) : A.units + 64 < cLine := by have := hr.un; omega
theorem rv {k : Nat} {A : Around} (hr : Room k A) : A.units + 65 < cLine := by have := hr.un; omega
theorem rk {k : Nat} {A : Around} (hr : Room k A) : A.units + 1 < cLine := by have := hr.un; omega
/-- the end of a def's body -/
def enEnd (n : Nat) (R : Rv → List Sl → Prop) : En := { nx := fun ρe => R (.val .non) (back n ρe), rt := fun r ρe => fin ρe r fun r ρ2 => R r (back n ρ2) }
section
variable {P : Program} {w : World} {K : PySem.W.Frag} {mg : Str → Option Value} {base : Heap}
/-- THE RULE for a def -/
theorem fn_mk {x qual : Str} {st : Stmt} {f : Addr} {fd : FuncData} {N ps : List Str} {k : Nat} {u : UF} (Fn : Fun K x qual st f fd) (S : FnScope N ps (defScope st)) (hN : ps.length ≤ N.length)
    (body : ∀ (cdv : Value) (A : Around) (outer : List Env) (s : Shared) (H : Hp) (E : XK), Room k (A.deeper (envOfC qual (defScope st) s.heap.objs.size f cdv)) →
      ∃ ub, FB (cxOf CX0 P w K mg base N qual (defScope st) f cdv A outer s H E).nox (defBody st) ub ∧ ∀ ρ R, ρ.length = ps.length → u ρ R → ub (enEnd ps.length R) (enter N.length ρ)) : FnOk P w K mg base CX0 (k + 1) f fd ps (PSp K ps.length u) := by
  refine Fn.ok S (fun vs H Q E h => ?_) fun cdv A outer s H vs Q E hr h => ?_
  · obtain ⟨ρ, F, B, R, _, l, _⟩ := h; exact l
  · obtain ⟨ρ, F, B, R, l1, l2, er, hu, g⟩ := h
    obtain ⟨ub, hub, go⟩ := body cdv A outer s H E hr
    refine ⟨_, pss_S, hub _ _ (go ρ R l1 hu) F H (vs.map some) _ B _ er.enter ⟨fun ρ' σ' F' H' e G => ?_, fun r ρ' v σ' F' H' e G => ?_, fun _ _ _ _ e _ => e.elim, fun _ _ _ _ e _ => e.elim⟩⟩
    · have hn : ps.length = (vs.map some).length := by rw [List.length_map]; exact l2.symm
      exact g _ _ _ F' H' e G.nx (G.er.back hn) .non (fun _ z => nomatch z)
    · have hn : ps.length = (vs.map some).length := by rw [List.length_map]; exact l2.symm
      obtain ⟨F2, r2, ρ2, hk, nx, er2, rr2, na⟩ := fin_ok (k := fun r ρ2 => R r (YP.back ps.length ρ2)) G.er G.rr e hn
      exact g r2 _ v F2 H' hk (G.nx.trans nx) er2 rr2 na
end
end YP
set_option maxRecDepth 100000
/-! The yard's pure layer, part 6: operators, subscripts, slices. -/
namespace YP
open PySem PySem.Spec PyProof.Rows L2

theorem OpS.of {X : Cx} {f : Value → Value → Sem Value} {o : D → D → (Rv → Prop) → Prop} {r : R2} (h : OpR X f r) (k : ∀ {F H : Hp} {σ0 σ : L2.St} {ρ : List Sl} {B : Addr → Prop} {x y : V} {d e : D} {T : Rv → Prop} {Q : VK}, ER X.K F H σ0 ρ σ B → RW X.K F H x d → RW X.K F H y e → o d e T →
    (∀ z v F' H', T z → Gt X.K F H F' H' σ0 ρ σ B z v → Q v H') → r x y H Q) : OpS X f o := ⟨⟨r, h, k⟩⟩
section
variable {K : PySem.W.Frag} {F H : Hp} {σ0 σ : L2.St} {ρ : List Sl} {B : Addr → Prop} {T : Rv → Prop} {Q : VK}
/-- a result that is plain -/
theorem gt_val {d : D} {v : V} (E : ER K F H σ0 ρ σ B) (g : ∀ z v F' H', T z → Gt K F H F' H' σ0 ρ σ B z v → Q v H') (t : T (.val d)) (rd : RD K F v d) : Q v H := g _ _ _ _ t ⟨.refl _ _ _, E, rd⟩
/-- a new list -/
theorem gt_lst {vs : List V} {ds : List D} (E : ER K F H σ0 ρ σ B) (g : ∀ z v F' H', T z → Gt K F H F' H' σ0 ρ σ B z v → Q v H') (t : T (.own (.lst ds))) (rl : RL K F vs ds) : ∀ p, H p = none → Q (.ref p) (upd H p (.lst vs)) := fun p np =>
  g _ _ F _ t ⟨nx_new E np, E.laid np, E.laid_own np (.lst upd_same rl)⟩
/-- a new tuple -/
theorem gt_tup {vs : List V} {ds : List D} (E : ER K F H σ0 ρ σ B) (g : ∀ z v F' H', T z → Gt K F H F' H' σ0 ρ σ B z v → Q v H') (t : T (.val (.tup ds))) (rl : RL K F vs ds) : ∀ p, H p = none → Q (.ref p) (upd H p (.tup vs)) := fun p np => by
  obtain ⟨E2, n2⟩ := E.laid_val (o := .tup vs) np
  exact g _ _ _ _ t ⟨n2, E2, .tup (.of upd_same) (rl.mono n2.fz)⟩
/-- a new dict -/
theorem gt_dic {vs : List (Key × V)} {ds : List (Key × D)} (E : ER K F H σ0 ρ σ B) (g : ∀ z v F' H', T z → Gt K F H F' H' σ0 ρ σ B z v → Q v H') (t : T (.own (.dic ds))) (rl : RK K F vs ds) : ∀ p, H p = none → Q (.ref p) (upd H p (.dK vs)) := fun p np =>
  g _ _ F _ t ⟨nx_new E np, E.laid np, E.laid_own np (.dic upd_same rl)⟩
end

/-! ### + -/
def oAdd (d e : D) (T : Rv → Prop) : Prop := match d, e with
  | .int i, .int j => T (.val (.int (i + j)))
  | .str x, .str y => x.length + y.length ≤ sizeLine ∧ T (.val (.str (x ++ y)))
  | .lst xs, .lst ys => xs.length + ys.length ≤ sizeLine ∧ T (.own (.lst (xs ++ ys)))
  | .tup xs, .tup ys => xs.length + ys.length ≤ sizeLine ∧ T (.val (.tup (xs ++ ys)))
  | _, _ => False
theorem os_add {X : Cx} : OpS X (binaryOp .Add) oAdd := .of (OpR.or op_add (OpR.or op_add_str (OpR.or op_cat op_catA))) fun {F H σ0 σ ρ B x y d e T Q} E w1 w2 t g => by
  unfold oAdd at t
  split at t
  · cases w1.int; cases w2.int
    exact .inl ⟨_, _, rfl, rfl, gt_val E g t (.int _)⟩
  · cases w1.str; cases w2.str
    exact .inr (.inl ⟨_, _, rfl, rfl, t.1, gt_val E g t.2 (.str _)⟩)
  · obtain ⟨a, vs, rfl, h1, l1⟩ := w1.lst E.sub
    obtain ⟨b, us, rfl, h2, l2⟩ := w2.lst E.sub
    exact .inr (.inr (.inl ⟨a, b, vs, us, rfl, rfl, h1, h2, by rw [l1.len, l2.len]; exact t.1, gt_lst E g t.2 (l1.app l2)⟩))
  · obtain ⟨a, vs, rfl, h1, l1⟩ := w1.tup E.sub
    obtain ⟨b, us, rfl, h2, l2⟩ := w2.tup E.sub
    refine .inr (.inr (.inr ⟨a, b, vs, us, rfl, rfl, h1, h2, by rw [l1.len, l2.len]; exact t.1, fun e => ?_, fun _ e => ?_, fun _ _ => gt_tup E g t.2 (l1.app l2)⟩))
    · subst e; cases l1
      rcases w2 with w | w
      · exact gt_val E g t.2 w
      · cases w
    · subst e; cases l2
      have t2 := t.2
      rw [List.append_nil] at t2
      rcases w1 with w | w
      · exact gt_val E g t2 w
      · cases w
  · exact t.elim

/-! ### the others on ints -/
def oI (C : Int → Int → Prop) (k : Int → Int → D) (d e : D) (T : Rv → Prop) : Prop := match d, e with
  | .int i, .int j => C i j ∧ T (.val (k i j))
  | _, _ => False
def oI0 (k : Int → Int → D) (d e : D) (T : Rv → Prop) : Prop := match d, e with
  | .int i, .int j => T (.val (k i j))
  | _, _ => False
theorem os_I {X : Cx} {f : Value → Value → Sem Value} {C : Int → Int → Prop} {k : Int → Int → D} {kv : Int → Int → V} (h : OpR X f (rI C kv)) (hk : ∀ F i j, RD X.K F (kv i j) (k i j)) : OpS X f (oI C k) := .of h fun {F H σ0 σ ρ B x y d e T Q} E w1 w2 t g => by
  unfold oI at t
  split at t
  · cases w1.int; cases w2.int
    exact ⟨_, _, rfl, rfl, t.1, gt_val E g t.2 (hk F _ _)⟩
  · exact t.elim
theorem os_I0 {X : Cx} {f : Value → Value → Sem Value} {k : Int → Int → D} {kv : Int → Int → V} (h : OpR X f (rI0 kv)) (hk : ∀ F i j, RD X.K F (kv i j) (k i j)) : OpS X f (oI0 k) := .of h fun {F H σ0 σ ρ B x y d e T Q} E w1 w2 t g => by
  unfold oI0 at t
  split at t
  · cases w1.int; cases w2.int
    exact ⟨_, _, rfl, rfl, gt_val E g t (hk F _ _)⟩
  · exact t.elim
abbrev oSub := oI0 fun i j => .int (i - j)
abbrev oMul := oI CMul fun i j => .int (i * j)
abbrev oMod := oI (fun _ j => 0 < j) fun i j => .int (i % j)
abbrev oDiv := oI CDiv fun i j => .int (i / j)
abbrev oPow := oI Yard.CPowW fun i j => .int (i ^ j.toNat)
abbrev oAnd := oI0 fun i j => .int (Builtin.bitAnd i j)
abbrev oOr := oI0 fun i j => .int (Builtin.bitOr i j)
theorem os_sub {X : Cx} : OpS X (binaryOp .Sub) oSub := os_I0 op_sub fun _ _ _ => .int _
theorem os_mul {X : Cx} : OpS X (binaryOp .Mult) oMul := os_I op_mul fun _ _ _ => .int _
theorem os_mod {X : Cx} : OpS X (binaryOp .Mod) oMod := os_I op_mod fun _ _ _ => .int _
theorem os_div {X : Cx} : OpS X (binaryOp .FloorDiv) oDiv := os_I op_fdiv fun _ _ _ => .int _
theorem os_pow {X : Cx} : OpS X (binaryOp .Pow) oPow := os_I Yard.op_powW fun _ _ _ => .int _
theorem os_and {X : Cx} : OpS X (binaryOp .BitAnd) oAnd := os_I0 op_and fun _ _ _ => .int _
theorem os_or {X : Cx} : OpS X (binaryOp .BitOr) oOr := os_I0 op_or fun _ _ _ => .int _
abbrev oGt := oI0 fun i j => .bl (decide (j < i))
abbrev oGe := oI0 fun i j => .bl (decide (j ≤ i))
abbrev oLe := oI0 fun i j => .bl (decide (i ≤ j))
theorem os_gt {X : Cx} : OpS X (compareOp .Gt) oGt := os_I0 op_gt fun _ _ _ => .bl _
theorem os_ge {X : Cx} : OpS X (compareOp .GtE) oGe := os_I0 op_ge fun _ _ _ => .bl _
theorem os_le {X : Cx} : OpS X (compareOp .LtE) oLe := os_I0 op_le fun _ _ _ => .bl _
def oLt (d e : D) (T : Rv → Prop) : Prop := match d, e with
  | .int i, .int j => T (.val (.bl (decide (i < j))))
  | .str i, .str j => T (.val (.bl (decide (i.cps.toList < j.cps.toList))))
  | _, _ => False
theorem os_lt {X : Cx} : OpS X (compareOp .Lt) oLt := .of (OpR.or op_lt op_lt_str) fun {F H σ0 σ ρ B x y d e T Q} E w1 w2 t g => by
  unfold oLt at t
  split at t
  · cases w1.int; cases w2.int
    exact .inl ⟨_, _, rfl, rfl, gt_val E g t (.bl _)⟩
  · cases w1.str; cases w2.str
    exact .inr ⟨_, _, rfl, rfl, gt_val E g t (.bl _)⟩
  · exact t.elim
/-- is None, is not None -/
def oIsN (neg : Bool) (d e : D) (T : Rv → Prop) : Prop := match d, e with
  | .non, .non => T (.val (.bl (!neg)))
  | .ty _, .non => False
  | _, .non => T (.val (.bl neg))
  | _, _ => False
theorem os_is {X : Cx} : OpS X (compareOp .Is) (oIsN false) := .of op_isN fun {F H σ0 σ ρ B x y d e T Q} E w1 w2 t g => by
  cases e with
  | non =>
    cases w2.non
    refine ⟨rfl, ?_⟩
    cases d with
    | non => cases w1.non; exact gt_val E g t (.bl _)
    | bl b => cases w1.bl; exact gt_val E g t (.bl _)
    | int b => cases w1.int; exact gt_val E g t (.bl _)
    | str b => cases w1.str; exact gt_val E g t (.bl _)
    | lst b => obtain ⟨_, _, rfl, _⟩ := w1.lst E.sub; exact gt_val E g t (.bl _)
    | tup b => obtain ⟨_, _, rfl, _⟩ := w1.tup E.sub; exact gt_val E g t (.bl _)
    | dic b => obtain ⟨_, _, rfl, _⟩ := w1.dic E.sub; exact gt_val E g t (.bl _)
    | obj c b => obtain ⟨_, _, _, rfl, _⟩ := w1.obj E.sub; exact gt_val E g t (.bl _)
    | ref b => cases w1.ref; exact gt_val E g t (.bl _)
    | exc _ _ _ _ => cases w1.exc.1; exact gt_val E g t (.bl _)
    | scr _ => obtain ⟨_, rfl, _⟩ := w1.scr E.sub; exact gt_val E g t (.bl _)
    | ty n => exact t.elim
  | _ => cases d <;> exact t.elim
theorem os_isnot {X : Cx} : OpS X (compareOp .IsNot) (oIsN true) := .of op_notN fun {F H σ0 σ ρ B x y d e T Q} E w1 w2 t g => by
  cases e with
  | non =>
    cases w2.non
    refine ⟨rfl, ?_⟩
    cases d with
    | non => cases w1.non; exact gt_val E g t (.bl _)
    | bl b => cases w1.bl; exact gt_val E g t (.bl _)
    | int b => cases w1.int; exact gt_val E g t (.bl _)
    | str b => cases w1.str; exact gt_val E g t (.bl _)
    | lst b => obtain ⟨_, _, rfl, _⟩ := w1.lst E.sub; exact gt_val E g t (.bl _)
    | tup b => obtain ⟨_, _, rfl, _⟩ := w1.tup E.sub; exact gt_val E g t (.bl _)
    | dic b => obtain ⟨_, _, rfl, _⟩ := w1.dic E.sub; exact gt_val E g t (.bl _)
    | obj c b => obtain ⟨_, _, _, rfl, _⟩ := w1.obj E.sub; exact gt_val E g t (.bl _)
    | ref b => cases w1.ref; exact gt_val E g t (.bl _)
    | exc _ _ _ _ => cases w1.exc.1; exact gt_val E g t (.bl _)
    | scr _ => obtain ⟨_, rfl, _⟩ := w1.scr E.sub; exact gt_val E g t (.bl _)
    | ty n => exact t.elim
  | _ => cases d <;> exact t.elim

/-! ### == and in, of data of any depth -/
mutual
def toP : D → PyData
  | .non => .none
  | .bl b => .bool b
  | .int i => .int i
  | .str x => .str x
  | .lst l => .list (toPs l)
  | .tup l => .tuple (toPs l)
  | _ => .none
def toPs : List D → List PyData
  | [] => []
  | d :: l => toP d :: toPs l
end
mutual
def plain : D → Bool
  | .non => true
  | .bl _ => true
  | .int _ => true
  | .str _ => true
  | .lst l => plains l
  | .tup l => plains l
  | _ => false
def plains : List D → Bool
  | [] => true
  | d :: l => plain d && plains l
end
theorem toPs_map : ∀ l : List D, toPs l = l.map toP
  | [] => rfl
  | d :: l => congrArg (toP d :: ·) (toPs_map l)
theorem plains_all : ∀ l : List D, plains l = l.all plain
  | [] => rfl
  | d :: l => by
    show (plain d && plains l) = _
    rw [plains_all l]; rfl
section
variable {K : PySem.W.Frag} {F H : Hp}
mutual
theorem RD.dp (s : Same F H) : ∀ {v : V} {d : D}, RD K F v d → plain d = true → Dp K H v (toP d)
  | _, _, .non, _ => .non
  | _, _, .bl b, _ => .bl b
  | _, _, .int i, _ => .int i
  | _, _, .str x, _ => .str x
  | _, _, .ty n, h => nomatch h
  | _, _, .ref a, h => nomatch h
  | _, _, .lst h t, p => .lst (.of (s _ _ h)) (t.dp s p)
  | _, _, .tup h t, p => .tup (sqT_mono s h) (t.dp s p)
  | _, _, .dic h t, p => nomatch p
  | _, _, .obj h t, p => nomatch p
  | _, _, .exc h t, p => nomatch p
  | _, _, .scr h, p => nomatch p
theorem RL.dp (s : Same F H) : ∀ {vs : List V} {ds : List D}, RL K F vs ds → plains ds = true → DpAll K H vs (toPs ds)
  | _, _, .nil, _ => .nil
  | _, _, .cons h t, p => .cons (h.dp s (Bool.and_eq_true .. ▸ p).1) (t.dp s (Bool.and_eq_true .. ▸ p).2)
end
theorem RW.dp {v : V} {d : D} (s : Same F H) (h : RW K F H v d) (p : plain d = true) : Dp K H v (toP d) := by
  rcases h with h | h
  · exact h.dp s p
  · cases h with
    | lst h t => exact .lst (.of h) (t.dp s p)
    | dic h t => cases p
    | obj h t => cases p
end
/-- plain, and not too deep -/
def okD (d : D) : Bool := plain d && SeqAt.shaped (toP d)
def eqD (d e : D) : Bool := PyData.eqv (toP d) (toP e)
theorem okD_p {d : D} (h : okD d = true) : plain d = true := (Bool.and_eq_true .. ▸ h).1
theorem okD_s {d : D} (h : okD d = true) : SeqAt.shaped (toP d) = true := (Bool.and_eq_true .. ▸ h).2
def oEq (d e : D) (T : Rv → Prop) : Prop := okD d = true ∧ okD e = true ∧ T (.val (.bl (eqD d e)))
def oNe (d e : D) (T : Rv → Prop) : Prop := okD d = true ∧ okD e = true ∧ T (.val (.bl (!eqD d e)))
theorem os_eq {X : Cx} (hu : X.A.units + 64 < cLine) : OpS X (compareOp .Eq) oEq := .of (op_eqD hu) fun {F H σ0 σ ρ B x y d e T Q} E w1 w2 t g =>
  ⟨_, _, w1.dp E.sub (okD_p t.1), w2.dp E.sub (okD_p t.2.1), okD_s t.1, okD_s t.2.1, gt_val E g t.2.2 (.bl _)⟩
theorem os_ne {X : Cx} (hu : X.A.units + 64 < cLine) : OpS X (compareOp .NotEq) oNe := .of (op_neD hu) fun {F H σ0 σ ρ B x y d e T Q} E w1 w2 t g =>
  ⟨_, _, w1.dp E.sub (okD_p t.1), w2.dp E.sub (okD_p t.2.1), okD_s t.1, okD_s t.2.1, gt_val E g t.2.2 (.bl _)⟩
/-- in a list; a sign in a text -/
def oIn (neg : Bool) (d e : D) (T : Rv → Prop) : Prop := match e with
  | .lst l => okD d = true ∧ okD (.lst l) = true ∧ T (.val (.bl (neg ^^ l.any fun z => eqD z d)))
  | .str z => ∃ c : Nat, d = .str ⟨#[c]⟩ ∧ T (.val (.bl (neg ^^ decide (c ∈ z.cps.toList))))
  | _ => False
theorem any_toPs (d : D) : ∀ l : List D, ((toPs l).any fun z => PyData.eqv z (toP d)) = l.any fun z => eqD z d
  | [] => rfl
  | z :: l => by
    show (PyData.eqv (toP z) (toP d) || (toPs l).any _) = _
    rw [any_toPs d l]; rfl
theorem os_in {X : Cx} (hu : X.A.units + 65 < cLine) : OpS X (compareOp .In) (oIn false) := .of (OpR.or (op_inD hu) op_in_sign) fun {F H σ0 σ ρ B x y d e T Q} E w1 w2 t g => by
  unfold oIn at t
  split at t
  · refine .inl ⟨_, _, w1.dp E.sub (okD_p t.1), w2.dp E.sub (okD_p t.2.1), okD_s t.1, okD_s t.2.1, ?_⟩
    have t3 := t.2.2
    rw [any_toPs]
    exact gt_val E g t3 (by rw [Bool.false_xor]; exact .bl _)
  · obtain ⟨c, rfl, t⟩ := t
    cases w1.str; cases w2.str
    exact .inr ⟨c, _, rfl, rfl, gt_val E g t (by rw [Bool.false_xor]; exact .bl _)⟩
  · exact t.elim
theorem os_notin {X : Cx} (hu : X.A.units + 65 < cLine) : OpS X (compareOp .NotIn) (oIn true) := .of (OpR.or (op_notInD hu) op_notIn_sign) fun {F H σ0 σ ρ B x y d e T Q} E w1 w2 t g => by
  unfold oIn at t
  split at t
  · refine .inl ⟨_, _, w1.dp E.sub (okD_p t.1), w2.dp E.sub (okD_p t.2.1), okD_s t.1, okD_s t.2.1, ?_⟩
    have t3 := t.2.2
    rw [any_toPs]
    exact gt_val E g t3 (by rw [Bool.true_xor]; exact .bl _)
  · obtain ⟨c, rfl, t⟩ := t
    cases w1.str; cases w2.str
    exact .inr ⟨c, _, rfl, rfl, gt_val E g t (by rw [Bool.true_xor]; exact .bl _)⟩
  · exact t.elim

/-! ### subscripts -/
def oIx (d e : D) (T : Rv → Prop) : Prop := match d, e with
  | .lst l, .int i => ∃ x, atI l i = some x ∧ T (.val x)
  | .tup l, .int i => ∃ x, atI l i = some x ∧ T (.val x)
  | .str z, .int i => z.length ≤ sizeLine ∧ ∃ c, atI z.cps.toList i = some c ∧ T (.val (.str ⟨#[c]⟩))
  | .scr ns, .int i => ∃ x, atI ns i = some x ∧ T (.val (.int x))
  | _, _ => False
theorem RL.atI {K : PySem.W.Frag} {F : Hp} {vs : List V} {ds : List D} {i : Int} {x : D} (h : RL K F vs ds) (e : L2.atI ds i = some x) : ∃ v, L2.atI vs i = some v ∧ RD K F v x := by
  unfold L2.atI at e ⊢
  rw [h.len]
  cases q : ixN ds.length i with
  | none => rw [q] at e; cases e
  | some j =>
    rw [q] at e
    exact h.got e
theorem IxR.or {X : Cx} {r r' : R2} (h : IxR X r) (h' : IxR X r') : IxR X (fun x y H Q => r x y H Q ∨ r' x y H Q) := by
  intro value slice pins s σ H x y v u Q I rx ry q hs
  rcases q with q | q
  · exact h value slice pins s σ H x y v u Q I rx ry q hs
  · exact h' value slice pins s σ H x y v u Q I rx ry q hs
section
variable {X : Cx} {a b : Expr} {ua ub : UE} {pos : Pos}
theorem atI_map {ns : List Int} {i x : Int} (h : L2.atI ns i = some x) : L2.atI (ns.map V.int) i = some (.int x) := by
  unfold L2.atI at h ⊢
  rw [List.length_map]
  cases q : ixN ns.length i with
  | none => rw [q] at h; cases h
  | some j =>
    rw [q] at h
    show (ns.map V.int)[j]? = _
    have h : ns[j]? = some x := h
    rw [List.getElem?_map, h]; rfl
theorem fe_ix (ha : FE X a ua) (hb : FE X b ub) (hs : PlainIx b := by exact fun _ _ => rfl) : FE X (.Subscript a b pos) (uBin oIx ua ub) := ⟨fun ρ R q F H σ0 σ B Q E g => by
  refine to_S (pe_ix (IxR.or (ix_list (X := X)) (IxR.or (ix_tup (X := X)) ix_str)) pe_S pe_S hs) (FE.two ha hb q E (fun x y H2 => _) fun p q ρ2 x y F2 H2 t n2 E2 r1 r2 => ?_)
  obtain ⟨d, w1, t⟩ := E2.seen r1 t
  obtain ⟨e, w2, t⟩ := E2.seen (r2.weak hB_sub) t
  have g2 : ∀ z v F' H', R z ρ2 → Gt X.K F2 H2 F' H' σ0 ρ2 σ B z v → Q v H' := fun z v F' H' tz G => g z ρ2 v F' H' tz ⟨n2.trans G.nx, G.er, G.rr⟩
  unfold oIx at t
  split at t
  · obtain ⟨z, e1, t⟩ := t
    obtain ⟨c, vs, rfl, h1, l1⟩ := w1.lst E2.sub
    cases w2.int
    obtain ⟨v, e2, rd⟩ := l1.atI e1
    exact .inl ⟨c, vs, _, v, rfl, rfl, .of h1, e2, gt_val E2 g2 t rd⟩
  · obtain ⟨z, e1, t⟩ := t
    obtain ⟨c, vs, rfl, h1, l1⟩ := w1.tup E2.sub
    cases w2.int
    obtain ⟨v, e2, rd⟩ := l1.atI e1
    exact .inr (.inl ⟨c, vs, _, v, rfl, rfl, h1, e2, gt_val E2 g2 t rd⟩)
  · obtain ⟨z, c, e1, t⟩ := t
    cases w1.str; cases w2.int
    exact .inr (.inr ⟨_, _, c, rfl, rfl, z, e1, gt_val E2 g2 t (.str _)⟩)
  · obtain ⟨z, e1, t⟩ := t
    obtain ⟨c, rfl, h1⟩ := w1.scr E2.sub
    cases w2.int
    exact .inl ⟨c, _, _, .int z, rfl, rfl, h1, atI_map e1, gt_val E2 g2 t (.int _)⟩
  · exact t.elim⟩

/-! ### slices -/
abbrev UO := List Sl → (Option Int → List Sl → Prop) → Prop
def tO (X : Cx) (e : Option Expr) : TO := fun σ H Q => ∀ pins s, Inv X pins σ H s → wpAny (model X.prog X.w) X.A (evalPart e X.env) (fun u s' => ∃ o H', Inv X pins σ H' s' ∧ IsPart u o ∧ Q o H') X.xe s
theorem po_S {e : Option Expr} : PO X e (tO X e) := ⟨fun pins s σ H Q I h => h pins s I⟩
structure FO (X : Cx) (e : Option Expr) (u : UO) : Prop where
  run : ∀ (ρ : List Sl) (R : Option Int → List Sl → Prop), u ρ R → ∀ (F H : Hp) (σ0 σ : L2.St) (B : Addr → Prop) (Q : Option Int → Hp → Prop), ER X.K F H σ0 ρ σ B →
    (∀ o ρ' F' H', R o ρ' → Gd X.K F H F' H' σ0 ρ' σ B → Q o H') → tO X e σ H Q
instance {X : Cx} {e : Option Expr} {u : UO} : CoeFun (FO X e u) (fun _ => ∀ (ρ : List Sl) (R : Option Int → List Sl → Prop), u ρ R → ∀ (F H : Hp) (σ0 σ : L2.St) (B : Addr → Prop) (Q : Option Int → Hp → Prop), ER X.K F H σ0 ρ σ B →
  (∀ o ρ' F' H', R o ρ' → Gd X.K F H F' H' σ0 ρ' σ B → Q o H') → tO X e σ H Q) := ⟨FO.run⟩
def uONo : UO := fun ρ R => R none ρ
def uOInt (u : UE) : UO := fun ρ R => u ρ fun r ρ1 => match r with
  | .val (.int i) => R (some i) ρ1
  | _ => False
theorem fo_no : FO X none uONo := ⟨fun ρ R q F H σ0 σ B Q E g pins s I => po_none.run pins s σ H Q I (g none ρ F H q ⟨.refl _ _ _, E⟩)⟩
theorem fo_int {e : Expr} {u : UE} (h : FE X e u) : FO X (some e) (uOInt u) := ⟨fun ρ R q F H σ0 σ B Q E g pins s I => by
  refine (po_some pe_S).run pins s σ H Q I (h ρ _ q F H σ0 σ B _ E fun r ρ1 v F1 H1 z G => ?_)
  split at z
  · rename_i i
    have rr : RD X.K F1 v (.int i) := G.rr
    cases rr
    exact ⟨i, rfl, g _ _ _ _ z ⟨G.nx, G.er⟩⟩
  · exact z.elim⟩
/-- l[lo:hi] of any list -/
def cut {α : Type} (xs : List α) (lo hi : Option Int) : List α := (xs.drop (HT.sIx xs.length 0 lo)).take (HT.sIx xs.length xs.length hi - HT.sIx xs.length 0 lo)
theorem RL.cut {K : PySem.W.Frag} {F : Hp} {vs : List V} {ds : List D} (h : RL K F vs ds) (lo hi : Option Int) : RL K F (cutV vs lo hi) (YP.cut ds lo hi) := by
  unfold cutV YP.cut
  rw [h.len]
  exact (h.drop _).take _
theorem cut_whole {α : Type} {xs : List α} {lo hi : Option Int} (h : HT.sIx xs.length 0 lo = 0 ∧ HT.sIx xs.length xs.length hi = xs.length) : cut xs lo hi = xs := by
  unfold cut
  rw [h.1, h.2]
  show List.take (xs.length - 0) xs = xs
  rw [Nat.sub_zero]
  exact List.take_length
def oSl (d : D) (lo hi : Option Int) (T : Rv → Prop) : Prop := match d with
  | .lst l => T (.own (.lst (cut l lo hi)))
  | .tup l => T (.val (.tup (cut l lo hi)))
  | .str z => z.length ≤ sizeLine ∧ T (.val (.str (cutS z lo hi)))
  | _ => False
def uSl (ua : UE) (ul uh : UO) : UE := fun ρ R => ua ρ fun r ρ1 => ul ρ1 fun lo ρ2 => uh ρ2 fun hi ρ3 => wv ρ3 r fun d => oSl d lo hi fun z => R z ρ3
theorem fe_sl {lo hi : Option Expr} {ul uh : UO} {p2 : Pos} (ha : FE X a ua) (hl : FO X lo ul) (hh : FO X hi uh) : FE X (.Subscript a (.Slice lo hi none p2) pos) (uSl ua ul uh) := ⟨fun ρ R q F H σ0 σ B Q E g => by
  refine to_S (pe_slice (SlR.or (sl_list (X := X)) (SlR.or (sl_tupA (X := X)) sl_str)) pe_S po_S po_S) (ha ρ _ q F H σ0 σ B _ E fun r ρ1 x F1 H1 q1 G1 => hl ρ1 _ q1 F1 H1 σ0 σ (hB B r x) _ (G1.er.hold G1.rr) fun lo ρ2 F2 H2 q2 G2 => hh ρ2 _ q2 F2 H2 σ0 σ (hB B r x) _ G2.er fun hi ρ3 F3 H3 t G3 => ?_)
  have n3 := G2.nx.trans G3.nx
  have E3 := G3.er.unhold
  obtain ⟨d, w1, t⟩ := E3.seen (G1.rr.held G1.er G3.er n3) t
  have nn := G1.nx.trans (n3.mono hB_sub)
  have g2 : ∀ z v F' H', R z ρ3 → Gt X.K F3 H3 F' H' σ0 ρ3 σ B z v → Q v H' := fun z v F' H' tz G => g z ρ3 v F' H' tz ⟨nn.trans G.nx, G.er, G.rr⟩
  unfold oSl at t
  split at t
  · obtain ⟨c, vs, rfl, h1, l1⟩ := w1.lst E3.sub
    exact .inl ⟨c, vs, rfl, .of h1, gt_lst E3 g2 t (l1.cut lo hi)⟩
  · obtain ⟨c, vs, rfl, h1, l1⟩ := w1.tup E3.sub
    refine .inr (.inl ⟨c, vs, rfl, h1, fun e => ?_, fun _ => gt_tup E3 g2 t (l1.cut lo hi)⟩)
    rw [l1.len] at e
    rw [cut_whole e] at t
    rcases w1 with w | w
    · exact gt_val E3 g2 t w
    · cases w
  · cases w1.str
    exact .inr (.inr ⟨_, rfl, t.1, gt_val E3 g2 t.2 (.str _)⟩)
  · exact t.elim⟩
/-! ### - x -/
def uNeg (u : UE) : UE := fun ρ R => u ρ fun r ρ1 => match r with
  | .val (.int i) => R (.val (.int (-i))) ρ1
  | _ => False
theorem fe_neg {e : Expr} {u : UE} (h : FE X e u) : FE X (.UnaryOp .USub e pos) (uNeg u) := ⟨fun ρ R q F H σ0 σ B Q E g => by
  refine to_S (pe_un un_neg pe_S) (h ρ _ q F H σ0 σ B _ E fun r ρ1 v F1 H1 z G => ?_)
  split at z
  · rename_i i
    have rr : RD X.K F1 v (.int i) := G.rr
    cases rr
    exact ⟨i, rfl, g _ _ _ _ _ z ⟨G.nx, G.er, .int _⟩⟩
  · exact z.elim⟩
end
end YP
set_option maxRecDepth 100000
/-! The yard's pure layer, part 7: calls of what is built in, methods. -/
namespace YP
open PySem PySem.Spec PyProof.Rows L2

/-- the data as they stand -/
def wvs (ρ : List Sl) : List Rv → (List D → Prop) → Prop
  | [], k => k []
  | r :: rs, k => wv ρ r fun d => wvs ρ rs fun ds => k (d :: ds)
def RWs (K : PySem.W.Frag) (F H : Hp) : List V → List D → Prop
  | [], [] => True
  | v :: vs, d :: ds => RW K F H v d ∧ RWs K F H vs ds
  | _, _ => False
theorem ER.seens {K : PySem.W.Frag} {F H : Hp} {σ0 σ : L2.St} {ρ : List Sl} (B0 : Addr → Prop) (E : ER K F H σ0 ρ σ B0) : ∀ {B : Addr → Prop} {rs : List Rv} {vs : List V} {k : List D → Prop}, RRs K F H ρ σ B rs vs → wvs ρ rs k → ∃ ds, RWs K F H vs ds ∧ k ds
  | _, [], [], k, _, w => ⟨[], trivial, w⟩
  | B, r :: rs, v :: vs, k, h, w => by
    have h1 : RR K F H ρ σ (fun _ => False) r v := h.1.weak fun _ z => z.elim
    have E1 : ER K F H σ0 ρ σ (fun _ => False) := ⟨E.len, E.sub, E.fz, fun i p d q => let ⟨a, x, y, z, _⟩ := E.ow i p d q; ⟨a, x, y, z, fun w => w⟩, E.inj, E.par, fun _ z => z.elim⟩
    obtain ⟨d, w1, w⟩ := E1.seen h1 w
    obtain ⟨ds, w2, w⟩ := ER.seens B0 E h.2 w
    exact ⟨d :: ds, ⟨w1, w2⟩, w⟩
  | _, [], _ :: _, _, h, _ => h.elim
  | _, _ :: _, [], _, h, _ => h.elim
/-- a call of a built-in with values -/
structure CbS (X : Cx) (f : Value) (o : List D → (Rv → Prop) → Prop) : Prop where
  ex : ∃ r, CallR X f r ∧ ∀ {F H : Hp} {σ0 σ : L2.St} {ρ : List Sl} {B : Addr → Prop} {vs : List V} {ds : List D} {T : Rv → Prop} {Q : VK}, ER X.K F H σ0 ρ σ B → RWs X.K F H vs ds → o ds T →
    (∀ z v F' H', T z → Gt X.K F H F' H' σ0 ρ σ B z v → Q v H') → r vs H Q
theorem CbS.of {X : Cx} {f : Value} {o : List D → (Rv → Prop) → Prop} {r : List V → Hp → VK → Prop} (h : CallR X f r) (k : ∀ {F H : Hp} {σ0 σ : L2.St} {ρ : List Sl} {B : Addr → Prop} {vs : List V} {ds : List D} {T : Rv → Prop} {Q : VK}, ER X.K F H σ0 ρ σ B → RWs X.K F H vs ds → o ds T →
    (∀ z v F' H', T z → Gt X.K F H F' H' σ0 ρ σ B z v → Q v H') → r vs H Q) : CbS X f o := ⟨⟨r, h, k⟩⟩
theorem CallR.or {X : Cx} {f : Value} {r r' : List V → Hp → VK → Prop} (h : CallR X f r) (h' : CallR X f r') : CallR X f (fun x H Q => r x H Q ∨ r' x H Q) := by
  intro pins s σ H x v Q I rx q
  rcases q with q | q
  · exact h pins s σ H x v Q I rx q
  · exact h' pins s σ H x v Q I rx q
def uB (o : List D → (Rv → Prop) → Prop) (ua : UR) : UE := fun ρ R => ua ρ fun rs ρ1 => wvs ρ1 rs fun ds => o ds fun z => R z ρ1
section
variable {X : Cx} {e : Expr} {es : List Expr} {ua : UR} {p pos : Pos} {x : Str} {id T : String} {o : List D → (Rv → Prop) → Prop}
theorem fe_b (cb : CbS X (.builtin id) o) (hg : Gl X x) (hm : X.mg x = none) (hv : bootBuiltins x = some (.builtin id)) (ha : FR X (e :: es) ua) (hn : x ≠ "__name__" := by decide) (hdb : (x == ("__debug__" : Str)) = false := by decide)
    (he : starEach (e :: es) X.env = (false, eval e X.env) :: starEach es X.env := by rfl) (hpl : (backTo pos (starEach es X.env)).any (·.1) = false := by rfl) : FE X (.Call (.Name x p) (e :: es) [] pos) (uB o ua) := ⟨fun ρ R q F H σ0 σ B Q E g => by
  obtain ⟨r, hr, k⟩ := cb.ex
  refine to_S (pe_callB hr hg hm hv pa_S hn hdb he hpl) (ha ρ _ q F H σ0 σ B _ E fun rs ρ1 vs F1 H1 z G l _ => ?_)
  obtain ⟨ds, w, z⟩ := G.er.seens B l z
  exact k G.er w z fun z v F' H' t G' => g z ρ1 v F' H' t ⟨G.nx.trans G'.nx, G'.er, G'.rr⟩⟩
theorem fe_bt (cb : CbS X (.type T) o) (hg : Gl X x) (hm : X.mg x = none) (hv : bootBuiltins x = some (.type T)) (ha : FR X (e :: es) ua) (hn : x ≠ "__name__" := by decide) (hdb : (x == ("__debug__" : Str)) = false := by decide)
    (he : starEach (e :: es) X.env = (false, eval e X.env) :: starEach es X.env := by rfl) (hpl : (backTo pos (starEach es X.env)).any (·.1) = false := by rfl) : FE X (.Call (.Name x p) (e :: es) [] pos) (uB o ua) := ⟨fun ρ R q F H σ0 σ B Q E g => by
  obtain ⟨r, hr, k⟩ := cb.ex
  refine to_S (pe_callTy hr hg hm hv pa_S hn hdb he hpl) (ha ρ _ q F H σ0 σ B _ E fun rs ρ1 vs F1 H1 z G l _ => ?_)
  obtain ⟨ds, w, z⟩ := G.er.seens B l z
  exact k G.er w z fun z v F' H' t G' => g z ρ1 v F' H' t ⟨G.nx.trans G'.nx, G'.er, G'.rr⟩⟩
end
section
variable {K : PySem.W.Frag} {F H : Hp} {vs : List V}
theorem RWs.one {d : D} (h : RWs K F H vs [d]) : ∃ v, vs = [v] ∧ RW K F H v d := by
  match vs, h with
  | [v], h => exact ⟨v, rfl, h.1⟩
theorem RWs.two {d e : D} (h : RWs K F H vs [d, e]) : ∃ v u, vs = [v, u] ∧ RW K F H v d ∧ RW K F H u e := by
  match vs, h with
  | [v, u], h => exact ⟨v, u, rfl, h.1, h.2.1⟩
theorem RWs.three {d e f : D} (h : RWs K F H vs [d, e, f]) : ∃ v u w, vs = [v, u, w] ∧ RW K F H v d ∧ RW K F H u e ∧ RW K F H w f := by
  match vs, h with
  | [v, u, w], h => exact ⟨v, u, w, rfl, h.1, h.2.1, h.2.2.1⟩
theorem rl_ints : ∀ {vs : List V} {ns : List Int}, RL K F vs (ns.map D.int) → vs = ns.map V.int
  | _, [], h => by cases h; rfl
  | _, n :: ns, h => by cases h with | cons h1 h2 => cases h1; rw [rl_ints h2]; rfl
theorem rl_bls : ∀ {vs : List V} {ns : List Bool}, RL K F vs (ns.map D.bl) → vs = ns.map V.bl
  | _, [], h => by cases h; rfl
  | _, n :: ns, h => by cases h with | cons h1 h2 => cases h1; rw [rl_bls h2]; rfl
theorem rl_strs : ∀ {vs : List V} {ns : List Str}, RL K F vs (ns.map D.str) → vs = ns.map V.str
  | _, [], h => by cases h; rfl
  | _, n :: ns, h => by cases h with | cons h1 h2 => cases h1; rw [rl_strs h2]; rfl
theorem strs_rl : ∀ (ns : List Str), RL K F (ns.map V.str) (ns.map D.str)
  | [] => .nil
  | n :: ns => .cons (.str n) (strs_rl ns)
theorem ints_rl : ∀ (ns : List Int), RL K F (ns.map V.int) (ns.map D.int)
  | [] => .nil
  | n :: ns => .cons (.int n) (ints_rl ns)
end

/-! ### len, int, max, min, sum, all, any, list, tuple, sorted -/
def oLen (ds : List D) (T : Rv → Prop) : Prop := match ds with
  | [.lst l] => T (.val (.int (l.length : Nat)))
  | [.tup l] => T (.val (.int (l.length : Nat)))
  | [.dic l] => T (.val (.int (l.length : Nat)))
  | [.str x] => x.length ≤ sizeLine ∧ T (.val (.int (x.length : Nat)))
  | [.scr ns] => T (.val (.int (ns.length : Nat)))
  | _ => False
theorem cb_len {X : Cx} : CbS X (.builtin "len") oLen := .of (CallR.or call_len_seq (CallR.or call_lenD call_len_str)) fun {F H σ0 σ ρ B vs ds T Q} E w t g => by
  unfold oLen at t
  split at t
  · obtain ⟨v, rfl, w0⟩ := w.one
    obtain ⟨a, us, rfl, h1, l1⟩ := w0.lst E.sub
    exact .inl ⟨a, us, rfl, .inl (.of h1), by rw [l1.len]; exact gt_val E g t (.int _)⟩
  · obtain ⟨v, rfl, w0⟩ := w.one
    obtain ⟨a, us, rfl, h1, l1⟩ := w0.tup E.sub
    exact .inl ⟨a, us, rfl, .inr h1, by rw [l1.len]; exact gt_val E g t (.int _)⟩
  · obtain ⟨v, rfl, w0⟩ := w.one
    obtain ⟨a, us, rfl, h1, l1⟩ := w0.dic E.sub
    exact .inr (.inl ⟨a, us, rfl, h1, by rw [l1.len]; exact gt_val E g t (.int _)⟩)
  · obtain ⟨v, rfl, w0⟩ := w.one
    cases w0.str
    exact .inr (.inr ⟨_, rfl, t.1, gt_val E g t.2 (.int _)⟩)
  · obtain ⟨v, rfl, w0⟩ := w.one
    obtain ⟨a, rfl, h1⟩ := w0.scr E.sub
    exact .inl ⟨a, _, rfl, .inl h1, by rw [List.length_map]; exact gt_val E g t (.int _)⟩
  · exact t.elim
def oInt (ds : List D) (T : Rv → Prop) : Prop := match ds with
  | [.int i] => T (.val (.int i))
  | [.bl b] => T (.val (.int (if b then 1 else 0)))
  | _ => False
theorem cb_int {X : Cx} : CbS X (.type "int") oInt := .of call_int1 fun {F H σ0 σ ρ B vs ds T Q} E w t g => by
  unfold oInt at t
  split at t
  · obtain ⟨v, rfl, w0⟩ := w.one
    cases w0.int
    exact .inl ⟨_, rfl, gt_val E g t (.int _)⟩
  · obtain ⟨v, rfl, w0⟩ := w.one
    cases w0.bl
    exact .inr ⟨_, rfl, gt_val E g t (.int _)⟩
  · exact t.elim
def oMax (ds : List D) (T : Rv → Prop) : Prop := match ds with
  | [.int i, .int j] => T (.val (.int (if j > i then j else i)))
  | [.lst l] => ∃ ns : List Int, l = ns.map D.int ∧ 0 < ns.length ∧ ∀ m, m ∈ ns → (∀ y, y ∈ ns → y ≤ m) → T (.val (.int m))
  | _ => False
theorem cb_max {X : Cx} (hc : X.calm = true) : CbS X (.builtin "max") oMax := .of (CallR.or (call_max2 hc) (cr_max hc)) fun {F H σ0 σ ρ B vs ds T Q} E w t g => by
  unfold oMax at t
  split at t
  · obtain ⟨v, u, rfl, w1, w2⟩ := w.two
    cases w1.int; cases w2.int
    exact .inl ⟨_, _, rfl, gt_val E g t (.int _)⟩
  · obtain ⟨ns, rfl, h0, t⟩ := t
    obtain ⟨v, rfl, w0⟩ := w.one
    obtain ⟨a, us, rfl, h1, l1⟩ := w0.lst E.sub
    cases rl_ints l1
    exact .inr ⟨a, ns, rfl, .of h1, h0, fun m hm hx => gt_val E g (t m hm hx) (.int _)⟩
  · exact t.elim
def oMin (ds : List D) (T : Rv → Prop) : Prop := match ds with
  | [.int i, .int j] => T (.val (.int (if j < i then j else i)))
  | [.lst l] => ∃ ns : List Int, l = ns.map D.int ∧ 0 < ns.length ∧ ∀ m, m ∈ ns → (∀ y, y ∈ ns → m ≤ y) → T (.val (.int m))
  | _ => False
theorem cb_min {X : Cx} (hc : X.calm = true) : CbS X (.builtin "min") oMin := .of (CallR.or (call_min2 hc) (cr_min hc)) fun {F H σ0 σ ρ B vs ds T Q} E w t g => by
  unfold oMin at t
  split at t
  · obtain ⟨v, u, rfl, w1, w2⟩ := w.two
    cases w1.int; cases w2.int
    exact .inl ⟨_, _, rfl, gt_val E g t (.int _)⟩
  · obtain ⟨ns, rfl, h0, t⟩ := t
    obtain ⟨v, rfl, w0⟩ := w.one
    obtain ⟨a, us, rfl, h1, l1⟩ := w0.lst E.sub
    cases rl_ints l1
    exact .inr ⟨a, ns, rfl, .of h1, h0, fun m hm hx => gt_val E g (t m hm hx) (.int _)⟩
  · exact t.elim
def oSum (ds : List D) (T : Rv → Prop) : Prop := match ds with
  | [.lst l] => ∃ ns : List Int, l = ns.map D.int ∧ T (.val (.int ns.sum))
  | _ => False
theorem cb_sum {X : Cx} (hc : X.calm = true) : CbS X (.builtin "sum") oSum := .of (cr_sum hc) fun {F H σ0 σ ρ B vs ds T Q} E w t g => by
  unfold oSum at t
  split at t
  · obtain ⟨ns, rfl, t⟩ := t
    obtain ⟨v, rfl, w0⟩ := w.one
    obtain ⟨a, us, rfl, h1, l1⟩ := w0.lst E.sub
    cases rl_ints l1
    exact ⟨a, ns, rfl, .of h1, gt_val E g t (.int _)⟩
  · exact t.elim
def oAll (ds : List D) (T : Rv → Prop) : Prop := match ds with
  | [.lst l] => ∃ bs : List Bool, l = bs.map D.bl ∧ T (.val (.bl (bs.all id)))
  | _ => False
theorem cb_all {X : Cx} (hc : X.calm = true) : CbS X (.builtin "all") oAll := .of (cr_all hc) fun {F H σ0 σ ρ B vs ds T Q} E w t g => by
  unfold oAll at t
  split at t
  · obtain ⟨ns, rfl, t⟩ := t
    obtain ⟨v, rfl, w0⟩ := w.one
    obtain ⟨a, us, rfl, h1, l1⟩ := w0.lst E.sub
    cases rl_bls l1
    exact ⟨a, ns, rfl, .of h1, gt_val E g t (.bl _)⟩
  · exact t.elim
def oAny (ds : List D) (T : Rv → Prop) : Prop := match ds with
  | [.lst l] => ∃ bs : List Bool, l = bs.map D.bl ∧ T (.val (.bl (bs.any id)))
  | _ => False
theorem cb_any {X : Cx} (hc : X.calm = true) : CbS X (.builtin "any") oAny := .of (cr_any hc) fun {F H σ0 σ ρ B vs ds T Q} E w t g => by
  unfold oAny at t
  split at t
  · obtain ⟨ns, rfl, t⟩ := t
    obtain ⟨v, rfl, w0⟩ := w.one
    obtain ⟨a, us, rfl, h1, l1⟩ := w0.lst E.sub
    cases rl_bls l1
    exact ⟨a, ns, rfl, .of h1, gt_val E g t (.bl _)⟩
  · exact t.elim
def oList (ds : List D) (T : Rv → Prop) : Prop := match ds with
  | [.lst l] => T (.own (.lst l))
  | [.tup l] => T (.own (.lst l))
  | _ => False
theorem cb_list {X : Cx} : CbS X (.type "list") oList := .of call_list_of fun {F H σ0 σ ρ B vs ds T Q} E w t g => by
  unfold oList at t
  split at t
  · obtain ⟨v, rfl, w0⟩ := w.one
    obtain ⟨a, us, rfl, h1, l1⟩ := w0.lst E.sub
    exact ⟨a, us, rfl, .inl (.of h1), gt_lst E g t l1⟩
  · obtain ⟨v, rfl, w0⟩ := w.one
    obtain ⟨a, us, rfl, h1, l1⟩ := w0.tup E.sub
    exact ⟨a, us, rfl, .inr h1, gt_lst E g t l1⟩
  · exact t.elim
def oTuple (ds : List D) (T : Rv → Prop) : Prop := match ds with
  | [.lst l] => T (.val (.tup l))
  | [.tup l] => T (.val (.tup l))
  | _ => False
theorem cb_tuple {X : Cx} : CbS X (.type "tuple") oTuple := .of call_tuple_of fun {F H σ0 σ ρ B vs ds T Q} E w t g => by
  unfold oTuple at t
  split at t
  · obtain ⟨v, rfl, w0⟩ := w.one
    obtain ⟨a, us, rfl, h1, l1⟩ := w0.lst E.sub
    exact ⟨a, us, rfl, .inl ⟨.of h1, gt_tup E g t l1⟩⟩
  · obtain ⟨v, rfl, w0⟩ := w.one
    obtain ⟨a, us, e, h1, l1⟩ := w0.tup E.sub
    subst e
    rcases w0 with w0 | w0
    · exact ⟨a, us, rfl, .inr ⟨h1, gt_val E g t w0⟩⟩
    · cases w0
  · exact t.elim
def oSorted (ds : List D) (T : Rv → Prop) : Prop := match ds with
  | [.lst l] => ∃ xs : List Str, l = xs.map D.str ∧ xs.length < 64 ∧ ∀ ys : List Str, ys.Perm xs → sortedS ys = true → T (.own (.lst (ys.map D.str)))
  | _ => False
theorem cb_sorted {X : Cx} : CbS X (.builtin "sorted") oSorted := .of cr_sortedS fun {F H σ0 σ ρ B vs ds T Q} E w t g => by
  unfold oSorted at t
  split at t
  · obtain ⟨xs, rfl, h0, t⟩ := t
    obtain ⟨v, rfl, w0⟩ := w.one
    obtain ⟨a, us, rfl, h1, l1⟩ := w0.lst E.sub
    cases rl_strs l1
    exact ⟨a, xs, rfl, .of h1, h0, fun ys p pm so np => gt_lst E g (t ys pm so) (strs_rl ys) p np⟩
  · exact t.elim
/-- sorted(set(a list of texts)) -/
def oSetSorted (ds : List D) (T : Rv → Prop) : Prop := match ds with
  | [.lst l] => ∃ xs : List Str, l = xs.map D.str ∧ xs.length ≤ 1000 ∧ ∀ m : List Str, m.length ≤ xs.length → (∀ x, x ∈ m ↔ x ∈ xs) → m.length < 64 ∧ ∀ ys : List Str, ys.Perm m → sortedS ys = true → T (.own (.lst (ys.map D.str)))
  | _ => False
def uSetSorted (ua : UR) : UE := uB oSetSorted ua
theorem fe_setsorted {X : Cx} {e : Expr} {ua : UR} {p p2 pos pos2 : Pos} (hc : X.calm = true) (hg : Gl X "sorted") (hm : X.mg "sorted" = none) (hg2 : Gl X "set") (hm2 : X.mg "set" = none) (ha : FR X [e] ua)
    (he : starEach [.Call (.Name "set" p2) [e] [] pos2] X.env = (false, eval (.Call (.Name "set" p2) [e] [] pos2) X.env) :: starEach [] X.env := by rfl) (he2 : starEach [e] X.env = (false, eval e X.env) :: starEach [] X.env := by rfl)
    (hpl : (backTo pos (starEach [] X.env)).any (·.1) = false := by rfl) (hpl2 : (backTo pos2 (starEach [] X.env)).any (·.1) = false := by rfl) :
    FE X (.Call (.Name "sorted" p) [.Call (.Name "set" p2) [e] [] pos2] [] pos) (uSetSorted ua) := ⟨fun ρ R q F H σ0 σ B Q E g => by
  refine to_S (pe_callB (Yard.cr_sortedTx hc) hg hm (by decide +kernel) (pa_cons (pe_callTy (Yard.cr_setTx hc) hg2 hm2 (by decide +kernel) pa_S (by decide) (by decide) he2 hpl2) pa_nil he) (by decide) (by decide) he hpl) (ha ρ _ q F H σ0 σ B _ E fun rs ρ1 vs F1 H1 z G l _ => ?_)
  obtain ⟨ds, w, z⟩ := G.er.seens B l z
  unfold oSetSorted at z
  split at z
  · obtain ⟨xs, rfl, h0, t⟩ := z
    obtain ⟨v, rfl, w0⟩ := w.one
    obtain ⟨a, us, rfl, h1, l1⟩ := w0.lst G.er.sub
    cases rl_strs l1
    refine ⟨a, xs, rfl, .of h1, h0, fun c m nc lm hm' => ?_⟩
    obtain ⟨l64, t⟩ := t m lm hm'
    refine ⟨c, m, rfl, upd_same, l64, fun ys p' pm so np => ?_⟩
    obtain ⟨E2, n2⟩ := G.er.laid_val (o := Yard.TxO X.prog X.w c m) nc
    exact gt_lst E2 (fun z v F' H' t G' => g z ρ1 v F' H' t ⟨G.nx.trans (n2.trans G'.nx), G'.er, G'.rr⟩) (t ys pm so) (strs_rl ys) p' np
  · exact z.elim⟩

/-! ### isinstance -/
def tyD : D → Option String
  | .non => some "NoneType"
  | .bl _ => some "bool"
  | .int _ => some "int"
  | .str _ => some "str"
  | .lst _ => some "list"
  | .tup _ => some "tuple"
  | .dic _ => some "dict"
  | _ => none
theorem RW.tyx {K : PySem.W.Frag} {F H : Hp} {v : V} {d : D} {n : String} (s : Same F H) (h : RW K F H v d) (e : tyD d = some n) : TyX K H v (.type n) := by
  cases d with
  | non => cases e; cases h.non; exact .base .non
  | bl b => cases e; cases h.bl; exact .base (.bl _)
  | int b => cases e; cases h.int; exact .base (.int _)
  | str b => cases e; cases h.str; exact .base (.str _)
  | lst l => cases e; obtain ⟨a, us, rfl, h1, _⟩ := h.lst s; exact .base (.lst h1)
  | tup l =>
    cases e
    obtain ⟨a, us, rfl, h1, _⟩ := h.tup s
    rcases h1 with (h1 | ⟨o, h1⟩) | ⟨o, its, n, h1, h2, _⟩
    · exact .base (.tup h1)
    · exact .fTuple h1
    · exact .kTuple h1 h2
  | dic l => cases e; obtain ⟨a, us, rfl, h1, _⟩ := h.dic s; exact .base (.dK h1)
  | _ => cases e
/-- the answer, for the classes that are asked -/
def isTy (n c : String) : Option Bool :=
  if c = "str" then some (n == "str") else if c = "tuple" then some (n == "tuple") else if c = "list" then some (n == "list") else if c = "dict" then some (n == "dict")
  else if c = "bool" then some (n == "bool") else if c = "int" then some (n == "int" || n == "bool") else none
theorem isTy_ok {d : D} {n c : String} {b : Bool} (h : tyD d = some n) (e : isTy n c = some b) : kitB n c = some b := by
  have kk : ∀ c ∈ ["str", "tuple", "list", "dict", "bool", "int"], ∀ n ∈ ["NoneType", "bool", "int", "str", "list", "tuple", "dict"], kitB n c = isTy n c := by decide +kernel
  have hn : n ∈ ["NoneType", "bool", "int", "str", "list", "tuple", "dict"] := by
    cases d <;> cases h <;> decide
  have hc : c ∈ ["str", "tuple", "list", "dict", "bool", "int"] := by
    unfold isTy at e
    by_cases c1 : c = "str"
    · subst c1; decide
    rw [if_neg c1] at e
    by_cases c2 : c = "tuple"
    · subst c2; decide
    rw [if_neg c2] at e
    by_cases c3 : c = "list"
    · subst c3; decide
    rw [if_neg c3] at e
    by_cases c4 : c = "dict"
    · subst c4; decide
    rw [if_neg c4] at e
    by_cases c5 : c = "bool"
    · subst c5; decide
    rw [if_neg c5] at e
    by_cases c6 : c = "int"
    · subst c6; decide
    rw [if_neg c6] at e
    cases e
  rw [kk c hc n hn]; exact e
def isTyAny (n : String) : List D → Option Bool
  | [] => some false
  | .ty c :: cs => match isTy n c, isTyAny n cs with
    | some b, some b' => some (b || b')
    | _, _ => none
  | _ => none
def oIsi (ds : List D) (T : Rv → Prop) : Prop := match ds with
  | [d, .ty c] => ∃ n b, tyD d = some n ∧ isTy n c = some b ∧ T (.val (.bl b))
  | _ => False
theorem any_ok {K : PySem.W.Frag} {d : D} {n : String} (h : tyD d = some n) : ∀ {cs : List D} {b : Bool} {F : Hp} {vs : List V}, isTyAny n cs = some b → RL K F vs cs → ∃ us, Paired ClsV vs us ∧ PySem.W.kitAny K (.type n) us = some b
  | [], b, F, vs, e, l => by cases l; cases e; exact ⟨[], .nil, rfl⟩
  | c :: cs, b, F, vs, e, l => by
    cases l with
    | @cons v vs _ _ l1 l2 =>
    cases c with
    | ty c =>
      unfold isTyAny at e
      cases q1 : isTy n c with
      | none => rw [q1] at e; cases e
      | some b1 =>
        cases q2 : isTyAny n cs with
        | none => rw [q1, q2] at e; cases e
        | some b2 =>
          rw [q1, q2] at e; cases e
          obtain ⟨us, p, ka⟩ := any_ok h q2 l2
          cases l1
          refine ⟨.type c :: us, .cons (.ty c) p, kitAny_cons (kit_ty (isTy_ok h q1)) (fun z => ?_) fun z => ?_⟩
          · rw [z]; exact ka
          · rw [z]; rfl
    | _ => unfold isTyAny at e; cases e
theorem cb_isi {X : Cx} : CbS X (.builtin "isinstance") oIsi := .of call_isi fun {F H σ0 σ ρ B vs ds T Q} E w t g => by
  unfold oIsi at t
  split at t
  · obtain ⟨n, b, h1, h2, t⟩ := t
    obtain ⟨v, u, rfl, w1, w2⟩ := w.two
    cases w2.ty
    exact ⟨v, _, _, _, b, rfl, .ty _, w1.tyx E.sub h1, kit_ty (isTy_ok h1 h2), gt_val E g t (.bl _)⟩
  · exact t.elim
/-- isinstance(e, (T1, T2)) -/
def uIsiT (ua : UE) (ut : UA) : UE := fun ρ R => ua ρ fun r ρ1 => ut ρ1 fun cs ρ2 => cs.length ≤ sizeLine ∧ wv ρ2 r fun d => ∃ n b, tyD d = some n ∧ isTyAny n cs = some b ∧ R (.val (.bl b)) ρ2
theorem fe_isiT {X : Cx} {e : Expr} {ts : List Expr} {ua : UE} {ut : UA} {p pos pos2 : Pos} {k : Nat} (hg : Gl X "isinstance") (hm : X.mg "isinstance" = none) (ha : FE X e ua) (ht : FA X ts ut)
    (he : starEach [e, .Tuple ts k pos2] X.env = (false, eval e X.env) :: starEach [.Tuple ts k pos2] X.env := by rfl) (he2 : starEach [.Tuple ts k pos2] X.env = (false, eval (.Tuple ts k pos2) X.env) :: starEach [] X.env := by rfl)
    (hpl : (backTo pos (starEach [.Tuple ts k pos2] X.env)).any (·.1) = false := by rfl) : FE X (.Call (.Name "isinstance" p) [e, .Tuple ts k pos2] [] pos) (uIsiT ua ut) := ⟨fun ρ R q F H σ0 σ B Q E g => by
  refine to_S (pe_callB call_isiT hg hm (by decide +kernel) (pa_cons pe_S (pa_cons (pe_tup pa_S) pa_nil he2) he) (by decide) (by decide) he hpl)
    (ha ρ _ q F H σ0 σ B _ E fun r ρ1 v F1 H1 z G => ht ρ1 _ z F1 H1 σ0 σ (hB B r v) _ (G.er.hold G.rr) fun cs ρ2 vs F2 H2 ⟨zl, z2⟩ G2 l => ⟨by rw [l.len]; exact zl, fun tp np => ?_⟩)
  have E2 := G2.er.unhold
  have rr := G.rr.held G.er G2.er G2.nx
  obtain ⟨d, w, n, b, h1, h2, z⟩ := E2.seen rr z2
  obtain ⟨us, pa, ka⟩ := any_ok (K := X.K) h1 h2 l
  have n2 := G2.nx.mono hB_sub (B := B)
  obtain ⟨E3, n3⟩ := E2.laid_val (o := .tup vs) np
  have w3 : RW X.K (upd F2 tp (.tup vs)) (upd H2 tp (.tup vs)) v d := by
    rcases w with w | w
    · exact .inl (w.mono n3.fz)
    · obtain ⟨a, o, e1, e2⟩ := w.there
      subst e1
      exact .inr (w.keep n3.fz (upd_ne fun z => by subst z; rw [np] at e2; cases e2))
  exact ⟨v, tp, vs, _, us, b, rfl, upd_same, pa, w3.tyx E3.sub h1, ka, g _ _ _ _ _ z ⟨G.nx.trans (n2.trans n3), E3, .bl _⟩⟩⟩
end YP
set_option maxRecDepth 100000
/-! The yard's pure layer, part 8: methods of lists and texts, stores to places. -/
namespace PySem
open Sem (wp)
section
variable {prog : Program} {w : World} {A : Around} {R : Result → Shared → Prop} {I : Addr} {fp wr : List Addr} {G : Array GenState → Array GenState → Prop} {n m : Nat} {P P' : Nat → Value → Prop} {St : Nat → Shared → Prop}
/-- a walk's items behind what stands in the list -/
theorem ycodeAny_extend_loop (W : WalksS prog w A.in1 I fp wr G n P St) (hn : m + n ≤ sizeLine) (hP' : ∀ i v, P i v → P' (m + i) v) (S : Addr) (hSf : S ∉ fp) (res : Value) :
    ∀ (k i : Nat) (s : Shared) (acc : Array Value) (c : Nat), n - i = k → i ≤ n → St i s → s.heap.get? S = some { cls := .type "list", dict := none, data := .seq acc c, slots := #[] } → ItemsOf P' acc (m + i) →
    (∀ s' acc' c', Moved (S :: wr) G s s' → s'.heap.get? S = some { cls := .type "list", dict := none, data := .seq acc' c', slots := #[] } → ItemsOf P' acc' (m + n) → R (.ok (.ret res)) s') →
    codeAny (model prog w) A (.builtin "list.extend.loop" ⟨[.ref S, .ref I, res], []⟩) R s := by
  have hSw : S ∉ wr := fun h => hSf (W.sub _ h)
  have hsub : ∀ b ∈ wr, b ∈ S :: wr := fun b hb => List.mem_cons_of_mem _ hb
  intro k
  induction k with
  | zero =>
    intro i s acc c hk hi hst hS hacc hR
    have hin : i = n := by omega
    subst hin
    refine codeAny_builtin F.entry_extend_loop ?_
    rw [Around.under_plainId F.plain_extend_loop _]
    show wpAny _ A.in1 (pyNext (.ref I) >>= _) _ _ s
    refine wpAny_bind (W.done s _ _ hst fun s' hm => ?_)
    exact wpAny_pure (hR s' acc c (hm.mono hsub) (hm.heap S _ hSw hS) hacc)
  | succ k ih =>
    intro i s acc c hk hi hst hS hacc hR
    have hlt : i < n := by omega
    refine codeAny_builtin F.entry_extend_loop ?_
    rw [Around.under_plainId F.plain_extend_loop _]
    show wpAny _ A.in1 (pyNext (.ref I) >>= _) _ _ s
    refine wpAny_bind (W.item i s _ _ hlt hst fun v s' hP hst' hm => ?_)
    have hS' := hm.heap S _ hSw hS
    show wpAny _ A.in1 (updateSeq S (·.push v) >>= _) _ _ _
    refine wpAny_bind ?_
    refine wpAny_updateSeq hS' rfl (wpAny_pure ⟨plainId_quiet F.plain_extend_loop _, ih (i + 1) _ (acc.push v) _ (by omega) hlt (W.frame _ s' _ s'.toks hst' (Nat.le_refl _) fun b hb o e => ?_) (Heap.get?_update_self _ hS' rfl) (hacc.push (hP' i v hP)) fun s'' acc' c' hm'' hS'' hacc' => ?_⟩)
      (by rw [hacc.1]; omega) (by show (acc.push v).size ≤ sizeLine + 1; rw [Array.size_push, hacc.1]; omega)
    · exact (Heap.get?_update_other _ _ (fun h : S = b => hSf (by rw [h]; exact hb))).trans e
    · refine hR s'' acc' c' (Moved.trans W.gtrans ((hm.mono hsub).then_heap (by first | exact Nat.le_refl _ | exact Nat.le_succ _ | omega) fun b o hb e => ?_) hm'') hS'' hacc'
      exact (Heap.get?_update_other _ _ (fun h : S = b => hb (by rw [h]; exact List.mem_cons_self))).trans e
end
section
variable {prog : Program} {w : World} {A : Around} {E : Value → Shared → Prop} {s : Shared}
/-- a list, and a text's signs behind -/
theorem ywpAny_extend_str {R : Result → Shared → Prop} (hh : A.handled = none) (x : Str) (t : Tok) (S : Addr) (res : Value) (its : Array Value) (c₀ : Nat) (hS : s.heap.get? S = some { cls := .type "list", data := .seq its c₀ })
    (hR : ∀ h' tk acc' c', (∀ b o, b ≠ S → s.heap.get? b = some o → h'.get? b = some o) → h'.get? S = some { cls := .type "list", dict := none, data := .seq acc' c', slots := #[] } →
      ItemsOf (fun j v => if j < its.size then its[j]? = some v else SignAt x (j - its.size) v) acc' (its.size + x.cps.size) → R (.ok (.ret res)) { s with heap := h', toks := tk }) (hn : its.size + x.cps.size ≤ sizeLine) :
    wpAny (model prog w) A.in1 (Builtin.List.listExtendWith (.ref S) (.str x t) res)
      (fun fin s' => match fin with | .done f => R (.ok f) s' | .again c' => c'.quiet = true ∧ codeAny (model prog w) A c' R s') (fun e s' => R (.error e) s') s := by
  have hSI : S ≠ s.heap.objs.size := Nat.ne_of_lt (Heap.lt_size hS)
  have hSf : S ∉ [s.heap.objs.size] := fun hm => hSI (List.mem_singleton.mp hm)
  unfold Builtin.List.listExtendWith
  refine wpAny_bind (wpAny_typeOf (T := "str") (v := .str x t) rfl ?_)
  have h1 : Builtin.List.listSameRef (.ref S) (.str x t) = false := rfl
  have h2 : (Value.type "str" == Value.type "list") = false := by decide
  have h3 : (Value.type "str" == Value.type "tuple") = false := by decide
  simp only [h1, h2, h3, Bool.or_false, Bool.false_eq_true, if_false]
  refine wpAny_bind (wpAny_pyIter_str fun o St W hst => ?_)
  refine wpAny_bind (wpAny_holding ?_)
  unfold Builtin.List.listLengthHint
  refine wpAny_bind (wpAny_specialOf (T := "str") (v := .str x t) rfl F.str_len ?_)

  wp_delta
  refine wpAny_bind (wpAny_isInstance (T := "str") (v := .str x t) (b := true) rfl (by rw [isSubtype_type]; kernel_rfl) ?_)
  show wpAny _ _ (typeOf (Value.str x t) >>= _) _ _ _
  refine wpAny_bind (wpAny_typeOf (T := "str") (v := .str x t) rfl ?_)
  refine wpAny_pure ?_
  rw [if_neg (by decide)]
  refine wpAny_pure ⟨plainId_quiet F.plain_extend_loop _, ycodeAny_extend_loop (m := its.size) (P' := fun j v => if j < its.size then its[j]? = some v else SignAt x (j - its.size) v) (W A.in1 hh).toS hn (fun i v hp => ?_) _ hSf _ x.cps.size 0 _ _ _ rfl (Nat.zero_le _) hst (Heap.get?_push_of_some _ hS) ⟨rfl, fun j v hj => ?_⟩ fun s' acc' c' hm hS' hacc => ?_⟩
  · have e1 : ¬ its.size + i < its.size := by omega
    have e2 : its.size + i - its.size = i := by omega
    show if its.size + i < its.size then _ else SignAt x (its.size + i - its.size) v
    rw [if_neg e1, e2]; exact hp
  · have hlt : j < its.size := (Array.getElem?_eq_some_iff.mp hj).1
    show if j < its.size then _ else _
    rw [if_pos hlt]; exact hj
  · rw [Moved.eq_with hm]
    refine hR s'.heap s'.toks acc' c' (fun b ob hb e => hm.heap b ob (fun hmem => ?_) (Heap.get?_push_of_some _ e)) hS' hacc
    rcases List.mem_cons.mp hmem with e' | hmem
    · exact hb e'
    · exact absurd (Heap.lt_size e) (by rw [List.mem_singleton.mp hmem]; exact Nat.lt_irrefl _)
theorem ywpAny_extend_tup {M : Model} {A : Around} {l b : Addr} {res : Value} {its its2 : Array Value} {n : Nat} {Q : Fin → Shared → Prop} (hl : s.heap.get? l = some { cls := .type "list", data := .seq its n }) (hb : PyProof.Rows.IsTup s.heap b its2)
    (hz : its.size + its2.size ≤ sizeLine) (h : Q (.done (.ret res)) { s with heap := s.heap.update l (Obj.mapSeq fun x => x ++ its2) }) : wpAny M A (Builtin.List.listExtendWith (.ref l) (.ref b) res) Q E s := by
  obtain ⟨o, ho, hc, k, hd⟩ := hb
  unfold Builtin.List.listExtendWith
  refine wpAny_bind (wpAny_typeOf_ref ho ?_)
  rw [hc]
  have h3 : (Value.type "tuple" == Value.type "tuple") = true := by decide
  simp only [h3, Bool.or_true, if_true]
  unfold Builtin.List.listItems
  refine wpAny_bind (wpAny_bind (wpAny_seqItems ho hd (wpAny_pure ?_)))
  refine wpAny_bind (wpAny_bind (wpAny_seqItems hl rfl (wpAny_pure ?_)))
  have e : (!its.isEmpty && Builtin.List.listTooLong (its.size + its2.size)) = false := by rw [L2.notLongL hz, Bool.and_false]
  simp only [e, Bool.false_eq_true, if_false]
  refine wpAny_bind ?_
  refine wpAny_updateSeq hl rfl ?_ (by omega) (by show (its ++ its2).size ≤ _; rw [Array.size_append]; omega)
  exact wpAny_pure h
end
end PySem

namespace YP
open PySem PySem.Spec PyProof.Rows L2
section
variable {X : Cx}
theorem mext_tup (l b : Addr) (its its2 : Array Value) (n : Nat) (hz : its.size + its2.size ≤ sizeLine) : Meets (Builtin.«list.extend» ⟨[.ref l, .ref b], []⟩)
    (fun _ R s => s.heap.get? l = some { cls := .type "list", data := .seq its n } ∧ IsTup s.heap b its2 ∧ R (.ok (.ret .none)) { s with heap := s.heap.update l (Obj.mapSeq fun x => x ++ its2) }) := fun prog w A R s h => by
  obtain ⟨hl, hb, h⟩ := h
  show wpAny _ _ (Builtin.List.listExtendWith (.ref l) (.ref b) .none) _ _ _
  exact ywpAny_extend_tup hl hb hz h
theorem mext_str (l : Addr) (its : Array Value) (n : Nat) (x : Str) (t : Tok) (hz : its.size + x.cps.size ≤ sizeLine) : Meets (Builtin.«list.extend» ⟨[.ref l, .str x t], []⟩)
    (fun A R s => A.handled = none ∧ s.heap.get? l = some { cls := .type "list", data := .seq its n } ∧ ∀ h' tk acc' c', (∀ b o, b ≠ l → s.heap.get? b = some o → h'.get? b = some o) → h'.get? l = some { cls := .type "list", dict := none, data := .seq acc' c', slots := #[] } →
      ItemsOf (fun j v => if j < its.size then its[j]? = some v else SignAt x (j - its.size) v) acc' (its.size + x.cps.size) → R (.ok (.ret .none)) { s with heap := h', toks := tk }) := fun prog w A R s h => by
  obtain ⟨hh, hl, h⟩ := h
  show wpAny _ _ (Builtin.List.listExtendWith (.ref l) (.str x t) .none) _ _ _
  exact ywpAny_extend_str hh x t l .none its n hl h hz
theorem pairedOf {α β : Type} {R : α → β → Prop} : ∀ {l : List α} {m : List β}, l.length = m.length → (∀ (i : Nat) x, l[i]? = some x → ∃ y, m[i]? = some y ∧ R x y) → Paired R l m
  | [], [], _, _ => .nil
  | [], _ :: _, h, _ => nomatch h
  | _ :: _, [], h, _ => nomatch h
  | a :: l, b :: m, h, k => by
    obtain ⟨y, e, r⟩ := k 0 a rfl
    cases e
    exact .cons r (pairedOf (Nat.succ.inj h) fun i x e => k (i + 1) x e)
def rExtT (K : PySem.W.Frag) : V → List V → Hp → VK → Prop := fun x vs H Q => ∃ l b xs zs, x = .ref l ∧ vs = [.ref b] ∧ H l = some (.lst xs) ∧ SqT K H b zs ∧ xs.length + zs.length ≤ sizeLine ∧ Q .non (upd H l (.lst (xs ++ zs)))
theorem mt_extT : MtR X "list.extend" (rExtT X.K) := by
  intro pins s σ H x vs v us Q I rx rv h
  obtain ⟨l, b, xs, zs, rfl, rfl, hH, hB, hz, q⟩ := h
  cases rx
  obtain ⟨u, rfl, ru⟩ := rv.one
  cases ru
  obtain ⟨z, its, n, r, hl, e⟩ := I.lstM hH
  obtain ⟨its2, r2, e2, _⟩ := I.tuple hB
  have l2 := r2.length
  refine call_meets F.slot_list_extend ⟨_, e, rfl⟩ F.entry_list_extend (F.args_list_extend_2 _ _) (mext_tup l b its.toArray its2.toArray n (by rw [List.size_toArray, List.size_toArray]; omega)) ⟨e, e2, ?_⟩
  refine ⟨.non, _, I.lset (its' := its ++ its2) (t' := s.toks) hH e (by simp) (r.append r2) ?_, rfl, q⟩
  rw [List.length_append]
  omega
def rExtS : V → List V → Hp → VK → Prop := fun x vs H Q => ∃ l xs z, x = .ref l ∧ vs = [.str z] ∧ H l = some (.lst xs) ∧ xs.length + z.cps.size ≤ sizeLine ∧ Q .non (upd H l (.lst (xs ++ z.cps.toList.map fun c => .str ⟨#[c]⟩)))
theorem mt_extS (hc : X.calm = true) : MtR X "list.extend" rExtS := by
  intro pins s σ H x vs v us Q I rx rv h
  obtain ⟨l, xs, z, rfl, rfl, hH, hz, q⟩ := h
  cases rx
  obtain ⟨u, rfl, ru⟩ := rv.one
  obtain ⟨t, rfl⟩ := ru
  obtain ⟨zl, its, n, r, hl, e⟩ := I.lstM hH
  refine call_meets F.slot_list_extend ⟨_, e, rfl⟩ F.entry_list_extend (F.args_list_extend_2 _ _) (mext_str l its.toArray n z t (by rw [List.size_toArray]; omega)) ⟨I.ok.hd hc, e, fun h' tk acc' c' k e' it => ?_⟩
  have rv' : Vals (xs ++ z.cps.toList.map fun c => V.str ⟨#[c]⟩) acc'.toList := by
    refine pairedOf ?_ fun i x hx => ?_
    · have i1 : acc'.size = its.toArray.size + z.cps.size := it.1
      have i2 : its.toArray.size = its.length := List.size_toArray
      have i3 : acc'.toList.length = acc'.size := Array.length_toList
      have i4 : z.cps.toList.length = z.cps.size := Array.length_toList
      rw [List.length_append, List.length_map]
      omega
    · by_cases hi : i < xs.length
      · rw [List.getElem?_append_left hi] at hx
        obtain ⟨u, e1, r1⟩ := r.get hx
        have hi2 : i < acc'.size := by rw [it.1, List.size_toArray]; omega
        have e3 : acc'[i]? = some acc'[i] := Array.getElem?_eq_getElem hi2
        have p : if i < its.toArray.size then its.toArray[i]? = some acc'[i] else SignAt z (i - its.toArray.size) acc'[i] := it.2 i _ e3
        have hi3 : i < its.toArray.size := by rw [List.size_toArray]; omega
        rw [if_pos hi3] at p
        refine ⟨acc'[i], by rw [Array.getElem?_toList]; exact e3, ?_⟩
        have e4 : its[i]? = some acc'[i] := by simpa using p
        rw [e1] at e4
        cases e4; exact r1
      · rw [List.getElem?_append_right (by omega), List.getElem?_map] at hx
        cases q2 : z.cps.toList[i - xs.length]? with
        | none => rw [q2] at hx; cases hx
        | some c =>
          rw [q2] at hx; cases hx
          have hl2 : i - xs.length < z.cps.toList.length := (List.getElem?_eq_some_iff.mp q2).1
          have i4 : z.cps.toList.length = z.cps.size := Array.length_toList
          rw [i4] at hl2
          have hi2 : i < acc'.size := by rw [it.1, List.size_toArray]; omega
          have e3 : acc'[i]? = some acc'[i] := Array.getElem?_eq_getElem hi2
          have p : if i < its.toArray.size then its.toArray[i]? = some acc'[i] else SignAt z (i - its.toArray.size) acc'[i] := it.2 i _ e3
          have hi3 : ¬ i < its.toArray.size := by rw [List.size_toArray]; omega
          rw [if_neg hi3] at p
          obtain ⟨c', u, e5, e6⟩ := p
          rw [List.size_toArray, ← hl] at e5
          rw [Array.getElem?_toList] at q2
          rw [q2] at e5; cases e5
          exact ⟨acc'[i], by rw [Array.getElem?_toList]; exact e3, u, e6⟩
  have I2 : Inv X pins σ (upd H l (.lst (xs ++ z.cps.toList.map fun c => V.str ⟨#[c]⟩))) { s with heap := h', toks := tk } := by
    refine I.write (x := l) (e := l) (by rw [hH]; exact trivial) (.inl rfl) (fun b u hb hu => k b u hb hu) ⟨_, e'⟩ ?_
    refine ⟨by rw [List.length_append, List.length_map, Array.length_toList]; omega, acc'.toList, c', rv', ?_⟩
    rw [Array.toArray_toList]; exact e'
  exact ⟨.non, _, I2, rfl, q⟩

/-! ### methods that change a list -/
structure MuS (X : Cx) (id : String) (m : List D → List D → (List D → D → Prop) → Prop) : Prop where
  ex : ∃ r, MtR X id r ∧ ∀ {F H : Hp} {a : Addr} {us vs : List V} {l ds : List D} {T : List D → D → Prop} {Q : VK}, Same F H → H a = some (.lst us) → RL X.K F us l → RL X.K F vs ds → m l ds T →
    (∀ l' e v us', T l' e → RL X.K F us' l' → RD X.K F v e → Q v (upd H a (.lst us'))) → r (.ref a) vs H Q
theorem MuS.of {id : String} {m : List D → List D → (List D → D → Prop) → Prop} {r : V → List V → Hp → VK → Prop} (h : MtR X id r) (k : ∀ {F H : Hp} {a : Addr} {us vs : List V} {l ds : List D} {T : List D → D → Prop} {Q : VK}, Same F H → H a = some (.lst us) → RL X.K F us l → RL X.K F vs ds → m l ds T →
    (∀ l' e v us', T l' e → RL X.K F us' l' → RD X.K F v e → Q v (upd H a (.lst us'))) → r (.ref a) vs H Q) : MuS X id m := ⟨⟨r, h, k⟩⟩
theorem MtR.or {id : String} {r r' : V → List V → Hp → VK → Prop} (h : MtR X id r) (h' : MtR X id r') : MtR X id (fun x xs H Q => r x xs H Q ∨ r' x xs H Q) := by
  intro pins s σ H x xs v us Q I rx rxs q
  rcases q with q | q
  · exact h pins s σ H x xs v us Q I rx rxs q
  · exact h' pins s σ H x xs v us Q I rx rxs q
/-- the list that a slot holds as one's own -/
def ownL (ρ : List Sl) (r : Rv) (k : Nat → Bool → List D → Prop) : Prop := match r with
  | .at i => match ρ[i]? with
    | some (.sl true p (.lst l)) => k i p l
    | _ => False
  | _ => False
theorem ownL_of {ρ : List Sl} {r : Rv} {k : Nat → Bool → List D → Prop} (h : ownL ρ r k) : ∃ i p l, r = .at i ∧ ρ[i]? = some (.sl true p (.lst l)) ∧ k i p l := by
  unfold ownL at h
  split at h
  · split at h
    · exact ⟨_, _, _, rfl, ‹_›, h⟩
    · exact h.elim
  · exact h.elim
def uMu (m : List D → List D → (List D → D → Prop) → Prop) (ue : UE) (ua : UA) : UE := fun ρ R => ue ρ fun r ρ1 => ownL ρ1 r fun _ _ _ => ua ρ1 fun ds ρ2 => ownL ρ2 r fun i p l => m l ds fun l' e => R (.val e) (ρ2.set i (.sl true p (.lst l')))
section
variable {o e : Expr} {es : List Expr} {name : Str} {apos cpos : Pos} {id : String} {m : List D → List D → (List D → D → Prop) → Prop} {ue : UE} {ua : UA} {F H : Hp} {σ0 σ : L2.St} {ρ : List Sl} {B : Addr → Prop}
theorem mu_go (k : ∃ r, MtR X id r ∧ ∀ {F H : Hp} {a : Addr} {us vs : List V} {l ds : List D} {T : List D → D → Prop} {Q : VK}, Same F H → H a = some (.lst us) → RL X.K F us l → RL X.K F vs ds → m l ds T →
    (∀ l' e v us', T l' e → RL X.K F us' l' → RD X.K F v e → Q v (upd H a (.lst us'))) → r (.ref a) vs H Q) (ho : FE X o ue) (ha : FA X es ua) {R : Rv → List Sl → Prop} {Q : VK} (q : uMu m ue ua ρ R) (E : ER X.K F H σ0 ρ σ B)
    (g : ∀ r ρ' v F' H', R r ρ' → Gt X.K F H F' H' σ0 ρ' σ B r v → Q v H') : ∃ r, MtR X id r ∧ tS X o σ H fun x H1 => tyV X.K "list" x H1 ∧ tA X es σ H1 fun xs H2 => r x xs H2 Q := by
  obtain ⟨r, hr, k⟩ := k
  refine ⟨r, hr, ho ρ _ q F H σ0 σ B _ E fun r1 ρ1 x F1 H1 z G => ?_⟩
  obtain ⟨i, p, l, rfl, e1, z⟩ := ownL_of z
  have si : σ[i]? = some (some x) := G.rr
  obtain ⟨a, e2, ro, _⟩ := G.er.ow i p _ e1
  rw [si] at e2; cases e2
  cases ro with
  | @lst _ us _ h1 l1 =>
    refine ⟨.inl ⟨rfl, us, .of h1⟩, ha ρ1 _ z F1 H1 σ0 σ B _ G.er fun ds ρ2 vs F2 H2 z G2 l2 => ?_⟩
    obtain ⟨j, p2, l', e3, e4, z⟩ := ownL_of z
    cases e3
    obtain ⟨a', e5, ro2, _⟩ := G2.er.ow _ _ _ e4
    rw [si] at e5; cases e5
    cases ro2 with
    | @lst _ us2 _ h3 l3 =>
      refine k G2.er.sub h3 l3 l2 z fun l'' e v us' t rl rd => ?_
      obtain ⟨E3, n3⟩ := G2.er.wrote e4 si (o := .lst us') (e := .lst l'') (.lst upd_same rl)
      exact g _ _ _ _ _ t ⟨G.nx.trans (G2.nx.trans n3), E3, rd⟩
theorem fe_mu (mu : MuS X id m) (slot : Slot "list" name id) (hty : typeOf (.builtin id) = pure (.type "method_descriptor")) (ho : FE X o ue) (ha : FA X (e :: es) ua)
    (hbase : attributeBase o name X.env (eval o X.env) = eval o X.env := by rfl)
    (hfew : ((backTo cpos (starEach (e :: es) X.env)).all (fun x => !x.1) && (backToKw cpos (keywordEach [] X.env)).all (fun x => x.1.isSome)
      && decide ((e :: es).length + ([] : List Keyword).length + (if ([] : List Keyword).isEmpty then 0 else 1) < 30)) = true := by rfl)
    (hline : (apos.endLine == cpos.line) = true := by rfl) (hs : starEach (e :: es) X.env = (false, eval e X.env) :: starEach es X.env := by rfl) (hplain : (backTo cpos (starEach es X.env)).any (·.1) = false := by rfl) :
    FE X (.Call (.Attribute o name apos) (e :: es) [] cpos) (uMu m ue ua) := ⟨fun ρ R q F H σ0 σ B Q E g => by
  obtain ⟨r, hr, t⟩ := mu_go mu.ex ho ha q E g
  exact to_S (pe_bm PySem.F.plainAttrs_list slot hty hr pe_S pa_S hbase hfew hline hs hplain) t⟩
theorem fe_mu0 (mu : MuS X id m) (slot : Slot "list" name id) (hty : typeOf (.builtin id) = pure (.type "method_descriptor")) (ho : FE X o ue)
    (hbase : attributeBase o name X.env (eval o X.env) = eval o X.env := by rfl) (hline : (apos.endLine == cpos.line) = true := by rfl) :
    FE X (.Call (.Attribute o name apos) [] [] cpos) (uMu m ue uNil) := ⟨fun ρ R q F H σ0 σ B Q E g => by
  obtain ⟨r, hr, k⟩ := mu.ex
  refine to_S (pe_bm0 PySem.F.plainAttrs_list slot hty hr pe_S hbase hline) (ho ρ _ q F H σ0 σ B _ E fun r1 ρ1 x F1 H1 z G => ?_)
  obtain ⟨i, p, l, rfl, e1, z⟩ := ownL_of z
  have si : σ[i]? = some (some x) := G.rr
  obtain ⟨a, e2, ro, _⟩ := G.er.ow i p _ e1
  rw [si] at e2; cases e2
  cases ro with
  | @lst _ us _ h1 l1 =>
    refine ⟨.inl ⟨rfl, us, .of h1⟩, ?_⟩
    obtain ⟨j, p2, l', e3, e4, z⟩ := ownL_of (show ownL ρ1 (.at i) (fun i p l => m l [] fun l' e => R (.val e) (ρ1.set i (Sl.sl true p (D.lst l')))) from z)
    cases e3
    rw [e1] at e4; cases e4
    refine k G.er.sub h1 l1 .nil z fun l'' e v us' t rl rd => ?_
    obtain ⟨E3, n3⟩ := G.er.wrote e1 si (o := .lst us') (e := .lst l'') (.lst upd_same rl)
    exact g _ _ _ _ _ t ⟨G.nx.trans n3, E3, rd⟩⟩
end
def mAppend (l ds : List D) (T : List D → D → Prop) : Prop := match ds with
  | [d] => l.length < sizeLine ∧ T (l ++ [d]) .non
  | _ => False
theorem mu_append : MuS X "list.append" mAppend := .of mt_append fun {F H a us vs l ds T Q} s h rl rv t g => by
  unfold mAppend at t
  split at t
  · cases rv with
    | cons r1 r2 =>
      cases r2
      exact ⟨a, us, _, rfl, rfl, h, by rw [rl.len]; exact t.1, g _ _ _ _ t.2 (rl.snoc r1) .non⟩
  · exact t.elim
def mExtend (l ds : List D) (T : List D → D → Prop) : Prop := match ds with
  | [.lst k] => l.length + k.length ≤ sizeLine ∧ T (l ++ k) .non
  | [.tup k] => l.length + k.length ≤ sizeLine ∧ T (l ++ k) .non
  | [.str x] => l.length + x.cps.size ≤ sizeLine ∧ T (l ++ x.cps.toList.map fun c => .str ⟨#[c]⟩) .non
  | _ => False
theorem signs_rl {K : PySem.W.Frag} {F : Hp} : ∀ l : List Nat, RL K F (l.map fun c => V.str ⟨#[c]⟩) (l.map fun c => D.str ⟨#[c]⟩)
  | [] => .nil
  | c :: l => .cons (.str _) (signs_rl l)
theorem mu_extend (hc : X.calm = true) : MuS X "list.extend" mExtend := .of (MtR.or mt_extend (MtR.or mt_extT (mt_extS hc))) fun {F H a us vs l ds T Q} s h rl rv t g => by
  unfold mExtend at t
  split at t
  · cases rv with
    | cons r1 r2 =>
      cases r2
      cases r1 with
      | @lst b zs _ h2 l2 => exact .inl ⟨a, b, us, zs, rfl, rfl, h, s _ _ h2, by rw [rl.len, l2.len]; exact t.1, g _ _ _ _ t.2 (rl.app l2) .non⟩
  · cases rv with
    | cons r1 r2 =>
      cases r2
      cases r1 with
      | @tup b zs _ h2 l2 => exact .inr (.inl ⟨a, b, us, zs, rfl, rfl, h, sqT_mono s h2, by rw [rl.len, l2.len]; exact t.1, g _ _ _ _ t.2 (rl.app l2) .non⟩)
  · cases rv with
    | cons r1 r2 =>
      cases r2
      cases r1
      exact .inr (.inr ⟨a, us, _, rfl, rfl, h, by rw [rl.len]; exact t.1, g _ _ _ _ t.2 (rl.app (signs_rl _)) .non⟩)
  · exact t.elim
def mPop (l ds : List D) (T : List D → D → Prop) : Prop := ds = [] ∧ ∃ k d, l = k ++ [d] ∧ T k d
theorem mu_pop : MuS X "list.pop" mPop := .of mt_pop fun {F H a us vs l ds T Q} s h rl rv t g => by
  obtain ⟨rfl, k, d, rfl, t⟩ := t
  cases rv
  obtain ⟨us', v, es, d', e1, e2, l1, r1⟩ := rl.last (by simp)
  obtain ⟨e3, e4⟩ := List.append_inj' e2 rfl
  subst e1 e3
  cases e4
  refine ⟨a, _, v, rfl, rfl, h, by simp, ?_⟩
  rw [List.dropLast_concat]
  exact g _ _ _ _ t l1 r1
end
end YP
set_option maxRecDepth 100000
/-! The yard's pure layer, part 9: join, stores to places, dicts with keys of numbers and texts. -/
namespace YP
open PySem PySem.Spec PyProof.Rows L2
section
variable {X : Cx} {o e f : Expr} {uo ue uf : UE} {apos cpos pos : Pos}

/-! ### sep.join(list of texts) -/
def oJoin (d e : D) (T : Rv → Prop) : Prop := match d, e with
  | .str a, .lst l => ∃ ys : List Str, l = ys.map D.str ∧ (ys.map (·.length)).sum + ys.length * a.length ≤ 16777216 ∧ T (.val (.str (Txt.join a ys)))
  | _, _ => False
def uJoin (ua ub : UE) : UE := fun ρ R => ua ρ fun r ρ1 => match r with
  | .val (.str a) => ub ρ1 fun q ρ2 => wv ρ2 q fun e => oJoin (.str a) e fun z => R z ρ2
  | _ => False
theorem fe_join (ho : FE X o uo) (he : FE X e ue) (hs : starEach [e] X.env = [(false, eval e X.env)] := by rfl) (hbase : attributeBase o "join" X.env (eval o X.env) = eval o X.env := by rfl) (hline : (apos.endLine == cpos.line) = true := by rfl) :
    FE X (.Call (.Attribute o "join" apos) [e] [] cpos) (uJoin uo ue) := ⟨fun ρ R q F H σ0 σ B Q E g => by
  refine to_S (pe_join pe_S pe_S hs hbase hline) (ho ρ _ q F H σ0 σ B _ E fun r ρ1 v F1 H1 z G => ?_)
  split at z
  case h_2 => exact z.elim
  rename_i a
  have rr : RD X.K F1 v (.str a) := G.rr
  cases rr
  refine ⟨⟨a, rfl⟩, he ρ1 _ z F1 H1 σ0 σ B _ G.er fun q ρ2 u F2 H2 z G2 => ?_⟩
  obtain ⟨d, w, z⟩ := G2.er.seen G2.rr z
  unfold oJoin at z
  split at z
  · rename_i l e1
    obtain ⟨ys, rfl, hz, t⟩ := z
    cases e1
    obtain ⟨p, us, rfl, h1, l1⟩ := w.lst G2.er.sub
    cases rl_strs l1
    exact ⟨a, p, ys, rfl, rfl, .inl (.of h1), hz, g _ _ _ _ _ t ⟨G.nx.trans G2.nx, G2.er, .str _⟩⟩
  · exact z.elim⟩

/-! ### l[i] = v, the list one's own -/
def uPutL (uv uo ui : UE) : US := fun E ρ => uv ρ fun r ρ1 => wv ρ1 r fun d => uo (frz ρ1 r) fun q ρ2 => ui ρ2 fun s ρ3 => match s with
  | .val (.int k) => ownL ρ3 q fun i p l => ∃ j, ixN l.length k = some j ∧ E.nx (ρ3.set i (.sl true p (.lst (l.set j d))))
  | _ => False
theorem fs_putL {st : Stmt} {v i : Expr} {uv ui : UE} (h : PS X st (tAsg (tS X v) (gSub (tS X o) (tS X i) rSetL))) (hv : FE X v uv) (ho : FE X o uo) (hi : FE X i ui) : FS X st (uPutL uv uo ui) := ⟨fun E ρ q F H σ0 σ B D er f => by
  refine to_SS h (hv ρ _ q F H σ0 σ B _ er fun r ρ1 x F1 H1 z G => ?_)
  obtain ⟨F2, d, n2, E2, rd, z⟩ := G.er.freeze G.rr z
  refine ho _ _ z F2 H1 σ0 σ B _ E2 fun q ρ2 y F3 H3 z G3 => hi ρ2 _ z F3 H3 σ0 σ (hB B q y) _ (G3.er.hold G3.rr) fun s ρ3 w F4 H4 z G4 => ?_
  split at z
  case h_2 => exact z.elim
  rename_i k
  have E4 := G4.er.unhold
  have rq := G3.rr.held G3.er G4.er G4.nx
  have rs : RD X.K F4 w (.int k) := G4.rr
  cases rs
  obtain ⟨i, p, l, rfl, e1, j, ej, z⟩ := ownL_of z
  have si : σ[i]? = some (some y) := rq
  obtain ⟨a, e2, ro, _⟩ := E4.ow i p _ e1
  rw [si] at e2; cases e2
  cases ro with
  | @lst _ us _ h1 l1 =>
    refine ⟨a, us, k, j, rfl, rfl, h1, by rw [l1.len]; exact ej, ?_⟩
    have rd4 := rd.mono (G3.nx.fz.trans G4.nx.fz)
    obtain ⟨E5, n5⟩ := E4.wrote e1 si (o := .lst (us.set j x)) (e := .lst (l.set j d)) (.lst upd_same (l1.set j rd4))
    exact f.nx _ _ F4 _ z ⟨G.nx.trans (n2.trans (G3.nx.trans ((G4.nx.mono hB_sub).trans n5))), E5⟩⟩

/-! ### dicts -/
def keyD : D → Option Key
  | .int i => some (.inl i)
  | .str x => some (.inr x)
  | _ => none
theorem keyD_v {K : PySem.W.Frag} {F H : Hp} {v : V} {d : D} {k : Key} (h : RW K F H v d) (e : keyD d = some k) : v = kV k := by
  cases d with
  | int i => cases e; exact h.int
  | str x => cases e; exact h.str
  | _ => cases e
def kget (l : List (Key × D)) (k : Key) : Option D := (l.find? fun kv => decide (kv.1 = k)).map (·.2)
def kput (l : List (Key × D)) (k : Key) (d : D) : List (Key × D) :=
  if (l.any fun kv => decide (kv.1 = k)) = true then l.map (fun kv => if kv.1 = k then (kv.1, d) else kv) else l ++ [(k, d)]
theorem RK.get {K : PySem.W.Frag} {F : Hp} {k : Key} : ∀ {vs : List (Key × V)} {ds : List (Key × D)}, RK K F vs ds → (valV vs k = none ∧ kget ds k = none) ∨ ∃ v d, valV vs k = some v ∧ kget ds k = some d ∧ RD K F v d
  | _, _, .nil => .inl ⟨rfl, rfl⟩
  | _, _, @RK.cons _ _ k' v vs d ds h t => by
    by_cases e : k' = k
    · refine .inr ⟨v, d, ?_, ?_, h⟩
      · unfold valV; rw [List.find?_cons]; simp [e]
      · unfold kget; rw [List.find?_cons]; simp [e]
    · have e1 : valV ((k', v) :: vs) k = valV vs k := by unfold valV; rw [List.find?_cons]; simp [e]
      have e2 : kget ((k', d) :: ds) k = kget ds k := by unfold kget; rw [List.find?_cons]; simp [e]
      rw [e1, e2]
      exact t.get
theorem RK.any {K : PySem.W.Frag} {F : Hp} {k : Key} : ∀ {vs : List (Key × V)} {ds : List (Key × D)}, RK K F vs ds → (vs.any fun kv => decide (kv.1 = k)) = (ds.any fun kv => decide (kv.1 = k))
  | _, _, .nil => rfl
  | _, _, .cons _ t => by rw [List.any_cons, List.any_cons, t.any]
theorem RK.snoc {K : PySem.W.Frag} {F : Hp} {k : Key} {v : V} {d : D} (r : RD K F v d) : ∀ {vs : List (Key × V)} {ds : List (Key × D)}, RK K F vs ds → RK K F (vs ++ [(k, v)]) (ds ++ [(k, d)])
  | _, _, .nil => .cons r .nil
  | _, _, .cons h t => .cons h (t.snoc r)
theorem RK.mapp {K : PySem.W.Frag} {F : Hp} {k : Key} {v : V} {d : D} (r : RD K F v d) : ∀ {vs : List (Key × V)} {ds : List (Key × D)}, RK K F vs ds → RK K F (vs.map fun kv => if kv.1 = k then (kv.1, v) else kv) (ds.map fun kv => if kv.1 = k then (kv.1, d) else kv)
  | _, _, .nil => .nil
  | _, _, @RK.cons _ _ k' v' vs d' ds h t => by
    rw [List.map_cons, List.map_cons]
    by_cases e : k' = k
    · rw [if_pos e, if_pos e]; exact .cons r (t.mapp r)
    · rw [if_neg e, if_neg e]; exact .cons h (t.mapp r)
theorem RK.put {K : PySem.W.Frag} {F : Hp} {k : Key} {v : V} {d : D} {vs : List (Key × V)} {ds : List (Key × D)} (h : RK K F vs ds) (r : RD K F v d) : RK K F (putK vs k v) (kput ds k d) := by
  unfold putK kput
  rw [h.any]
  split
  · exact h.mapp r
  · exact h.snoc r
def kmerge (l more : List (Key × D)) : List (Key × D) := more.foldl (fun acc kv => kput acc kv.1 kv.2) l
theorem RK.merge {K : PySem.W.Frag} {F : Hp} : ∀ {vs : List (Key × V)} {ds : List (Key × D)} {us : List (Key × V)} {es : List (Key × D)}, RK K F us es → RK K F vs ds → RK K F (mergeK vs us) (kmerge ds es)
  | _, _, _, _, .nil, h => h
  | vs, ds, _, _, @RK.cons _ _ k v us d es r t, h => (show RK K F (mergeK (putK vs k v) us) (kmerge (kput ds k d) es) from RK.merge t (h.put r))

/-- {} -/
def uDNew : UE := fun ρ R => R (.own (.dic [])) ρ
theorem fe_dnew : FE X (.Dict [] [] pos) uDNew := ⟨fun ρ R q F H σ0 σ B Q E g =>
  to_S pe_dnewK (gt_dic (T := fun z => R z ρ) E (fun z v F' H' t G => g z ρ v F' H' t G) q .nil)⟩
/-- the pairs of a display -/
abbrev UP := List Sl → (List (Key × D) → List Sl → Prop) → Prop
def tP (X : Cx) (pos : Pos) (ks : List (Option Expr)) (vs : List Expr) (σ : L2.St) (H : Hp) (Q : List (V × V) → Hp → Prop) : Prop := ∃ trs, PPs X pos ks vs trs ∧ tPairs trs σ H Q
def FP (X : Cx) (pos : Pos) (ks : List (Option Expr)) (vs : List Expr) (u : UP) : Prop := ∃ trs, PPs X pos ks vs trs ∧ ∀ (ρ : List Sl) (R : List (Key × D) → List Sl → Prop), u ρ R → ∀ (F H : Hp) (σ0 σ : L2.St) (B : Addr → Prop) (Q : List (V × V) → Hp → Prop), ER X.K F H σ0 ρ σ B →
  (∀ ds ρ' kvs F' H', R ds ρ' → Gd X.K F H F' H' σ0 ρ' σ B → RK X.K F' kvs ds → Q (kvs.map fun kv => (kV kv.1, kv.2)) H') → tPairs trs σ H Q
def uPNil : UP := fun ρ R => R [] ρ
def uPCons (uk uv : UE) (u : UP) : UP := fun ρ R => uk ρ fun r ρ1 => match r with
  | .val dk => ∃ k, keyD dk = some k ∧ uv ρ1 fun q ρ2 => wv ρ2 q fun d => u (frz ρ2 q) fun l ρ3 => R ((k, d) :: l) ρ3
  | _ => False
theorem fp_nil : FP X pos [] [] uPNil := ⟨[], pps_nil, fun ρ R q F H σ0 σ B Q E g => g [] ρ [] F H q ⟨.refl _ _ _, E⟩ .nil⟩
theorem fp_cons {k v : Expr} {ks : List (Option Expr)} {vs : List Expr} {uk uv : UE} {u : UP} (hk : FE X k uk) (hv : FE X v uv) (hr : FP X pos ks vs u) : FP X pos (some k :: ks) (v :: vs) (uPCons uk uv u) := by
  obtain ⟨trs, h1, h2⟩ := hr
  refine ⟨_, pps_cons pe_S pe_S h1, fun ρ R q F H σ0 σ B Q E g => ?_⟩
  refine hk ρ _ q F H σ0 σ B _ E fun r ρ1 x F1 H1 z G => ?_
  split at z
  case h_2 => exact z.elim
  rename_i dk
  obtain ⟨k, ek, z⟩ := z
  have rr : RD X.K F1 x dk := G.rr
  have ex := keyD_v (H := H1) (.inl rr) ek
  subst ex
  refine hv ρ1 _ z F1 H1 σ0 σ B _ G.er fun q ρ2 y F2 H2 z G2 => ?_
  obtain ⟨F3, d, n3, E3, rd, z⟩ := G2.er.freeze G2.rr z
  refine h2 _ _ z F3 H2 σ0 σ B _ E3 fun ds ρ4 kvs F4 H4 z G4 rk => ?_
  exact g _ _ ((k, y) :: kvs) F4 H4 z ⟨G.nx.trans (G2.nx.trans (n3.trans G4.nx)), G4.er⟩ (.cons (rd.mono G4.nx.fz) rk)
def uDisp (u : UP) : UE := fun ρ R => u ρ fun l ρ1 => l.length ≤ 15 ∧ R (.own (.dic (kmerge [] l))) ρ1
theorem fe_disp {keys : List (Option Expr)} {values : List Expr} {u : UP} (h : FP X pos keys values u) (hall : keys.all (·.isSome) = true := by rfl) (hl : keys.length = values.length := by rfl) (h0 : keys ≠ [] := by exact fun z => nomatch z)
    (h15 : keys.length ≤ 15 := by decide) : FE X (.Dict keys values pos) (uDisp u) := ⟨fun ρ R q F H σ0 σ B Q E g => by
  obtain ⟨trs, h1, h2⟩ := h
  refine to_S (pe_disp h1 hall hl h0 h15) fun p np => ?_
  have rr : RR X.K F (upd H p (.dK [])) ρ σ B (.own (.dic [])) (.ref p) := E.laid_own np (.dic upd_same .nil)
  have E1 : ER X.K F (upd H p (.dK [])) σ0 ρ σ B := E.laid np
  refine h2 ρ _ q F _ σ0 σ (hB B (.own (.dic [])) (.ref p)) _ (E1.hold rr) fun l ρ2 kvs F2 H2 ⟨z1, z2⟩ G2 rk => ?_
  have E2 := G2.er.unhold
  obtain ⟨a, ea, ro, n2, nb, ns⟩ := rr.held E1 G2.er G2.nx
  cases ea
  have hp : H2 p = some (.dK []) := (G2.nx.out p (.inr rfl)).trans upd_same
  refine ⟨hp, kvs, rfl, by rw [rk.len]; exact z1, ?_⟩
  have E3 : ER X.K F2 (upd H2 p (.dK (mergeK [] kvs))) σ0 ρ2 σ B := by
    refine ⟨E2.len, fun b u q => by rw [upd_ne (ne_of_none q n2)]; exact E2.sub b u q, E2.fz, fun i q d h => ?_, E2.inj, E2.par, fun b hb => ⟨?_, (E2.out b hb).2⟩⟩
    · obtain ⟨c, ec, ro', m, mb⟩ := E2.ow i q d h
      have hc : c ≠ p := fun z => by subst z; exact ns i q d h ec
      exact ⟨c, ec, ro'.keep (Same.refl _) (upd_ne hc), m, mb⟩
    · have hb' : b ≠ p := fun z => by subst z; exact nb hb
      rw [upd_ne hb']; exact (E2.out b hb).1
  refine g _ _ _ F2 _ z2 ⟨(nx_new E np).trans ((G2.nx.mono hB_sub).trans ⟨Same.refl _, fun b hb => upd_ne fun z => by subst z; exact nb hb⟩), E3, p, rfl, .dic upd_same (rk.merge .nil), n2, nb, ns⟩⟩

/-! ### d[k], k in d, d.get(k, x), d[k] = v -/
def oDGet (d e : D) (T : Rv → Prop) : Prop := match d with
  | .dic l => ∃ k x, keyD e = some k ∧ kget l k = some x ∧ T (.val x)
  | _ => False
theorem fe_dget (hu : X.A.units + 1 < cLine) (ho : FE X o uo) (hi : FE X e ue) (hs : NoSl e := by exact fun _ _ => rfl) : FE X (.Subscript o e pos) (uBin oDGet uo ue) := ⟨fun ρ R q F H σ0 σ B Q E g => by
  refine to_S (pe_dget hu pe_S pe_S hs) (FE.two ho hi q E (fun x y H2 => _) fun p q ρ2 x y F2 H2 t n2 E2 r1 r2 => ?_)
  obtain ⟨d, w1, t⟩ := E2.seen r1 t
  obtain ⟨e, w2, t⟩ := E2.seen (r2.weak hB_sub) t
  unfold oDGet at t
  split at t
  · obtain ⟨k, x', ek, eg, t⟩ := t
    obtain ⟨a, kvs, rfl, h1, rk⟩ := w1.dic E2.sub
    cases keyD_v w2 ek
    rcases rk.get (k := k) with ⟨_, z⟩ | ⟨v, d', z1, z2, rd⟩
    · rw [z] at eg; cases eg
    · rw [z2] at eg; cases eg
      refine ⟨a, v, rfl, ?_, g _ _ _ _ _ t ⟨n2, E2, rd⟩⟩
      rw [← z1]; exact .k h1
  · exact t.elim⟩
def oDIn (neg : Bool) (e d : D) (T : Rv → Prop) : Prop := match d with
  | .dic l => ∃ k, keyD e = some k ∧ T (.val (.bl (neg ^^ (kget l k).isSome)))
  | _ => False
theorem rk_some {K : PySem.W.Frag} {F : Hp} {k : Key} {vs : List (Key × V)} {ds : List (Key × D)} (h : RK K F vs ds) : (valV vs k).isSome = (kget ds k).isSome := by
  rcases h.get (k := k) with ⟨z1, z2⟩ | ⟨v, d', z1, z2, _⟩ <;> rw [z1, z2] <;> rfl
theorem din_run {neg : Bool} {R : Rv → List Sl → Prop} {Q : VK} {ρ : List Sl} {F H : Hp} {σ0 σ : L2.St} {B : Addr → Prop} (hi : FE X e ue) (ho : FE X o uo) (q : uBin (oDIn neg) ue uo ρ R) (E : ER X.K F H σ0 ρ σ B)
    (g : ∀ r ρ' v F' H', R r ρ' → Gt X.K F H F' H' σ0 ρ' σ B r v → Q v H') : tS X e σ H fun y H1 => tS X o σ H1 fun x H2 => ∃ a ov, x = .ref a ∧ DGet H2 a y ov ∧ Q (.bl (neg ^^ ov.isSome)) H2 :=
  FE.two hi ho q E (fun x y H2 => _) fun p q ρ2 x y F2 H2 t n2 E2 r1 r2 => by
    obtain ⟨d, w1, t⟩ := E2.seen r1 t
    obtain ⟨e, w2, t⟩ := E2.seen (r2.weak hB_sub) t
    unfold oDIn at t
    split at t
    · obtain ⟨k, ek, t⟩ := t
      obtain ⟨a, kvs, rfl, h1, rk⟩ := w2.dic E2.sub
      cases keyD_v w1 ek
      exact ⟨a, _, rfl, .k h1, by rw [rk_some rk]; exact g _ _ _ _ _ t ⟨n2, E2, .bl _⟩⟩
    · exact t.elim
theorem fe_din (hu : X.A.units + 1 < cLine) (hi : FE X e ue) (ho : FE X o uo) (h1 : behindInMarks .In o = false := by rfl) : FE X (.Compare e [.In] [o] pos) (uBin (oDIn false) ue uo) := ⟨fun ρ R q F H σ0 σ B Q E g =>
  to_S (pe_cmp (pc_din hu pe_S pe_S) h1) (fun pins s I => thn (din_run (Q := Q) hi ho q E g pins s I) fun v s1 ⟨y, H1, I1, r1, q1⟩ => ⟨y, H1, I1, r1, fun pins s I => thn (q1 pins s I) fun v s2 ⟨x, H2, I2, r2, a, ov, e1, e2, q2⟩ => ⟨x, H2, I2, r2, a, ov, e1, e2, by rw [Bool.false_xor] at q2; exact q2⟩⟩)⟩
theorem fe_dnotin (hu : X.A.units + 1 < cLine) (hi : FE X e ue) (ho : FE X o uo) (h1 : behindInMarks .NotIn o = false := by rfl) : FE X (.Compare e [.NotIn] [o] pos) (uBin (oDIn true) ue uo) := ⟨fun ρ R q F H σ0 σ B Q E g =>
  to_S (pe_cmp (pc_dnotin hu pe_S pe_S) h1) (fun pins s I => thn (din_run (Q := Q) hi ho q E g pins s I) fun v s1 ⟨y, H1, I1, r1, q1⟩ => ⟨y, H1, I1, r1, fun pins s I => thn (q1 pins s I) fun v s2 ⟨x, H2, I2, r2, a, ov, e1, e2, q2⟩ => ⟨x, H2, I2, r2, a, ov, e1, e2, by rw [Bool.true_xor] at q2; exact q2⟩⟩)⟩
theorem ft_din (hu : X.A.units + 1 < cLine) (hi : FE X e ue) (ho : FE X o uo) (h1 : behindInMarks .In o = false := by rfl) : FT X (.Compare e [.In] [o] pos) (fun ρ R => uBin (oDIn false) ue uo ρ (isB R)) := ⟨fun ρ R q F H σ0 σ B Q E g =>
  to_ST (pt_cmp (pc_din hu pe_S pe_S) h1) (fun pins s I => thn (din_run (Q := fun v H' => ∃ c, v = .bl c ∧ Q c H') hi ho q E (fun r ρ' v F' H' h G => by
    unfold isB at h
    split at h
    · rename_i c
      have rr : RD X.K F' v (.bl c) := G.rr
      cases rr
      exact ⟨c, rfl, g c ρ' F' H' h ⟨G.nx, G.er⟩⟩
    · exact h.elim) pins s I) fun v s1 ⟨y, H1, I1, r1, q1⟩ => ⟨y, H1, I1, r1, fun pins s I => thn (q1 pins s I) fun v s2 ⟨x, H2, I2, r2, a, ov, e1, e2, q2⟩ => ⟨x, H2, I2, r2, a, ov, e1, e2, by rw [Bool.false_xor] at q2; exact q2⟩⟩)⟩
theorem ft_dnotin (hu : X.A.units + 1 < cLine) (hi : FE X e ue) (ho : FE X o uo) (h1 : behindInMarks .NotIn o = false := by rfl) : FT X (.Compare e [.NotIn] [o] pos) (fun ρ R => uBin (oDIn true) ue uo ρ (isB R)) := ⟨fun ρ R q F H σ0 σ B Q E g =>
  to_ST (pt_cmp (pc_dnotin hu pe_S pe_S) h1) (fun pins s I => thn (din_run (Q := fun v H' => ∃ c, v = .bl c ∧ Q c H') hi ho q E (fun r ρ' v F' H' h G => by
    unfold isB at h
    split at h
    · rename_i c
      have rr : RD X.K F' v (.bl c) := G.rr
      cases rr
      exact ⟨c, rfl, g c ρ' F' H' h ⟨G.nx, G.er⟩⟩
    · exact h.elim) pins s I) fun v s1 ⟨y, H1, I1, r1, q1⟩ => ⟨y, H1, I1, r1, fun pins s I => thn (q1 pins s I) fun v s2 ⟨x, H2, I2, r2, a, ov, e1, e2, q2⟩ => ⟨x, H2, I2, r2, a, ov, e1, e2, by rw [Bool.true_xor] at q2; exact q2⟩⟩)⟩
/-- d.get(k, x) -/
def uDGet2 (uo ue uf : UE) : UE := fun ρ R => uo ρ fun r ρ1 => wv ρ1 r fun d => match d with
  | .dic _ => ue ρ1 fun q ρ2 => uf ρ2 fun s ρ3 => wv ρ3 r fun d => wv ρ3 q fun e => wv ρ3 s fun x => match d with
    | .dic l => ∃ k, keyD e = some k ∧ R (.val ((kget l k).getD x)) (frz ρ3 s)
    | _ => False
  | _ => False
theorem fe_dget2 (hu : X.A.units + 1 < cLine) (ho : FE X o uo) (he : FE X e ue) (hf : FE X f uf) (m : M2 X o "get" apos e f cpos := by exact ⟨rfl, rfl, rfl, rfl⟩) : FE X (.Call (.Attribute o "get" apos) [e, f] [] cpos) (uDGet2 uo ue uf) := ⟨fun ρ R q F H σ0 σ B Q E g => by
  refine to_S (pe_dget2 hu pe_S pe_S pe_S m) (ho ρ _ q F H σ0 σ B _ E fun r ρ1 x F1 H1 z G => ?_)
  obtain ⟨d, w, z⟩ := G.er.seen G.rr z
  split at z
  case h_2 => exact z.elim
  obtain ⟨a, kvs, rfl, h1, rk⟩ := w.dic G.er.sub
  refine ⟨a, rfl, .inl ⟨kvs, .inl h1⟩, he ρ1 _ z F1 H1 σ0 σ (hB B r (.ref a)) _ (G.er.hold G.rr) fun q ρ2 y F2 H2 z G2 => hf ρ2 _ z F2 H2 σ0 σ (hB (hB B r (.ref a)) q y) _ (G2.er.hold G2.rr) fun s ρ3 u F3 H3 z G3 => ?_⟩
  have E3' := G3.er.unhold
  have E3 := E3'.unhold
  have rr := G.rr.held G.er E3' (G2.nx.trans (G3.nx.mono hB_sub))
  have rq := (G2.rr.held G2.er G3.er G3.nx).weak hB_sub
  have rs : RR X.K F3 H3 ρ3 σ B s u := (G3.rr.weak hB_sub).weak hB_sub
  obtain ⟨d, w, z⟩ := E3.seen rr z
  obtain ⟨e, w2, z⟩ := E3.seen rq z
  obtain ⟨F4, x', n4, E4, rd4, z⟩ := E3.freeze rs z
  split at z
  case h_2 => exact z.elim
  obtain ⟨k, ek, z⟩ := z
  obtain ⟨a', kvs, ea, h1, rk⟩ := w.dic E3.sub
  cases ea
  cases keyD_v w2 ek
  have nn := G.nx.trans ((G2.nx.mono hB_sub).trans (((G3.nx.mono hB_sub).mono hB_sub).trans n4))
  refine ⟨_, .k h1, ?_⟩
  rcases rk.get (k := k) with ⟨z1, z2⟩ | ⟨v, d', z1, z2, rd⟩
  · rw [z2] at z; rw [z1]
    exact g _ _ _ F4 H3 z ⟨nn, E4, rd4⟩
  · rw [z2] at z; rw [z1]
    exact g _ _ _ F4 H3 z ⟨nn, E4, rd.mono n4.fz⟩⟩
/-- the dict that a slot holds as one's own -/
def ownK (ρ : List Sl) (r : Rv) (k : Nat → Bool → List (Key × D) → Prop) : Prop := match r with
  | .at i => match ρ[i]? with
    | some (.sl true p (.dic l)) => k i p l
    | _ => False
  | _ => False
theorem ownK_of {ρ : List Sl} {r : Rv} {k : Nat → Bool → List (Key × D) → Prop} (h : ownK ρ r k) : ∃ i p l, r = .at i ∧ ρ[i]? = some (.sl true p (.dic l)) ∧ k i p l := by
  unfold ownK at h
  split at h
  · split at h
    · exact ⟨_, _, _, rfl, ‹_›, h⟩
    · exact h.elim
  · exact h.elim
def uPutK (uv uo ui : UE) : US := fun E ρ => uv ρ fun r ρ1 => wv ρ1 r fun d => uo (frz ρ1 r) fun q ρ2 => ui ρ2 fun s ρ3 => wv ρ3 s fun e => ownK ρ3 q fun i p l => ∃ k, keyD e = some k ∧ l.length < sizeLine ∧ E.nx (ρ3.set i (.sl true p (.dic (kput l k d))))
theorem fs_putK {v i : Expr} {uv ui : UE} {pos' : Pos} (hu : X.A.units + 1 < cLine) (hv : FE X v uv) (ho : FE X o uo) (hi : FE X i ui) (hs : swapsWith v (some (.Subscript o i pos')) pos.line X.env = pure false := by rfl) : FS X (.Assign [.Subscript o i pos'] v pos) (uPutK uv uo ui) := ⟨fun E ρ q F H σ0 σ B D er f => by
  refine to_SS (ps_dput hu pe_S pe_S pe_S hs) (hv ρ _ q F H σ0 σ B _ er fun r ρ1 x F1 H1 z G => ?_)
  obtain ⟨F2, d, n2, E2, rd, z⟩ := G.er.freeze G.rr z
  refine ho _ _ z F2 H1 σ0 σ B _ E2 fun q ρ2 y F3 H3 z G3 => hi ρ2 _ z F3 H3 σ0 σ (hB B q y) _ (G3.er.hold G3.rr) fun s ρ3 w F4 H4 z G4 => ?_
  have E4 := G4.er.unhold
  have rq := G3.rr.held G3.er G4.er G4.nx
  obtain ⟨e, we, z⟩ := E4.seen (G4.rr.weak hB_sub) z
  obtain ⟨i, p, l, rfl, e1, k, ek, hl, z⟩ := ownK_of z
  have si : σ[i]? = some (some y) := rq
  obtain ⟨a, e2, ro, _⟩ := E4.ow i p _ e1
  rw [si] at e2; cases e2
  cases ro with
  | @dic _ kvs _ h1 rk =>
    cases keyD_v we ek
    have rd4 := rd.mono (G3.nx.fz.trans G4.nx.fz)
    obtain ⟨E5, n5⟩ := E4.wrote e1 si (o := .dK (putK kvs k x)) (e := .dic (kput l k d)) (.dic upd_same (rk.put rd4))
    exact ⟨a, _, rfl, .k h1 (by rw [rk.len]; exact hl), f.nx _ _ F4 _ z ⟨G.nx.trans (n2.trans (G3.nx.trans ((G4.nx.mono hB_sub).trans n5))), E5⟩⟩⟩
end
end YP
set_option maxRecDepth 100000
set_option maxHeartbeats 1000000
/-! The yard's pure layer, part 10: (i, x) < (j, y); calls without arguments; a pure promise as one over the heap; slices up to. -/
namespace YP
open PySem PySem.Spec PyProof.Rows L2
def oLtIS (d e : D) (T : Rv → Prop) : Prop := match d, e with
  | .tup [.int i, .str u], .tup [.int j, .str v] => T (.val (.bl (if i = j then decide (u.cps.toList < v.cps.toList) else decide (i < j))))
  | _, _ => False
theorem rl_is {K : PySem.W.Frag} {F : Hp} {vs : List V} {i : Int} {u : Str} (h : RL K F vs [.int i, .str u]) : vs = [.int i, .str u] := by
  cases h with
  | cons a r =>
    cases a
    cases r with
    | cons b r =>
      cases b
      cases r
      rfl
theorem os_ltIS {X : Cx} (hu : X.A.units < cLine) : OpS X (compareOp .Lt) oLtIS := .of (Yard.op_ltIS hu) fun {F H σ0 σ ρ B x y d e T Q} E w1 w2 t g => by
  unfold oLtIS at t
  split at t
  · obtain ⟨a, us, rfl, h1, l1⟩ := w1.tup E.sub
    obtain ⟨b, vs, rfl, h2, l2⟩ := w2.tup E.sub
    cases rl_is l1
    cases rl_is l2
    exact ⟨a, b, _, _, _, _, rfl, rfl, h1, h2, gt_val E g t (.bl _)⟩
  · exact t.elim
/-- f(), which tells a constant -/
theorem fe_call0c {X : Cx} {CX : CXT} {k : Nat} {f : Addr} {fd : FuncData} {sp : Sp} {x : Str} {p pos : Pos} {v : V} {d : D} (Fn : FnOk X.prog X.w X.K X.mg X.base CX k f fd [] sp) (hr : Room k X.A) (hg : Gl X x) (hm : X.mg x = some (.ref f)) (hk : PySem.W.keepIn X.K (.ref f) = true) (hb : Binds X.K fd [] [])
    (hx : Passes CX X fun _ _ _ => False) (hsp : ∀ (H : Hp) (Q : VK), Q v H → sp [] H Q (fun _ _ _ => False)) (rd : ∀ F, RD X.K F v d) (hdb : (x == ("__debug__" : Str)) = false := by decide) : FE X (.Call (.Name x p) [] [] pos) (uC d) := ⟨fun ρ R q F H σ0 σ B Q E g =>
  to_S (pe_call0 (E := fun _ _ _ => False) Fn hr hg hm hk hb .nil hx hdb) (hsp H _ (g _ ρ v F H q ⟨.refl _ _ _, E, rd F⟩))⟩
/-! ### a pure promise over the heap -/
def RWv (K : PySem.W.Frag) (F H : Hp) : Rv → V → Prop
  | .val d, v => RD K F v d
  | .own d, v => ∃ a, v = .ref a ∧ RO K F H v d ∧ F a = none
  | .at _, _ => False
def OSp (K : PySem.W.Frag) (n : Nat) (u : UF) : Sp := fun vs H Q _ => ∃ (ds : List D) (R : Rv → List Sl → Prop), vs.length = n ∧ RL K H vs ds ∧ u (ds.map fun d => Sl.sl false false d) R ∧
  ∀ r ss v F' H', R r ss → Same H F' → Same F' H' → RWv K F' H' r v → Q v H'
theorem old_of {P : Program} {w : World} {K : PySem.W.Frag} {mg : Str → Option Value} {base : Heap} {CX : CXT} {k n : Nat} {f : Addr} {fd : FuncData} {ps : List Str} {u : UF} (Fn : FnOk P w K mg base CX k f fd ps (PSp K n u)) : FnOk P w K mg base CX k f fd ps (OSp K n u) := by
  refine Fn.imp fun vs H Q E ⟨ds, R, hl, l, hu, g⟩ => ?_
  refine ⟨ds.map fun d => Sl.sl false false d, H, fun _ => False, R, by rw [List.length_map, ← l.len]; exact hl, hl, ?_, hu, fun r ρ' v F' H' hr nx er rr na => g r ρ' v F' H' hr nx.fz er.sub ?_⟩
  · have at_ : ∀ (i : Nat) o p d, (ds.map fun d => Sl.sl false false d)[i]? = some (Sl.sl o p d) → o = false ∧ p = false ∧ ds[i]? = some d := fun i o p d h => by
      rw [List.getElem?_map] at h
      obtain ⟨e, he, z⟩ := Option.map_eq_some_iff.mp h
      cases z
      exact ⟨rfl, rfl, he⟩
    refine ⟨by rw [List.length_map, List.length_map, l.len], Same.refl _, fun i p d h => ?_, fun i p d h => ?_, fun i j a p q d e h _ _ _ => ?_, fun i o d h => ?_, fun a h => h.elim⟩
    · obtain ⟨v, hv, rd⟩ := l.got (at_ _ _ _ _ h).2.2
      exact ⟨v, by rw [List.getElem?_map, hv]; rfl, rd⟩
    · exact nomatch (at_ _ _ _ _ h).1
    · exact nomatch (at_ _ _ _ _ h).1
    · exact nomatch (at_ _ _ _ _ h).2.1
  · cases r with
    | val d => exact rr
    | own d =>
      obtain ⟨a, e, ro, n, _⟩ := rr
      exact ⟨a, e, ro, n⟩
    | «at» i => exact na i rfl
theorem ycut_to {α : Type} (xs : List α) (k : Nat) : YP.cut xs none (some (k : Int)) = xs.take k := by
  unfold YP.cut
  rw [HT.sIx_nat, HT.sIx_none, List.drop_zero, Nat.sub_zero]
  rcases Nat.le_total k xs.length with h | h
  · rw [Nat.min_eq_left h]
  · rw [Nat.min_eq_right h, List.take_length, List.take_of_length_le h]
end YP
set_option maxRecDepth 100000
set_option maxHeartbeats 1000000
/-! The yard's pure layer, part 11: calls without arguments, insert. -/
namespace YP
open PySem PySem.Spec PyProof.Rows L2
/-- f() -/
theorem fe_call0 {X : Cx} {pf pos : Pos} {x : Str} {u : UF} {k : Nat} {f : Addr} {fd : FuncData} (Fn : FnOk X.prog X.w X.K X.mg X.base CX0 k f fd [] (PSp X.K 0 u)) (hr : Room k X.A) (hg : Gl X x) (hm : X.mg x = some (.ref f)) (hk : PySem.W.keepIn X.K (.ref f) = true) (hb : Binds X.K fd [] [])
    (hdb : (x == ("__debug__" : Str)) = false := by decide) : FE X (.Call (.Name x pf) [] [] pos) (uCall u uRNil) := ⟨fun ρ R q F H σ0 σ B Q E g => by
  obtain ⟨n1, z⟩ := q
  refine to_S (pe_call0 (E := fun _ _ _ => False) Fn hr hg hm hk hb .nil pass0 hdb) ?_
  refine ⟨_, F, bB B ρ σ [], _, rfl, rfl, E.into (rs := []) (vs := []) trivial n1, z, fun r ss v F' H' y nx E' rr na => ?_⟩
  have G' := E.behind (rs := []) (vs := []) trivial n1 nx E' rr na
  exact g r _ v F' H' y ⟨G'.nx, G'.er, G'.rr⟩⟩
/-! ### o.f, of an object that is data -/
theorem RF.lookup {K : PySem.W.Frag} {F : Hp} {f : Str} {d : D} : ∀ {vs : List (Str × V)} {ds : List (Str × D)}, RF K F vs ds → ds.lookup f = some d → ∃ v, vs.lookup f = some v ∧ RD K F v d
  | _, _, .nil, h => nomatch h
  | _, _, .cons (k := x) r t, h => by
    unfold List.lookup at h ⊢
    cases e : f == x with
    | true => rw [e] at h; cases h; exact ⟨_, rfl, r⟩
    | false => rw [e] at h; exact t.lookup h
def uFld (C : Addr) (f : Str) (ue : UE) : UE := fun ρ R => ue ρ fun r ρ1 => wv ρ1 r fun d => ∃ fs x, d = .obj C fs ∧ fs.lookup f = some x ∧ R (.val x) ρ1
theorem fe_fld {X : Cx} {e : Expr} {ue : UE} {C : Addr} {f : Str} {pos : Pos} (hc : Cls X.K C) (hn : NoAttr X.K C f) (he : FE X e ue) (hb : attributeBase e f X.env (eval e X.env) = eval e X.env := by rfl) : FE X (.Attribute e f pos) (uFld C f ue) := ⟨fun ρ R q F H σ0 σ B Q E g => by
  refine to_S (pe_fld pe_S hb) (he ρ _ q F H σ0 σ B _ E fun r ρ1 v F1 H1 z G => ?_)
  obtain ⟨d, w, fs, x, rfl, hl, z⟩ := G.er.seen G.rr z
  obtain ⟨a, dx, fv, rfl, h1, rf⟩ := w.obj G.er.sub
  obtain ⟨y, e, rd⟩ := rf.lookup hl
  exact ⟨a, C, dx, fv, y, rfl, h1, hc, hn, e, g (.val x) ρ1 y F1 H1 z ⟨G.nx, G.er, rd⟩⟩⟩
/-! ### o.m(e, ..) -/
def uMeth (C : Addr) (m : Str) (u : UF) (ue : UE) (ua : UR) : UE := fun ρ R => ue ρ fun r ρ1 => wv ρ1 r fun d => ∃ fs, d = .obj C fs ∧ fs.lookup m = none ∧
  ua ρ1 fun rs ρ2 => (ats (r :: rs)).Nodup ∧ u ((r :: rs).map (slOf ρ2)) fun q ss => R q (wb ρ2 (r :: rs) ss)
theorem RF.no {K : PySem.W.Frag} {F : Hp} {f : Str} : ∀ {vs : List (Str × V)} {ds : List (Str × D)}, RF K F vs ds → ds.lookup f = none → vs.lookup f = none
  | _, _, .nil, _ => rfl
  | _, _, .cons (k := x) r t, h => by
    unfold List.lookup at h ⊢
    cases e : f == x with
    | true => rw [e] at h; cases h
    | false => rw [e] at h; exact t.no h
theorem fe_meth {X : Cx} {o e : Expr} {es : List Expr} {uo : UE} {ua : UR} {u : UF} {C : Addr} {m : Str} {k : Nat} {f : Addr} {fd : FuncData} {ps : List Str} {pos apos : Pos} {pl : Sem Bool} (hc : Cls X.K C) (hm : Meth X.K C m f) (Fn : FnOk X.prog X.w X.K X.mg X.base CX0 k f fd ps (PSp X.K ps.length u)) (hr : Room k X.A) (hb : Binds X.K fd ps [])
    (ho : FE X o uo) (ha : FR X (e :: es) ua) (hn : (e :: es).length + 1 = ps.length := by rfl)
    (hst : starEach (e :: es) X.env = (false, eval e X.env) :: starEach es X.env := by rfl) (hpl : (backTo pos (starEach es X.env)).any (·.1) = false := by rfl)
    (ht : eval (.Call (.Attribute o m apos) (e :: es) [] pos) X.env = (do
      let ov ← eval o X.env
      standAt apos.atName
      let (f, first) ← holding [ov] (getMethod ov m pl)
      callWith pos f first (backTo pos (starEach (e :: es) X.env)) (backToKw pos (keywordEach [] X.env))) := by rfl) :
    FE X (.Call (.Attribute o m apos) (e :: es) [] pos) (uMeth C m u uo ua) := ⟨fun ρ R q F H σ0 σ B Q E g => by
  refine to_S (pe_meth (E := fun _ _ _ => False) pe_S hc hm Fn hr hb .nil pass0 pa_S hst hpl ht) (ho ρ _ q F H σ0 σ B _ E fun r ρ1 v F1 H1 z G => ?_)
  obtain ⟨d, w, fs, rfl, hl, z⟩ := G.er.seen G.rr z
  obtain ⟨a, dx, fv, rfl, h1, rf⟩ := w.obj G.er.sub
  refine ⟨a, dx, fv, rfl, h1, rf.no hl, ha ρ1 _ z F1 H1 σ0 σ (hB B r (.ref a)) _ (G.er.hold G.rr) fun rs ρ2 vs F2 H2 ⟨n1, z2⟩ G2 l ll => ?_⟩
  have E2 := G2.er.unhold
  have L : RRs X.K F2 H2 ρ2 σ B (r :: rs) (V.ref a :: vs) := ⟨G.rr.held G.er G2.er G2.nx, l⟩
  have lv := l.len
  have ln : (r :: rs).length = ps.length := by rw [← hn]; show rs.length + 1 = _; rw [ll]
  refine ⟨_, F2, bB B ρ2 σ (r :: rs), _, by rw [List.length_map]; exact ln, by show (vs ++ []).length + 1 = _; rw [List.append_nil, ← lv, ll]; exact hn, ?_, z2, fun q' ss y F' H' hy nx E' rr na => ?_⟩
  · rw [List.append_nil]; exact E2.into L n1
  · rw [List.append_nil] at E' rr
    have G' := E2.behind L n1 nx E' rr na
    exact g q' _ y F' H' hy ⟨G.nx.trans ((G2.nx.mono hB_sub).trans G'.nx), G'.er, G'.rr⟩⟩
end YP
set_option maxRecDepth 100000
set_option maxHeartbeats 1000000
/-! The yard's pure layer, part 12: what is raised and caught. -/
namespace YP
open PySem PySem.Spec PyProof.Rows L2
/-- the ends, and what is raised: its class, its fields -/
structure EnX where
  en : En
  xc : Addr → List (Str × D) → List Sl → Prop
abbrev USX := EnX → List Sl → Prop
structure FolX (K : PySem.W.Frag) (F H : Hp) (σ0 : L2.St) (B : Addr → Prop) (E : EnX) (D : Ends) (W : WX) : Prop where
  fol : Fol K F H σ0 B E.en D
  xc : ∀ C fs ρ' σ' F' H' dd vfs, E.xc C fs ρ' → Gd K F H F' H' σ0 ρ' σ' B → F' dd = some (.xd vfs) → RF K F' vfs fs → W (.ref C) (some dd) σ' H'
theorem FolX.on {K : PySem.W.Frag} {F H F1 H1 : Hp} {σ0 : L2.St} {B : Addr → Prop} {E : EnX} {D : Ends} {W : WX} (f : FolX K F H σ0 B E D W) (n : Nx F H F1 H1 B) : FolX K F1 H1 σ0 B E D W :=
  ⟨f.fol.on n, fun C fs ρ' σ' F' H' dd vfs e G => f.xc C fs ρ' σ' F' H' dd vfs e ⟨n.trans G.nx, G.er⟩⟩
structure FSX (X : Cx) (st : Stmt) (u : USX) : Prop where
  run : ∀ (W : WX), Takes X W → ∀ (E : EnX) (ρ : List Sl), u E ρ → ∀ (F H : Hp) (σ0 σ : L2.St) (B : Addr → Prop) (D : Ends), ER X.K F H σ0 ρ σ B → FolX X.K F H σ0 B E D W → tSS X st D σ H
structure FBX (X : Cx) (sts : List Stmt) (u : USX) : Prop where
  run : ∀ (W : WX), Takes X W → ∀ (E : EnX) (ρ : List Sl), u E ρ → ∀ (F H : Hp) (σ0 σ : L2.St) (B : Addr → Prop) (D : Ends), ER X.K F H σ0 ρ σ B → FolX X.K F H σ0 B E D W → tBs X sts D σ H
abbrev UEX := List Sl → (Rv → List Sl → Prop) → (Addr → List (Str × D) → List Sl → Prop) → Prop
structure FEX (X : Cx) (e : Expr) (u : UEX) : Prop where
  run : ∀ (W : WX), Takes X W → ∀ (ρ : List Sl) (R : Rv → List Sl → Prop) (RX : Addr → List (Str × D) → List Sl → Prop), u ρ R RX → ∀ (F H : Hp) (σ0 σ : L2.St) (B : Addr → Prop) (Q : VK), ER X.K F H σ0 ρ σ B →
    (∀ r ρ' v F' H', R r ρ' → Gt X.K F H F' H' σ0 ρ' σ B r v → Q v H') →
    (∀ C fs ρ' F' H' dd vfs, RX C fs ρ' → Gd X.K F H F' H' σ0 ρ' σ B → F' dd = some (.xd vfs) → RF X.K F' vfs fs → W (.ref C) (some dd) σ H') → tS X e σ H Q
section
variable {X : Cx} {st : Stmt} {rest body : List Stmt} {t u : USX} {e : Expr} {pos : Pos}
def uLift (u : US) : USX := fun E ρ => u E.en ρ
theorem fx {u : US} (h : FS X st u) : FSX X st (uLift u) := ⟨fun W tk E ρ q F H σ0 σ B D er f => h E.en ρ q F H σ0 σ B D er f.fol⟩
theorem fbx {u : US} (h : FB X rest u) : FBX X rest (uLift u) := ⟨fun W tk E ρ q F H σ0 σ B D er f => h E.en ρ q F H σ0 σ B D er f.fol⟩
def uSeqX (t u : USX) : USX := fun E ρ => t ⟨{ E.en with nx := u E }, E.xc⟩ ρ
theorem fbx_nil : FBX X [] (uLift uNext) := fbx fb_nil
theorem fbx_cons (h1 : FSX X st t) (h2 : FBX X rest u) : FBX X (st :: rest) (uSeqX t u) := ⟨fun W tk E ρ q F H σ0 σ B D er f =>
  to_Bs (pss_cons ps_S pss_S) (h1.run W tk _ ρ q F H σ0 σ B _ er ⟨⟨fun ρ' σ' F' H' z G => h2.run W tk E ρ' z F' H' σ0 σ' B D G.er (f.on G.nx), f.fol.rt, f.fol.bk, f.fol.ct⟩, f.xc⟩)⟩
theorem fbx_one (h1 : FSX X st t) : FBX X [st] t := ⟨fun W tk E ρ q F H σ0 σ B D er f => to_Bs (pss_one ps_S) (h1.run W tk E ρ q F H σ0 σ B D er f)⟩
def uIfX (c : UT) (t u : USX) : USX := fun E ρ => c ρ fun b ρ1 => if b = true then t E ρ1 else u E ρ1
theorem fsx_if {c : Expr} {a b : List Stmt} {tc : UT} (hc : FT X c tc) (ha : FBX X a t) (hb : FBX X b u) : FSX X (.If c a b pos) (uIfX tc t u) := ⟨fun W tk E ρ q F H σ0 σ B D er f => by
  refine to_SS (ps_if pt_S pss_S pss_S) (hc ρ _ q F H σ0 σ B _ er fun c ρ1 F1 H1 z G => ?_)
  cases c with
  | true => exact ha.run W tk E ρ1 z F1 H1 σ0 σ B D G.er (f.on G.nx)
  | false => exact hb.run W tk E ρ1 z F1 H1 σ0 σ B D G.er (f.on G.nx)⟩
def uForX (w : UI) (g : UG) (tb : USX) : USX := fun E ρ => w ρ fun ds ρ1 => ∃ W : Nat → List Sl → Prop, W 0 ρ1 ∧ (∀ i d ρ, ds[i]? = some d → W i ρ →
  g d ρ fun ρ2 => tb ⟨{ E.en with nx := W (i + 1), ct := W (i + 1), bk := E.en.nx }, E.xc⟩ ρ2) ∧ ∀ ρ, W ds.length ρ → E.en.nx ρ
theorem fsx_for {tg iter : Expr} {w : UI} {g : UG} (hp : PassesOwn (model X.prog X.w) X.A X.env X.xe) (hc : X.calm = true) (hi : FI X tg iter w) (hg : FG X none tg g) (hb : FBX X body t)
    (hs : ∀ x, foldedSetIterable iter X.env x = pure x := by intro _; rfl) : FSX X (.For tg iter body [] pos) (uForX w g t) := ⟨fun WX tk E ρ q F H σ0 σ B D er f => by
  refine to_SS (ps_for hp hc pi_S pg_S pss_S hs) (hi ρ _ q F H σ0 σ B _ er fun ds ρ1 J F1 H1 ⟨W, w0, turn, done⟩ G1 wd => ?_)
  refine for_it wd (fun i σ' H' => ∃ ρ' F', W i ρ' ∧ Gd X.K F1 H1 F' H' σ0 ρ' σ' B) ⟨ρ1, F1, w0, .refl _ _ _, G1.er⟩ (fun i σ' H' _ ⟨ρ', F', _, G⟩ => G.nx.fz.trans G.er.sub) ?_ (fun σ' H' ⟨ρ', F', w', G⟩ => f.fol.nx ρ' σ' F' H' (done ρ' w') ⟨G1.nx.trans G.nx, G.er⟩)
  rintro i x σ2 H2 H3 hi ⟨ρ2, F2, w2, G2⟩ y
  obtain ⟨d, F3, e, G3, rd⟩ := yd_er G2.er G2.nx.fz y
  refine hg d ρ2 _ (turn i d ρ2 e w2) F3 H3 σ0 σ2 B x _ G3.er rd fun ρ4 σ4 F4 H4 z G4 _ => ?_
  have n4 := G2.nx.trans (G3.nx.trans G4.nx)
  have f4 := f.on (G1.nx.trans n4)
  exact hb.run WX tk _ ρ4 z F4 H4 σ0 σ4 B _ G4.er ⟨⟨fun ρ' σ' F' H' w' G => ⟨ρ', F', w', n4.trans G.nx, G.er⟩, f4.fol.rt, f4.fol.nx, fun ρ' σ' F' H' w' G => ⟨ρ', F', w', n4.trans G.nx, G.er⟩⟩, f4.xc⟩⟩
def uWhileX (c : UT) (tb : USX) : USX := fun E ρ => ∃ W : Nat → List Sl → Prop, (∃ m, W m ρ) ∧ ∀ m ρ, W m ρ →
  c ρ fun b ρ1 => if b = true then tb ⟨{ E.en with nx := fun ρ2 => ∃ m', m' < m ∧ W m' ρ2, ct := fun ρ2 => ∃ m', m' < m ∧ W m' ρ2, bk := E.en.nx }, E.xc⟩ ρ1 else E.en.nx ρ1
theorem fsx_while {c : Expr} {tc : UT} (hp : PassesOwn (model X.prog X.w) X.A X.env X.xe) (hc : FT X c tc) (hb : FBX X body t) : FSX X (.While c body [] pos) (uWhileX tc t) := ⟨fun WX tk E ρ q F H σ0 σ B D er f => by
  obtain ⟨W, ⟨m0, w0⟩, turn⟩ := q
  refine to_SS (ps_while hp pt_S pss_S) ⟨fun m σ' H' => ∃ ρ' F', W m ρ' ∧ Gd X.K F H F' H' σ0 ρ' σ' B, ⟨m0, ρ, F, w0, .refl _ _ _, er⟩, ?_⟩
  rintro m σ1 H1 ⟨ρ1, F1, w1, G1⟩
  refine hc ρ1 _ (turn m ρ1 w1) F1 H1 σ0 σ1 B _ G1.er fun b ρ2 F2 H2 z G2 => ?_
  cases b with
  | false => exact f.fol.nx ρ2 σ1 F2 H2 z ⟨G1.nx.trans G2.nx, G2.er⟩
  | true =>
    refine ⟨fun σ' H' => ∃ m', m' < m ∧ ∃ ρ' F', W m' ρ' ∧ Gd X.K F H F' H' σ0 ρ' σ' B, fun σ' H' h => h, ?_⟩
    have n2 := G1.nx.trans G2.nx
    have f2 := f.on n2
    exact hb.run WX tk _ ρ2 z F2 H2 σ0 σ1 B _ G2.er ⟨⟨fun ρ' σ' F' H' ⟨m', l, w⟩ G => ⟨m', l, ρ', F', w, n2.trans G.nx, G.er⟩, f2.fol.rt, f2.fol.nx, fun ρ' σ' F' H' ⟨m', l, w⟩ G => ⟨m', l, ρ', F', w, n2.trans G.nx, G.er⟩⟩, f2.xc⟩⟩

/-! ### expressions that may raise -/
def uLE (u : UE) : UEX := fun ρ R _ => u ρ R
theorem fex {u : UE} (h : FE X e u) : FEX X e (uLE u) := ⟨fun W tk ρ R RX q F H σ0 σ B Q E g _ => h ρ R q F H σ0 σ B Q E g⟩
def uSetX (i : Nat) (ue : UEX) : USX := fun E ρ => ue ρ (fun r ρ1 => put ρ1 i r E.en.nx) E.xc
theorem fsx_set {i : Nat} {ue : UEX} (h : PS X st (tAsg (tS X e) (gName i))) (he : FEX X e ue) : FSX X st (uSetX i ue) := ⟨fun W tk E ρ q F H σ0 σ B D er f =>
  to_SS h (he.run W tk ρ _ _ q F H σ0 σ B _ er (fun r ρ1 v F1 H1 z G => by
    obtain ⟨F2, ρ2, n2, er2, z⟩ := G.er.put G.rr z
    exact f.fol.nx ρ2 _ F2 H1 z ⟨G.nx.trans n2, er2⟩) fun C fs ρ' F' H' dd vfs z G => f.xc C fs ρ' σ F' H' dd vfs z G)⟩
def uRetX (ue : UEX) : USX := fun E ρ => ue ρ E.en.rt E.xc
theorem fsx_ret {ue : UEX} (he : FEX X e ue) : FSX X (.Return (some e) pos) (uRetX ue) := ⟨fun W tk E ρ q F H σ0 σ B D er f =>
  to_SS (ps_ret pe_S) (he.run W tk ρ _ _ q F H σ0 σ B _ er (fun r ρ1 v F1 H1 z G => f.fol.rt r ρ1 v σ F1 H1 z G) fun C fs ρ' F' H' dd vfs z G => f.xc C fs ρ' σ F' H' dd vfs z G)⟩
def uDropX (ue : UEX) : USX := fun E ρ => ue ρ (fun _ ρ1 => E.en.nx ρ1) E.xc
theorem fsx_expr {ue : UEX} (he : FEX X e ue) (hs : swapsWith e none pos.line X.env = pure false := by rfl) : FSX X (.Expr e pos) (uDropX ue) := ⟨fun W tk E ρ q F H σ0 σ B D er f =>
  to_SS (ps_expr pe_S hs) (he.run W tk ρ _ _ q F H σ0 σ B _ er (fun r ρ1 v F1 H1 z G => f.fol.nx ρ1 σ F1 H1 z ⟨G.nx, G.er⟩) fun C fs ρ' F' H' dd vfs z G => f.xc C fs ρ' σ F' H' dd vfs z G)⟩
/-- the promise of a def that may raise -/
abbrev UFX := List Sl → (Rv → List Sl → Prop) → (Addr → List (Str × D) → List Sl → Prop) → Prop
def PSpX (K : PySem.W.Frag) (n : Nat) (u : UFX) : Sp := fun vs H Q E => ∃ ρ F B R RX, ρ.length = n ∧ vs.length = n ∧ ER K F H [] ρ (vs.map some) B ∧ u ρ R RX ∧
  (∀ r ρ' v F' H', R r ρ' → Nx F H F' H' B → ER K F' H' [] ρ' (vs.map some) B → RR K F' H' ρ' (vs.map some) B r v → (∀ i, r ≠ .at i) → Q v H') ∧
  ∀ C fs ρ' dd vfs F' H', RX C fs ρ' → Nx F H F' H' B → ER K F' H' [] ρ' (vs.map some) B → F' dd = some (.xd vfs) → RF K F' vfs fs → E (.ref C) (some dd) H'
def uCallX (u : UFX) (ua : UR) : UEX := fun ρ R RX => ua ρ fun rs ρ1 => (ats rs).Nodup ∧ u (rs.map (slOf ρ1)) (fun r ss => R r (wb ρ1 rs ss)) fun C fs ss => RX C fs (wb ρ1 rs ss)
theorem fex_call {ea : Expr} {es : List Expr} {pf pos : Pos} {x : Str} {u : UFX} {ua : UR} {k : Nat} {f : Addr} {fd : FuncData} {ps : List Str} (Fn : FnOk X.prog X.w X.K X.mg X.base (L2.CX X.prog X.w) k f fd ps (PSpX X.K ps.length u)) (hr : Room k X.A) (hg : Gl X x) (hm : X.mg x = some (.ref f)) (hk : PySem.W.keepIn X.K (.ref f) = true) (hb : Binds X.K fd ps [])
    (ha : FR X (ea :: es) ua) (hn : (ea :: es).length = ps.length := by rfl) (hdb : (x == ("__debug__" : Str)) = false := by decide) (he : starEach (ea :: es) X.env = (false, eval ea X.env) :: starEach es X.env := by rfl) (hpl : (backTo pos (starEach es X.env)).any (·.1) = false := by rfl) :
    FEX X (.Call (.Name x pf) (ea :: es) [] pos) (uCallX u ua) := ⟨fun W tk ρ R RX q F H σ0 σ B Q E g gx => by
  refine to_S (pe_callS Fn hr hg hm hk hb (E := WE W) (fun σ => passAt tk σ) pa_S hdb he hpl) (ha ρ _ q F H σ0 σ B _ E fun rs ρ1 vs F1 H1 ⟨n1, z⟩ G l ll => ?_)
  have ln := ll.trans hn
  have lv := l.len
  refine ⟨_, F1, bB B ρ1 σ rs, _, _, by rw [List.length_map]; exact ln, by rw [← lv, ln], G.er.into l n1, z, fun r ss v F' H' y nx E' rr na => ?_, fun C fs ss dd vfs F' H' y nx E' fd rf => ?_⟩
  · have G' := G.er.behind l n1 nx E' rr na
    exact g r _ v F' H' y ⟨G.nx.trans G'.nx, G'.er, G'.rr⟩
  · have G' := G.er.behind (r := .val .non) (v := .non) l n1 nx E' (show RD X.K F' .non .non from .non) (fun _ z => nomatch z)
    exact gx C fs _ F' H' dd vfs y ⟨G.nx.trans G'.nx, G'.er⟩ fd rf⟩
end
/-! ### a def that may raise -/
def enEndX (n : Nat) (R : Rv → List Sl → Prop) (RX : Addr → List (Str × D) → List Sl → Prop) : EnX := ⟨enEnd n R, fun C fs ρe => RX C fs (back n ρe)⟩
section
variable {P : Program} {w : World} {K : PySem.W.Frag} {mg : Str → Option Value} {base : Heap}
theorem fn_mkx {x qual : Str} {st : Stmt} {f : Addr} {fd : FuncData} {N ps : List Str} {k : Nat} {u : UFX} (Fn : Fun K x qual st f fd) (S : FnScope N ps (defScope st)) (hN : ps.length ≤ N.length)
    (body : ∀ (cdv : Value) (A : Around) (outer : List Env) (s : Shared) (H : Hp) (E : XK), Room k (A.deeper (envOfC qual (defScope st) s.heap.objs.size f cdv)) →
      ∃ ub, FBX (cxOf (L2.CX P w) P w K mg base N qual (defScope st) f cdv A outer s H E) (defBody st) ub ∧ ∀ ρ R RX, ρ.length = ps.length → u ρ R RX → ub (enEndX ps.length R RX) (enter N.length ρ)) : FnOk P w K mg base (L2.CX P w) (k + 1) f fd ps (PSpX K ps.length u) := by
  refine Fn.okX S (fun vs H Q E h => ?_) fun cdv A outer s H vs Q E hr h => ?_
  · obtain ⟨ρ, F, B, R, RX, _, l, _⟩ := h; exact l
  · obtain ⟨ρ, F, B, R, RX, l1, l2, er, hu, g, gx⟩ := h
    obtain ⟨ub, hub, go⟩ := body cdv A outer s H E hr
    have hn : ps.length = (vs.map some).length := by rw [List.length_map]; exact l2.symm
    refine ⟨_, pss_S, hub.run (fun cls d _ H => E cls d H) (takes_of rfl rfl rfl rfl) _ _ (go ρ R RX l1 hu) F H (vs.map some) _ B _ er.enter ⟨⟨fun ρ' σ' F' H' e G => ?_, fun r ρ' v σ' F' H' e G => ?_, fun _ _ _ _ e _ => e.elim, fun _ _ _ _ e _ => e.elim⟩, fun C fs ρ' σ' F' H' dd vfs e G fd rf => ?_⟩⟩
    · exact g _ _ _ F' H' e G.nx (G.er.back hn) .non (fun _ z => nomatch z)
    · obtain ⟨F2, r2, ρ2, hk, nx, er2, rr2, na⟩ := fin_ok (k := fun r ρ2 => R r (YP.back ps.length ρ2)) G.er G.rr e hn
      exact g r2 _ v F2 H' hk (G.nx.trans nx) er2 rr2 na
    · exact gx C fs _ dd vfs F' H' e G.nx (G.er.back hn) fd rf
end
/-! ### raise C(e, ..), C with an __init__ that keeps its arguments -/
section
variable {K : PySem.W.Frag} {F : Hp}
theorem RF.app {vs us : List (Str × V)} {ds es : List (Str × D)} (h : RF K F vs ds) (k : RF K F us es) : RF K F (vs ++ us) (ds ++ es) :=
  match h with
  | .nil => k
  | .cons r t => .cons r (t.app k)
theorem RF.rev : ∀ {vs : List (Str × V)} {ds : List (Str × D)}, RF K F vs ds → RF K F vs.reverse ds.reverse
  | _, _, .nil => .nil
  | _, _, .cons r t => by
    rw [List.reverse_cons, List.reverse_cons]
    exact t.rev.app (.cons r .nil)
theorem RL.zipF : ∀ {ns : List Str} {vs : List V} {ds : List D}, RL K F vs ds → RF K F (ns.zip vs) (ns.zip ds)
  | [], _, _, _ => .nil
  | _ :: _, _, _, .nil => .nil
  | _ :: ns, _, _, .cons r t => .cons r (RL.zipF (ns := ns) t)
/-- an __init__ that keeps its arguments by these names -/
def spIni (K : PySem.W.Frag) (C : Addr) (ns : List Str) : Sp := fun vs H Q _ => ∃ (a : Addr) (ws : List V), vs = .ref a :: ws ∧ ws.length = ns.length ∧ H a = some (exo a C none) ∧
  ∀ dx H2, H dx = none → dx ≠ a → H2 a = some (exo a C (some dx)) → H2 dx = some (exd dx (ns.zip ws).reverse) → (∀ b, b ≠ a → b ≠ dx → H2 b = H b) → Q .non H2
end
def uRaise (C : Addr) (ns : List Str) (ua : UA) : USX := fun E ρ => ua ρ fun ds ρ1 => ds.length = ns.length ∧ ds.length ≤ 1000 ∧ E.xc C (ns.zip ds).reverse ρ1
theorem fsx_raise {X : Cx} {CX : CXT} {x : Str} {C fI : Addr} {k : Nat} {fd : FuncData} {ps ns : List Str} {e : Expr} {es : List Expr} {ua : UA} {p pos pos2 : Pos} (hc : X.calm = true) (T : OexC X.K C) (iC : PySem.W.findIn X.K (.ref C) "__init__" = some (some (.ref fI))) (tI : PySem.W.typeIn X.K (.ref fI) = some (.type "function"))
    (F1 : FnOk X.prog X.w X.K X.mg X.base CX k fI fd ps (spIni X.K C ns)) (hr : Room (k + 1) X.A) (hb : Binds X.K fd ps []) (hx : Passes CX X (fun _ _ _ => False)) (hg : Gl X x) (hm : X.mg x = some (.ref C)) (ha : FA X (e :: es) ua)
    (hdb : (x == ("__debug__" : Str)) = false := by decide) (he : starEach (e :: es) X.env = (false, eval e X.env) :: starEach es X.env := by rfl) (hpl : (backTo pos (starEach es X.env)).any (·.1) = false := by rfl) :
    FSX X (.Raise (some (.Call (.Name x p) (e :: es) [] pos)) none pos2) (uRaise C ns ua) := ⟨fun W tk E ρ q F H σ0 σ B D er f =>
  to_SS (ps_raise hc tk (pmk_oex T iC tI F1 hr hb .nil hx hg hm pa_S hdb he hpl)) (ha ρ _ q F H σ0 σ B _ er fun ds ρ1 vs F1 H1 ⟨z1, z2, z⟩ G l => ⟨by rw [l.len]; exact z2, fun a na => by
    refine ⟨a, vs, by rw [List.append_nil], by rw [l.len]; exact z1, upd_same, fun dx H2 hd hda e1 e2 e3 => ⟨rfl, dx, _, e1, e2, ?_, ?_⟩⟩
    · rw [upd_ne hda] at hd; exact hd
    · have hd1 : H1 dx = none := by rw [upd_ne hda] at hd; exact hd
      have eH : upd (L2.del H2 a) dx (.xd (ns.zip vs).reverse) = upd H1 dx (.xd (ns.zip vs).reverse) := by
        funext b
        by_cases hb : b = dx
        · rw [hb, upd_same, upd_same]
        · rw [upd_ne hb, upd_ne hb]
          by_cases hba : b = a
          · rw [hba, del_same, na]
          · rw [del_ne hba, e3 b hba hb, upd_ne hba]
      rw [eH]
      obtain ⟨E2, n2⟩ := G.er.laid_val (o := .xd (ns.zip vs).reverse) hd1
      exact f.xc C _ ρ1 σ _ _ dx _ z ⟨G.nx.trans n2, E2⟩ upd_same ((RL.zipF l).rev.mono n2.fz)⟩)⟩
/-! ### try: .., except x as n: .. -/
def uTryAs (K : PySem.W.Frag) (c : Value) (i : Nat) (PC : Addr → Prop) (tb : USX) (ts : Addr → Addr → Addr → US) : USX := fun E ρ =>
  tb ⟨E.en, fun C fs ρ1 => ∃ b, PySem.W.exmOne K (.ref C) c = some b ∧ (b = true → PC C ∧ ∀ a dd, ts a dd C { nx := fun ρ2 => E.en.nx (ρ2.set i .un), rt := E.en.rt, bk := fun ρ2 => E.en.bk (ρ2.set i .un), ct := fun ρ2 => E.en.ct (ρ2.set i .un) } (ρ1.set i (.sl false false (.exc a dd C fs)))) ∧ (b = false → E.xc C fs ρ1)⟩ ρ
theorem fsx_try {X : Cx} {x n : Str} {c : Value} {i : Nat} {body suite : List Stmt} {b₀ : Stmt} {np pos pos' : Pos} {tb : USX} {ts : Addr → Addr → Addr → US} (PC : Addr → Prop) (hs : X.stack = X.env :: X.outer) (hf : X.env.frame = some X.env.locals) (hN : X.N.Nodup) (hi : X.N[i]? = some n) (hln : X.env.kindOf n = some .local) (hc : Names X x c)
    (hb : ∀ (pn : List (Addr × Obj)) (xe : Value → Shared → Prop), PassesOwn (model X.prog X.w) X.A X.env xe → FBX (X.tr pn xe) body tb)
    (hsu : ∀ (a : Addr) (oe : Obj) (C dd : Addr) (pn : List (Addr × Obj)), PC C → Zc (.ref C) (some dd) oe → (∃ vs, oe.data = .fields vs) → FB (X.suite a ((a, oe) :: pn)) (b₀ :: suite) (ts a dd C)) :
    FSX X (.Try body [.ExceptHandler (some (.Name x np)) (some n) (b₀ :: suite) pos'] [] [] pos) (uTryAs X.K c i PC tb ts) := ⟨fun W tk E ρ q F H σ0 σ B D er f => by
  refine to_SS (ps_try_as (tb := fun W' D σ H => ∀ (pn : List (Addr × Obj)) (xe : Value → Shared → Prop), Takes (X.tr pn xe) W' → PassesOwn (model X.prog X.w) X.A X.env xe → tBs (X.tr pn xe) body D σ H)
    (ts := fun a cls d D σ H => ∃ C dd, cls = .ref C ∧ d = some dd ∧ ∀ (oe : Obj) (pn : List (Addr × Obj)), Zc (.ref C) (some dd) oe → (∃ vs, oe.data = .fields vs) → tBs (X.suite a ((a, oe) :: pn)) (b₀ :: suite) D σ H)
    hs hf hN hi hln hc tk (fun W' pn xe tk' hp => ⟨fun pins s σ H D I h => h pn xe tk' hp pins s I⟩) (fun a oe cls d pn hz hd => ⟨fun pins s σ H D I ⟨C, dd, e1, e2, h⟩ => by
      subst e1 e2
      exact h oe pn hz hd pins s I⟩)) fun pn xe tk' hp => ?_
  refine (hb pn xe hp).run _ tk' _ ρ q F H σ0 σ B D er ⟨f.fol, fun C fs ρ1 σ1 F1 H1 dd vfs ⟨b, z1, z2, z3⟩ G fd rf => ⟨b, z1, fun e a na => ⟨C, dd, rfl, rfl, fun oe pn' hz hd => ?_⟩, fun e => f.xc C fs ρ1 σ1 F1 H1 dd vfs (z3 e) G fd rf⟩⟩
  have f1 := f.fol.on G.nx
  refine hsu a oe C dd pn' (z2 e).1 hz hd _ _ ((z2 e).2 a dd) F1 H1 σ0 _ B _ (G.er.set_val (.exc fd rf)) ⟨fun ρ' σ' F' H' y G' => f1.nx _ _ F' H' y ⟨G'.nx, G'.er.unset⟩, f1.rt, fun ρ' σ' F' H' y G' => f1.bk _ _ F' H' y ⟨G'.nx, G'.er.unset⟩, fun ρ' σ' F' H' y G' => f1.ct _ _ F' H' y ⟨G'.nx, G'.er.unset⟩⟩⟩
/-- a try in a context that lets nothing out -/
theorem fs_never {X : Cx} {st : Stmt} {u : USX} (h : FSX X st u) : FS X st (fun E ρ => u ⟨E, fun _ _ _ => False⟩ ρ) := ⟨fun E ρ q F H σ0 σ B D er f =>
  h.run (fun _ _ _ _ => False) takes0 ⟨E, fun _ _ _ => False⟩ ρ q F H σ0 σ B D er ⟨f, fun _ _ _ _ _ _ _ _ z => z.elim⟩⟩

/-! ### within the suite: e.f, isinstance(e, C) -/
def uXf (a dd C : Addr) (f : Str) (ue : UE) : UE := fun ρ R => ue ρ fun r ρ1 => wv ρ1 r fun d => ∃ fs x, d = .exc a dd C fs ∧ fs.lookup f = some x ∧ R (.val x) ρ1
theorem fe_xf {X : Cx} {a dd C : Addr} {oe : Obj} {pn : List (Addr × Obj)} {e : Expr} {ue : UE} {pos : Pos} {f : Str} (T : XfC X.K C) (hno : PySem.W.findIn X.K (.ref C) f = some none)
    (hz : Zc (.ref C) (some dd) oe) (hf : ∃ vs, oe.data = .fields vs) (he : FE (X.suite a ((a, oe) :: pn)) e ue) (hb : attributeBase e f X.env (eval e X.env) = eval e X.env := by rfl) : FE (X.suite a ((a, oe) :: pn)) (.Attribute e f pos) (uXf a dd C f ue) := ⟨fun ρ R q F H σ0 σ B Q E g => by
  refine to_S (pe_xf T hno hz hf pe_S hb) (he ρ _ q F H σ0 σ B _ E fun r ρ1 v F1 H1 z G => ?_)
  obtain ⟨d, w, fs, x, rfl, hl, z⟩ := G.er.seen G.rr z
  obtain ⟨rfl, vfs, fd, rf⟩ := w.exc
  obtain ⟨y, e, rd⟩ := rf.lookup hl
  exact ⟨rfl, rfl, dd, vfs, y, rfl, G.er.sub _ _ fd, e, g (.val x) ρ1 y F1 H1 z ⟨G.nx, G.er, rd⟩⟩⟩
end YP
namespace PySem.W
open PySem PySem.Spec PySem.Calls PyProof.Rows
section
variable {prog : Program} {w : World} {A : Around} {E : Value → Shared → Prop} {s : Shared} {K : Frag} {x D : Addr} {ox : Obj} {od : Option Obj}
theorem yfindObj_dataN {C : Addr} {name : Str} {a g : Value} (hc : (clsIn K C).isSome = true) (ha : findIn K (.ref C) name = some (some a)) (hg : specialIn K a "__get__" = some (some g)) (ht : takesIn K a = some true) : findObj K C od name = some (.bind g a) := by
  obtain ⟨cd, hc⟩ := Option.isSome_iff_exists.mp hc
  unfold findObj
  rw [hc, Option.bind_some, ha, Option.bind_some]
  simp [hg, ht]
theorem ykin_classE {Q : Option Value → Shared → Prop} (hga : findIn K (.ref D) "__getattribute__" = some (some (.builtin "BaseException.__getattribute__"))) (hgt : findIn K (.ref D) "__getattr__" = some none) (hsub : subIn K (.ref D) (.type "BaseException") = some true)
    (hdct : hasDictIn K D = true) (ha : findIn K (.ref D) "__class__" = some (some (.builtin "object.__class__")))
    (hn : specialIn K (.builtin "object.__class__") "__get__" = some (some (.builtin "getset_descriptor.__get__"))) (htk : takesIn K (.builtin "object.__class__") = some true) (hm : mroIn K D (.type "object") = some true)
    (X : K.In s.heap) (I : InstAt s.heap x ox D od) (h : Q (some (.ref D)) { s with toks := s.toks + 1 }) : wpAny (model prog w) A (getAttr? (.ref x) "__class__") Q E s := by
  have hf : findObj K D od "__class__" = some (.bind (.builtin "getset_descriptor.__get__") (.builtin "object.__class__")) := yfindObj_dataN (by obtain ⟨cd, hc, _⟩ := any_some hdct; rw [hc]; rfl) ha hn htk
  obtain ⟨hp, g, d, t, os⟩ := s
  have L0 := I.type (M := model prog w)
  have L1 := looks_findIn (M := model prog w) X hga
  have L2 := looks_findIn (M := model prog w) X hgt
  have L3 := looks_find (M := model prog w) X I hf
  have sub : Looks (model prog w) hp (isInstance (.ref x) (.type "BaseException")) true := L0.andThen (looks_subIn X hsub)
  have hx0 : (false && onTheHeap (Value.builtin "BaseException.__getattribute__")) = false := rfl
  have hx2 : (Value.builtin "BaseException.__getattribute__" == Value.builtin "object.__getattribute__") = false := by decide +kernel
  have hx1 : (onTheHeap (Value.ref D) && Value.builtin "BaseException.__getattribute__" == Value.builtin "object.__getattribute__") = false := by rw [hx2]; rfl
  unfold getAttr? getAttrBy? getAttrBy
  refine wpAny_bind (wpAny_mkText (wpAny_bind (wpAny_attempt (wpAny_holding (wpAny_bind (L0.at (wpAny_bind (L1.at ?_))))))))
  show wpAny _ _ (if (onTheHeap (Value.ref D) && Value.builtin "BaseException.__getattribute__" == Value.builtin "object.__getattribute__") = true then _ else _) _ _ _
  rw [hx1, if_neg Bool.false_ne_true]
  unfold getAttrByItsOwn hookBefore
  refine wpAny_bind ?_
  rw [if_pos (show onTheHeap (Value.ref D) = true from rfl)]
  refine L2.at ?_
  refine wpAny_bind (wpAny_attempt (wpAny_holding ?_))
  unfold callGetattribute
  rw [hx0, if_neg Bool.false_ne_true]
  unfold boundAndCalled
  rw [PySem.F.excAttr_ValueError.ga.bind (.ref x)]
  refine wpAny_bind (wpAny_pure ?_)
  show wpAny _ _ (call (.builtin "BaseException.__getattribute__") [.ref x, .str "__class__" t]) _ _ _
  refine wpAny_call (codeAny_call_builtin PySem.F.excAttr_ValueError.ga.plain PySem.F.entry_bexc_ga ?_)
  refine @check_slot (model prog w) _ _ ⟨hp, g, d, t + 1, os⟩ "BaseException.__getattribute__" "BaseException" "__getattribute__" (.ref x) [.str "__class__" t] [] _ (by decide +kernel) (by decide +kernel) sub (PySem.F.args_bexc_ga (.ref x) (.str "__class__" t)) ?_
  unfold Builtin.«object.__getattribute__»
  refine wpAny_bind (wpAny_of_eq (a := ((Value.ref x : Value), [Value.str "__class__" t])) (by first | rfl | (simp only [slotArgs]; rfl)) ?_)
  refine wpAny_bind (wpAny_pure (wpAny_bind (L0.at (wpAny_bind (L3.at ?_)))))
  show wpAny _ _ (holding [Value.builtin "object.__class__"] (call (.builtin "getset_descriptor.__get__") [.builtin "object.__class__", .ref x, .ref D]) >>= ret) _ _ _
  refine wpAny_bind (wpAny_holding (wpAny_call (class_get (s := ⟨hp, g, d, t + 1, os⟩) (ox := ox) (od := od) X I hm ?_)))
  refine wpAny_pure ?_
  show wpAny _ _ (handedOut (.ref D)) _ _ _
  rw [handedOut_of (v := .ref D) rfl]
  first
    | exact wpAny_pure (wpAny_pure h)
    | exact wpAny_pure h
    | exact wpAny_pure (wpAny_bind (wpAny_pure (wpAny_pure h)))
theorem ykitx_exc (hga : findIn K (.ref D) "__getattribute__" = some (some (.builtin "BaseException.__getattribute__"))) (hgt : findIn K (.ref D) "__getattr__" = some none) (hsub : subIn K (.ref D) (.type "BaseException") = some true) (hdct : hasDictIn K D = true) (ha : findIn K (.ref D) "__class__" = some (some (.builtin "object.__class__")))
    (hn : specialIn K (.builtin "object.__class__") "__get__" = some (some (.builtin "getset_descriptor.__get__"))) (htk : takesIn K (.builtin "object.__class__") = some true) (hm : mroIn K D (.type "object") = some true) :
    KitX K (.ref x) (.ref D) (fun h => ∃ od, InstAt h x ox D od) where
  ty := fun _ _ _ ⟨_, I⟩ => I.type
  it := fun _ _ X _ => by
    obtain ⟨cdD, hcD, _⟩ := any_some hdct
    unfold clsIn at hcD
    split at hcD
    · rename_i c' d' cd' sl' ho
      intro A' Q' E' s' k q
      unfold isType loadHead
      exact wpAny_bind (wpAny_loadPart (k _ _ (X _ _ ho)) (wpAny_pure q))
    · cases hcD
  ne := fun h tp dd its n sl X htp => by
    obtain ⟨cdD, hcD, _⟩ := any_some hdct
    refine Bool.eq_false_iff.mpr fun q => ?_
    have e : D = tp := Value.ref.inj (beq_iff_eq.mp q)
    subst e
    unfold clsIn at hcD
    split at hcD
    · rename_i c' d' cd' sl' ho
      have z := (X _ _ ho).symm.trans htp
      cases z
    · cases hcD
  ca := fun X ⟨_, I⟩ k => ykin_classE hga hgt hsub hdct ha hn htk hm X I k
end
end PySem.W
namespace YP
open PySem PySem.Spec PyProof.Rows L2
/-- isinstance(e, c), e the exception that the suite holds, at a; its dict stands at dd -/
def rIsX (K : PySem.W.Frag) (C a dd : Addr) : List V → Hp → VK → Prop := fun xs H Q => ∃ (c : V) (cv : Value) (b : Bool) (vfs : List (Str × V)), xs = [.ref a, c] ∧ (∀ u, RelV c u → u = cv) ∧ PySem.W.kitOne K (.ref C) cv = some b ∧ H dd = some (.xd vfs) ∧ Q (.bl b) H
theorem call_isX {X : Cx} {a dd C : Addr} {oe : Obj} {pn : List (Addr × Obj)} (T : ExcC X.K C) (hz : Zc (.ref C) (some dd) oe) (hf : ∃ vs, oe.data = .fields vs) : CallR (X.suite a ((a, oe) :: pn)) (.builtin "isinstance") (rIsX X.K C a dd) := by
  intro pins s σ H xs us Q I r h
  obtain ⟨c, cv, b, vfs, rfl, hcv, e, ed, q⟩ := h
  cases r with
  | cons rx rr =>
    cases rr with
    | cons rt rr =>
      cases rr
      cases rx
      have ec := hcv _ rt
      subst ec
      obtain ⟨hget, _⟩ := I.pin (a, oe) (List.mem_append.mpr (.inl List.mem_cons_self))
      obtain ⟨vs, hv⟩ := hf
      have hx : ObjOk X.prog X.w H s.heap dd (.xd vfs) := I.hok dd _ ed
      obtain ⟨mA, hns, hr⟩ := hx
      obtain ⟨od, ho, hl⟩ := lookIn_ns hns
      have J : PySem.W.InstAt s.heap a oe C (some od) := ⟨hget, hz.1, by unfold PySem.W.notCls; rw [hv] <;> rfl, by rw [hz.2]; exact ho⟩
      exact PySem.W.kia_one (PySem.W.ykitx_exc T.hg T.hk T.hs T.hd T.ha T.hn T.ht T.hm) I.kIn ⟨_, J⟩ e (fun z => nomatch z) fun tk => ⟨.bl b, H, I.kept (t' := tk) fun _ _ z => z, rfl, q⟩
/-- .. as a datum: c is a class's name, cv what stands for it -/
def uIsX (K : PySem.W.Frag) (a dd C : Addr) (cv : Value) (ue : UE) : UE := fun ρ R => ue ρ fun r ρ1 => wv ρ1 r fun d => ∃ fs b, d = .exc a dd C fs ∧ PySem.W.kitOne K (.ref C) cv = some b ∧ R (.val (.bl b)) ρ1
theorem fe_isX {X : Cx} {a dd C : Addr} {oe : Obj} {pn : List (Addr × Obj)} {e t : Expr} {c : V} {cv : Value} {ue : UE} {p pos : Pos} (T : ExcC X.K C) (hz : Zc (.ref C) (some dd) oe) (hf : ∃ vs, oe.data = .fields vs) (hg : Gl (X.suite a ((a, oe) :: pn)) "isinstance") (hm : X.mg "isinstance" = none)
    (he : FE (X.suite a ((a, oe) :: pn)) e ue) (ht : PE (X.suite a ((a, oe) :: pn)) t (tC c)) (hcv : ∀ u, RelV c u → u = cv)
    (hs : starEach [e, t] X.env = (false, eval e X.env) :: starEach [t] X.env := by rfl) (hs2 : starEach [t] X.env = (false, eval t X.env) :: starEach [] X.env := by rfl) (hpl : (backTo pos (starEach [t] X.env)).any (·.1) = false := by rfl) :
    FE (X.suite a ((a, oe) :: pn)) (.Call (.Name "isinstance" p) [e, t] [] pos) (uIsX X.K a dd C cv ue) := ⟨fun ρ R q F H σ0 σ B Q E g => by
  refine to_S (pe_callB (call_isX T hz hf) hg hm (by decide +kernel) (pa_cons pe_S (pa_cons ht pa_nil hs2) hs) (by decide) (by decide) hs hpl) (he ρ _ q F H σ0 σ B _ E fun r ρ1 v F1 H1 z G => ?_)
  obtain ⟨d, w, fs, b, rfl, hk, z⟩ := G.er.seen G.rr z
  obtain ⟨rfl, vfs, fd, rf⟩ := w.exc
  exact ⟨c, cv, b, vfs, rfl, hcv, hk, G.er.sub _ _ fd, g _ _ _ _ _ z ⟨G.nx, G.er, .bl _⟩⟩⟩
end YP
set_option maxRecDepth 100000
set_option maxHeartbeats 1000000
/-! The yard's pure layer, part 13: a < b < c, in a tuple of texts. -/
namespace YP
open PySem PySem.Spec PyProof.Rows L2
section
variable {X : Cx} {a b c e : Expr} {ua ub uc ue : UE} {pos : Pos}
def uChain (o o' : D → D → (Rv → Prop) → Prop) (ua ub uc : UE) : UE := fun ρ R => ua ρ fun r ρ1 => ub ρ1 fun q ρ2 => match q with
  | .val e => wv ρ2 r fun d => o d e fun z => match z with
    | .val (.bl b) => if b = true then uc ρ2 fun s ρ3 => wv ρ3 s fun f => o' e f fun z => R z ρ3 else R (.val (.bl false)) ρ2
    | _ => False
  | _ => False
theorem FE.chain {F H : Hp} {σ0 σ : L2.St} {ρ : List Sl} {B : Addr → Prop} {op op' : CmpOp} {o o' : D → D → (Rv → Prop) → Prop} (ho : OpS X (compareOp op) o) (ho' : OpS X (compareOp op') o') (ha : FE X a ua) (hb : FE X b ub) (hc : FE X c uc) {R : Rv → List Sl → Prop} {Q : VK} (q : uChain o o' ua ub uc ρ R) (E : ER X.K F H σ0 ρ σ B)
    (g : ∀ r ρ' v F' H', R r ρ' → Gt X.K F H F' H' σ0 ρ' σ B r v → Q v H') : ∃ r r' : R2, OpR X (compareOp op) r ∧ OpR X (compareOp op') r' ∧ tChain r r' (tS X a) (tS X b) (tS X c) σ H Q := by
  obtain ⟨r, hr, k⟩ := ho.ex
  obtain ⟨r', hr', k'⟩ := ho'.ex
  refine ⟨r, r', hr, hr', FE.two ha hb q E (fun x y H2 => _) fun p q ρ2 x y F2 H2 t n2 E2 r1 r2 => ?_⟩
  split at t
  case h_2 => exact t.elim
  rename_i e
  obtain ⟨d, w1, t⟩ := E2.seen r1 t
  have rd : RD X.K F2 y e := r2
  refine k E2 w1 (.inl rd) t fun z v F3 H3 t G => ?_
  split at t
  case h_2 => exact t.elim
  rename_i b
  cases b with
  | true =>
    have rz : RD X.K F3 v (.bl true) := G.rr
    cases rz
    refine ⟨true, rfl, ?_⟩
    rw [if_pos rfl]
    rw [if_pos rfl] at t
    refine hc ρ2 _ t F3 H3 σ0 σ B _ G.er fun s ρ3 u F4 H4 t G4 => ?_
    obtain ⟨f, w3, t⟩ := G4.er.seen G4.rr t
    exact k' G4.er (.inl (rd.mono (G.nx.fz.trans G4.nx.fz))) w3 t fun z v F5 H5 t G5 => g z ρ3 v F5 H5 t ⟨n2.trans (G.nx.trans (G4.nx.trans G5.nx)), G5.er, G5.rr⟩
  | false =>
    have rz : RD X.K F3 v (.bl false) := G.rr
    cases rz
    refine ⟨false, rfl, ?_⟩
    rw [if_neg Bool.false_ne_true]
    rw [if_neg Bool.false_ne_true] at t
    exact g _ _ _ F3 H3 t ⟨n2.trans G.nx, G.er, .bl _⟩
theorem fe_chain {op op' : CmpOp} {o o' : D → D → (Rv → Prop) → Prop} (ho : OpS X (compareOp op) o) (ho' : OpS X (compareOp op') o') (ha : FE X a ua) (hb : FE X b ub) (hc : FE X c uc) (hm : lastMarks [op, op'] [b, c] = false := by with_unfolding_all rfl) : FE X (.Compare a [op, op'] [b, c] pos) (uChain o o' ua ub uc) := ⟨fun ρ R q F H σ0 σ B Q E g => by
  obtain ⟨r, r', hr, hr', t⟩ := FE.chain ho ho' ha hb hc q E g
  exact to_S (pe_chain hr hr' pe_S pe_S pe_S hm) t⟩
theorem ft_chain {op op' : CmpOp} {o o' : D → D → (Rv → Prop) → Prop} (ho : OpS X (compareOp op) o) (ho' : OpS X (compareOp op') o') (ha : FE X a ua) (hb : FE X b ub) (hc : FE X c uc) (hm : lastMarks [op, op'] [b, c] = false := by with_unfolding_all rfl) : FT X (.Compare a [op, op'] [b, c] pos) (fun ρ R => uChain o o' ua ub uc ρ (isB R)) := ⟨fun ρ R q F H σ0 σ B Q E g => by
  obtain ⟨r, r', hr, hr', t⟩ := FE.chain (Q := fun v H' => ∃ c, v = .bl c ∧ Q c H') ho ho' ha hb hc q E fun r ρ' v F' H' h G => by
    unfold isB at h
    split at h
    · rename_i c
      have rr : RD X.K F' v (.bl c) := G.rr
      cases rr
      exact ⟨c, rfl, g c ρ' F' H' h ⟨G.nx, G.er⟩⟩
    · exact h.elim
  exact to_ST (pt_chain hr hr' pe_S pe_S pe_S hm) t⟩
/-! ### in a tuple of texts -/
theorem inV_strs (x : Str) : ∀ ys : List Str, inV (.str x) (ys.map V.str) = decide (x ∈ ys)
  | [] => by simp [inV]
  | y :: ys => by
    have ih := inV_strs x ys
    unfold inV at ih ⊢
    rw [List.map_cons, List.any_cons, ih]
    by_cases h : x = y
    · subst h; simp [eqV]
    · have h' : y ≠ x := fun z => h z.symm
      simp [eqV, h, h']
theorem flat_strs (ys : List Str) : (ys.map V.str).all flatV = true := by
  rw [List.all_map, List.all_eq_true]
  intro y _
  rfl
def oInT (neg : Bool) (d e : D) (T : Rv → Prop) : Prop := match d, e with
  | .str x, .tup l => ∃ ys : List Str, l = ys.map D.str ∧ T (.val (.bl (neg ^^ decide (x ∈ ys))))
  | _, _ => False
theorem os_inT : OpS X (compareOp .In) (oInT false) := .of op_in_seq fun {F H σ0 σ ρ B x y d e T Q} E w1 w2 t g => by
  unfold oInT at t
  split at t
  · obtain ⟨ys, rfl, t⟩ := t
    cases w1.str
    obtain ⟨a, us, rfl, h1, l1⟩ := w2.tup E.sub
    cases rl_strs l1
    refine ⟨a, _, rfl, .inr h1, rfl, flat_strs ys, ?_⟩
    rw [inV_strs]
    rw [Bool.false_xor] at t
    exact gt_val E g t (.bl _)
  · exact t.elim
theorem os_notinT : OpS X (compareOp .NotIn) (oInT true) := .of op_notIn_seq fun {F H σ0 σ ρ B x y d e T Q} E w1 w2 t g => by
  unfold oInT at t
  split at t
  · obtain ⟨ys, rfl, t⟩ := t
    cases w1.str
    obtain ⟨a, us, rfl, h1, l1⟩ := w2.tup E.sub
    cases rl_strs l1
    refine ⟨a, _, rfl, .inr h1, rfl, flat_strs ys, ?_⟩
    rw [inV_strs]
    rw [Bool.true_xor] at t
    exact gt_val E g t (.bl _)
  · exact t.elim
/-- in a tuple of texts that the top has written -/
def uInK (neg : Bool) (ys : List Str) (ua : UE) : UE := fun ρ R => ua ρ fun r ρ1 => wv ρ1 r fun d => ∃ x, d = .str x ∧ R (.val (.bl (neg ^^ decide (x ∈ ys)))) ρ1
theorem fe_inK {x : Str} {k : Addr} {ys : List Str} {p : Pos} (ha : FE X a ua) (hg : Gl X x) (hm : X.mg x = some (.ref k)) (hk : ∀ H, SqT X.K H k (ys.map V.str)) (hd : (x == ("__debug__" : Str)) = false := by decide) (h1 : behindInMarks .In (.Name x p) = false := by rfl) : FE X (.Compare a [.In] [.Name x p] pos) (uInK false ys ua) := ⟨fun ρ R q F H σ0 σ B Q E g => by
  refine to_S (pe_cmpR op_in_seq pe_S (pe_glob (v := .ref k) hg hm rfl hd) h1) (ha ρ _ q F H σ0 σ B _ E fun r ρ1 v F1 H1 z G => ?_)
  obtain ⟨d, w, x', rfl, z⟩ := G.er.seen G.rr z
  cases w.str
  refine ⟨k, _, rfl, .inr (hk _), rfl, flat_strs ys, ?_⟩
  rw [inV_strs]
  rw [Bool.false_xor] at z
  exact g _ _ _ _ _ z ⟨G.nx, G.er, .bl _⟩⟩
theorem fe_notinK {x : Str} {k : Addr} {ys : List Str} {p : Pos} (ha : FE X a ua) (hg : Gl X x) (hm : X.mg x = some (.ref k)) (hk : ∀ H, SqT X.K H k (ys.map V.str)) (hd : (x == ("__debug__" : Str)) = false := by decide) (h1 : behindInMarks .NotIn (.Name x p) = false := by rfl) : FE X (.Compare a [.NotIn] [.Name x p] pos) (uInK true ys ua) := ⟨fun ρ R q F H σ0 σ B Q E g => by
  refine to_S (pe_cmpR op_notIn_seq pe_S (pe_glob (v := .ref k) hg hm rfl hd) h1) (ha ρ _ q F H σ0 σ B _ E fun r ρ1 v F1 H1 z G => ?_)
  obtain ⟨d, w, x', rfl, z⟩ := G.er.seen G.rr z
  cases w.str
  refine ⟨k, _, rfl, .inr (hk _), rfl, flat_strs ys, ?_⟩
  rw [inV_strs]
  rw [Bool.true_xor] at z
  exact g _ _ _ _ _ z ⟨G.nx, G.er, .bl _⟩⟩
end
end YP
set_option maxRecDepth 100000
set_option maxHeartbeats 1000000
/-! The yard's pure layer, part 14: small things that every law wants. -/
namespace YP
open PySem PySem.Spec PyProof.Rows L2 Yard
abbrev own (d : D) : Sl := .sl true false d
abbrev dat (d : D) : Sl := .sl false false d
theorem nd1 (n : Nat) : ([n] : List Nat).Nodup := by simp
section
variable {P : Program} {w : World} {K : PySem.W.Frag} {mg : Str → Option Value} {base : Heap}
theorem no_pure {CX : CXT} {k n : Nat} {f : Addr} {fd : FuncData} {ps : List Str} : FnOk P w K mg base CX k f fd ps (PSp K n (fun _ _ => False)) :=
  ⟨fun _ _ _ _ ⟨_, _, _, _, _, _, _, h, _⟩ => h.elim, fun _ _ _ _ _ _ _ _ _ _ _ _ _ ⟨_, _, _, _, _, _, _, h, _⟩ => h.elim⟩
theorem pure_any {CX : CXT} {k m N : Nat} {f : Addr} {fd : FuncData} {ps : List Str} {u : Nat → UF} (F : ∀ n, n ≤ N → FnOk P w K mg base CX k f fd ps (PSp K m (u n))) : FnOk P w K mg base CX k f fd ps (PSp K m (fun ρ R => ∃ n, n ≤ N ∧ u n ρ R)) :=
  ⟨fun vs H Q E ⟨ρ, F', B, R, a, b, c, ⟨n, hn, d⟩, e⟩ => (F n hn).len vs H Q E ⟨ρ, F', B, R, a, b, c, d, e⟩, fun A outer s H args us vs Q E hr e0 hb hv ⟨ρ, F', B, R, a, b, c, ⟨n, hn, d⟩, e⟩ => (F n hn).run A outer s H args us vs Q E hr e0 hb hv ⟨ρ, F', B, R, a, b, c, d, e⟩⟩
end
theorem wb_no {ρ : List Sl} : ∀ {rs : List Rv} (ss : List Sl), ats rs = [] → wb ρ rs ss = ρ
  | [], [], _ => rfl
  | [], _ :: _, _ => rfl
  | .at _ :: _, _, h => nomatch h
  | .val _ :: _, [], _ => rfl
  | .own _ :: _, [], _ => rfl
  | .val _ :: rs, _ :: ss, h => wb_no (rs := rs) ss h
  | .own _ :: rs, _ :: ss, h => wb_no (rs := rs) ss h
def uBefore (u : Nat → UF) : Nat → UF
  | 0 => fun _ _ => False
  | k + 1 => u k
/-- a join of ways ahead of a long rest -/
theorem seq_cut {t u : US} {E : En} {ρ : List Sl} (P : List Sl → Prop) (h2 : ∀ ρ, P ρ → u E ρ) (h1 : (∀ ρ, P ρ → u E ρ) → uSeq t u E ρ) : uSeq t u E ρ := h1 h2
theorem seq_cutX {t u : USX} {E : EnX} {ρ : List Sl} (P : List Sl → Prop) (h2 : ∀ ρ, P ρ → u E ρ) (h1 : (∀ ρ, P ρ → u E ρ) → uSeqX t u E ρ) : uSeqX t u E ρ := h1 h2
/-! ### plain data, not too deep -/
structure OkN (n : Nat) (d : D) : Prop where
  pl : plain d = true
  cl : (toP d).canLay0 = true
  dp : (toP d).depth ≤ n
theorem OkN.ok {n : Nat} {d : D} (h : OkN n d) (k : n ≤ 64 := by decide) : okD d = true := by
  unfold okD SeqAt.shaped
  rw [h.pl, h.cl, decide_eq_true (Nat.le_trans h.dp k)]; rfl
theorem OkN.mono {n m : Nat} {d : D} (h : OkN n d) (k : n ≤ m) : OkN m d := ⟨h.pl, h.cl, Nat.le_trans h.dp k⟩
theorem okN_all {n : Nat} : ∀ {l : List D}, (∀ d ∈ l, OkN n d) → plains l = true ∧ PyData.canLayAll0 (toPs l) = true ∧ PyData.depthAll (toPs l) ≤ n
  | [], _ => ⟨rfl, rfl, Nat.zero_le _⟩
  | d :: l, h => by
    obtain ⟨a, b, c⟩ := okN_all fun x hx => h x (List.mem_cons_of_mem _ hx)
    have k := h d List.mem_cons_self
    refine ⟨?_, ?_, ?_⟩
    · show (plain d && plains l) = true
      rw [k.pl, a]; rfl
    · show ((toP d).canLay0 && PyData.canLayAll0 (toPs l)) = true
      rw [k.cl, b]; rfl
    · show max ((toP d).depth) (PyData.depthAll (toPs l)) ≤ n
      have := k.dp
      omega
theorem okN_tup {n : Nat} {l : List D} (h : ∀ d ∈ l, OkN n d) : OkN (n + 1) (.tup l) :=
  let ⟨a, b, c⟩ := okN_all h; ⟨a, b, Nat.succ_le_succ c⟩
theorem okN_lst {n : Nat} {l : List D} (h : ∀ d ∈ l, OkN n d) : OkN (n + 1) (.lst l) :=
  let ⟨a, b, c⟩ := okN_all h; ⟨a, b, Nat.succ_le_succ c⟩
theorem okN_str {x : Str} (h : PyData.strOk x = true) : OkN 0 (.str x) := ⟨rfl, h, Nat.le_refl _⟩
theorem okN_non : OkN 0 .non := ⟨rfl, rfl, Nat.le_refl _⟩
theorem okN_int {i : Int} : OkN 0 (.int i) := ⟨rfl, rfl, Nat.le_refl _⟩
theorem okN_bl {i : Bool} : OkN 0 (.bl i) := ⟨rfl, rfl, Nat.le_refl _⟩
theorem eqD_refl {n : Nat} {d : D} (h : OkN n d) : eqD d d = true := SeqAt.eqv_refl _ h.cl
theorem eqD_str {x y : Str} : eqD (.str x) (.str y) = decide (x = y) := by
  by_cases e : x = y
  · subst e
    rw [decide_eq_true rfl]
    show (x == x) = true
    exact beq_self_eq_true x
  · rw [decide_eq_false e]
    show (x == y) = false
    exact beq_eq_false_iff_ne.mpr e
theorem eqD_int {x y : Int} : eqD (.int x) (.int y) = decide (x = y) := by
  by_cases e : x = y
  · subst e
    rw [decide_eq_true rfl]
    show (x == x) = true
    exact beq_self_eq_true x
  · rw [decide_eq_false e]
    show (x == y) = false
    exact beq_eq_false_iff_ne.mpr e
theorem any_strs (x : Str) : ∀ ys : List Str, ((ys.map D.str).any fun z => eqD z (.str x)) = decide (x ∈ ys)
  | [] => by simp
  | y :: ys => by
    rw [List.map_cons, List.any_cons, any_strs x ys, eqD_str]
    by_cases e : y = x
    · subst e; simp
    · have e' : x ≠ y := fun z => e z.symm
      simp [e, e']
theorem any_ints (x : Int) : ∀ ys : List Int, ((ys.map D.int).any fun z => eqD z (.int x)) = decide (x ∈ ys)
  | [] => by simp
  | y :: ys => by
    rw [List.map_cons, List.any_cons, any_ints x ys, eqD_int]
    by_cases e : y = x
    · subst e; simp
    · have e' : x ≠ y := fun z => e z.symm
      simp [e, e']
/-! ### texts by their signs -/
def toS (l : List Nat) : Str := ⟨l.toArray⟩
def one (c : Nat) : Str := ⟨#[c]⟩
def sgD (c : Nat) : D := .str ⟨#[c]⟩
theorem toS_len (l : List Nat) : (toS l).length = l.length := by
  show l.toArray.size = _
  simp
theorem toS_cps (l : List Nat) : (toS l).cps.toList = l := rfl
theorem toS_of (x : Str) : toS x.cps.toList = x := by
  obtain ⟨a⟩ := x
  rfl
theorem strOk_toS {l : List Nat} (h : ∀ c ∈ l, c < 1114112) : PyData.strOk (toS l) = true := by
  show l.toArray.all _ = true
  rw [List.all_toArray, List.all_eq_true]
  intro c hc
  exact decide_eq_true (h c hc)
theorem join_ones : ∀ l : List Nat, TL.joinL [] (l.map fun c => [c]) = l
  | [] => rfl
  | [c] => rfl
  | c :: d :: l => by
    show c :: ([] ++ TL.joinL [] ((d :: l).map fun c => [c])) = _
    rw [join_ones (d :: l)]; rfl
theorem joined (l : List Nat) : Txt.join "" (l.map fun c => (⟨#[c]⟩ : Str)) = ⟨l.toArray⟩ := by
  have e := TL.tl_join "" (l.map fun c => (⟨#[c]⟩ : Str))
  rw [List.map_map] at e
  have e2 : TL.tl (Str.join "" (l.map fun c => (⟨#[c]⟩ : Str))) = l := e.trans (join_ones l)
  rw [TL.join_eq]
  refine TL.ext_tl (e2.trans ?_)
  rfl
theorem ones_len (l : List Nat) : ((l.map fun c => (⟨#[c]⟩ : Str)).map (·.length)).sum = l.length := by
  induction l with
  | nil => rfl
  | cons c l ih =>
    rw [List.map_cons, List.map_cons, List.sum_cons, ih, List.length_cons]
    show 1 + l.length = _
    omega
/-! ### slices -/
theorem ycut_from {α : Type} (xs : List α) (k : Nat) : YP.cut xs (some (k : Int)) none = xs.drop k := by
  unfold YP.cut
  rw [HT.sIx_nat, HT.sIx_none]
  rcases Nat.le_total k xs.length with h | h
  · rw [Nat.min_eq_left h]
    exact List.take_of_length_le (by rw [List.length_drop]; omega)
  · rw [Nat.min_eq_right h, List.drop_length, List.drop_of_length_le h]; simp
theorem ycut_le {α : Type} (xs : List α) (lo hi : Option Int) : (YP.cut xs lo hi).length ≤ xs.length := by
  unfold YP.cut
  rw [List.length_take, List.length_drop]
  omega
theorem ycut_mem {α : Type} {xs : List α} {lo hi : Option Int} {x : α} (h : x ∈ YP.cut xs lo hi) : x ∈ xs := by
  unfold YP.cut at h
  exact List.mem_of_mem_drop (List.mem_of_mem_take h)
theorem intsD_len (lo : Int) (n : Nat) : (intsD lo n).length = n := by simp [intsD]
theorem intsD_get {lo : Int} {n i : Nat} {d : D} (h : (intsD lo n)[i]? = some d) : i < n ∧ d = .int (lo + (i : Int)) := by
  have hi : i < (intsD lo n).length := (List.getElem?_eq_some_iff.mp h).1
  rw [intsD_len] at hi
  refine ⟨hi, ?_⟩
  simp [intsD, hi] at h
  exact h.symm
theorem sz2 : 2000000 ≤ sizeLine := by rw [sizeLine_eq]; decide
end YP
namespace YP
open PySem PySem.Spec PyProof.Rows L2 Yard
theorem if_t {c : Bool} {A B : Prop} (h : c = true) (k : A) : if c = true then A else B := by rw [h]; exact k
theorem if_f {c : Bool} {A B : Prop} (h : c = false) (k : B) : if c = true then A else B := by rw [h]; exact k
theorem os_iadd {X : Cx} : OpS X (inplaceOp .Add) (oI0 fun i j => .int (i + j)) := os_I0 iop_add fun _ _ _ => .int _
end YP
set_option maxRecDepth 100000
set_option maxHeartbeats 1000000
/-! The yard's pure layer, part 15: the law's own def over pure promises: a list of numbers that it makes and hands in. -/
namespace YP
open PySem PySem.Spec PyProof.Rows L2 Yard
def OffA (a : Addr) (H H' : Hp) : Prop := ∀ b o, b ≠ a → H b = some o → H' b = some o
/-- a def that is handed one list of numbers, which it may change, and tells True -/
def spOwn (u : UF) : Sp := fun vs H Q _ => ∃ (a : Addr) (ns : List Int), vs = [.ref a] ∧ H a = some (.lst (ns.map V.int)) ∧ u [own (.lst (ns.map D.int))] (fun r _ => r = .val (.bl true)) ∧ ∀ H', OffA a H H' → Q (.bl true) H'
section
variable {P : Program} {w : World} {K : PySem.W.Frag} {mg : Str → Option Value} {base : Heap}
theorem own_true {CX : CXT} {k : Nat} {f : Addr} {fd : FuncData} {ps : List Str} {u : UF} (Fn : FnOk P w K mg base CX k f fd ps (PSp K 1 u)) : FnOk P w K mg base CX k f fd ps (spOwn u) := by
  refine Fn.imp fun vs H Q E ⟨a, ns, e, eh, hu, q⟩ => ?_
  subst e
  refine ⟨[own (.lst (ns.map D.int))], fun b => if b = a then none else H b, fun _ => False, fun r ss => r = .val (.bl true), rfl, rfl, ?_, hu, fun r ρ' v F' H' hr nx er rr na => ?_⟩
  · refine ⟨rfl, fun b o e => ?_, fun i p d h => ?_, fun i p d h => ?_, fun i j b p q d e h1 h2 h3 h4 => ?_, fun i o d h => ?_, fun b hb => hb.elim⟩
    · by_cases k : b = a
      · have e : (if b = a then none else H b) = some o := e
        rw [if_pos k] at e; cases e
      · have e : (if b = a then none else H b) = some o := e
        rwa [if_neg k] at e
    · match i, h with
      | 0, h => cases h
    · match i, h with
      | 0, h => cases h; exact ⟨a, rfl, .lst eh (ints_rl ns), if_pos rfl, fun h => h⟩
    · match i, j, h1, h2 with
      | 0, 0, _, _ => rfl
    · match i, h with
      | 0, h => cases h
  · subst hr
    have rr : RD K F' v (.bl true) := rr
    cases rr
    refine q H' fun b o hb e => ?_
    refine er.sub b o (nx.fz b o ?_)
    show (if b = a then none else H b) = some o
    rw [if_neg hb]; exact e
/-- script[k], or 0 -/
def spCellAt (K : PySem.W.Frag) : Sp := fun vs H Q _ => ∃ (a : Addr) (ns : List Int) (k : Nat), vs = [.ref a, .int (k : Nat)] ∧ SqL K H a (ns.map V.int) ∧ ∀ c, Q (.int c) H
/-- the end's promise -/
def spLaw (K : PySem.W.Frag) : Sp := fun vs H Q _ => ∃ (a : Addr) (ns : List Int), vs = [.ref a] ∧ SqL K H a (ns.map V.int) ∧ ns.length ≤ 63 ∧ ∀ H', Q (.bl true) H'
end
end YP
set_option maxRecDepth 100000
set_option maxHeartbeats 2000000
/-! The yard's pure layer, part 16: lists and tuples told over, pop and insert at a place, dict of pairs, repr. -/
namespace YP
open PySem PySem.Spec PyProof.Rows L2 Yard
theorem tuple_mulS (l : Addr) (items : Array Value) (n : Nat) (dd : Option Addr) (sl : Array (Option Value)) (x : Int) (u : Tok) (c0 : (decide (x < -(2 ^ 63)) || decide (x ≥ 2 ^ 63)) = false) (c1 : (items.isEmpty || x == 1) = true) :
    Meets (Builtin.«tuple.__mul__» ⟨[.ref l, .int x u], []⟩) (fun _ R s => s.heap.get? l = some { cls := .type "tuple", dict := dd, data := .seq items n, slots := sl } ∧ R (.ok (.ret (Value.ref l))) s) :=
  .of_wp fun prog w A R s h => by
    obtain ⟨hp, g, d, tk, os⟩ := s
    obtain ⟨hl, h⟩ := h
    have f1 := AutoSeq1.idx_int
    wp_walk using wpAny_loadPart' hl
    repeat (first
      | (refine wpAny_ite_false (decide_eq_false (by rw [c0]; exact Bool.false_ne_true)) ?_; wp_walk using wpAny_loadPart' hl)
      | (refine wpAny_ite_true (decide_eq_true c1) ?_; wp_walk using wpAny_loadPart' hl))
    exact ⟨_, rfl, h⟩
end YP
namespace YP
open PySem PySem.Spec PyProof.Rows L2 Yard
section
variable {X : Cx}
theorem op_repS : OpR X (binaryOp .Mult) (fun x y H Q => ∃ l k xs, x = V.ref l ∧ y = V.int k ∧ SqT X.K H l xs ∧ (xs = [] ∨ k = 1) ∧ -(2 ^ 63) ≤ k ∧ k < 2 ^ 63 ∧ Q (.ref l) H) := by
  intro pins s σ H x y v u Q I rx ry h
  obtain ⟨l, k, xs, rfl, rfl, hT, hne, h1, h2, q⟩ := h
  cases rx
  obtain ⟨t, rfl⟩ := ry
  obtain ⟨its, r, ⟨⟨cls, dd, data, sl⟩, ho, hc, n, hd⟩, hs⟩ := I.tuple hT
  simp only at hc hd
  subst hc hd
  have c0 : (decide (k < -(2 ^ 63)) || decide (k ≥ 2 ^ 63)) = false := by
    rw [decide_eq_false (by omega), decide_eq_false (by omega)] <;> rfl
  have c1 : (its.toArray.isEmpty || k == 1) = true := by
    rcases hne with e | e
    · subst e
      cases r
      rfl
    · subst e
      simp
  refine wpAny_binaryOp_repeat_ref (T := "tuple") (U := "int") (by decide) ⟨_, ho, rfl⟩ (fun s' => typeIs_int s' k t) noFill_tuple_mul F.fills_int_mul F.slot_int_rmul repeat_tuple F.slot_int_index.lookup
    (call_meets F.slot_int_rmul (typeIs_int s k t) F.entry_int_rmul (F.args_int_rmul_2 _ _) (int_rmul_tuple k t l its.toArray n dd sl)
      ⟨ho, rfl, ⟨_, ho, rfl⟩, call_meets F.slot_tuple_mul ⟨_, ho, rfl⟩ F.entry_tuple_mul (F.args_tuple_mul_2 _ _) (tuple_mulS l its.toArray n dd sl k t c0 c1) ⟨ho, ?_⟩⟩)
  exact ⟨.ref l, H, I, rfl, q⟩
def told {α : Type} (l : List α) (k : Int) : List α := (List.replicate k.toNat l).flatten
theorem RL.told {K : PySem.W.Frag} {F : Hp} {vs : List V} {ds : List D} (h : RL K F vs ds) (k : Int) : RL K F (YP.told vs k) (YP.told ds k) := by
  unfold YP.told
  generalize k.toNat = n
  induction n with
  | zero => exact .nil
  | succ n ih =>
    rw [List.replicate_succ, List.replicate_succ, List.flatten_cons, List.flatten_cons]
    exact h.app ih
theorem told_len {α : Type} (l : List α) (k : Int) : (told l k).length = k.toNat * l.length := by
  unfold told
  generalize k.toNat = n
  induction n with
  | zero => simp
  | succ n ih =>
    rw [List.replicate_succ, List.flatten_cons, List.length_append, ih, Nat.succ_mul]
    omega
theorem told_mem {α : Type} {l : List α} {k : Int} {x : α} (h : x ∈ told l k) : x ∈ l := by
  unfold told at h
  obtain ⟨m, hm, hx⟩ := List.mem_flatten.mp h
  rw [List.eq_of_mem_replicate hm] at hx
  exact hx
theorem told_nil {α : Type} (k : Int) : told ([] : List α) k = [] := by
  unfold told
  generalize k.toNat = n
  induction n with
  | zero => rfl
  | succ n ih => rw [List.replicate_succ, List.flatten_cons, ih]; rfl
theorem told_one {α : Type} (l : List α) : told l 1 = l := by
  unfold told
  show ([l] : List (List α)).flatten = l
  simp
def oMulX (d e : D) (T : Rv → Prop) : Prop := match d, e with
  | .int i, .int j => CMul i j ∧ T (.val (.int (i * j)))
  | .lst l, .int k => (0 ≤ k ∧ k ≤ 1000) ∧ l.length * k.toNat ≤ sizeLine ∧ T (.own (.lst (told l k)))
  | .tup l, .int k => 1 ≤ k ∧ k ≤ 1000 ∧ l.length ≤ 1000 ∧ T (.val (.tup (told l k)))
  | _, _ => False
theorem op_repL : OpR X (binaryOp .Mult) rRep := op_rep
theorem os_mulX : OpS X (binaryOp .Mult) oMulX := .of (OpR.or op_mul (OpR.or op_rep (OpR.or op_repT op_repS))) fun {F H σ0 σ ρ B x y d e T Q} E w1 w2 t g => by
  unfold oMulX at t
  split at t
  · cases w1.int; cases w2.int
    exact .inl ⟨_, _, rfl, rfl, t.1, gt_val E g t.2 (.int _)⟩
  · rename_i l k
    obtain ⟨a, vs, rfl, h1, l1⟩ := w1.lst E.sub
    cases w2.int
    exact .inr (.inl ⟨a, k, vs, rfl, rfl, h1, by omega, by omega, by rw [l1.len]; exact t.2.1, gt_lst E g t.2.2 (l1.told k)⟩)
  · rename_i l k
    obtain ⟨a, vs, e1, h1, l1⟩ := w1.tup E.sub
    subst e1
    cases w2.int
    by_cases hn : vs = [] ∨ k = 1
    · refine .inr (.inr (.inr ⟨a, k, vs, rfl, rfl, h1, hn, by omega, by omega, ?_⟩))
      have e : told l k = l := by
        rcases hn with z | z
        · subst z; cases l1; exact told_nil k
        · subst z; exact told_one l
      have t2 := t.2.2.2
      rw [e] at t2
      rcases w1 with w | w
      · exact gt_val E g t2 w
      · cases w
    · exact .inr (.inr (.inl ⟨a, k, vs, rfl, rfl, h1, fun z => hn (.inl z), by have := fun z => hn (.inr z); omega, t.2.1, by rw [l1.len]; exact t.2.2.1, gt_tup E g t.2.2.2 (l1.told k)⟩))
  · exact t.elim
end
end YP
set_option maxRecDepth 100000
set_option maxHeartbeats 2000000
/-! The yard's pure layer, part 17: repr, pop and insert at a place, dict of pairs, dict displays by a walk. -/
namespace YP
open PySem PySem.Spec PyProof.Rows L2 Yard
section
variable {X : Cx} {pins : List (Addr × Obj)} {σ : L2.St} {F H : Hp} {s : Shared}
mutual
theorem RD.reads (I : Inv X pins σ H s) (sF : Same F H) : ∀ {v : V} {d : D} {u : Value}, RD X.K F v d → plain d = true → RelV v u → ∃ as, Reads s.heap u (toP d) as ∧ ∀ b ∈ as, H b ≠ none
  | _, _, _, .non, _, r => by cases r; exact ⟨_, .none, fun _ h => nomatch h⟩
  | _, _, _, .bl b, _, r => by cases r; exact ⟨_, .bool b, fun _ h => nomatch h⟩
  | _, _, _, .int i, _, r => by obtain ⟨t, rfl⟩ := r; exact ⟨_, .int i t, fun _ h => nomatch h⟩
  | _, _, _, .str x, _, r => by obtain ⟨t, rfl⟩ := r; exact ⟨_, .str x t, fun _ h => nomatch h⟩
  | _, _, _, .lst h t, p, r => by
    cases r
    have h := sF _ _ h
    obtain ⟨_, its, n, rv, ho⟩ := I.hok _ _ h
    obtain ⟨as, k, q⟩ := RL.reads I sF t p rv
    refine ⟨_, .list (vs := its.toArray) ho rfl rfl (by simpa using k), fun b hb => ?_⟩
    rcases List.mem_cons.mp hb with z | z
    · rw [z, h]; exact fun y => nomatch y
    · exact q b z
  | _, _, _, .tup h t, p, r => by
    cases r
    obtain ⟨its, rv, ⟨o, ho, hc, n, hd⟩, _⟩ := I.tuple (sqT_mono sF h)
    obtain ⟨as, k, q⟩ := RL.reads I sF t p rv
    exact ⟨_, .tuple ho hc hd (by simpa using k), q⟩
  | _, _, _, .ty n, p, _ => nomatch p
  | _, _, _, .ref a, p, _ => nomatch p
  | _, _, _, .dic h t, p, _ => nomatch p
  | _, _, _, .obj h t, p, _ => nomatch p
  | _, _, _, .exc h t, p, _ => nomatch p
  | _, _, _, .scr h, p, _ => nomatch p
theorem RL.reads (I : Inv X pins σ H s) (sF : Same F H) : ∀ {vs : List V} {ds : List D} {us : List Value}, RL X.K F vs ds → plains ds = true → Vals vs us → ∃ as, ReadsAll s.heap us (toPs ds) as ∧ ∀ b ∈ as, H b ≠ none
  | _, _, _, .nil, _, r => by cases r; exact ⟨_, .nil, fun _ h => nomatch h⟩
  | _, _, _, .cons h t, p, r => by
    cases r with
    | cons r1 r2 =>
      obtain ⟨as, k, q⟩ := RD.reads I sF h (Bool.and_eq_true .. ▸ p).1 r1
      obtain ⟨bs, k2, q2⟩ := RL.reads I sF t (Bool.and_eq_true .. ▸ p).2 r2
      exact ⟨_, .cons k k2, fun b hb => (List.mem_append.mp hb).elim (q b) (q2 b)⟩
end
theorem RW.reads (I : Inv X pins σ H s) (sF : Same F H) {v : V} {d : D} {u : Value} (h : RW X.K F H v d) (p : plain d = true) (r : RelV v u) : ∃ as, Reads s.heap u (toP d) as ∧ ∀ b ∈ as, H b ≠ none := by
  rcases h with h | h
  · exact h.reads I sF p r
  · cases h with
    | lst h t =>
      cases r
      obtain ⟨_, its, n, rv, ho⟩ := I.hok _ _ h
      obtain ⟨as, k, q⟩ := RL.reads I sF t p rv
      refine ⟨_, .list (vs := its.toArray) ho rfl rfl (by simpa using k), fun b hb => ?_⟩
      rcases List.mem_cons.mp hb with z | z
      · rw [z, h]; exact fun y => nomatch y
      · exact q b z
    | dic h t => cases p
    | obj h t => cases p
/-- what repr tells -/
def okRepr (d : D) : Prop := plain d = true ∧ (toP d).showable = true ∧ (toP d).depth ≤ 64 ∧ (toP d).shown.length ≤ sizeLine
def oRepr (ds : List D) (T : Rv → Prop) : Prop := match ds with
  | [d] => okRepr d ∧ T (.val (.str (toP d).shown))
  | _ => False
def rReprW (K : PySem.W.Frag) : List V → Hp → VK → Prop := fun xs H Q => ∃ v d F, xs = [v] ∧ Same F H ∧ RW K F H v d ∧ okRepr d ∧ Q (.str (toP d).shown) H
theorem call_reprW (hg : X.A.guards = some []) (hs : ∃ m, X.base.Ns sysModules m)
    (hu : X.A.units + 80 < cLine) : CallR X (.builtin "repr") (rReprW X.K) := by
  intro pins s σ H xs us Q I r h
  obtain ⟨v, d, F, rfl, sF, hd, ⟨pl, sh, dp, sz⟩, q⟩ := h
  obtain ⟨u, rfl, rv⟩ := vals1 r
  have fin : ∀ (h' : Heap) (t : Nat) (x : Str) (tk : Tok), x = (toP d).shown →
      (∀ b o, s.heap.get? b = some o → h'.get? b = some o) →
      EP X pins σ Q (.str x tk) { s with heap := h', toks := t } :=
    fun h' t x tk e k => ⟨.str x, H, I.kept (t' := t) k, ⟨_, rfl⟩, by rw [e]; exact q⟩
  obtain ⟨as, rd, ha⟩ := hd.reads I sF pl rv
  have ref_ : ∀ a, u = .ref a →
      wpAny (model X.prog X.w) X.A (PySem.call (.builtin "repr") [u]) (EP X pins σ Q) X.xe s := by
    intro a e
    subst e
    exact repr_of_reads' rd sh (fun _ => no_sys I hs ha) hg (by omega)
      (fun _ _ z => z) (fun h' u tk k => fin h' tk _ u rfl k) sz
  cases d with
  | non =>
    cases hd.non
    cases rv
    exact P.repr_of_none (fin s.heap _ _ _ (by simp only [toP, PyData.shown]) fun _ _ z => z)
  | bl b =>
    cases hd.bl
    cases rv
    refine P.repr_of_bool (fin s.heap _ _ _ ?_ fun _ _ z => z)
    cases b <;> simp only [toP, PyData.shown] <;> rfl
  | int i =>
    cases hd.int
    obtain ⟨t, rfl⟩ := rv
    refine P.repr_of_int (by simpa [toP, PyData.showable] using sh)
      (fin s.heap _ _ _ ?_ fun _ _ z => z)
    simp only [toP, PyData.shown]
  | str x =>
    cases hd.str
    obtain ⟨t, rfl⟩ := rv
    refine P.repr_of_str (fin s.heap _ _ _ ?_ fun _ _ z => z)
      (by simpa only [toP, PyData.shown] using sz)
    simp only [toP, PyData.shown]
  | lst l => obtain ⟨a, us, e, _⟩ := hd.lst sF; subst e; exact ref_ _ rv
  | tup l => obtain ⟨a, us, e, _⟩ := hd.tup sF; subst e; exact ref_ _ rv
  | _ => cases pl
theorem cb_repr (hg : X.A.guards = some []) (hs : ∃ m, X.base.Ns sysModules m) (hu : X.A.units + 80 < cLine) : CbS X (.builtin "repr") oRepr := .of (call_reprW hg hs hu) fun {F H σ0 σ ρ B vs ds T Q} E w t g => by
  unfold oRepr at t
  split at t
  · obtain ⟨v, rfl, w0⟩ := w.one
    exact ⟨v, _, F, rfl, E.sub, w0, t.1, gt_val E g t.2 (.str _)⟩
  · exact t.elim
end
/-! ### l.pop(i), l.insert(i, x), l.clear() -/
theorem RL.erase {K : PySem.W.Frag} {F : Hp} : ∀ {vs : List V} {ds : List D} (k : Nat), RL K F vs ds → RL K F (vs.eraseIdx k) (ds.eraseIdx k)
  | _, _, _, .nil => .nil
  | _, _, 0, .cons _ t => t
  | _, _, k + 1, .cons h t => .cons h (t.erase k)
def mPopAt (l ds : List D) (T : List D → D → Prop) : Prop := match ds with
  | [.int i] => ∃ (k : Nat) (d : D), i = (k : Int) ∧ k < 1000000 ∧ l[k]? = some d ∧ T (l.eraseIdx k) d
  | _ => False
theorem seqIx {k n : Nat} (h : k < n) : seqIndex? (k : Int) n = some k := by
  unfold seqIndex?
  have h1 : ¬ ((k : Int) < 0) := by omega
  have h2 : (decide ((0 : Int) ≤ (k : Int)) && decide ((k : Int) < ((n : Nat) : Int))) = true := by
    rw [decide_eq_true (by omega), decide_eq_true (by omega)]; rfl
  simp only [if_neg h1]
  rw [if_pos h2]
  rfl
theorem mu_popAt : MuS X "list.pop" mPopAt := .of mt_popAt fun {F H a us vs l ds T Q} s h rl rv t g => by
  unfold mPopAt at t
  split at t
  · obtain ⟨k, d, rfl, hk, e, t⟩ := t
    cases rv with
    | cons r1 r2 =>
      cases r2; cases r1
      obtain ⟨v, ev, rd⟩ := rl.got e
      have hl : k < us.length := (List.getElem?_eq_some_iff.mp ev).1
      exact ⟨a, us, _, k, v, rfl, rfl, h, by omega, by omega, seqIx hl, ev, g _ _ _ _ t (rl.erase k) rd⟩
  · exact t.elim
def mInsert (l ds : List D) (T : List D → D → Prop) : Prop := match ds with
  | [.int i, d] => 0 ≤ i ∧ i < 1000000 ∧ l.length < sizeLine ∧ T (l.take i.toNat ++ [d] ++ l.drop i.toNat) .non
  | _ => False
theorem mu_insert : MuS X "list.insert" mInsert := .of mt_insert fun {F H a us vs l ds T Q} s h rl rv t g => by
  unfold mInsert at t
  split at t
  · cases rv with
    | cons r1 r2 =>
      cases r2 with
      | cons r2 r3 =>
        cases r3; cases r1
        exact ⟨a, us, _, _, rfl, rfl, h, by rw [rl.len]; exact t.2.2.1, t.1, by omega, g _ _ _ _ t.2.2.2 (((rl.take _).app (.cons r2 .nil)).app (rl.drop _)) .non⟩
  · exact t.elim
/-! ### dict(l) -/
def kD : Key → D
  | .inl i => .int i
  | .inr x => .str x
def pairD (kv : Key × D) : D := .tup [kD kv.1, kv.2]
theorem rd_key {K : PySem.W.Frag} {F : Hp} {k : Key} {v : V} (h : RD K F v (kD k)) : v = kV k := by
  cases k with
  | inl i => cases h; rfl
  | inr x => cases h; rfl
theorem rl_pairs {K : PySem.W.Frag} {F : Hp} : ∀ {kvs : List (Key × D)} {vs : List V}, RL K F vs (kvs.map pairD) → ∃ (ps : List Addr) (ks : List (Key × V)), vs = ps.map V.ref ∧ Paired (fun p kv => SqT K F p [kV kv.1, kv.2]) ps ks ∧ RK K F ks kvs
  | [], _, h => by cases h; exact ⟨[], [], rfl, .nil, .nil⟩
  | (k, d) :: kvs, _, h => by
    cases h with
    | cons h1 h2 =>
      obtain ⟨ps, ks, rfl, p, r⟩ := rl_pairs h2
      cases h1 with
      | @tup a us _ hs hl =>
        cases hl with
        | cons ha hb =>
          cases hb with
          | cons hb hc =>
            cases hc
            have e := rd_key ha
            subst e
            exact ⟨a :: ps, (k, _) :: ks, rfl, .cons hs p, .cons hb r⟩
theorem paired_mono {K : PySem.W.Frag} {F H : Hp} (s : Same F H) : ∀ {ps : List Addr} {ks : List (Key × V)}, Paired (fun p kv => SqT K F p [kV kv.1, kv.2]) ps ks → Paired (fun p kv => SqT K H p [kV kv.1, kv.2]) ps ks
  | _, _, .nil => .nil
  | _, _, .cons h t => .cons (sqT_mono s h) (paired_mono s t)
def oDict (ds : List D) (T : Rv → Prop) : Prop := match ds with
  | [.lst l] => ∃ kvs : List (Key × D), l = kvs.map pairD ∧ T (.own (.dic (kmerge [] kvs)))
  | _ => False
theorem cb_dict {X : Cx} (hc : X.calm = true) : CbS X (.type "dict") oDict := .of (call_dictP hc) fun {F H σ0 σ ρ B vs ds T Q} E w t g => by
  unfold oDict at t
  split at t
  · obtain ⟨kvs, rfl, t⟩ := t
    obtain ⟨v, rfl, w0⟩ := w.one
    obtain ⟨a, us, rfl, h1, l1⟩ := w0.lst E.sub
    obtain ⟨ps, ks, rfl, p, r⟩ := rl_pairs l1
    exact ⟨a, ps, ks, rfl, .of h1, paired_mono E.sub p, gt_dic E g t (r.merge .nil)⟩
  · exact t.elim
end YP
set_option maxRecDepth 100000
set_option maxHeartbeats 2000000
/-! The yard's pure layer, part 18: an object that is being made: its fields stay, or are lists and dicts of its own. -/
namespace YP
open PySem PySem.Spec PyProof.Rows L2 Yard
abbrev OS := List (Str × Bool × D)
inductive OF (K : PySem.W.Frag) (F H : Hp) : List (Str × V) → OS → List Addr → Prop
  | nil : OF K F H [] [] []
  | fz {f : Str} {v : V} {d : D} {vfs : List (Str × V)} {os : OS} {as : List Addr} : RD K F v d → OF K F H vfs os as → OF K F H ((f, v) :: vfs) ((f, false, d) :: os) as
  | ow {f : Str} {b : Addr} {d : D} {vfs : List (Str × V)} {os : OS} {as : List Addr} : RO K F H (.ref b) d → b ∉ as → OF K F H vfs os as → OF K F H ((f, .ref b) :: vfs) ((f, true, d) :: os) (b :: as)
section
variable {K : PySem.W.Frag} {F F' H H' : Hp} {vfs : List (Str × V)} {os : OS} {as : List Addr}
theorem OF.mono (s : Same F F') : ∀ {vfs os as}, (∀ c ∈ as, H' c = H c) → OF K F H vfs os as → OF K F' H' vfs os as
  | _, _, _, _, .nil => .nil
  | _, _, _, k, .fz r t => .fz (r.mono s) (t.mono s k)
  | _, _, _, k, .ow r n t => .ow (r.keep s (k _ List.mem_cons_self)) n (t.mono s fun c h => k c (List.mem_cons_of_mem _ h))
theorem OF.len : ∀ {vfs os as}, OF K F H vfs os as → vfs.length = os.length
  | _, _, _, .nil => rfl
  | _, _, _, .fz _ t => congrArg (· + 1) t.len
  | _, _, _, .ow _ _ t => congrArg (· + 1) t.len
theorem OF.snocF {f : Str} {v : V} {d : D} (r : RD K F v d) : ∀ {vfs os as}, OF K F H vfs os as → OF K F H (vfs ++ [(f, v)]) (os ++ [(f, false, d)]) as
  | _, _, _, .nil => .fz r .nil
  | _, _, _, .fz q t => .fz q (t.snocF r)
  | _, _, _, .ow q n t => .ow q n (t.snocF r)
theorem OF.snocO {f : Str} {b : Addr} {d : D} (r : RO K F H (.ref b) d) : ∀ {vfs os as}, b ∉ as → OF K F H vfs os as → OF K F H (vfs ++ [(f, .ref b)]) (os ++ [(f, true, d)]) (as ++ [b])
  | _, _, _, _, .nil => .ow r (fun h => nomatch h) .nil
  | _, _, _, k, .fz q t => .fz q (t.snocO r k)
  | _, _, _, k, .ow q n t => .ow q (fun h => by
      rcases List.mem_append.mp h with z | z
      · exact n z
      · rw [List.mem_singleton.mp z] at k; exact k List.mem_cons_self) (t.snocO r fun z => k (List.mem_cons_of_mem _ z))
theorem OF.put_new {f : Str} {v : V} : ∀ {vfs os as}, OF K F H vfs os as → (∀ p ∈ os, p.1 ≠ f) → putF f v vfs = vfs ++ [(f, v)]
  | _, _, _, .nil, _ => rfl
  | _, _, _, .fz (f := g) _ t, n => by
    show (if g = f then _ else _) = _
    rw [if_neg (n _ List.mem_cons_self), t.put_new fun p h => n p (List.mem_cons_of_mem _ h)]; rfl
  | _, _, _, .ow (f := g) _ _ t, n => by
    show (if g = f then _ else _) = _
    rw [if_neg (n _ List.mem_cons_self), t.put_new fun p h => n p (List.mem_cons_of_mem _ h)]; rfl
def oget (os : OS) (f : Str) : Option (Bool × D) := os.lookup f
def oset (f : Str) (d : D) : OS → OS
  | [] => []
  | (g, o, x) :: r => if g = f then (g, o, d) :: r else (g, o, x) :: oset f d r
/-- a field that is the object's own -/
theorem OF.own {f : Str} {d : D} : ∀ {vfs os as}, OF K F H vfs os as → oget os f = some (true, d) → ∃ b, vfs.lookup f = some (.ref b) ∧ RO K F H (.ref b) d ∧ b ∈ as ∧
    ∀ {H' : Hp} {e : D}, RO K F H' (.ref b) e → (∀ c ∈ as, c ≠ b → H' c = H c) → OF K F H' vfs (oset f e os) as
  | _, _, _, .nil, h => nomatch h
  | _, _, _, .fz (f := g) (vfs := vfs) r t, h => by
    unfold oget List.lookup at h
    cases q : f == g with
    | true => rw [q] at h; cases h
    | false =>
      rw [q] at h
      obtain ⟨b, e1, r1, m, k⟩ := t.own h
      refine ⟨b, ?_, r1, m, fun ro hk => ?_⟩
      · unfold List.lookup; rw [q]; exact e1
      · show OF K F _ _ (if g = f then _ else _) _
        rw [if_neg (fun z => by rw [z] at q; simp at q)]
        exact .fz r (k ro hk)
  | _, _, _, .ow (f := g) (b := b0) r n t, h => by
    unfold oget List.lookup at h
    cases q : f == g with
    | true =>
      rw [q] at h; cases h
      have eg : g = f := (beq_iff_eq.mp q).symm
      refine ⟨b0, by unfold List.lookup; rw [q], r, List.mem_cons_self, fun ro hk => ?_⟩
      show OF K F _ _ (if g = f then _ else _) _
      rw [if_pos eg]
      exact .ow ro n (t.mono (Same.refl _) fun c hc => hk c (List.mem_cons_of_mem _ hc) fun z => n (z ▸ hc))
    | false =>
      rw [q] at h
      obtain ⟨b, e1, r1, m, k⟩ := t.own h
      refine ⟨b, ?_, r1, List.mem_cons_of_mem _ m, fun ro hk => ?_⟩
      · unfold List.lookup; rw [q]; exact e1
      · show OF K F _ _ (if g = f then _ else _) _
        rw [if_neg (fun z => by rw [z] at q; simp at q)]
        have nb : b0 ≠ b := fun z => n (z ▸ m)
        exact .ow (r.keep (Same.refl _) (hk b0 List.mem_cons_self nb)) n (k ro fun c hc hcb => hk c (List.mem_cons_of_mem _ hc) hcb)
end
def gB (B : Addr → Prop) (a : Addr) (as : List Addr) : Addr → Prop := fun c => B c ∨ c = a ∨ c ∈ as
structure GO (K : PySem.W.Frag) (F H : Hp) (B : Addr → Prop) (a C : Addr) (os : OS) (as : List Addr) : Prop where
  at_ : ∃ dx vfs, H a = some (.ins C dx vfs) ∧ OF K F H vfs os as
  na : a ∉ as
  nB : ¬ B a ∧ ∀ c ∈ as, ¬ B c
section
variable {K : PySem.W.Frag} {F F' H H' : Hp} {σ0 σ : L2.St} {ρ : List Sl} {B : Addr → Prop} {a C : Addr} {os : OS} {as : List Addr}
theorem GO.on {Bx : Addr → Prop} (g : GO K F H B a C os as) (n : Nx F H F' H' Bx) (h : ∀ c, gB B a as c → Bx c) : GO K F' H' B a C os as := by
  obtain ⟨dx, vfs, e, o⟩ := g.at_
  exact ⟨⟨dx, vfs, (n.out a (h a (.inr (.inl rfl)))).trans e, o.mono n.fz fun c hc => n.out c (h c (.inr (.inr hc)))⟩, g.na, g.nB⟩
/-- what is held is written -/
theorem ER.held_write {b : Addr} {o : HO} (E : ER K F H σ0 ρ σ B) (hb : B b) : ER K F (upd H b o) σ0 ρ σ B := by
  obtain ⟨h1, h2⟩ := E.out b hb
  refine ⟨E.len, fun c u q => by rw [upd_ne (ne_of_none q h2)]; exact E.sub c u q, E.fz, fun i p d q => ?_, E.inj, E.par, fun c hc => ⟨?_, (E.out c hc).2⟩⟩
  · obtain ⟨c, e, ro, n, nb⟩ := E.ow i p d q
    exact ⟨c, e, ro.keep (Same.refl _) (upd_ne fun z => nb (z ▸ hb)), n, nb⟩
  · by_cases z : c = b
    · subst z; rw [upd_same]; exact fun y => (nomatch y)
    · rw [upd_ne z]; exact (E.out c hc).1
/-- what is held stays from now on -/
theorem ER.held_freeze {b : Addr} {o : HO} (E : ER K F H σ0 ρ σ B) (hb : B b) (e : H b = some o) : ER K (upd F b o) H σ0 ρ σ (fun c => B c ∧ c ≠ b) ∧ Same F (upd F b o) := by
  obtain ⟨h1, h2⟩ := E.out b hb
  have s : Same F (upd F b o) := fun c u q => by rw [upd_ne (ne_of_none q h2)]; exact q
  refine ⟨⟨E.len, fun c u q => ?_, fun i p d q => ?_, fun i p d q => ?_, E.inj, E.par, fun c hc => ⟨(E.out c hc.1).1, by rw [upd_ne hc.2]; exact (E.out c hc.1).2⟩⟩, s⟩
  · by_cases z : c = b
    · subst z; rw [upd_same] at q; cases q; exact e
    · rw [upd_ne z] at q; exact E.sub c u q
  · obtain ⟨v, e1, rd⟩ := E.fz i p d q
    exact ⟨v, e1, rd.mono s⟩
  · obtain ⟨c, e1, ro, n, nb⟩ := E.ow i p d q
    have hc : c ≠ b := fun z => nb (z ▸ hb)
    exact ⟨c, e1, ro.keep s rfl, by rw [upd_ne hc]; exact n, fun z => nb z.1⟩
theorem ER.less {B' : Addr → Prop} (E : ER K F H σ0 ρ σ B) (h : ∀ c, B' c → B c) : ER K F H σ0 ρ σ B' :=
  ⟨E.len, E.sub, E.fz, fun i p d q => let ⟨a, e, x, y, z⟩ := E.ow i p d q; ⟨a, e, x, y, fun hb => z (h a hb)⟩, E.inj, E.par, fun a hb => E.out a (h a hb)⟩
def ofs (os : OS) : List (Str × D) := os.map fun p => (p.1, p.2.2)
/-- all fields stay from now on -/
theorem OF.freeze : ∀ {vfs : List (Str × V)} {os : OS} {as : List Addr} {F : Hp} {B : Addr → Prop}, OF K F H vfs os as → ER K F H σ0 ρ σ B → (∀ c ∈ as, B c) →
    ∃ F', Same F F' ∧ ER K F' H σ0 ρ σ (fun c => B c ∧ c ∉ as) ∧ RF K F' vfs (ofs os) ∧ ∀ c, c ∉ as → F' c = F c
  | _, _, _, F, B, .nil, E, _ => ⟨F, Same.refl _, E.less fun c h => h.1, .nil, fun _ _ => rfl⟩
  | _, _, _, F, B, .fz r t, E, h => by
    obtain ⟨F', s, E', rf, k⟩ := t.freeze E h
    exact ⟨F', s, E', .cons (r.mono s) rf, k⟩
  | _, _, _, F, B, .ow (b := b) (as := as) r n t, E, h => by
    obtain ⟨_, o, e0, e⟩ := r.there
    cases e0
    obtain ⟨E1, s1⟩ := E.held_freeze (h b List.mem_cons_self) e
    have fb : F b = none := (E.out b (h b List.mem_cons_self)).2
    have rd := r.froze fb e
    obtain ⟨F', s, E', rf, k⟩ := (t.mono s1 fun _ _ => rfl).freeze E1 fun c hc => ⟨h c (List.mem_cons_of_mem _ hc), fun z => n (z ▸ hc)⟩
    refine ⟨F', s1.trans s, E'.less fun c hc => ⟨⟨hc.1, fun z => hc.2 (by rw [z]; exact List.mem_cons_self)⟩, fun z => hc.2 (List.mem_cons_of_mem _ z)⟩, .cons (rd.mono s) rf, fun c hc => ?_⟩
    rw [k c fun z => hc (List.mem_cons_of_mem _ z), upd_ne fun z => hc (by rw [z]; exact List.mem_cons_self)]
/-- the object stays from now on -/
theorem GO.freeze (g : GO K F H B a C os as) (E : ER K F H σ0 ρ σ (gB B a as)) : ∃ F', Same F F' ∧ ER K F' H σ0 ρ σ B ∧ RD K F' (.ref a) (.obj C (ofs os)) := by
  obtain ⟨dx, vfs, e, o⟩ := g.at_
  obtain ⟨F1, s1, E1, rf, k⟩ := o.freeze E fun c hc => .inr (.inr hc)
  obtain ⟨E2, s2⟩ := E1.held_freeze (b := a) ⟨.inr (.inl rfl), g.na⟩ e
  refine ⟨upd F1 a (.ins C dx vfs), s1.trans s2, E2.less fun c hc => ⟨⟨.inl hc, fun z => g.nB.2 c z hc⟩, fun z => g.nB.1 (by rw [← z]; exact hc)⟩, .obj upd_same (rf.mono s2)⟩
end
/-! ### statements beside an object that is being made -/
structure EnO where
  nx : OS → List Sl → Prop
  rel : List (Str × D) → List Sl → Prop
  xc : Addr → List (Str × D) → List Sl → Prop
abbrev USO := EnO → OS → List Sl → Prop
abbrev S0 (a : Addr) : Sl := .sl false true (.ref a)
structure FolO (K : PySem.W.Frag) (F H : Hp) (σ0 : L2.St) (B : Addr → Prop) (a C : Addr) (E : EnO) (D : Ends) (W : WX) : Prop where
  nx : ∀ os' as' ρ' σ' F' H', E.nx os' ρ' → ρ'[0]? = some (S0 a) → Nx F H F' H' B → ER K F' H' σ0 ρ' σ' (gB B a as') → GO K F' H' B a C os' as' → D.nx σ' H'
  rel : ∀ fs ρ' σ' F' H', E.rel fs ρ' → Nx F H F' H' B → ER K F' H' σ0 ρ' σ' B → RD K F' (.ref a) (.obj C fs) → D.nx σ' H'
  xc : ∀ C' fs ρ' σ' F' H' dd vfs, E.xc C' fs ρ' → Gd K F H F' H' σ0 ρ' σ' B → F' dd = some (.xd vfs) → RF K F' vfs fs → W (.ref C') (some dd) σ' H'
theorem FolO.on {K : PySem.W.Frag} {F H F1 H1 : Hp} {σ0 : L2.St} {B : Addr → Prop} {a C : Addr} {E : EnO} {D : Ends} {W : WX} (f : FolO K F H σ0 B a C E D W) (n : Nx F H F1 H1 B) : FolO K F1 H1 σ0 B a C E D W :=
  ⟨fun os' as' ρ' σ' F' H' e h0 n' => f.nx os' as' ρ' σ' F' H' e h0 (n.trans n'), fun fs ρ' σ' F' H' e n' => f.rel fs ρ' σ' F' H' e (n.trans n'), fun C' fs ρ' σ' F' H' dd vfs e G => f.xc C' fs ρ' σ' F' H' dd vfs e ⟨n.trans G.nx, G.er⟩⟩
structure FSO (X : Cx) (C : Addr) (st : Stmt) (u : USO) : Prop where
  run : ∀ (W : WX), Takes X W → ∀ (E : EnO) (os : OS) (ρ : List Sl), u E os ρ → ∀ (F H : Hp) (σ0 σ : L2.St) (B : Addr → Prop) (a : Addr) (as : List Addr) (D : Ends), ρ[0]? = some (S0 a) → ER X.K F H σ0 ρ σ (gB B a as) → GO X.K F H B a C os as → FolO X.K F H σ0 B a C E D W → tSS X st D σ H
structure FBO (X : Cx) (C : Addr) (sts : List Stmt) (u : USO) : Prop where
  run : ∀ (W : WX), Takes X W → ∀ (E : EnO) (os : OS) (ρ : List Sl), u E os ρ → ∀ (F H : Hp) (σ0 σ : L2.St) (B : Addr → Prop) (a : Addr) (as : List Addr) (D : Ends), ρ[0]? = some (S0 a) → ER X.K F H σ0 ρ σ (gB B a as) → GO X.K F H B a C os as → FolO X.K F H σ0 B a C E D W → tBs X sts D σ H
theorem gB_sub {B : Addr → Prop} {a : Addr} {as : List Addr} : ∀ c, B c → gB B a as c := fun _ h => .inl h
section
variable {X : Cx} {C : Addr} {st : Stmt} {rest body : List Stmt} {t u : USO} {e : Expr} {pos : Pos}
/-- a statement that doesn't touch the object -/
def uLO (u : USX) : USO := fun E os ρ => u ⟨{ nx := fun ρ' => ρ'[0]? = ρ[0]? ∧ E.nx os ρ', rt := fun _ _ => False }, E.xc⟩ ρ
theorem fso_x {u : USX} (h : FSX X st u) : FSO X C st (uLO u) := ⟨fun W tk E os ρ q F H σ0 σ B a as D h0 er go f =>
  h.run W tk _ ρ q F H σ0 σ (gB B a as) D er ⟨⟨fun ρ' σ' F' H' z G => f.nx os as ρ' σ' F' H' z.2 (z.1.trans h0) (G.nx.mono gB_sub) G.er (go.on G.nx fun c h => h), fun _ _ _ _ _ _ e _ => e.elim, fun _ _ _ _ e _ => e.elim, fun _ _ _ _ e _ => e.elim⟩,
    fun C' fs ρ' σ' F' H' dd vfs e G fd rf => f.xc C' fs ρ' σ' F' H' dd vfs e ⟨G.nx.mono gB_sub, G.er.less gB_sub⟩ fd rf⟩⟩
def uSeqO (t u : USO) : USO := fun E os ρ => t { E with nx := u E, rel := fun _ _ => False } os ρ
theorem fbo_cons (h1 : FSO X C st t) (h2 : FBO X C rest u) : FBO X C (st :: rest) (uSeqO t u) := ⟨fun W tk E os ρ q F H σ0 σ B a as D h0 er go f =>
  to_Bs (pss_cons ps_S pss_S) (h1.run W tk _ os ρ q F H σ0 σ B a as _ h0 er go ⟨fun os' as' ρ' σ' F' H' z h0' n er' go' => h2.run W tk E os' ρ' z F' H' σ0 σ' B a as' D h0' er' go' (f.on n), fun _ _ _ _ _ e => e.elim, f.xc⟩)⟩
theorem fbo_one (h1 : FSO X C st t) : FBO X C [st] t := ⟨fun W tk E os ρ q F H σ0 σ B a as D h0 er go f => to_Bs (pss_one ps_S) (h1.run W tk E os ρ q F H σ0 σ B a as D h0 er go f)⟩
/-- from here on the object stays: its slot holds it as a datum -/
def uRelO (C : Addr) (u : USX) : USO := fun E os ρ => u ⟨{ nx := E.rel (ofs os), rt := fun _ _ => False }, E.xc⟩ (ρ.set 0 (.sl false false (.obj C (ofs os))))
theorem fbo_rel {u : USX} (h : FBX X rest u) : FBO X C rest (uRelO C u) := ⟨fun W tk E os ρ q F H σ0 σ B a as D h0 er go f => by
  obtain ⟨F1, s1, E1, rd⟩ := go.freeze er
  obtain ⟨v, e0, rv⟩ := E1.fz 0 true _ h0
  cases rv
  have hs : σ.set 0 (some (V.ref a)) = σ := by
    refine List.ext_getElem? fun j => ?_
    by_cases hj : j = 0
    · subst hj
      have hl : 0 < σ.length := (List.getElem?_eq_some_iff.mp e0).1
      rw [List.getElem?_set_self hl, e0]
    · rw [List.getElem?_set_ne (Ne.symm hj)]
  have E2 := E1.set_val (i := 0) rd
  rw [hs] at E2
  have n1 : Nx F H F1 H B := ⟨s1, fun _ _ => rfl⟩
  exact h.run W tk _ _ q F1 H σ0 σ B D E2 ⟨⟨fun ρ' σ' F' H' z G => f.rel _ ρ' σ' F' H' z (n1.trans G.nx) G.er (rd.mono G.nx.fz), fun _ _ _ _ _ _ e _ => e.elim, fun _ _ _ _ e _ => e.elim, fun _ _ _ _ e _ => e.elim⟩,
    fun C' fs ρ' σ' F' H' dd vfs e G fd rf => f.xc C' fs ρ' σ' F' H' dd vfs e ⟨n1.trans G.nx, G.er⟩ fd rf⟩⟩
def uForO (w : UI) (g : UG) (tb : USO) : USO := fun E os ρ => w ρ fun ds ρ1 => ρ1[0]? = ρ[0]? ∧ ∃ W : Nat → OS → List Sl → Prop, W 0 os ρ1 ∧ (∀ i d os ρ2, ds[i]? = some d → W i os ρ2 → ρ2[0]? = ρ[0]? →
  g d ρ2 fun ρ3 => ρ3[0]? = ρ[0]? ∧ tb ⟨W (i + 1), fun _ _ => False, E.xc⟩ os ρ3) ∧ ∀ os ρ2, W ds.length os ρ2 → E.nx os ρ2
theorem fso_for {tg iter : Expr} {w : UI} {g : UG} (hp : PassesOwn (model X.prog X.w) X.A X.env X.xe) (hc : X.calm = true) (hi : FI X tg iter w) (hg : FG X none tg g) (hb : FBO X C body t)
    (hs : ∀ x, foldedSetIterable iter X.env x = pure x := by intro _; rfl) : FSO X C (.For tg iter body [] pos) (uForO w g t) := ⟨fun WX tk E os ρ q F H σ0 σ B a as D h0 er go f => by
  refine to_SS (ps_for hp hc pi_S pg_S pss_S hs) (hi ρ _ q F H σ0 σ (gB B a as) _ er fun ds ρ1 J F1 H1 ⟨hz, W, w0, turn, done⟩ G1 wd => ?_)
  have h1 : ρ1[0]? = some (S0 a) := hz.trans h0
  have f1 := f.on (G1.nx.mono gB_sub)
  refine for_it wd (fun i σ' H' => ∃ os' as' ρ' F', W i os' ρ' ∧ ρ'[0]? = some (S0 a) ∧ Nx F1 H1 F' H' B ∧ ER X.K F' H' σ0 ρ' σ' (gB B a as') ∧ GO X.K F' H' B a C os' as') ⟨os, as, ρ1, F1, w0, h1, .refl _ _ _, G1.er, go.on G1.nx fun c h => h⟩
    (fun i σ' H' _ ⟨os', as', ρ', F', _, _, n, e, _⟩ => n.fz.trans e.sub) ?_ (fun σ' H' ⟨os', as', ρ', F', w', h', n', e', g'⟩ => f1.nx os' as' ρ' σ' F' H' (done os' ρ' w') h' n' e' g')
  rintro i x σ2 H2 H3 hi ⟨os2, as2, ρ2, F2, w2, h2, n2, e2, g2⟩ y
  obtain ⟨d, F3, e, G3, rd⟩ := yd_er e2 n2.fz y
  have g3 := g2.on G3.nx fun c h => h
  refine hg d ρ2 _ (turn i d os2 ρ2 e w2 (h2.trans h0.symm)) F3 H3 σ0 σ2 (gB B a as2) x _ G3.er rd fun ρ4 σ4 F4 H4 z G4 _ => ?_
  have n4 := n2.trans ((G3.nx.trans G4.nx).mono gB_sub)
  have f4 := f1.on n4
  exact hb.run WX tk _ os2 ρ4 z.2 F4 H4 σ0 σ4 B a as2 _ (z.1.trans h0) G4.er (g3.on G4.nx fun c h => h) ⟨fun os' as' ρ' σ' F' H' w' h' n' e' g' => ⟨os', as', ρ', F', w', h', n4.trans n', e', g'⟩, fun _ _ _ _ _ e => e.elim, f4.xc⟩⟩
/-! ### self.f = e -/
def uFldF (f : Str) (ue : UE) : USO := fun E os ρ => ue ρ fun r ρ1 => wv ρ1 r fun d => (frz ρ1 r)[0]? = ρ[0]? ∧ os.length < 1000 ∧ (∀ p ∈ os, p.1 ≠ f) ∧ E.nx (os ++ [(f, false, d)]) (frz ρ1 r)
def uFldO (f : Str) (ue : UE) : USO := fun E os ρ => ue ρ fun r ρ1 => match r with
  | .own d => ρ1[0]? = ρ[0]? ∧ os.length < 1000 ∧ (∀ p ∈ os, p.1 ≠ f) ∧ E.nx (os ++ [(f, true, d)]) ρ1
  | _ => False
theorem fso_fldF {f : Str} {n : Str} {ue : UE} {p pos' : Pos} (hc : Cls X.K C) (hn : NoAttr X.K C f) (ho : PE X (.Name n p) (tVar 0)) (he : FE X e ue) (hs : swapsWith e (some (.Attribute (.Name n p) f pos')) pos.line X.env = pure false := by rfl) :
    FSO X C (.Assign [.Attribute (.Name n p) f pos'] e pos) (uFldF f ue) := ⟨fun W tk E os ρ q F H σ0 σ B a as D h0 er go f => by
  refine to_SS (ps_fld ho pe_S hs) (he ρ _ q F H σ0 σ (gB B a as) _ er fun r ρ1 v F1 H1 z G => ?_)
  obtain ⟨F2, d, n2, E2, rd, z1, z2, z3, z⟩ := G.er.freeze G.rr z
  have g2 := (go.on G.nx fun c h => h).on n2 fun c h => h
  have h2 := z1.trans h0
  obtain ⟨x0, e0, rx⟩ := E2.fz 0 true _ h2
  cases rx
  obtain ⟨dx, vfs, e1, o1⟩ := g2.at_
  refine ⟨_, e0, a, C, dx, vfs, rfl, e1, hc, hn, by rw [o1.len]; exact z2, ?_⟩
  refine f.nx _ as _ σ F2 _ z h2 ((G.nx.trans n2).mono gB_sub |>.trans ⟨Same.refl _, fun c hc => upd_ne fun y => g2.nB.1 (y ▸ hc)⟩) (E2.held_write (.inr (.inl rfl))) ⟨⟨dx, _, upd_same, ?_⟩, g2.na, g2.nB⟩
  rw [o1.put_new z3]
  exact OF.snocF rd (OF.mono (Same.refl _) (fun c hc => upd_ne (show c ≠ a from fun y => g2.na (y ▸ hc))) o1)⟩
theorem fso_fldO {f : Str} {n : Str} {ue : UE} {p pos' : Pos} (hc : Cls X.K C) (hn : NoAttr X.K C f) (ho : PE X (.Name n p) (tVar 0)) (he : FE X e ue) (hs : swapsWith e (some (.Attribute (.Name n p) f pos')) pos.line X.env = pure false := by rfl) :
    FSO X C (.Assign [.Attribute (.Name n p) f pos'] e pos) (uFldO f ue) := ⟨fun W tk E os ρ q F H σ0 σ B a as D h0 er go f => by
  refine to_SS (ps_fld ho pe_S hs) (he ρ _ q F H σ0 σ (gB B a as) _ er fun r ρ1 v F1 H1 z G => ?_)
  split at z
  case h_2 => exact z.elim
  rename_i d
  obtain ⟨z1, z2, z3, z⟩ := z
  have rr := G.rr
  have hb := G.er.hold rr
  obtain ⟨b, rfl, ro, nF, nb, _⟩ := rr
  have g2 := go.on G.nx fun c h => h
  have h2 := z1.trans h0
  obtain ⟨x0, e0, rx⟩ := G.er.fz 0 true _ h2
  cases rx
  obtain ⟨dx, vfs, e1, o1⟩ := g2.at_
  have ba : b ≠ a := fun y => nb (.inr (.inl y))
  have nas : b ∉ as := fun y => nb (.inr (.inr y))
  have E3 : ER X.K F1 H1 σ0 ρ1 σ (gB B a (as ++ [b])) := hb.less fun c hc => by
    rcases hc with hc | hc | hc
    · exact .inl (.inl hc)
    · exact .inl (.inr (.inl hc))
    · rcases List.mem_append.mp hc with hc | hc
      · exact .inl (.inr (.inr hc))
      · exact .inr (by rw [List.mem_singleton.mp hc])
  refine ⟨_, e0, a, C, dx, vfs, rfl, e1, hc, hn, by rw [o1.len]; exact z2, ?_⟩
  refine f.nx _ (as ++ [b]) _ σ F1 _ z h2 ((G.nx.mono gB_sub).trans ⟨Same.refl _, fun c hc => upd_ne fun y => g2.nB.1 (y ▸ hc)⟩) (E3.held_write (.inr (.inl rfl))) ⟨⟨dx, _, upd_same, ?_⟩, ?_, g2.nB.1, ?_⟩
  · rw [o1.put_new z3]
    exact OF.snocO (ro.keep (Same.refl _) (upd_ne ba)) nas (OF.mono (Same.refl _) (fun c hc => upd_ne (show c ≠ a from fun y => g2.na (y ▸ hc))) o1)
  · intro y
    rcases List.mem_append.mp y with y | y
    · exact g2.na y
    · exact ba (List.mem_singleton.mp y).symm
  · intro c hc hB
    rcases List.mem_append.mp hc with hc | hc
    · exact g2.nB.2 c hc hB
    · rw [List.mem_singleton.mp hc] at hB; exact nb (.inl hB)⟩
/-! ### self.f[k] = v -/
def uPutO (f : Str) (uv ui : UE) : USO := fun E os ρ => ∃ l, oget os f = some (true, .dic l) ∧ l.length < sizeLine ∧ uv ρ fun r ρ1 => wv ρ1 r fun d => ui (frz ρ1 r) fun s ρ3 => wv ρ3 s fun e => ρ3[0]? = ρ[0]? ∧ ∃ k, keyD e = some k ∧ E.nx (oset f (.dic (kput l k d)) os) ρ3
theorem fso_putK {f : Str} {n : Str} {i : Expr} {uv ui : UE} {p pa pos' : Pos} (hu : X.A.units + 1 < cLine) (hc : Cls X.K C) (hn : NoAttr X.K C f) (ho : PE X (.Name n p) (tVar 0)) (hv : FE X e uv) (hi : FE X i ui)
    (hs : swapsWith e (some (.Subscript (.Attribute (.Name n p) f pa) i pos')) pos.line X.env = pure false := by rfl) (hb : attributeBase (.Name n p) f X.env (eval (.Name n p) X.env) = eval (.Name n p) X.env := by rfl) :
    FSO X C (.Assign [.Subscript (.Attribute (.Name n p) f pa) i pos'] e pos) (uPutO f uv ui) := ⟨fun W tk E os ρ q F H σ0 σ B a as D h0 er go fo => by
  obtain ⟨l, eo, hl, q⟩ := q
  refine to_SS (ps_dput hu (pe_fld ho hb) pe_S pe_S hs) (hv ρ _ q F H σ0 σ (gB B a as) _ er fun r ρ1 x F1 H1 z G => ?_)
  obtain ⟨F2, d, n2, E2, rd, z⟩ := G.er.freeze G.rr z
  have g2 := (go.on G.nx fun c h => h).on n2 fun c h => h
  have nn := (G.nx.trans n2).mono (gB_sub (B := B) (a := a) (as := as))
  obtain ⟨x0, e0, rx⟩ := er.fz 0 true _ h0
  cases rx
  obtain ⟨dx, vfs, e1, o1⟩ := g2.at_
  obtain ⟨b, eb, rb, mb, _⟩ := o1.own eo
  refine ⟨_, e0, a, C, dx, vfs, _, rfl, e1, hc, hn, eb, ?_⟩
  refine hi _ _ z F2 H1 σ0 σ (gB B a as) _ E2 fun s ρ3 w F3 H3 z G3 => ?_
  obtain ⟨e', we, z1, k, ek, z⟩ := G3.er.seen G3.rr z
  have g3 := g2.on G3.nx fun c h => h
  obtain ⟨dx3, vfs3, e3, o3⟩ := g3.at_
  have ea : H3 a = H1 a := G3.nx.out a (.inr (.inl rfl))
  rw [ea, e1] at e3; cases e3
  obtain ⟨b', eb', rb', mb', kb⟩ := o3.own eo
  rw [eb] at eb'; cases eb'
  cases rb' with
  | @dic _ kvs _ hb1 rk =>
    cases keyD_v we ek
    have rd3 := rd.mono G3.nx.fz
    have ba : b ≠ a := fun y => g3.na (y ▸ mb')
    refine ⟨b, _, rfl, .k hb1 (by rw [rk.len]; exact hl), ?_⟩
    refine fo.nx _ as _ σ F3 _ z (z1.trans h0) (nn.trans ((G3.nx.mono gB_sub).trans ⟨Same.refl _, fun c hc => upd_ne fun y => g3.nB.2 b mb' (y ▸ hc)⟩)) (G3.er.held_write (.inr (.inr mb'))) ⟨⟨dx, vfs, by rw [upd_ne (Ne.symm ba), ea, e1], ?_⟩, g3.na, g3.nB⟩
    exact kb (.dic upd_same (rk.put rd3)) fun c hc hcb => upd_ne hcb⟩
end
end YP
set_option maxRecDepth 100000
set_option maxHeartbeats 2000000
/-! The yard's pure layer, part 19: an __init__, and calls of classes. -/
namespace YP
open PySem PySem.Spec PyProof.Rows L2
section
variable {K : PySem.W.Frag} {F F' H H' : Hp} {σ0 σ : L2.St} {ρ ρ' : List Sl}
def hBs : (Addr → Prop) → List Rv → List V → (Addr → Prop)
  | B, r :: rs, v :: vs => hBs (hB B r v) rs vs
  | B, _, _ => B
theorem hBs_sub : ∀ {B : Addr → Prop} {rs : List Rv} {vs : List V} (c : Addr), B c → hBs B rs vs c
  | _, [], _, _, h => h
  | _, _ :: _, [], _, h => h
  | B, r :: rs, v :: vs, c, h => hBs_sub (B := hB B r v) c (hB_sub c h)
theorem ER.holds : ∀ {B : Addr → Prop} {rs : List Rv} {vs : List V}, ER K F H σ0 ρ σ B → RRs K F H ρ σ B rs vs → ER K F H σ0 ρ σ (hBs B rs vs)
  | _, [], _, E, _ => E
  | _, _ :: _, [], E, _ => E
  | _, _ :: _, _ :: _, E, h => (E.hold h.1).holds h.2
theorem RRs.helds : ∀ {B : Addr → Prop} {rs : List Rv} {vs : List V}, ER K F H σ0 ρ σ B → ER K F' H' σ0 ρ' σ (hBs B rs vs) → RRs K F H ρ σ B rs vs → Nx F H F' H' (hBs B rs vs) → RRs K F' H' ρ' σ B rs vs
  | _, [], [], _, _, _, _ => trivial
  | _, [], _ :: _, _, _, h, _ => h.elim
  | _, _ :: _, [], _, _, h, _ => h.elim
  | B, r :: rs, v :: vs, E, E', h, n => ⟨h.1.held E (E'.less fun c z => hBs_sub (B := hB B r v) (rs := rs) (vs := vs) c z) (n.mono fun c z => hBs_sub (B := hB B r v) (rs := rs) (vs := vs) c z), h.2.helds (E.hold h.1) E' n⟩
theorem RRs.app : ∀ {B : Addr → Prop} {rs : List Rv} {vs : List V} {qs : List Rv} {zs : List V}, RRs K F H ρ σ B rs vs → RRs K F H ρ σ (hBs B rs vs) qs zs → RRs K F H ρ σ B (rs ++ qs) (vs ++ zs)
  | _, [], [], _, _, _, k => k
  | _, [], _ :: _, _, _, h, _ => h.elim
  | _, _ :: _, [], _, _, h, _ => h.elim
  | _, _ :: _, _ :: _, _, _, h, k => ⟨h.1, h.2.app k⟩
/-- an object that was just made, and its slot -/
theorem ER.made {B : Addr → Prop} {vs : List V} {x dx C : Addr} (E : ER K F H [] ρ (vs.map some) B) (hx : H x = none) (hd : H dx = none) (ne : dx ≠ x) :
    ER K F (upd (upd H dx (.own x)) x (.ins C dx [])) [] (.sl false false (.ref x) :: ρ) ((V.ref x :: vs).map some) (gB B x []) ∧ Nx F H F (upd (upd H dx (.own x)) x (.ins C dx [])) B ∧ GO K F (upd (upd H dx (.own x)) x (.ins C dx [])) B x C [] [] := by
  have E1 := E.laid (o := .own x) hd
  have hx1 : upd H dx (.own x) x = none := by rw [upd_ne (Ne.symm ne)]; exact hx
  have E2 := E1.laid (o := .ins C dx []) hx1
  have nB := E.nB hx
  refine ⟨⟨?_, E2.sub, fun i p d q => ?_, fun i p d q => ?_, fun i j a p q d e h1 h2 h3 h4 => ?_, fun i o d q => ?_, fun c hc => ?_⟩, (nx_new E hd).trans (nx_new E1 hx1), ⟨⟨dx, [], upd_same, .nil⟩, (fun z => nomatch z), nB, (fun _ z => nomatch z)⟩⟩
  · show ρ.length + 1 = _
    rw [E.len]; rfl
  · cases i with
    | zero => cases q; exact ⟨_, rfl, .ref x⟩
    | succ i => exact E2.fz i p d q
  · cases i with
    | zero => cases q
    | succ i =>
      obtain ⟨a, e, ro, n, nb⟩ := E2.ow i p d q
      refine ⟨a, e, ro, n, fun z => ?_⟩
      rcases z with z | z | z
      · exact nb z
      · exact E1.nS hx1 i p d q (z ▸ e)
      · cases z
  · cases i with
    | zero => cases h1
    | succ i =>
      cases j with
      | zero => cases h2
      | succ j => exact congrArg (· + 1) (E2.inj i j a p q d e h1 h2 h3 h4)
  · cases i with
    | zero => cases q
    | succ i =>
      have := E2.par i o d q
      exact this.trans (by simp)
  · rcases hc with hc | hc | hc
    · exact E2.out c hc
    · subst hc; rw [upd_same]; exact ⟨fun z => (nomatch z), E1.free hx1⟩
    · cases hc
theorem ER.tl {B : Addr → Prop} {s : Sl} {x : V} {vs : List V} {B' : Addr → Prop} (E : ER K F H [] (s :: ρ) ((x :: vs).map some) B) (h : ∀ c, B' c → B c) : ER K F H [] ρ (vs.map some) B' := by
  have l := E.len
  refine ⟨by simpa using l, E.sub, fun i p d q => E.fz (i + 1) p d q, fun i p d q => ?_, fun i j a p q d e h1 h2 h3 h4 => ?_, fun i o d q => ?_, fun c hc => E.out c (h c hc)⟩
  · obtain ⟨a, e, ro, n, nb⟩ := E.ow (i + 1) p d q
    exact ⟨a, e, ro, n, fun z => nb (h a z)⟩
  · exact Nat.succ.inj (E.inj (i + 1) (j + 1) a p q d e h1 h2 h3 h4)
  · exact (E.par (i + 1) o d q).trans (by simp)
end
/-! ### the promise of an __init__ -/
abbrev UFI := List Sl → (List (Str × D) → List Sl → Prop) → (Addr → List (Str × D) → List Sl → Prop) → Prop
def PSpI (K : PySem.W.Frag) (C : Addr) (n : Nat) (u : UFI) : Sp := fun vs H Q E => ∃ a ws ρ F B R RX, vs = .ref a :: ws ∧ ρ.length = n ∧ ws.length = n ∧ ER K F H [] (.sl false false (.ref a) :: ρ) (vs.map some) (gB B a []) ∧ GO K F H B a C [] [] ∧ u ρ R RX ∧
  (∀ fs ρ' F' H', R fs ρ' → Nx F H F' H' B → ER K F' H' [] ρ' (ws.map some) B → RD K F' (.ref a) (.obj C fs) → Q .non H') ∧
  ∀ C' fs ρ' dd vfs F' H', RX C' fs ρ' → Nx F H F' H' B → ER K F' H' [] ρ' (ws.map some) B → F' dd = some (.xd vfs) → RF K F' vfs fs → E (.ref C') (some dd) H'
def enEndI (n : Nat) (R : List (Str × D) → List Sl → Prop) (RX : Addr → List (Str × D) → List Sl → Prop) : EnO := ⟨fun _ _ => False, fun fs ρe => R fs (back n ρe.tail), fun C' fs ρe => RX C' fs (back n ρe.tail)⟩
section
variable {P : Program} {w : World} {K : PySem.W.Frag} {mg : Str → Option Value} {base : Heap}
theorem back_cons {n : Nat} {s : Sl} {ρ : List Sl} : back (n + 1) (s :: ρ) = unmark s :: back n ρ := rfl
theorem back_tail : ∀ {n : Nat} {ρ : List Sl}, ∃ s, back (n + 1) ρ = s :: back n ρ.tail
  | n, [] => ⟨.un, rfl⟩
  | n, s :: ρ => ⟨unmark s, rfl⟩
theorem fn_mkI {x qual : Str} {params : Arguments} {bd : List Stmt} {scope : Scope} {dvs : List V} {kws : List (Str × V)} {f C : Addr} {fd : FuncData} {N ps : List Str} {k n : Nat} {u : UFI} (Fn : FunD K x qual params bd scope dvs kws f fd) (S : FnScope N ps scope) (hN : ps.length ≤ N.length) (hp : ps.length = n + 1)
    (body : ∀ (cdv : Value) (A : Around) (outer : List Env) (s : Shared) (H : Hp) (E : XK), Room k (A.deeper (envOfC qual scope s.heap.objs.size f cdv)) →
      ∃ ub, FBO (cxOf (L2.CX P w) P w K mg base N qual scope f cdv A outer s H E) C bd ub ∧ ∀ a ρ R RX, ρ.length = n → u ρ R RX → ub (enEndI n R RX) [] (enter N.length (.sl false false (.ref a) :: ρ))) : FnOk P w K mg base (L2.CX P w) (k + 1) f fd ps (PSpI K C n u) := by
  refine Fn.ok S (fun vs H Q E h => ?_) fun cdv A outer s H vs Q E hr h => ?_
  · obtain ⟨a, ws, ρ, F, B, R, RX, rfl, l1, l2, _⟩ := h
    rw [hp, List.length_cons, l2]
  · obtain ⟨a, ws, ρ, F, B, R, RX, rfl, l1, l2, er, go, hu, g, gx⟩ := h
    obtain ⟨ub, hub, gub⟩ := body cdv A outer s H E hr
    have hn : n + 1 = ((V.ref a :: ws).map some).length := by rw [List.length_map, List.length_cons, l2]
    have hl : 0 < N.length := by omega
    refine ⟨_, pss_S, hub.run (fun cls d _ H => E cls d H) (takes_of rfl rfl rfl rfl) _ _ _ (gub a ρ R RX l1 hu) F H (((V.ref a) :: ws).map some) _ B a [] _ rfl er.enter go ⟨fun _ _ _ _ _ _ e _ => e.elim, fun fs ρ' σ' F' H' e nx er' rd => ?_, fun C' fs ρ' σ' F' H' dd vfs e G fd rf => ?_⟩⟩
    · obtain ⟨s0, hs⟩ := back_tail (n := n) (ρ := ρ')
      have eb := er'.back hn
      rw [hs] at eb
      exact g fs _ F' H' e nx (eb.tl fun _ h => h) rd
    · obtain ⟨s0, hs⟩ := back_tail (n := n) (ρ := ρ')
      have eb := G.er.back hn
      rw [hs] at eb
      exact gx C' fs _ dd vfs F' H' e G.nx (eb.tl fun _ h => h) fd rf
end
/-! ### keywords' values -/
def tK (X : Cx) (kws : List Keyword) : TA := fun σ H Q => ∀ pos pins s, Inv X pins σ H s → wpAny (model X.prog X.w) X.A (evalAll ((backToKw pos (keywordEach kws X.env)).map (·.2))) (AP X pins σ Q) X.xe s
theorem pk_S {X : Cx} {kws : List Keyword} : PK X kws (tK X kws) := ⟨fun pos pins s σ H Q I h => h pos pins s I⟩
structure FK (X : Cx) (kws : List Keyword) (u : UR) : Prop where
  run : ∀ (ρ : List Sl) (R : List Rv → List Sl → Prop), u ρ R → ∀ (F H : Hp) (σ0 σ : L2.St) (B : Addr → Prop) (Q : List V → Hp → Prop), ER X.K F H σ0 ρ σ B →
    (∀ rs ρ' vs F' H', R rs ρ' → Gd X.K F H F' H' σ0 ρ' σ B → RRs X.K F' H' ρ' σ B rs vs → rs.length = kws.length → Q vs H') → tK X kws σ H Q
section
variable {X : Cx} {e a : Expr} {ua : UE} {σ : L2.St} {H : Hp} {kws : List Keyword} {u : UR} {nm : Option Str} {kpos : Pos}
theorem to_K {t : TA} {Q : List V → Hp → Prop} (h : PK X kws t) (q : t σ H Q) : tK X kws σ H Q := fun pos pins s I => h.run pos pins s σ H Q I q
theorem fk_nil : FK X [] uRNil := ⟨fun ρ R q F H σ0 σ B Q E g => to_K pk_nil (g [] ρ [] F H q ⟨.refl _ _ _, E⟩ trivial rfl)⟩
theorem fk_ref (ha : FE X a ua) (hr : FK X kws u) : FK X (⟨nm, a, kpos⟩ :: kws) (uRRef ua u) := ⟨fun ρ R q F H σ0 σ B Q E g =>
  to_K (pk_cons pe_S pk_S) (ha ρ _ q F H σ0 σ B _ E fun r ρ1 v F1 H1 z G =>
    hr.run ρ1 _ z F1 H1 σ0 σ (hB B r v) _ (G.er.hold G.rr) fun rs ρ2 vs F2 H2 y G2 l ll =>
      g (r :: rs) ρ2 (v :: vs) F2 H2 y ⟨G.nx.trans (G2.nx.mono hB_sub), G2.er.unhold⟩ ⟨G.rr.held G.er G2.er G2.nx, l⟩ (congrArg (· + 1) ll))⟩
theorem fk_val (ha : FE X a ua) (hr : FK X kws u) : FK X (⟨nm, a, kpos⟩ :: kws) (uRVal ua u) := ⟨fun ρ R q F H σ0 σ B Q E g =>
  to_K (pk_cons pe_S pk_S) (ha ρ _ q F H σ0 σ B _ E fun r ρ1 v F1 H1 z G => by
    obtain ⟨F2, d, n2, E2, rd, z⟩ := G.er.freeze G.rr z
    exact hr.run _ _ z F2 H1 σ0 σ B _ E2 fun rs ρ3 vs F3 H3 y G3 l ll => g (.val d :: rs) ρ3 (v :: vs) F3 H3 y ⟨G.nx.trans (n2.trans G3.nx), G3.er⟩ ⟨rd.mono G3.nx.fz, l⟩ (congrArg (· + 1) ll))⟩
end
/-! ### C(e, .., k = v, ..), which may raise -/
def tMakeKS (C : Addr) (n m : Nat) (sp : Sp) (gV : List V → List V → List V) (E : L2.St → XK) (t tk : TA) : TE := fun σ H Q => t σ H fun vs H1 => tk σ H1 fun zs H2 => vs.length = n ∧ zs.length = m ∧ ∀ x dx, H2 x = none → H2 dx = none → dx ≠ x →
  sp (gV (.ref x :: vs) zs) (upd (upd H2 dx (.own x)) x (.ins C dx [])) (fun v H3 => v = .non ∧ Q (.ref x) H3) (E σ)
section
variable {X : Cx} {CX : CXT} {k n : Nat} {f C : Addr} {fd : FuncData} {ps ks : List Str} {sp : Sp} {E : L2.St → XK} {x : Str} {p pos : Pos} {e : Expr} {es : List Expr} {kws : List Keyword} {t tk : TA} {g : List Value → List Value → List Value} {gV : List V → List V → List V}
theorem run_makeKS {pins : List (Addr × Obj)} {σ : L2.St} {H : Hp} {s : Shared} {Q : VK} {us ws : List Value} {vs zs : List V} (M : Mk X.K C f) (F : FnOk X.prog X.w X.K X.mg X.base CX k f fd ps sp) (hr : Room (k + 1) X.A) (hb : KBn X.K fd ps (n + 1) ks g gV) (hx : PassesAt CX X σ (E σ))
    (I : Inv X pins σ H s) (r : Vals vs us) (rz : Vals zs ws) (l1 : vs.length = n) (l2 : zs.length = ks.length)
    (h : ∀ x dx, H x = none → H dx = none → dx ≠ x → sp (gV (.ref x :: vs) zs) (upd (upd H dx (.own x)) x (.ins C dx [])) (fun v H2 => v = .non ∧ Q (.ref x) H2) (E σ)) :
    wpAny (model X.prog X.w) X.A (call (.ref C) us (ks.zip ws)) (EP X pins σ Q) X.xe s := by
  have hq := h (s.heap.objs.size + 1) s.heap.objs.size (I.hok.fresh (Nat.le_succ _)) (I.hok.fresh (Nat.le_refl _)) (Nat.ne_of_lt (Nat.lt_succ_self _))
  have I2 := Inv.made (C := C) I
  have r1 : Vals (V.ref (s.heap.objs.size + 1) :: vs) (Value.ref (s.heap.objs.size + 1) :: us) := .cons rfl r
  have r2 := hb.rel r1 rz
  have n1 : (Value.ref (s.heap.objs.size + 1) :: us).length = n + 1 := by
    rw [List.length_cons, ← r.length, l1]
  refine wpAny_call (make_map (f := f) I.kIn M.makes M.init (beq_iff_eq.mp M.fn) (codeAny_mono (F.run _ X.stack _ _ ⟨Value.ref (s.heap.objs.size + 1) :: us, ks.zip ws⟩ (g (Value.ref (s.heap.objs.size + 1) :: us) ws) _ _ (E σ) (hr.make C us (ks.zip ws))
    (I2.env0.make C us (ks.zip ws)) (hb.to _ (Value.ref (s.heap.objs.size + 1) :: us) ws I2.kIn n1 (rz.length.symm.trans l2)) r2 hq) fun r s' hq' => ?_))
  cases r with
  | error e => exact hx pins _ _ e s' I2 hq'
  | ok fl =>
    cases fl with
    | ret u =>
      obtain ⟨v, H', I3, rv, ev, q3⟩ := I2.after hq'
      subst ev
      exact ⟨rv, ⟨V.ref (s.heap.objs.size + 1), H', I3, rfl, q3⟩⟩
    | next => exact False.elim hq'
    | brk => exact False.elim hq'
    | cont => exact False.elim hq'
theorem pe_makeKS (M : Mk X.K C f) (F : FnOk X.prog X.w X.K X.mg X.base CX k f fd ps sp) (hr : Room (k + 1) X.A) (hg : Gl X x) (hm : X.mg x = some (.ref C)) (hb : KBn X.K fd ps (n + 1) ks g gV) (hx : ∀ σ, PassesAt CX X σ (E σ)) (ha : PA X (e :: es) t) (hkw : PK X kws tk)
    (hall : (backToKw pos (keywordEach kws X.env)).all (·.1.isSome) = true := by rfl) (hks : (backToKw pos (keywordEach kws X.env)).filterMap (·.1) = ks := by rfl) (hdb : (x == ("__debug__" : Str)) = false := by decide)
    (he : starEach (e :: es) X.env = (false, eval e X.env) :: starEach es X.env := by rfl) (hpl : ((backTo pos (starEach (e :: es) X.env)).any (·.1) || (backToKw pos (keywordEach kws X.env)).any (·.1.isNone)) = false := by rfl) :
    PE X (.Call (.Name x p) (e :: es) kws pos) (tMakeKS C n ks.length sp gV E t tk) := by
  refine ⟨fun pins s σ H Q I h => ?_⟩
  refine wpAny_Call_Name_kw (ld_glob I hg hm ?_ hdb)
  refine PySem.W.callWith_KW (h₀ := X.base) I.ok.mod.kin M.kp hall (thn (ha.run pos pins s σ H _ I h) fun us s1 ⟨vs, H1, I1, r, q⟩ => ?_) hpl he
  refine thn (hkw.run pos pins s1 σ H1 _ I1 q) fun ws s2 ⟨zs, H2, I2, rz, l1, l2, q2⟩ => ⟨I2.kIn, ?_⟩
  rw [hks]
  exact run_makeKS M F hr hb (hx σ) I2 r rz l1 l2 q2
end
/-- how the values come to the parameters, self left out -/
structure GR (K : PySem.W.Frag) (gV : List V → List V → List V) (gR : List Rv → List Rv → List Rv) : Prop where
  to : ∀ {F H : Hp} {ρ : List Sl} {σ : L2.St} {B : Addr → Prop} {rs qs : List Rv} {vs zs : List V}, rs.length = vs.length → RRs K F H ρ σ B (rs ++ qs) (vs ++ zs) → ∃ ws, (∀ x, gV (.ref x :: vs) zs = .ref x :: ws) ∧ RRs K F H ρ σ B (gR rs qs) ws
def uMakeK (C : Addr) (gR : List Rv → List Rv → List Rv) (n : Nat) (u : UFI) (ua uk : UR) : UEX := fun ρ R RX => ua ρ fun rs ρ1 => uk ρ1 fun qs ρ2 => (gR rs qs).length = n ∧ (ats (gR rs qs)).Nodup ∧
  u ((gR rs qs).map (slOf ρ2)) (fun fs ss => R (.val (.obj C fs)) (wb ρ2 (gR rs qs) ss)) fun C' fs ss => RX C' fs (wb ρ2 (gR rs qs) ss)
theorem fex_make {X : Cx} {k n m : Nat} {f C : Addr} {fd : FuncData} {ps ks : List Str} {x : Str} {p pos : Pos} {e : Expr} {es : List Expr} {kws : List Keyword} {u : UFI} {ua uk : UR} {g : List Value → List Value → List Value} {gV : List V → List V → List V} {gR : List Rv → List Rv → List Rv}
    (M : Mk X.K C f) (Fn : FnOk X.prog X.w X.K X.mg X.base (L2.CX X.prog X.w) k f fd ps (PSpI X.K C m u)) (hr : Room (k + 1) X.A) (hg : Gl X x) (hm : X.mg x = some (.ref C)) (hb : KBn X.K fd ps (n + 1) ks g gV) (hgr : GR X.K gV gR) (ha : FR X (e :: es) ua) (hk : FK X kws uk)
    (hn : (e :: es).length = n := by rfl) (hkn : kws.length = ks.length := by rfl)
    (hall : (backToKw pos (keywordEach kws X.env)).all (·.1.isSome) = true := by rfl) (hks : (backToKw pos (keywordEach kws X.env)).filterMap (·.1) = ks := by rfl) (hdb : (x == ("__debug__" : Str)) = false := by decide)
    (he : starEach (e :: es) X.env = (false, eval e X.env) :: starEach es X.env := by rfl) (hpl : ((backTo pos (starEach (e :: es) X.env)).any (·.1) || (backToKw pos (keywordEach kws X.env)).any (·.1.isNone)) = false := by rfl) :
    FEX X (.Call (.Name x p) (e :: es) kws pos) (uMakeK C gR m u ua uk) := ⟨fun W tk ρ R RX q F H σ0 σ B Q E g gx => by
  refine to_S (pe_makeKS (E := WE W) M Fn hr hg hm hb (fun σ => passAt tk σ) pa_S pk_S hall hks hdb he hpl) (ha ρ _ q F H σ0 σ B _ E fun rs ρ1 vs F1 H1 z G l ll => ?_)
  have lv := l.len
  refine hk.run ρ1 _ z F1 H1 σ0 σ (hBs B rs vs) _ (G.er.holds l) fun qs ρ2 zs F2 H2 ⟨lm, nd, z⟩ G2 l2 ll2 => ?_
  have E2 : ER X.K F2 H2 σ0 ρ2 σ B := G2.er.less fun c h => hBs_sub c h
  have lr := (l.helds G.er G2.er G2.nx).app l2
  obtain ⟨ws, ew, rw_⟩ := hgr.to lv lr
  have lw := rw_.len
  have n2 : Nx F H F2 H2 B := G.nx.trans (G2.nx.mono fun c h => hBs_sub c h)
  refine ⟨by rw [← lv, ll, hn], by rw [← l2.len, ll2, hkn], fun y dx hy hdx ne => ?_⟩
  obtain ⟨E3, n3, g3⟩ := (E2.into rw_ nd).made (C := C) hy hdx ne
  refine ⟨y, ws, _, F2, bB B ρ2 σ (gR rs qs), _, _, ew y, by rw [List.length_map]; exact lm, by rw [← lw]; exact lm, by rw [ew y]; exact E3, g3, z, fun fs ss F' H' yy nx er' rd => ⟨rfl, ?_⟩, fun C' fs ss dd vfs F' H' yy nx er' fd rf => ?_⟩
  · have G' := E2.behind (r := .val (.obj C fs)) rw_ nd (n3.trans nx) er' rd fun _ z => nomatch z
    exact g _ _ _ F' H' yy ⟨n2.trans G'.nx, G'.er, G'.rr⟩
  · have G' := E2.behind (r := .val .non) (v := .non) rw_ nd (n3.trans nx) er' (show RD X.K F' .non .non from .non) (fun _ z => nomatch z)
    exact gx C' fs _ F' H' dd vfs yy ⟨n2.trans G'.nx, G'.er⟩ fd rf⟩
/-- where nothing is raised -/
theorem fe_never {X : Cx} {e : Expr} {u : UEX} (h : FEX X e u) : FE X e (fun ρ R => u ρ R fun _ _ _ => False) := ⟨fun ρ R q F H σ0 σ B Q E g =>
  h.run (fun _ _ _ _ => False) takes0 ρ R _ q F H σ0 σ B Q E g fun _ _ _ _ _ _ _ z => z.elim⟩
end YP
set_option maxRecDepth 100000
set_option maxHeartbeats 2000000
/-! The yard's pure layer, part 20: {k: v for ..}. -/
namespace YP
open PySem PySem.Spec PyProof.Rows L2
section
variable {J : It} {n : Nat} {G : Hp → Prop} {Y : Nat → Hp → V → Hp → Prop}
/-- a dict comprehension over it: Pv by the turn and the heap (the new dict at D within) -/
theorem dc_it (w : Walk J n G Y) {g : TG} {tt : TT} {tk tv : TE} {vs : List Nat} {σ : L2.St} {H1 : Hp} {D : Addr} {Qd : Hp → Prop} (Pv : Nat → Hp → Prop) (h0 : Pv 0 (upd H1 D (.dK []))) (hG : ∀ i H, i ≤ n → Pv i H → G H)
    (hs : ∀ i x H H', i < n → Pv i H → Y i H x H' → g x (L2.wipe σ vs) H' fun σ2 H2 => L2.wipe σ2 vs = L2.wipe σ vs ∧ tt σ2 H2 fun b H3 =>
      if b = true then tk σ2 H3 fun y H4 => tv σ2 H4 fun z H5 => ∃ kvs k, y = kV k ∧ H5 D = some (.dK kvs) ∧ kvs.length < sizeLine ∧ Pv (i + 1) (upd H5 D (.dK (putK kvs k z))) else Pv (i + 1) H3) (hd : ∀ H, Pv n H → Qd H) :
    ∃ W : Nat → Nat → Hp → Prop, (∃ m, W 0 m (upd H1 D (.dK []))) ∧ ∀ i m H, W i m H →
      (J.stop i H ∧ Qd H) ∨ (J.go i H ∧ ∃ Nx : Hp → Prop, (∀ H', Nx H' → ∃ m', m' < m ∧ W (i + 1) m' H') ∧ ∀ x H', J.yld i H x H' → g x (L2.wipe σ vs) H' fun σ2 H2 => L2.wipe σ2 vs = L2.wipe σ vs ∧ tt σ2 H2 fun b H3 =>
        if b = true then tk σ2 H3 fun y H4 => tv σ2 H4 fun z H5 => ∃ kvs k, y = kV k ∧ H5 D = some (.dK kvs) ∧ kvs.length < sizeLine ∧ Nx (upd H5 D (.dK (putK kvs k z))) else Nx H3) := by
  refine ⟨fun i m H => m = n - i ∧ i ≤ n ∧ Pv i H, ⟨n, by simp, Nat.zero_le _, h0⟩, ?_⟩
  rintro i m H ⟨rfl, hi, p⟩
  have q := hG i H hi p
  by_cases hlt : i < n
  · exact .inr ⟨w.goes i H hlt q, Pv (i + 1), fun H' p' => ⟨n - (i + 1), by omega, rfl, hlt, p'⟩, fun x H' y => hs i x H H' hlt p (w.yields i H x H' hlt q y)⟩
  · have e : i = n := by omega
    subst e
    exact .inl ⟨w.stops H q, hd H p⟩
end
section
variable {X : Cx}
/-- W: by the turn, what is made so far, the slots -/
def uDc (w : UI) (g : UG) (tt : UT) (tk te : UE) (vs : List Nat) : UE := fun ρ R => w ρ fun ds ρ1 => ∃ W : Nat → List (Key × D) → List Sl → Prop, W 0 [] (wipeS ρ1 vs) ∧ (∀ i d acc ρ, ds[i]? = some d → W i acc ρ →
  g d ρ fun ρ2 => tt ρ2 fun b ρ3 => if b = true then tk ρ3 fun q ρ4 => te ρ4 fun r ρ5 => wv ρ5 q fun x => ∃ k, keyD x = some k ∧ acc.length < sizeLine ∧ wv ρ5 r fun e => W (i + 1) (kput acc k e) (wipeS (frz ρ5 r) vs) else W (i + 1) acc (wipeS ρ3 vs)) ∧
  (∀ i acc ρ, W i acc ρ → ∃ ρ', ρ = wipeS ρ' vs) ∧ ∀ acc ρ, W ds.length acc ρ → R (.own (.dic acc)) ρ
theorem dc_tl {kx vx tg iter : Expr} {ifs : List Expr} {scope : Scope} {own : List (Str × Nat)} {w : UI} {g : UG} {tt : UT} {tk te : UE}
    (hi : FI X tg iter w) (hK : ∀ (s : Shared) (H : Hp) (C : Addr) (cl : List (Str × Addr)) (fp : List Addr), (X.blk s H scope (compEnvC scope cl C X.env) fp).K = X.K)
    (hg : ∀ (s : Shared) (H : Hp) (C : Addr) (cl : List (Str × Addr)) (fp : List Addr), FG (X.blk s H scope (compEnvC scope cl C X.env) fp) (some (own.map (·.2))) tg g)
    (ht : ∀ (s : Shared) (H : Hp) (C : Addr) (cl : List (Str × Addr)) (fp : List Addr), FTs (X.blk s H scope (compEnvC scope cl C X.env) fp) ifs tt)
    (hkx : ∀ (s : Shared) (H : Hp) (C : Addr) (cl : List (Str × Addr)) (fp : List Addr), FE (X.blk s H scope (compEnvC scope cl C X.env) fp) kx tk)
    (he : ∀ (s : Shared) (H : Hp) (C : Addr) (cl : List (Str × Addr)) (fp : List Addr), FE (X.blk s H scope (compEnvC scope cl C X.env) fp) vx te)
    {ρ : List Sl} {R : Rv → List Sl → Prop} (q : uDc w g tt tk te (own.map (·.2)) ρ R) {F H : Hp} {σ0 σ : L2.St} {B : Addr → Prop} {Q : VK} (E : ER X.K F H σ0 ρ σ B)
    (k : ∀ r ρ' v F' H', R r ρ' → Gt X.K F H F' H' σ0 ρ' σ B r v → Q v H') : tDc (tI X tg iter) (bG X scope tg) (bT X scope ifs) (bE X scope kx) (bE X scope vx) (own.map (·.2)) σ H Q := by
  refine hi ρ _ q F H σ0 σ B _ E fun ds ρ1 J F1 H1 ⟨W, w0, turn, form, done⟩ G1 wd D nD => ?_
  have hD : ¬ B D := G1.er.nB nD
  have keepB : ∀ {H : Hp} {o : HO} (c : Addr), B c → upd H D o c = H c := fun c b => upd_ne fun z => by subst z; exact hD b
  refine dc_it wd (fun i H' => ∃ acc vacc ρ' F', W i acc ρ' ∧ ER X.K F' H' σ0 ρ' (L2.wipe σ (own.map (·.2))) (fun c => B c ∨ c = D) ∧ Nx F1 H1 F' H' B ∧ H' D = some (.dK vacc) ∧ RK X.K F' vacc acc) ?_ (fun i H' _ ⟨_, _, _, _, _, E', n', _⟩ => n'.fz.trans E'.sub) ?_ ?_
  · refine ⟨[], [], _, F1, w0, ?_, ?_, upd_same, .nil⟩
    · have E2 := (G1.er.laid (o := .dK []) nD).wipe (own.map (·.2))
      refine ⟨E2.len, E2.sub, E2.fz, fun i p d h => ?_, E2.inj, E2.par, fun c hc => ?_⟩
      · obtain ⟨a, e, ro, n, nb⟩ := E2.ow i p d h
        refine ⟨a, e, ro, n, fun hb => hb.elim nb fun z => ?_⟩
        subst z
        have hs : (L2.wipe σ (own.map (·.2)))[i]? = σ[i]? := wipe_get (wipeS_get h)
        have hj := wipeS_get h
        rw [hs] at e
        -- the slot holds an address that was free
        have gq : ∀ {ρ : List Sl} {vs : List Nat}, i ∉ vs → (wipeS ρ vs)[i]? = ρ[i]? := by
          intro ρ vs
          induction vs with
          | nil => intro _; rfl
          | cons v vs ih =>
            intro hv
            show ((wipeS ρ vs).set v .un)[i]? = _
            rw [List.getElem?_set_ne (fun z => hv (by rw [z]; exact List.mem_cons_self)), ih fun z => hv (List.mem_cons_of_mem _ z)]
        rw [gq hj] at h
        exact G1.er.nS nD i p d h e
      · rcases hc with hc | rfl
        · exact E2.out c hc
        · exact ⟨by rw [upd_same]; exact fun z => (nomatch z), G1.er.free nD⟩
    · exact ⟨Same.refl _, fun c b => keepB c b⟩
  · rintro i x H2 H3 hi ⟨acc, vacc, ρ2, F2, w2, E2, n2, eD, rl⟩ y
    obtain ⟨d, F3, ed, G3, rd⟩ := yd_er E2 n2.fz y
    intro s0 H0 C cl fp
    refine hg s0 H0 C cl fp d ρ2 _ (turn i d acc ρ2 ed w2) F3 H3 σ0 _ _ x _ (by rw [hK]; exact G3.er) (by rw [hK]; exact rd) fun ρ4 σ4 F4 H4 z G4 kp => ?_
    rw [hK] at G4
    have kp' : L2.wipe σ4 (own.map (·.2)) = L2.wipe (L2.wipe σ (own.map (·.2))) (own.map (·.2)) := kp
    have ww : ∀ (l : List Nat) (σ : L2.St), (∀ v ∈ l, v < σ.length → σ[v]? = some none) → L2.wipe σ l = σ := by
      intro l
      induction l with
      | nil => intro σ _; rfl
      | cons v l ih =>
        intro σ h
        show (L2.wipe σ l).set v none = σ
        rw [ih σ fun u hu => h u (List.mem_cons_of_mem _ hu)]
        refine List.ext_getElem? fun j => ?_
        by_cases hj : j = v
        · subst hj
          by_cases hl : j < σ.length
          · rw [List.getElem?_set_self hl, h j List.mem_cons_self hl]
          · rw [List.getElem?_eq_none (by rw [List.length_set]; omega), List.getElem?_eq_none (by omega)]
        · rw [List.getElem?_set_ne (Ne.symm hj)]
    have wn : ∀ (l : List Nat) (σ : L2.St) (v : Nat), v ∈ l → v < σ.length → (L2.wipe σ l)[v]? = some none := by
      intro l
      induction l with
      | nil => intro σ v h; exact nomatch h
      | cons u l ih =>
        intro σ v h hl
        show ((L2.wipe σ l).set u none)[v]? = _
        by_cases e : v = u
        · subst e; exact List.getElem?_set_self (by rw [wipe_length]; exact hl)
        · rw [List.getElem?_set_ne (Ne.symm e)]
          rcases List.mem_cons.mp h with z | z
          · exact absurd z e
          · exact ih σ v z hl
    have w4 : L2.wipe σ4 (own.map (·.2)) = L2.wipe σ (own.map (·.2)) := by
      rw [kp']
      exact ww _ _ fun v hv hl => wn _ _ v hv (by rw [wipe_length] at hl; exact hl)
    refine ⟨w4, ?_⟩
    intro s1 H01 C1 cl1 fp1 pins s' I'
    refine ht s1 H01 C1 cl1 fp1 ρ4 _ z F4 H4 σ0 σ4 _ _ (by rw [hK]; exact G4.er) (fun b ρ5 F5 H5 z5 G5 => ?_) pins s' I'
    rw [hK] at G5
    have n5 : Nx F2 H2 F5 H5 (fun c => B c ∨ c = D) := G3.nx.trans (G4.nx.trans G5.nx)
    have fin : ∀ {ρ6 : List Sl} {F6 H6 : Hp}, ER X.K F6 H6 σ0 ρ6 σ4 (fun c => B c ∨ c = D) → ER X.K F6 H6 σ0 (wipeS ρ6 (own.map (·.2))) (L2.wipe σ (own.map (·.2))) (fun c => B c ∨ c = D) := fun {ρ6 F6 H6} er => by
      have := er.wipe (own.map (·.2))
      rw [w4] at this
      exact this
    have sub5 : ∀ c, B c → B c ∨ c = D := fun c => .inl
    cases b with
    | false =>
      simp only [Bool.false_eq_true, if_false] at z5 ⊢
      exact ⟨acc, vacc, _, F5, z5, fin G5.er, n2.trans (n5.mono sub5), by rw [n5.out D (.inr rfl)]; exact eD, rl.mono n5.fz⟩
    | true =>
      simp only [if_true] at z5 ⊢
      intro s2 H02 C2 cl2 fp2
      refine hkx s2 H02 C2 cl2 fp2 ρ5 _ z5 F5 H5 σ0 σ4 _ _ (by rw [hK]; exact G5.er) fun rk ρk kv Fk Hk zk Gk => ?_
      rw [hK] at Gk
      intro s3 H03 C3 cl3 fp3
      refine he s3 H03 C3 cl3 fp3 ρk _ zk Fk Hk σ0 σ4 (hB (fun c => B c ∨ c = D) rk kv) _ (by rw [hK]; exact Gk.er.hold Gk.rr) fun r ρ6 yv F6 H6 z6 G6 => ?_
      rw [hK] at G6
      have E6 := G6.er.unhold
      have rk6 := Gk.rr.held Gk.er G6.er G6.nx
      have rr6 := G6.rr.weak hB_sub
      obtain ⟨ek, wk, key, ekey, lt7, z7⟩ := E6.seen rk6 z6
      obtain ⟨F7, e7, nn7, E7, rd7, w7⟩ := E6.freeze rr6 z7
      have n7 : Nx F2 H2 F7 H6 (fun c => B c ∨ c = D) := n5.trans (Gk.nx.trans ((G6.nx.mono hB_sub).trans nn7))
      have e6 : H6 D = some (.dK vacc) := by rw [n7.out D (.inr rfl)]; exact eD
      have rl7 := rl.mono n7.fz
      cases keyD_v wk ekey
      refine ⟨vacc, key, rfl, e6, by rw [rl7.len]; exact lt7, kput acc key e7, putK vacc key yv, _, F7, w7, ?_, ?_, upd_same, rl7.put rd7⟩
      · have E8 := fin E7
        have fD : F7 D = none := (E7.out D (.inr rfl)).2
        refine ⟨E8.len, fun b u q => by rw [upd_ne (ne_of_none q fD)]; exact E8.sub b u q, E8.fz, fun i p d h => ?_, E8.inj, E8.par, fun c hc => ⟨?_, (E8.out c hc).2⟩⟩
        · obtain ⟨a, ea, ro, n, nb⟩ := E8.ow i p d h
          exact ⟨a, ea, ro.keep (Same.refl _) (upd_ne fun z => nb (.inr z)), n, nb⟩
        · by_cases hc' : c = D
          · subst hc'; rw [upd_same]; exact fun z => (nomatch z)
          · rw [upd_ne hc']; exact (E8.out c hc).1
      · exact ⟨n2.fz.trans n7.fz, fun c b => by rw [keepB c b]; exact (n7.out c (.inl b)).trans (n2.out c b)⟩
  · rintro H' ⟨acc, vacc, ρ', F', w', E', n', eD, rl⟩
    obtain ⟨ρ'', rfl⟩ := form _ _ _ w'
    have E3 := E'.unwipe
    refine k _ _ _ F' H' (done acc _ w') ⟨G1.nx.trans n', ⟨E3.len, E3.sub, E3.fz, fun i p d h => let ⟨a, e, x, y, z⟩ := E3.ow i p d h; ⟨a, e, x, y, fun b => z (.inl b)⟩, E3.inj, E3.par, fun c b => E3.out c (.inl b)⟩, D, rfl, .dic eD rl, (E3.out D (.inr rfl)).2, hD, fun i p e h z => ?_⟩
    obtain ⟨a, e2, _, _, nb⟩ := E3.ow i p e h
    rw [z] at e2; cases e2
    exact nb (.inr rfl)
theorem fe_dc {kx vx tg iter : Expr} {ifs : List Expr} {scope : Scope} {own : List (Str × Nat)} {pos : Pos} {w : UI} {g : UG} {tt : UT} {tk te : UE} (hc : X.calm = true) (hN : X.N.Nodup) (hi : FI X tg iter w) (ok : BlkOk X.N X.env.scope scope own)
    (hg : ∀ (s : Shared) (H : Hp) (C : Addr) (cl : List (Str × Addr)) (fp : List Addr), FG (X.blk s H scope (compEnvC scope cl C X.env) fp) (some (own.map (·.2))) tg g)
    (ht : ∀ (s : Shared) (H : Hp) (C : Addr) (cl : List (Str × Addr)) (fp : List Addr), FTs (X.blk s H scope (compEnvC scope cl C X.env) fp) ifs tt)
    (hk : ∀ (s : Shared) (H : Hp) (C : Addr) (cl : List (Str × Addr)) (fp : List Addr), FE (X.blk s H scope (compEnvC scope cl C X.env) fp) kx tk)
    (he : ∀ (s : Shared) (H : Hp) (C : Addr) (cl : List (Str × Addr)) (fp : List Addr), FE (X.blk s H scope (compEnvC scope cl C X.env) fp) vx te) (hs : ∀ x, foldedSetIterable iter X.env x = pure x := by intro _; rfl) :
    FE X (.DictComp kx vx [⟨tg, iter, ifs, 0⟩] scope pos) (uDc w g tt tk te (own.map (·.2))) := ⟨fun ρ R q F H σ0 σ B Q E k =>
  to_S (pe_dc hc hN pi_S ok pg_bS pts_bS pe_bS pe_bS hs)
    (dc_tl hi (fun _ _ _ _ _ => rfl) hg ht hk he q E k)⟩
end
end YP
set_option maxRecDepth 100000
set_option maxHeartbeats 2000000
/-! The yard's pure layer, part 21: dicts that are built key by key. -/
namespace YP
open PySem PySem.Spec PyProof.Rows L2
theorem find_map {k : Key} {d : D} : ∀ {l : List (Key × D)}, (l.any fun kv => decide (kv.1 = k)) = true → (l.map fun kv => if kv.1 = k then (kv.1, d) else kv).find? (fun kv => decide (kv.1 = k)) = some (k, d)
  | [], h => by cases h
  | kv :: l, h => by
    by_cases e : kv.1 = k
    · rw [List.map_cons, if_pos e, List.find?_cons_of_pos (by simpa using e), e]
    · rw [List.any_cons, decide_eq_false e, Bool.false_or] at h
      rw [List.map_cons, if_neg e, List.find?_cons_of_neg (by simpa using e)]
      exact find_map h
theorem find_map_ne {k k' : Key} {d : D} (n : k ≠ k') : ∀ {l : List (Key × D)}, ((l.map fun kv => if kv.1 = k then (kv.1, d) else kv).find? (fun kv => decide (kv.1 = k'))).map (·.2) = (l.find? (fun kv => decide (kv.1 = k'))).map (·.2)
  | [] => rfl
  | kv :: l => by
    by_cases e : kv.1 = k
    · have e2 : kv.1 ≠ k' := fun z => n (e.symm.trans z)
      rw [List.map_cons, if_pos e, List.find?_cons_of_neg (by simpa using e2), List.find?_cons_of_neg (by simpa using e2)]
      exact find_map_ne n
    · rw [List.map_cons, if_neg e]
      by_cases e2 : kv.1 = k'
      · rw [List.find?_cons_of_pos (by simpa using e2), List.find?_cons_of_pos (by simpa using e2)]
      · rw [List.find?_cons_of_neg (by simpa using e2), List.find?_cons_of_neg (by simpa using e2)]
        exact find_map_ne n
theorem kget_put (l : List (Key × D)) (k k' : Key) (d : D) : kget (kput l k d) k' = if k = k' then some d else kget l k' := by
  unfold kget kput
  by_cases a : (l.any fun kv => decide (kv.1 = k)) = true
  · rw [if_pos a]
    by_cases e : k = k'
    · subst e
      rw [if_pos rfl, find_map a]; rfl
    · rw [if_neg e]; exact find_map_ne e
  · rw [if_neg a]
    have nk : ∀ kv ∈ l, kv.1 ≠ k := fun kv h e => a (List.any_eq_true.mpr ⟨kv, h, by simpa using e⟩)
    rw [List.find?_append]
    by_cases e : k = k'
    · subst e
      have : l.find? (fun kv => decide (kv.1 = k)) = none := List.find?_eq_none.mpr fun kv h => by simpa using nk kv h
      rw [if_pos rfl, this, Option.none_or, List.find?_cons_of_pos (by simp)]; rfl
    · rw [if_neg e, List.find?_cons_of_neg (by simpa using e), List.find?_nil, Option.or_none]
theorem kput_len (l : List (Key × D)) (k : Key) (d : D) : (kput l k d).length ≤ l.length + 1 := by
  unfold kput
  split
  · rw [List.length_map]; omega
  · rw [List.length_append]; exact Nat.le_refl _
/-- a dict whose keys are texts, built by these pairs in order -/
def bld (l : List (Str × D)) : List (Key × D) := l.foldl (fun a p => kput a (.inr p.1) p.2) []
theorem bld_snoc (l : List (Str × D)) (p : Str × D) : bld (l ++ [p]) = kput (bld l) (.inr p.1) p.2 := by
  unfold bld; rw [List.foldl_append]; rfl
theorem bld_len (l : List (Str × D)) : (bld l).length ≤ l.length := by
  have : ∀ (l : List (Str × D)) (a : List (Key × D)), (l.foldl (fun a p => kput a (.inr p.1) p.2) a).length ≤ a.length + l.length := by
    intro l
    induction l with
    | nil => intro a; exact Nat.le_refl _
    | cons p l ih =>
      intro a
      have := ih (kput a (.inr p.1) p.2)
      have := kput_len a (.inr p.1) p.2
      rw [List.foldl_cons, List.length_cons]
      omega
  have := this l []
  rw [List.length_nil, Nat.zero_add] at this
  exact this
/-- the last pair of a key -/
def lst? {β : Type} (l : List (Str × β)) (x : Str) : Option β := l.foldl (fun o p => if p.1 = x then some p.2 else o) none
theorem lst?_snoc {β : Type} (l : List (Str × β)) (p : Str × β) (x : Str) : lst? (l ++ [p]) x = if p.1 = x then some p.2 else lst? l x := by
  unfold lst?; rw [List.foldl_append]; rfl
theorem snoc_ind {α : Type} {P : List α → Prop} (h0 : P []) (h : ∀ l a, P l → P (l ++ [a])) (l : List α) : P l := by
  have : ∀ r : List α, P r.reverse := by
    intro r
    induction r with
    | nil => exact h0
    | cons a r ih => rw [List.reverse_cons]; exact h _ _ ih
  have := this l.reverse
  rwa [List.reverse_reverse] at this
theorem kget_bld (l : List (Str × D)) (x : Str) : kget (bld l) (.inr x) = lst? l x := by
  induction l using snoc_ind with
  | h0 => rfl
  | h l p ih =>
    rw [bld_snoc, kget_put, lst?_snoc, ih]
    by_cases e : p.1 = x
    · rw [if_pos (by rw [e]), if_pos e]
    · rw [if_neg (fun z => e (Sum.inr.inj z)), if_neg e]
theorem lst?_map {β γ : Type} (f : β → γ) (l : List (Str × β)) (x : Str) : lst? (l.map fun p => (p.1, f p.2)) x = (lst? l x).map f := by
  induction l using snoc_ind with
  | h0 => rfl
  | h l p ih =>
    rw [List.map_append, List.map_cons, List.map_nil, lst?_snoc, lst?_snoc, ih]
    by_cases e : p.1 = x
    · rw [if_pos e, if_pos e]; rfl
    · rw [if_neg e, if_neg e]
theorem lst?_mem {β : Type} {l : List (Str × β)} {x : Str} {b : β} : lst? l x = some b → (x, b) ∈ l := by
  induction l using snoc_ind with
  | h0 => intro h; cases h
  | h l p ih =>
    intro h
    rw [lst?_snoc] at h
    by_cases e : p.1 = x
    · rw [if_pos e] at h
      cases h
      rw [← e]; exact List.mem_append.mpr (.inr List.mem_cons_self)
    · rw [if_neg e] at h
      exact List.mem_append.mpr (.inl (ih h))
theorem lst?_none {β : Type} {l : List (Str × β)} {x : Str} : lst? l x = none ↔ x ∉ l.map (·.1) := by
  induction l using snoc_ind with
  | h0 => exact ⟨(fun _ h => nomatch h), fun _ => rfl⟩
  | h l p ih =>
    rw [lst?_snoc, List.map_append, List.mem_append]
    by_cases e : p.1 = x
    · rw [if_pos e]
      refine ⟨(fun h => nomatch h), fun h => absurd (Or.inr ?_) h⟩
      rw [← e]; exact List.mem_cons_self
    · rw [if_neg e, ih]
      refine ⟨fun h z => z.elim h fun z => ?_, fun h z => h (Or.inl z)⟩
      rcases List.mem_cons.mp z with z | z
      · exact e z.symm
      · cases z
end YP
set_option maxRecDepth 100000
set_option maxHeartbeats 2000000
/-! The yard's pure layer, part 22: a list that is unpacked, isinstance of a caught error and a tuple of classes. -/
namespace YP
open PySem PySem.Spec PyProof.Rows L2
def uGLst (n : Nat) (u : UGs) : UG := fun d ρ R => match d with
  | .lst ds => ds.length = n ∧ u ds ρ R
  | _ => False
theorem fg_lst {X : Cx} {vs : Option (List Nat)} {es : List Expr} {k : Nat} {u : UGs} {n : Nat} {pos : Pos} (hc : X.calm = true) (h : FGs X vs es u)
    (hn : (assignEach es X.env).length = n := by rfl) (hst : (assignEach es X.env).findIdx? (·.1) = none := by rfl) : FG X vs (.Tuple es k pos) (uGLst n u) := ⟨fun d ρ R w F H σ0 σ B v Q E rd g => by
  cases rd with
  | lst h1 h2 => exact to_G (pg_lst hc pgs_S hn hst) ⟨_, _, rfl, .of (E.sub _ _ h1), by rw [h2.len]; exact w.1, h _ ρ R w.2 F H σ0 σ B _ Q E h2 g⟩
  | _ => exact w.elim⟩
theorem rl_refs {K : PySem.W.Frag} {F : Hp} : ∀ {cs : List Addr} {vs : List V}, RL K F vs (cs.map D.ref) → vs = cs.map V.ref
  | [], _, .nil => rfl
  | _ :: cs, _, .cons r t => by cases r; rw [rl_refs (cs := cs) t]; rfl
theorem vals_refs : ∀ {cs : List Addr} {us : List Value}, Vals (cs.map V.ref) us → us = cs.map Value.ref
  | [], _, .nil => rfl
  | _ :: cs, _, .cons r t => by cases r; rw [vals_refs (cs := cs) t]; rfl
def rIsXT (K : PySem.W.Frag) (C a dd : Addr) : List V → Hp → VK → Prop := fun xs H Q => ∃ (tp : Addr) (cs : List Addr) (b : Bool) (vfs : List (Str × V)), xs = [.ref a, .ref tp] ∧ SqT K H tp (cs.map V.ref) ∧ PySem.W.kitAny K (.ref C) (cs.map Value.ref) = some b ∧ H dd = some (.xd vfs) ∧ Q (.bl b) H
theorem call_isXT {X : Cx} {a dd C : Addr} {oe : Obj} {pn : List (Addr × Obj)} (T : ExcC X.K C) (hz : Zc (.ref C) (some dd) oe) (hf : ∃ vs, oe.data = .fields vs) : CallR (X.suite a ((a, oe) :: pn)) (.builtin "isinstance") (rIsXT X.K C a dd) := by
  intro pins s σ H xs us Q I r h
  obtain ⟨tp, cs, b, vfs, rfl, hT, e, ed, q⟩ := h
  cases r with
  | cons rx rr =>
    cases rr with
    | cons rt rr =>
      cases rr
      cases rx
      cases rt
      obtain ⟨hget, _⟩ := I.pin (a, oe) (List.mem_append.mpr (.inl List.mem_cons_self))
      obtain ⟨vs, hv⟩ := hf
      have hx : ObjOk X.prog X.w H s.heap dd (.xd vfs) := I.hok dd _ ed
      obtain ⟨mA, hns, hr⟩ := hx
      obtain ⟨od, ho, hl⟩ := lookIn_ns hns
      have J : PySem.W.InstAt s.heap a oe C (some od) := ⟨hget, hz.1, by unfold PySem.W.notCls; rw [hv] <;> rfl, by rw [hz.2]; exact ho⟩
      obtain ⟨its, rv, ⟨⟨cls, td, data, sl⟩, ht, hc, n, hd⟩, _⟩ := I.tuple hT
      simp only at hc hd
      subst hc hd
      cases vals_refs rv
      exact PySem.W.kia_tup (PySem.W.ykitx_exc T.hg T.hk T.hs T.hd T.ha T.hn T.ht T.hm) I.kIn ⟨_, J⟩ ht e (fun z => nomatch z) fun tk => ⟨.bl b, H, I.kept (t' := tk) fun _ _ z => z, rfl, q⟩
def uIsXT (K : PySem.W.Frag) (a dd C : Addr) (ue ut : UE) : UE := fun ρ R => ue ρ fun r ρ1 => ut ρ1 fun q ρ2 => wv ρ2 r fun d => wv ρ2 q fun t => ∃ (fs : List (Str × D)) (cs : List Addr) (b : Bool), d = .exc a dd C fs ∧ t = .tup (cs.map D.ref) ∧ PySem.W.kitAny K (.ref C) (cs.map Value.ref) = some b ∧ R (.val (.bl b)) ρ2
theorem fe_isXT {X : Cx} {a dd C : Addr} {oe : Obj} {pn : List (Addr × Obj)} {e t : Expr} {ue ut : UE} {p pos : Pos} (T : ExcC X.K C) (hz : Zc (.ref C) (some dd) oe) (hf : ∃ vs, oe.data = .fields vs) (hg : Gl (X.suite a ((a, oe) :: pn)) "isinstance") (hm : X.mg "isinstance" = none)
    (he : FE (X.suite a ((a, oe) :: pn)) e ue) (ht : FE (X.suite a ((a, oe) :: pn)) t ut)
    (hs : starEach [e, t] X.env = (false, eval e X.env) :: starEach [t] X.env := by rfl) (hs2 : starEach [t] X.env = (false, eval t X.env) :: starEach [] X.env := by rfl) (hpl : (backTo pos (starEach [t] X.env)).any (·.1) = false := by rfl) :
    FE (X.suite a ((a, oe) :: pn)) (.Call (.Name "isinstance" p) [e, t] [] pos) (uIsXT X.K a dd C ue ut) := ⟨fun ρ R q F H σ0 σ B Q E g => by
  refine to_S (pe_callB (call_isXT T hz hf) hg hm (by decide +kernel) (pa_cons pe_S (pa_cons pe_S pa_nil hs2) hs) (by decide) (by decide) hs hpl) (he ρ _ q F H σ0 σ B _ E fun r ρ1 x F1 H1 z G1 => ht ρ1 _ z F1 H1 σ0 σ (hB B r x) _ (G1.er.hold G1.rr) fun q ρ2 y F2 H2 z G2 => ?_)
  have E2 := G2.er.unhold
  have n2 := G1.nx.trans (G2.nx.mono hB_sub)
  obtain ⟨d, w1, z⟩ := E2.seen (G1.rr.held G1.er G2.er G2.nx) z
  obtain ⟨tt, w2, z⟩ := E2.seen (G2.rr.weak hB_sub) z
  obtain ⟨fs, cs, b, rfl, rfl, hk, z⟩ := z
  obtain ⟨rfl, vfs, fd, rf⟩ := w1.exc
  obtain ⟨tp, vs, rfl, hT, l⟩ := w2.tup E2.sub
  cases rl_refs l
  exact ⟨tp, cs, b, vfs, rfl, hT, hk, E2.sub _ _ fd, g _ _ _ _ _ z ⟨n2, E2, .bl _⟩⟩⟩
end YP
set_option maxRecDepth 100000
set_option maxHeartbeats 2000000
/-! The yard's pure layer, part 23: enumerate of a tuple. -/
namespace PySem
open Sem (wp)
open AutoSeq1 (wpAny_loadPart')
theorem ymeets_enumerate_newT (l : Addr) (items : Array Value) (n : Nat) (dct : Option Addr) (sl : Array (Option Value)) :
    Meets (Builtin.«enumerate.__new__» ⟨[.type "enumerate", .ref l], []⟩) (fun _ R s => s.heap.get? l = some { cls := .type "tuple", dict := dct, data := .seq items n, slots := sl } ∧
      R (.ok (.ret (.ref (s.heap.push { cls := .type "tuple_iterator", data := .fields #[.ref l, .int 0 0] }).objs.size)))
        { s with heap := (s.heap.push { cls := .type "tuple_iterator", data := .fields #[.ref l, .int 0 0] }).push { cls := .type "enumerate", data := .fields #[.none, .bool false, .ref s.heap.objs.size, rawInt 0, .none, .none] } }) :=
  .of_wp fun prog w A R s h => by
    obtain ⟨hp, g, d, tk, os⟩ := s; obtain ⟨hl, h⟩ := h
    have hsub := sub_enumerate
    have hL : Heap.IsTuple (Shared.heap ⟨hp, g, d, tk, os⟩) l items := ⟨_, hl, rfl, n, rfl⟩
    wp_walk using wpAny_loadPart' hl
    refine wpAny_stack_any fun st => wpAny_pure ?_
    split
    · rename_i c _ _ _ _ _
      cases (c == Value.type "enumerate")
      · wp_walk using wpAny_loadPart' hl, wpAny_pyIter_tuple hL
        exact ⟨_, rfl, h⟩
      · wp_walk using wpAny_loadPart' hl, wpAny_pyIter_tuple hL
        exact ⟨_, rfl, h⟩
    · wp_walk using wpAny_loadPart' hl, wpAny_pyIter_tuple hL
      exact ⟨_, rfl, h⟩
section
variable {prog : Program} {w : World} {A : Around} {E : Value → Shared → Prop} {s : Shared}
theorem ycall_enumerate_tuple {l : Addr} {items : Array Value} {Q : Value → Shared → Prop} (hL : s.heap.IsTuple l items)
    (h : ∀ h', IsEnum h' (s.heap.objs.size + 1) s.heap.objs.size 0 .none → h'.IsTupleIter s.heap.objs.size l 0 → h'.objs.size = s.heap.objs.size + 2 →
      (∀ b o, s.heap.get? b = some o → h'.get? b = some o) → Q (.ref (s.heap.objs.size + 1)) { s with heap := h' }) :
    wpAny (model prog w) A (call (.type "enumerate") [.ref l]) Q E s := by
  obtain ⟨⟨c, dct, dt, sl⟩, hl, hc, n, hd⟩ := hL
  replace hc : c = .type "tuple" := hc
  replace hd : dt = .seq items n := hd
  subst hc hd
  refine callType_new F.called_enumerate (by decide) (F.typeCall_enumerate_1 _) (F.newCall_enumerate_1 _) (fun obj => F.args_object_init_2 obj _) F.entry_enumerate_new
    (ymeets_enumerate_newT l items n dct sl) ⟨hl, ?_⟩
  have hz : (s.heap.push { cls := .type "tuple_iterator", data := .fields #[.ref l, .int 0 0] }).objs.size = s.heap.objs.size + 1 := Heap.size_push ..
  show _ ∧ _
  rw [hz]
  have he : IsEnum ((s.heap.push { cls := .type "tuple_iterator", data := .fields #[.ref l, .int 0 0] }).push
      { cls := .type "enumerate", data := .fields #[.none, .bool false, .ref s.heap.objs.size, rawInt 0, .none, .none] }) (s.heap.objs.size + 1) s.heap.objs.size 0 .none := by
    have := Heap.get?_push_size (s.heap.push { cls := .type "tuple_iterator", data := .fields #[.ref l, .int 0 0] })
      (o := { cls := .type "enumerate", data := .fields #[.none, .bool false, .ref s.heap.objs.size, rawInt 0, .none, .none] }) rfl
    rw [hz] at this; exact this
  refine ⟨⟨_, he, rfl⟩, h _ he ⟨_, Heap.get?_push_of_some _ (Heap.get?_push_size _ rfl), rfl, rfl⟩ (by rw [Heap.size_push, hz]) fun b o x => Heap.get?_push_of_some _ (Heap.get?_push_of_some _ x)⟩
end
end PySem
namespace L2
open PySem PySem.Spec PyProof.Rows
/-- the tuple at a, each item in a new pair -/
def YIte (K : PySem.W.Frag) (a : Addr) : It :=
  ⟨fun i H => ∃ (xs : List V) (x : V), SqT K H a xs ∧ xs[i]? = some x, fun i H v H' => ∃ T x, v = .ref T ∧ H T = none ∧ H' = upd H T (.tup [.int (i : Nat), x]) ∧ ∀ xs, SqT K H a xs → xs[i]? = some x, fun i H => ∃ xs : List V, SqT K H a xs ∧ xs.length = i⟩
theorem yturn_enum {P : Program} {w : World} {K : PySem.W.Frag} {elts : List Expr} {kk : Nat} {tpos : Pos} (a e it : Addr) :
    Turn P w K (.Tuple elts kk tpos) (YIte K a) [e, it] e (fun i h => (∃ old, IsEnum h e it ((i : Nat) : Int) old) ∧ h.IsTupleIter it a i ∧ e ≠ it) where
  mem := by simp
  obj := fun i h st b hb => by
    obtain ⟨⟨old, he⟩, ⟨o, ho, hc, hd⟩, _⟩ := st
    have e' : b = e ∨ b = it := by simpa using hb
    rcases e' with z | z
    · rw [z]; exact ⟨_, he, fun v q => nomatch q⟩
    · rw [z]; exact ⟨o, ho, fun v q => by rw [hd] at q; cases q⟩
  keep := fun i h h' st k => let ⟨⟨old, he⟩, hi, hne⟩ := st; ⟨⟨old, k e (by simp) _ he⟩, hi.at fun o q => k it (by simp) o q, hne⟩
  item := by
    intro X hP hw hK hc i pins s σ H E I hf st hg
    subst hP hw hK
    obtain ⟨⟨old, he⟩, hit, hne⟩ := st
    obtain ⟨xs, x, hq, hx⟩ := hg
    obtain ⟨its, rv, p, hz⟩ := I.tuple hq
    obtain ⟨u, hu, ru⟩ := rv.get hx
    have hp : s.heap.IsTuple a its.toArray := p
    have hel : e < s.heap.objs.size := Heap.lt_size he
    have hil : it < s.heap.objs.size := by obtain ⟨_, q, _⟩ := hit; exact Heap.lt_size q
    have hae : a ≠ e := fun z => by
      subst z
      obtain ⟨o, ho, hc2, _⟩ := hp
      rw [he] at ho; cases ho
      exact absurd (show Value.type "enumerate" = Value.type "tuple" from hc2) (by decide)
    have hai : a ≠ it := fun z => by
      subst z
      obtain ⟨o, ho, hc2, _⟩ := hp
      obtain ⟨o2, ho2, hc3, _⟩ := hit
      rw [ho] at ho2; cases ho2
      rw [hc2] at hc3
      exact absurd hc3 (by decide)
    have hlt : i < its.toArray.size := by
      have := (List.getElem?_eq_some_iff.mp hu).1
      simpa using this
    have D := Draws.tuple (prog := X.prog) (w := X.w) (A := X.A.in1) (I.ok.hd hc) it a hai its.toArray
    refine wpAny_pyNext_enum_itemD D he ⟨hit, hp⟩ hlt hne (fun z => by
      have z' : e = it ∨ e = a := by simpa using z
      exact z'.elim hne fun y => hae y.symm) fun x' h' tk hPx ho st' hT hsz hk => ?_
    have ex : x' = u := by
      have h1 : its.toArray[i]? = some x' := hPx
      have h2 : its.toArray[i]? = some u := by simpa using hu
      rw [h1] at h2; exact Option.some.inj h2
    subst ex
    refine ⟨_, rfl, wpAny_letOwnedTupleGo_enum (s := { s with heap := h', toks := tk + 1 }) ho fun h'' he' sb => ?_⟩
    have hT2 : h''.get? s.heap.objs.size = some { cls := .type "tuple", data := .seq #[.int i tk, x'] } := (sb.2 _ (Nat.ne_of_gt hel)).trans hT
    have new : ObjOk X.prog X.w (upd H s.heap.objs.size (.tup [.int (i : Nat), x])) h'' s.heap.objs.size (.tup [.int (i : Nat), x]) :=
      ⟨by show 2 ≤ sizeLine; decide, [.int i tk, x'], .cons ⟨_, rfl⟩ (.cons ru .nil), ⟨_, hT2, rfl, _, rfl⟩⟩
    have I1 : Inv X pins σ (upd H s.heap.objs.size (.tup [.int (i : Nat), x])) { s with heap := h'', toks := tk + 1 } :=
      I.turnedNew (ch := [e, it]) (fun b ob hb q => (sb.2 b (fun z => hb (by simp [z]))).trans (hk b ob (fun z => hb (by simp [z])) (fun z => hb (by simp [z])) q)) hf (Nat.le_refl _) new
    refine ⟨.ref s.heap.objs.size, _, I1, rfl, ⟨_, x, rfl, I.hok.fresh (Nat.le_refl _), rfl, fun ys hy => by rw [I.tuple_inj hy hq]; exact hx⟩, ⟨⟨x', ?_⟩, st'.1.at fun o q => (sb.2 it (Ne.symm hne)).trans q, hne⟩, fun b hb => ?_⟩
    · have e1 : ((i + 1 : Nat) : Int) = (i : Int) + 1 := by omega
      rw [e1]; exact he'
    · have hb' : b < s.heap.objs.size := by
        have e' : b = e ∨ b = it := by simpa using hb
        rcases e' with z | z
        · rw [z]; exact hel
        · rw [z]; exact hil
      rw [upd_ne (Nat.ne_of_lt hb')]
      exact (hf b hb).1
  done := by
    intro X hP hw hK hc i pins s σ H E I hf st hg
    subst hP hw hK
    obtain ⟨⟨old, he⟩, hit, hne⟩ := st
    obtain ⟨xs, hq, hx⟩ := hg
    obtain ⟨its, rv, p, hz⟩ := I.tuple hq
    have hp : s.heap.IsTuple a its.toArray := p
    obtain ⟨f0, f1, f2, f3, f4, f5⟩ := hf it (by simp)
    have hl := rv.length
    have hai : a ≠ it := fun z => by
      subst z
      obtain ⟨o, ho, hc2, _⟩ := hp
      obtain ⟨o2, ho2, hc3, _⟩ := hit
      rw [ho] at ho2; cases ho2
      rw [hc2] at hc3
      exact absurd hc3 (by decide)
    have hn : i = its.toArray.size := by simp; omega
    have D := Draws.tuple (prog := X.prog) (w := X.w) (A := X.A.in1) (I.ok.hd hc) it a hai its.toArray
    exact wpAny_pyNext_enum_endD D he (by rw [← hn]; exact ⟨hit, hp⟩) fun h' eb => ⟨rfl, I.turned (t' := s.toks) (fun b o hb q => eb b o hb q) f0 f1 f3 f4 f5⟩
  self := fun A i s Q E st h => let ⟨⟨_, he⟩, _⟩ := st; wpAny_pyIter_enum he h
def yEnum (K : PySem.W.Frag) (ta : TA) : TI := fun σ H R => ta σ H fun vs H1 => ∃ a xs, vs = [.ref a] ∧ SqT K H1 a xs ∧ R (YIte K a) H1
theorem ypi_enum {X : Cx} {e : Expr} {ta : TA} {p pos tpos : Pos} {elts : List Expr} {kk : Nat} (hg : Gl X "enumerate") (hm : X.mg "enumerate" = none) (ha : PA X [e] ta) (hs : starEach [e] X.env = [(false, eval e X.env)] := by rfl) :
    PI X (.Tuple elts kk tpos) (.Call (.Name "enumerate" p) [e] [] pos) (yEnum X.K ta) := by
  refine ⟨fun pins s σ H R I h => ?_⟩
  refine Call_ (ld_blt I hg hm boot_enumerate (PyProof.Rows.callWith_type1 (thn (ha.run pos pins s σ H _ I h) fun us s1 ⟨vs, H1, I1, r1, q1⟩ => ?_) hs rfl))
  obtain ⟨a, xs, ex, hq, q⟩ := q1
  subst ex
  cases r1 with
  | cons r rr =>
    cases rr
    cases r
    obtain ⟨its, rv, p', hz⟩ := I1.tuple hq
    refine ycall_enumerate_tuple (show s1.heap.IsTuple a its.toArray from p') fun h' he hit hsz hk => wpAny_pyIter_enum he ?_
    have I2 : Inv X pins σ H1 { s1 with heap := h' } := I1.kept (t' := s1.toks) hk
    refine ⟨s1.heap.objs.size + 1, [s1.heap.objs.size + 1, s1.heap.objs.size], _, _, H1, rfl, I2, yturn_enum a (s1.heap.objs.size + 1) s1.heap.objs.size, ⟨⟨.none, he⟩, hit, Nat.succ_ne_self _⟩, fun b hb => ?_, q⟩
    have e' : b = s1.heap.objs.size + 1 ∨ b = s1.heap.objs.size := by simpa using hb
    have hle : s1.heap.objs.size ≤ b := by
      rcases e' with z | z
      · rw [z]; exact Nat.le_add_right _ _
      · rw [z]; exact Nat.le_refl _
    exact I1.fpOk hle (I1.hok.fresh hle)
theorem ywalk_enum {K : PySem.W.Frag} {a : Addr} {xs : List V} : Walk (YIte K a) xs.length (fun H => SqT K H a xs) (YPair (fun i => some (.int (i : Nat))) (fun i => xs[i]?)) := by
  refine ⟨fun i _ hi q => ⟨xs, xs[i], q, by simp [hi]⟩, fun _ q => ⟨xs, q, rfl⟩, fun i H v H' _ q y => ?_⟩
  obtain ⟨T, x, h1, h2, h3, h4⟩ := y
  exact ⟨T, .int (i : Nat), x, h1, h2, h3, rfl, h4 xs q⟩
end L2
namespace YP
open PySem PySem.Spec PyProof.Rows L2
def uEnumT (u : UA) : UI := fun ρ R => u ρ fun ds ρ1 => match ds with
  | [.tup l] => R (nums l) ρ1
  | _ => False
theorem fi_enumT {X : Cx} {e : Expr} {u : UA} {p pos tpos : Pos} {elts : List Expr} {kk : Nat} (hg : Gl X "enumerate") (hm : X.mg "enumerate" = none) (ha : FA X [e] u) (hs : starEach [e] X.env = [(false, eval e X.env)] := by rfl) :
    FI X (.Tuple elts kk tpos) (.Call (.Name "enumerate" p) [e] [] pos) (uEnumT u) := ⟨fun ρ R q F H σ0 σ B Q E g => by
  refine to_I (ypi_enum hg hm pa_S hs) (ha ρ _ q F H σ0 σ B _ E fun ds ρ1 vs F1 H1 z G l => ?_)
  unfold uEnumT at z
  split at z
  case h_2 => exact z.elim
  rename_i ds
  cases l with
  | cons l0 l9 =>
  cases l9
  cases l0 with
  | @tup a vs _ h1 l =>
    refine ⟨a, vs, rfl, sqT_mono G.er.sub h1, g _ _ _ F1 H1 z G ?_⟩
    have w := ywalk_enum (K := X.K) (a := a) (xs := vs)
    have e : vs.length = (nums ds).length := by simp [nums, l.len]
    rw [e] at w
    refine w.mono (fun H s => sqT_mono s h1) fun i H x H' hi s ⟨t, x1, y1, e1, e2, e3, e4, e5⟩ => ?_
    obtain ⟨d', ed, rd'⟩ := l.get e5
    have hi' : i < ds.length := (List.getElem?_eq_some_iff.mp ed).1
    refine ⟨.tup [.int (i : Int), d'], ?_, .inr ⟨t, .tup [x1, y1], e3, e2, fun F' s' nF => ?_⟩⟩
    · have ed2 : ds[i] = d' := by
        have := List.getElem?_eq_getElem hi'
        rw [ed] at this
        exact (Option.some.inj this).symm
      simp [nums, hi', ed2]
    · cases e4
      subst e1
      have s2 : Same F' (upd F' t (.tup [.int (i : Nat), y1])) := fun b u q => by rw [upd_ne (ne_of_none q nF)]; exact q
      exact .tup (.of upd_same) (.cons (.int _) (.cons (rd'.mono (s'.trans s2)) .nil))⟩
end YP
namespace YP
open PySem PySem.Spec PyProof.Rows L2 Yard
/-- x, y = a, b of two names: both values stand before either name is set -/
def uPar (i j : Nat) (ua : UA) : US := fun E ρ => ua ρ fun ds ρ1 => match ds with
  | [a, b] => E.nx ((ρ1.set i (.sl false false a)).set j (.sl false false b))
  | _ => False
theorem fs_par {X : Cx} {i j : Nat} {x y : Str} {a b : Expr} {ua : UA} {px py pt pos : Pos} {kt k2 pt2} (hc : X.calm = true) (hN : X.N.Nodup) (hi : X.N[i]? = some x) (hj : X.N[j]? = some y) (hij : i ≠ j)
    (hx : X.env.scope.names.lookup x = some .local) (hy : X.env.scope.names.lookup y = some .local) (ha : FA X [a, b] ua)
    (hw : swappedStores [.Tuple [.Name x px, .Name y py] kt pt] (.Tuple [a, b] k2 pt2) X.env = pure (some [x, y]))
    (hs : swapsWithSole [.Tuple [.Name x px, .Name y py] kt pt] (.Tuple [a, b] k2 pt2) pos.line X.env = pure false := by rfl) :
    FS X (.Assign [.Tuple [.Name x px, .Name y py] kt pt] (.Tuple [a, b] k2 pt2) pos) (uPar i j ua) := ⟨fun E ρ q F H σ0 σ B D er f =>
  to_SS (ps_par hc hN hi hj hij hx hy pa_S hw hs) (ha ρ _ q F H σ0 σ B _ er fun ds ρ1 vs F1 H1 z G rl => by
    cases rl with
    | nil => exact z.elim
    | @cons v l d ds rd rl =>
      cases rl with
      | nil => exact z.elim
      | @cons w l' e ds' re rl' =>
        cases rl' with
        | cons _ _ => exact z.elim
        | nil => exact ⟨v, w, rfl, f.nx _ _ F1 H1 z ⟨G.nx, (G.er.set_val rd).set_val re⟩⟩)⟩
end YP
namespace YP
open PySem PySem.Spec PyProof.Rows L2 Yard
/-- a text told k times -/
def mulS (x : Str) (k : Int) : Str := if k < 1 then Str.empty else if (k == 1 || x.length == 0) = true then x else ⟨(List.replicate k.toNat x.cps).foldl (· ++ ·) #[]⟩
theorem fold_app {α : Type} (a : Array α) : ∀ (n : Nat) (b : Array α), (List.replicate n a).foldl (· ++ ·) b = ⟨b.toList ++ (List.replicate n a.toList).flatten⟩
  | 0, b => by simp
  | n + 1, b => by
    rw [List.replicate_succ, List.foldl_cons, fold_app a n, List.replicate_succ, List.flatten_cons]
    simp
theorem mulS_mem {x : Str} {k : Int} {c : Nat} (h : c ∈ (mulS x k).cps.toList) : c ∈ x.cps.toList := by
  unfold mulS at h
  split at h
  · exact absurd h (by simp [Str.empty])
  split at h
  · exact h
  rw [fold_app] at h
  have h2 : c ∈ (List.replicate k.toNat x.cps.toList).flatten := h
  obtain ⟨m, hm, hx⟩ := List.mem_flatten.mp h2
  rw [List.eq_of_mem_replicate hm] at hx
  exact hx
theorem flat_len {α : Type} (l : List α) : ∀ n : Nat, (List.replicate n l).flatten.length = n * l.length
  | 0 => by simp
  | n + 1 => by rw [List.replicate_succ, List.flatten_cons, List.length_append, flat_len l n, Nat.succ_mul]; omega
theorem mulS_len (x : Str) (k : Int) : (mulS x k).length ≤ k.toNat * x.length := by
  unfold mulS
  split
  · exact Nat.zero_le _
  split
  · have : 1 ≤ k.toNat := by omega
    exact Nat.le_mul_of_pos_left _ this
  · rw [fold_app]
    show ((#[] : Array Nat).toList ++ (List.replicate k.toNat x.cps.toList).flatten).length ≤ k.toNat * x.cps.toList.length
    rw [List.length_append, flat_len]
    exact Nat.le_of_eq (Nat.zero_add _)
theorem mulS_ok {x : Str} {k : Int} (h : PyData.strOk x = true) : PyData.strOk (mulS x k) = true := by
  have e : ∀ y : Str, PyData.strOk y = true ↔ ∀ c ∈ y.cps.toList, c < 1114112 := fun y => by
    show y.cps.all _ = true ↔ _
    rw [← Array.all_toList, List.all_eq_true]
    exact ⟨fun h c hc => of_decide_eq_true (h c hc), fun h c hc => decide_eq_true (h c hc)⟩
  rw [e] at h ⊢
  exact fun c hc => h c (mulS_mem hc)
section
variable {X : Cx}
theorem op_mul_str : OpR X (binaryOp .Mult) (fun x y H Q => ∃ i k, x = V.str i ∧ y = V.int k ∧ k ≤ 1000 ∧ -1000 ≤ k ∧ i.length ≤ 1000 ∧ Q (.str (mulS i k)) H) := by
  intro pins s σ H x y v u Q I rx ry h
  obtain ⟨i, k, rfl, rfl, k1, k0, hl, q⟩ := h
  obtain ⟨t, rfl⟩ := rx
  obtain ⟨t', rfl⟩ := ry
  have sz := sz2
  refine P.mul_str (by rw [decide_eq_false (by omega), decide_eq_false (by omega)] <;> rfl) (fun h1 _ => ?_) (fun h1 _ => ?_) ?_
  · have : (i.length : Int) ≤ (2 ^ 63 - 1) / k := by
      rw [Int.le_ediv_iff_mul_le (by omega)]
      have h2 : (i.length : Int) * k ≤ 1000 * 1000 := Int.mul_le_mul (by omega) k1 (by omega) (by decide)
      omega
    omega
  · have h2 : i.length * k.toNat ≤ 1000 * 1000 := Nat.mul_le_mul hl (by omega)
    show decide _ = false
    exact decide_eq_false (by omega)
  · unfold mulS at q
    split
    · rename_i hk
      rw [if_pos hk] at q
      exact ⟨by decide, .str _, H, I.tok _, ⟨_, rfl⟩, q⟩
    · rename_i hk
      rw [if_neg hk] at q
      split
      · rename_i h2
        rw [if_pos h2] at q
        exact ⟨.str _, H, I, ⟨_, rfl⟩, q⟩
      · rename_i h2
        rw [if_neg h2] at q
        have hz := mulS_len i k
        have h3 : k.toNat * i.length ≤ 1000 * 1000 := Nat.mul_le_mul (by omega) hl
        unfold mulS at hz
        rw [if_neg hk, if_neg h2] at hz
        exact ⟨by show _ ≤ _; omega, .str _, H, I.tok _, ⟨_, rfl⟩, q⟩
def oMulS (d e : D) (T : Rv → Prop) : Prop := match d, e with
  | .str x, .int k => k ≤ 1000 ∧ -1000 ≤ k ∧ x.length ≤ 1000 ∧ T (.val (.str (mulS x k)))
  | _, _ => False
theorem os_mulS : OpS X (binaryOp .Mult) oMulS := .of op_mul_str fun {F H σ0 σ ρ B x y d e T Q} E w1 w2 t g => by
  unfold oMulS at t
  split at t
  · cases w1.str; cases w2.int
    exact ⟨_, _, rfl, rfl, t.1, t.2.1, t.2.2.1, gt_val E g t.2.2.2 (.str _)⟩
  · exact t.elim
end
end YP
set_option maxRecDepth 100000
set_option maxHeartbeats 2000000
/-! The yard's pure layer, part 26: defs at places where no repr is under way; o.m() of no arguments; the law's end there. -/
namespace YP
open PySem PySem.Spec PyProof.Rows L2 Yard
section
variable {P : Program} {w : World} {K : PySem.W.Frag} {mg : Str → Option Value} {base : Heap}
theorem fn_mkG {x qual : Str} {st : Stmt} {f : Addr} {fd : FuncData} {N ps : List Str} {k : Nat} {u : UF} (Fn : L2.Fun K x qual st f fd) (S : FnScope N ps (defScope st)) (hN : ps.length ≤ N.length)
    (body : ∀ (cdv : Value) (A : Around) (outer : List Env) (s : Shared) (H : Hp) (E : XK), A.guards = some [] → Room k (A.deeper (envOfC qual (defScope st) s.heap.objs.size f cdv)) →
      ∃ ub, FB (cxOf CX0 P w K mg base N qual (defScope st) f cdv A outer s H E).nox (defBody st) ub ∧ ∀ ρ R, ρ.length = ps.length → u ρ R → ub (enEnd ps.length R) (enter N.length ρ)) : FnG P w K mg base CX0 (k + 1) f fd ps (PSp K ps.length u) := by
  refine Yard.Fun.okG Fn S (fun vs H Q E h => ?_) fun cdv A outer s H vs Q E hg hr h => ?_
  · obtain ⟨ρ, F, B, R, _, l, _⟩ := h; exact l
  · obtain ⟨ρ, F, B, R, l1, l2, er, hu, g⟩ := h
    obtain ⟨ub, hub, go⟩ := body cdv A outer s H E hg hr
    refine ⟨_, pss_S, hub _ _ (go ρ R l1 hu) F H (vs.map some) _ B _ er.enter ⟨fun ρ' σ' F' H' e G => ?_, fun r ρ' v σ' F' H' e G => ?_, fun _ _ _ _ e _ => e.elim, fun _ _ _ _ e _ => e.elim⟩⟩
    · have hn : ps.length = (vs.map some).length := by rw [List.length_map]; exact l2.symm
      exact g _ _ _ F' H' e G.nx (G.er.back hn) .non (fun _ z => nomatch z)
    · have hn : ps.length = (vs.map some).length := by rw [List.length_map]; exact l2.symm
      obtain ⟨F2, r2, ρ2, hk, nx, er2, rr2, na⟩ := fin_ok (k := fun r ρ2 => R r (YP.back ps.length ρ2)) G.er G.rr e hn
      exact g r2 _ v F2 H' hk (G.nx.trans nx) er2 rr2 na
/-- the law: of a script, True -/
def uLaw : UF := fun ρ R => ∃ ns : List Int, ρ = [dat (.scr ns)] ∧ ns.length ≤ 63 ∧ ∀ ss, R (.val (.bl true)) ss
theorem law_G {k : Nat} {f : Addr} {fd : FuncData} (Fn : FnG P w K mg base CX0 k f fd ["script"] (PSp K 1 uLaw)) : FnG P w K mg base CX0 k f fd ["script"] (spLaw K) := by
  have im : ∀ vs H Q E, spLaw K vs H Q E → PSp K 1 uLaw vs H Q E := by
    rintro vs H Q E ⟨a, ns, rfl, hS, hl, q⟩
    refine ⟨[dat (.scr ns)], H, fun _ => False, fun r _ => r = .val (.bl true), rfl, rfl, ?_, ⟨ns, rfl, hl, fun _ => rfl⟩, fun r ρ' v F' H' hr nx er rr na => ?_⟩
    · refine ⟨rfl, Same.refl _, fun i p d h => ?_, fun i p d h => ?_, fun i j b p q d e h1 h2 h3 h4 => ?_, fun i o d h => ?_, fun b hb => hb.elim⟩
      · match i, h with
        | 0, h => cases h; exact ⟨.ref a, rfl, .scr hS⟩
      · match i, h with
        | 0, h => cases h
      · match i, h1 with
        | 0, h1 => cases h1
      · match i, h with
        | 0, h => cases h
    · subst hr
      have rr : RD K F' v (.bl true) := rr
      cases rr
      exact q H'
  exact ⟨fun vs H Q E h => Fn.cnt vs H Q E (im _ _ _ _ h), fun A fr s H ar us vs Q E a b c d e h => Fn.go A fr s H ar us vs Q E a b c d e (im _ _ _ _ h)⟩
end
/-! ### o.m() -/
theorem fe_meth0 {X : Cx} {o : Expr} {uo : UE} {u : UF} {C : Addr} {m : Str} {k : Nat} {f : Addr} {fd : FuncData} {ps : List Str} {pos apos : Pos} {pl : Sem Bool} (hc : Cls X.K C) (hm : Meth X.K C m f) (Fn : FnOk X.prog X.w X.K X.mg X.base CX0 k f fd ps (PSp X.K ps.length u)) (hr : Room k X.A) (hb : Binds X.K fd ps [])
    (ho : FE X o uo) (hn : 1 = ps.length := by rfl)
    (ht : eval (.Call (.Attribute o m apos) [] [] pos) X.env = (do
      let ov ← eval o X.env
      standAt apos.atName
      let (f, first) ← holding [ov] (getMethod ov m pl)
      callWith pos f first (backTo pos (starEach [] X.env)) (backToKw pos (keywordEach [] X.env))) := by rfl) :
    FE X (.Call (.Attribute o m apos) [] [] pos) (uMeth C m u uo uRNil) := ⟨fun ρ R q F H σ0 σ B Q E g => by
  refine to_S (pe_meth0 (E := fun _ _ _ => False) pe_S hc hm Fn hr hb .nil pass0 ht) (ho ρ _ q F H σ0 σ B _ E fun r ρ1 v F1 H1 z G => ?_)
  obtain ⟨d, w, fs, rfl, hl, n1, z2⟩ := G.er.seen G.rr z
  obtain ⟨a, dx, fv, rfl, h1, rf⟩ := w.obj G.er.sub
  have L : RRs X.K F1 H1 ρ1 σ B [r] [V.ref a] := ⟨G.rr, trivial⟩
  refine ⟨a, dx, fv, rfl, h1, rf.no hl, ?_⟩
  refine ⟨_, F1, bB B ρ1 σ [r], _, by rw [List.length_map]; exact hn, hn, G.er.into L n1, z2, fun q' ss y F' H' hy nx E' rr na => ?_⟩
  have G' := G.er.behind L n1 nx E' rr na
  exact g q' _ y F' H' hy ⟨G.nx.trans G'.nx, G'.er, G'.rr⟩⟩
/-! ### t != u of texts of any length -/
def oNeS (d e : D) (T : Rv → Prop) : Prop := match d, e with
  | .str i, .str j => T (.val (.bl (!decide (i = j))))
  | _, _ => False
theorem os_neS {X : Cx} : OpS X (compareOp .NotEq) oNeS := .of op_ne fun {F H σ0 σ ρ B x y d e T Q} E w1 w2 t g => by
  unfold oNeS at t
  split at t
  · rename_i i j
    cases w1.str; cases w2.str
    refine ⟨rfl, ?_⟩
    have e : decide (V.str i = V.str j) = decide (i = j) := by rw [Bool.eq_iff_iff]; simp
    rw [e]
    exact gt_val E g t (.bl _)
  · exact t.elim
end YP
set_option maxRecDepth 100000
set_option maxHeartbeats 1000000
namespace K10
open PySem PySem.Spec PyProof.Rows L2 Yard YP
/-! ### the text -/
def topS (i : Nat) : Stmt := PySem.Challenge.pw_tongueyard_k10_grammars_refused.main.body.getD i (.Pass ⟨0, 0, 0, 0⟩)
abbrev s_is_name : Stmt := topS 14
abbrev s_how_many_signs : Stmt := topS 16
abbrev s_spells_none : Stmt := topS 18
abbrev s_need_few : Stmt := topS 27
abbrev s_need_new_name : Stmt := topS 28
abbrev s_need_kinds : Stmt := topS 29
abbrev s_need_rules : Stmt := topS 30
abbrev s_need_symbols : Stmt := topS 31
abbrev s_need_bars : Stmt := topS 32
abbrev s__law_purse : Stmt := topS 34
abbrev s__law_drawn : Stmt := topS 35
abbrev s__law_all : Stmt := topS 36
abbrev s__law_named : Stmt := topS 38
abbrev s__law_pattern : Stmt := topS 39
abbrev s__law_bare : Stmt := topS 40
abbrev s__law_kinds : Stmt := topS 41
abbrev s__law_alternatives : Stmt := topS 42
abbrev s__law_world : Stmt := topS 43
abbrev s__law_edges : Stmt := topS 44
abbrev s__law_bars : Stmt := topS 45
abbrev s__law_strange : Stmt := topS 46
abbrev s__law_all_names : Stmt := topS 47
abbrev s__law_kinds_bent : Stmt := topS 48
abbrev s__law_rules_bent : Stmt := topS 49
abbrev s__law_bars_bent : Stmt := topS 50
abbrev s__law_bent : Stmt := topS 51
abbrev s__law_at_bound : Stmt := topS 52
abbrev s__law_signs : Stmt := topS 53
abbrev s__law_none : Stmt := topS 54
abbrev s__law_too_many : Stmt := topS 55
abbrev s__law_name_due : Stmt := topS 56
abbrev s__law_due : Stmt := topS 57
abbrev s__law_told : Stmt := topS 58
abbrev s_law : Stmt := topS 59
abbrev s_NoGrammar___init__ : Stmt := inClass (topS 4) 0
abbrev s_Grammar___init__ : Stmt := inClass (topS 26) 0
abbrev s_Grammar_begin : Stmt := inClass (topS 26) 3
/-- a method of a class, as the top has left it -/
structure Dm (K : PySem.W.Frag) (C : Addr) (x q : Str) (st : Stmt) (ps : List Str) (f : Addr) (fd : FuncData) : Prop where
  fn : Fun K x q st f fd
  bd : Binds K fd ps []
  mt : Meth K C x f
/-- an own exception class -/
structure Xc (K : PySem.W.Frag) (mg : Str → Option Value) (x : Str) (C : Addr) : Prop where
  g : mg x = some (.ref C)
  ox : OexC K C
  xf : XfC K C
  is : ExcC K C
/-- what the top has left -/
structure Tx (K : PySem.W.Frag) (w : World) (mg : Str → Option Value) where
  (a_is_name : Addr) (f_is_name : FuncData) (d_is_name : Df K mg "is_name" s_is_name ["thing"] a_is_name f_is_name)
  (a_how_many_signs : Addr) (f_how_many_signs : FuncData) (d_how_many_signs : Df K mg "how_many_signs" s_how_many_signs ["pattern"] a_how_many_signs f_how_many_signs)
  (a_spells_none : Addr) (f_spells_none : FuncData) (d_spells_none : Df K mg "spells_none" s_spells_none ["pattern"] a_spells_none f_spells_none)
  (a_need_few : Addr) (f_need_few : FuncData) (d_need_few : Df K mg "need_few" s_need_few ["kinds", "rules", "bars"] a_need_few f_need_few)
  (a_need_new_name : Addr) (f_need_new_name : FuncData) (d_need_new_name : Df K mg "need_new_name" s_need_new_name ["name", "taken"] a_need_new_name f_need_new_name)
  (a_need_kinds : Addr) (f_need_kinds : FuncData) (d_need_kinds : Df K mg "need_kinds" s_need_kinds ["kinds"] a_need_kinds f_need_kinds)
  (a_need_rules : Addr) (f_need_rules : FuncData) (d_need_rules : Df K mg "need_rules" s_need_rules ["kinds", "rules"] a_need_rules f_need_rules)
  (a_need_symbols : Addr) (f_need_symbols : FuncData) (d_need_symbols : Df K mg "need_symbols" s_need_symbols ["kinds", "rules"] a_need_symbols f_need_symbols)
  (a_need_bars : Addr) (f_need_bars : FuncData) (d_need_bars : Df K mg "need_bars" s_need_bars ["bars", "rows", "labels"] a_need_bars f_need_bars)
  (a__law_purse : Addr) (f__law_purse : FuncData) (d__law_purse : Df K mg "_law_purse" s__law_purse ["script", "k"] a__law_purse f__law_purse)
  (a__law_drawn : Addr) (f__law_drawn : FuncData) (d__law_drawn : Df K mg "_law_drawn" s__law_drawn ["purse", "many"] a__law_drawn f__law_drawn)
  (a__law_all : Addr) (f__law_all : FuncData) (d__law_all : Df K mg "_law_all" s__law_all ["rules"] a__law_all f__law_all)
  (a__law_named : Addr) (f__law_named : FuncData) (d__law_named : Df K mg "_law_named" s__law_named ["purse", "many"] a__law_named f__law_named)
  (a__law_pattern : Addr) (f__law_pattern : FuncData) (d__law_pattern : Df K mg "_law_pattern" s__law_pattern ["purse", "deep"] a__law_pattern f__law_pattern)
  (a__law_bare : Addr) (f__law_bare : FuncData) (d__law_bare : Df K mg "_law_bare" s__law_bare ["pattern"] a__law_bare f__law_bare)
  (a__law_kinds : Addr) (f__law_kinds : FuncData) (d__law_kinds : Df K mg "_law_kinds" s__law_kinds ["purse", "some"] a__law_kinds f__law_kinds)
  (a__law_alternatives : Addr) (f__law_alternatives : FuncData) (d__law_alternatives : Df K mg "_law_alternatives" s__law_alternatives ["purse", "solid", "labels", "own", "later"] a__law_alternatives f__law_alternatives)
  (a__law_world : Addr) (f__law_world : FuncData) (d__law_world : Df K mg "_law_world" s__law_world ["purse"] a__law_world f__law_world)
  (a__law_edges : Addr) (f__law_edges : FuncData) (d__law_edges : Df K mg "_law_edges" s__law_edges ["rules"] a__law_edges f__law_edges)
  (a__law_bars : Addr) (f__law_bars : FuncData) (d__law_bars : Df K mg "_law_bars" s__law_bars ["purse", "rules", "most"] a__law_bars f__law_bars)
  (a__law_strange : Addr) (f__law_strange : FuncData) (d__law_strange : Df K mg "_law_strange" s__law_strange ["purse", "some"] a__law_strange f__law_strange)
  (a__law_all_names : Addr) (f__law_all_names : FuncData) (d__law_all_names : Df K mg "_law_all_names" s__law_all_names ["world"] a__law_all_names f__law_all_names)
  (a__law_kinds_bent : Addr) (f__law_kinds_bent : FuncData) (d__law_kinds_bent : Df K mg "_law_kinds_bent" s__law_kinds_bent ["purse", "world"] a__law_kinds_bent f__law_kinds_bent)
  (a__law_rules_bent : Addr) (f__law_rules_bent : FuncData) (d__law_rules_bent : Df K mg "_law_rules_bent" s__law_rules_bent ["purse", "world"] a__law_rules_bent f__law_rules_bent)
  (a__law_bars_bent : Addr) (f__law_bars_bent : FuncData) (d__law_bars_bent : Df K mg "_law_bars_bent" s__law_bars_bent ["purse", "world"] a__law_bars_bent f__law_bars_bent)
  (a__law_bent : Addr) (f__law_bent : FuncData) (d__law_bent : Df K mg "_law_bent" s__law_bent ["purse", "world"] a__law_bent f__law_bent)
  (a__law_at_bound : Addr) (f__law_at_bound : FuncData) (d__law_at_bound : Df K mg "_law_at_bound" s__law_at_bound ["purse"] a__law_at_bound f__law_at_bound)
  (a__law_signs : Addr) (f__law_signs : FuncData) (d__law_signs : Df K mg "_law_signs" s__law_signs ["pattern"] a__law_signs f__law_signs)
  (a__law_none : Addr) (f__law_none : FuncData) (d__law_none : Df K mg "_law_none" s__law_none ["text"] a__law_none f__law_none)
  (a__law_too_many : Addr) (f__law_too_many : FuncData) (d__law_too_many : Df K mg "_law_too_many" s__law_too_many ["world"] a__law_too_many f__law_too_many)
  (a__law_name_due : Addr) (f__law_name_due : FuncData) (d__law_name_due : Df K mg "_law_name_due" s__law_name_due ["kinds", "rules"] a__law_name_due f__law_name_due)
  (a__law_due : Addr) (f__law_due : FuncData) (d__law_due : Df K mg "_law_due" s__law_due ["world"] a__law_due f__law_due)
  (a__law_told : Addr) (f__law_told : FuncData) (d__law_told : Df K mg "_law_told" s__law_told ["world"] a__law_told f__law_told)
  (a_law : Addr) (f_law : FuncData) (d_law : Df K mg "law" s_law ["script"] a_law f_law)
  (c_YardError : Addr) (g_YardError : mg "YardError" = some (.ref c_YardError))
  (c_NoName : Addr) (g_NoName : mg "NoName" = some (.ref c_NoName))
  (c_NoGrammar : Addr) (g_NoGrammar : mg "NoGrammar" = some (.ref c_NoGrammar))
  (c_NoLabel : Addr) (g_NoLabel : mg "NoLabel" = some (.ref c_NoLabel))
  (c_NoTree : Addr) (g_NoTree : mg "NoTree" = some (.ref c_NoTree))
  (c_Barred : Addr) (g_Barred : mg "Barred" = some (.ref c_Barred))
  (c_TooMany : Addr) (g_TooMany : mg "TooMany" = some (.ref c_TooMany))
  (c_NoText : Addr) (g_NoText : mg "NoText" = some (.ref c_NoText))
  (c_Grammar : Addr) (g_Grammar : mg "Grammar" = some (.ref c_Grammar))
  (x_NoGrammar : Xc K mg "NoGrammar" c_NoGrammar)
  (s_NoGrammar : PySem.W.exmOne K (.ref c_NoGrammar) (.ref c_YardError) = some true) (v_NoGrammar : PySem.W.kitOne K (.ref c_NoGrammar) (.type "ValueError") = some true)
  (n_NoGrammar_what : PySem.W.findIn K (.ref c_NoGrammar) "what" = some none)
  (n_NoGrammar_name : PySem.W.findIn K (.ref c_NoGrammar) "name" = some none)
  (m_NoGrammar : PySem.W.exmOne K (.ref c_NoGrammar) (.ref c_NoGrammar) = some true)
  (i_NoGrammar_Barred : PySem.W.kitOne K (.ref c_NoGrammar) (.ref c_Barred) = some false)
  (i_NoGrammar_NoLabel : PySem.W.kitOne K (.ref c_NoGrammar) (.ref c_NoLabel) = some false)
  (i_NoGrammar_NoName : PySem.W.kitOne K (.ref c_NoGrammar) (.ref c_NoName) = some false)
  (i_NoGrammar_NoText : PySem.W.kitOne K (.ref c_NoGrammar) (.ref c_NoText) = some false)
  (i_NoGrammar_NoTree : PySem.W.kitOne K (.ref c_NoGrammar) (.ref c_NoTree) = some false)
  (i_NoGrammar_TooMany : PySem.W.kitOne K (.ref c_NoGrammar) (.ref c_TooMany) = some false)
  (i_NoGrammar_YardError : PySem.W.kitOne K (.ref c_NoGrammar) (.ref c_YardError) = some true)
  (a_NoGrammar___init__ : Addr) (f_NoGrammar___init__ : FuncData)
  (d_NoGrammar___init__ : Fun K "__init__" "NoGrammar.__init__" s_NoGrammar___init__ a_NoGrammar___init__ f_NoGrammar___init__) (b_NoGrammar___init__ : Binds K f_NoGrammar___init__ ["self", "what", "name"] []) (k_NoGrammar___init__ : PySem.W.findIn K (.ref c_NoGrammar) "__init__" = some (some (.ref a_NoGrammar___init__))) (t_NoGrammar___init__ : PySem.W.typeIn K (.ref a_NoGrammar___init__) = some (.type "function"))
  (a_Grammar___init__ : Addr) (f_Grammar___init__ : FuncData)
  (T_Grammar_bars : Addr) (e_Grammar_bars : ∀ H, SqT K H T_Grammar_bars [])
  (d_Grammar___init__ : FunD K "__init__" "Grammar.__init__" (defArgs s_Grammar___init__) (defBody s_Grammar___init__) (defScope s_Grammar___init__) [] [("begin", .non), ("bars", .ref T_Grammar_bars)] a_Grammar___init__ f_Grammar___init__) (k_Grammar___init__ : Mk K c_Grammar a_Grammar___init__)
  (a_Grammar_begin : Addr) (f_Grammar_begin : FuncData)
  (d_Grammar_begin : Dm K c_Grammar "begin" "Grammar.begin" s_Grammar_begin ["self"] a_Grammar_begin f_Grammar_begin)
  (cl_Grammar : Cls K c_Grammar)
  (n_Grammar__kinds : NoAttr K c_Grammar "_kinds")
  (n_Grammar__rules : NoAttr K c_Grammar "_rules")
  (n_Grammar__begin : NoAttr K c_Grammar "_begin")
  (n_Grammar__bars : NoAttr K c_Grammar "_bars")
  (n_Grammar__kind_names : NoAttr K c_Grammar "_kind_names")
  (n_Grammar__labels : NoAttr K c_Grammar "_labels")
  (n_Grammar__homes : NoAttr K c_Grammar "_homes")
  (n_Grammar__rows : NoAttr K c_Grammar "_rows")
  (t_LETTERS : Tok) (g_LETTERS : mg "LETTERS" = some (.str "abcdefghijklmnopqrstuvwxyz" t_LETTERS))
  (t_LONGEST : Tok) (g_LONGEST : mg "LONGEST" = some (.int 8 t_LONGEST))
  (a_KEPT_WORDS : Addr) (g_KEPT_WORDS : mg "KEPT_WORDS" = some (.ref a_KEPT_WORDS)) (k_KEPT_WORDS : ∀ H, SqT K H a_KEPT_WORDS ((["word", "skip", "rule", "top", "bar"] : List Str).map V.str))
  (t_MOST_KINDS : Tok) (g_MOST_KINDS : mg "MOST_KINDS" = some (.int 14 t_MOST_KINDS))
  (t_MOST_SIGNS : Tok) (g_MOST_SIGNS : mg "MOST_SIGNS" = some (.int 40 t_MOST_SIGNS))
  (t_MOST_RULES : Tok) (g_MOST_RULES : mg "MOST_RULES" = some (.int 40 t_MOST_RULES))
  (t_MOST_ALTERNATIVES : Tok) (g_MOST_ALTERNATIVES : mg "MOST_ALTERNATIVES" = some (.int 100 t_MOST_ALTERNATIVES))
  (t_MOST_BARS : Tok) (g_MOST_BARS : mg "MOST_BARS" = some (.int 30 t_MOST_BARS))
  (t_MOST_SYMBOLS : Tok) (g_MOST_SYMBOLS : mg "MOST_SYMBOLS" = some (.int 6 t_MOST_SYMBOLS))
  (z_ValueError : mg "ValueError" = none)
  (z_all : mg "all" = none)
  (z_bool : mg "bool" = none)
  (z_dict : mg "dict" = none)
  (z_enumerate : mg "enumerate" = none)
  (z_int : mg "int" = none)
  (z_isinstance : mg "isinstance" = none)
  (z_len : mg "len" = none)
  (z_list : mg "list" = none)
  (z_max : mg "max" = none)
  (z_min : mg "min" = none)
  (z_range : mg "range" = none)
  (z_repr : mg "repr" = none)
  (z_set : mg "set" = none)
  (z_sorted : mg "sorted" = none)
  (z_str : mg "str" = none)
  (z_sum : mg "sum" = none)
  (z_tuple : mg "tuple" = none)
theorem sc_NoGrammar___init__ : FnScope ["self", "what", "name"] ["self", "what", "name"] (defScope s_NoGrammar___init__) := ⟨rfl, rfl, rfl, by decide +kernel, rfl, by decide +kernel, by decide +kernel⟩
theorem ok_NoGrammar___init__ {P : Program} {w : World} {K : PySem.W.Frag} {mg : Str → Option Value} {base : Heap} (T : Tx K w mg) : FnOk P w K mg base CX0 1 T.a_NoGrammar___init__ T.f_NoGrammar___init__ ["self", "what", "name"] (spIni K T.c_NoGrammar ["what", "name"]) := by
  refine T.d_NoGrammar___init__.ok sc_NoGrammar___init__ (fun vs H Q E h => ?_) fun cdv A outer s H vs Q E hr h => ?_
  · obtain ⟨a, ws, rfl, l, _⟩ := h; show ws.length + 1 = _; rw [l]; rfl
  · obtain ⟨a, ws, rfl, l, e, g⟩ := h
    match ws, l with
    | [y, z], _ =>
      refine ⟨_, pss_cons (ps_ost (pv 0) (pv 1)) (pss_one (ps_ost (pv 0) (pv 2))), ?_⟩
      refine ⟨_, rfl, _, rfl, a, _, rfl, T.x_NoGrammar.ox, T.n_NoGrammar_what, .inl ⟨e, fun dx nd hd => ?_⟩⟩
      refine ⟨_, rfl, _, rfl, a, _, rfl, T.x_NoGrammar.ox, T.n_NoGrammar_name, .inr ⟨dx, _, upd_same, by rw [upd_ne hd]; exact upd_same, by show 1 ≤ 900; decide, ?_⟩⟩
      exact g dx _ nd hd (by rw [upd_ne (Ne.symm hd)]; exact upd_same) upd_same fun b h1 h2 => by rw [upd_ne h2, upd_ne h1, upd_ne h2]
end K10
set_option maxRecDepth 100000
set_option maxHeartbeats 1000000
namespace K10
open PySem PySem.Spec PyProof.Rows L2 Yard YP
/-! ### texts -/
theorem ok_codes {s : Str} : PyData.strOk s = true ↔ ∀ c ∈ s.cps.toList, c < 1114112 := by
  obtain ⟨a⟩ := s
  show a.all (fun c => decide (c < 0x110000)) = true ↔ _
  rw [← Array.all_toList, List.all_eq_true]
  constructor
  · intro h c hc; exact of_decide_eq_true (h c hc)
  · intro h c hc; exact decide_eq_true (h c hc)
structure Tk (s : Str) : Prop where
  ok : PyData.strOk s = true
  few : s.length ≤ 9
theorem Tk.sz {s : Str} (h : Tk s) : s.length ≤ sizeLine := Nat.le_trans h.few (Nat.le_trans (by decide) sz2)
theorem okTk {s : Str} (h : Tk s) : OkN 0 (.str s) := okN_str h.ok
abbrev ltr : Str := "abcdefghijklmnopqrstuvwxyz"
abbrev kept : List Str := ["word", "skip", "rule", "top", "bar"]
def gn (s : Str) : Bool := decide (1 ≤ s.length ∧ s.length ≤ 8) && (!decide (s ∈ kept) && s.cps.toList.all fun c => decide (c ∈ ltr.cps.toList))
theorem all_map {l : List Nat} {p : Nat → Bool} : (l.map p).all id = l.all p := by
  rw [List.all_map]; rfl
theorem okKeptT : okD (.tup (kept.map D.str)) = true := by decide +kernel
section
variable {P : Program} {w : World} {K : PySem.W.Frag} {mg : Str → Option Value} {base : Heap}
def uGn : UF := fun ρ R => ∃ x : Str, ρ = [dat (.str x)] ∧ Tk x ∧ ∀ s, R (.val (.bl (gn x))) [s]
def uNone : UF := fun ρ R => ∃ x : Str, ρ = [dat (.str x)] ∧ Tk x ∧ ∀ s, R (.val (.bl (!gn x))) [s]
theorem sc_is_name : FnScope ["thing", "letter"] ["thing"] (defScope s_is_name) := ⟨rfl, rfl, rfl, by decide +kernel, rfl, by decide +kernel, by decide +kernel⟩
theorem ok_is_name (T : Tx K w mg) : FnOk P w K mg base CX0 1 T.a_is_name T.f_is_name ["thing"] (PSp K 1 uGn) := by
  refine fn_mk T.d_is_name.fn sc_is_name (by decide) fun cdv A outer s H E hr => ?_
  refine ⟨_, (fb_cons (fs_if (FW.ft (fw_or (ft_not (ft_tru (fe_b cb_isi (by rfl) T.z_isinstance (by decide +kernel) (fr_ref (fv 0) (fr_ref (fe_ty (n := "str") (by rfl) T.z_str (by decide +kernel)) fr_nil))))) (fw_or1 (ft_not (ft_chain os_le os_le fe_int (fe_b cb_len (by rfl) T.z_len (by decide +kernel) (fr_ref (fv 0) fr_nil)) (fe_glob (v := .int 8) (d := .int 8) (by rfl) T.g_LONGEST ⟨_, rfl⟩ (fun _ => .int _)))))))
      (fb_one (fs_ret fe_bl))
      fb_nil)
      (fb_one (fs_ret (fe_and (fe_notinK (fv 0) (by rfl) T.g_KEPT_WORDS T.k_KEPT_WORDS) (fe_one (fe_b (cb_all rfl) (by rfl) T.z_all (by decide +kernel) (fr_ref (fe_lc rfl sc_is_name.nd (fi_str (fv 0)) (blkOk_by (own := [("letter", 1)]) (N := ["thing", "letter"]) (sc := defScope s_is_name) (by decide +kernel)) (fun _ _ _ _ _ => (fg_name (pg_name (i := 1) sc_is_name.nd rfl (.inl rfl)) (by intro l e; cases e; decide +kernel))) (fun _ _ _ _ _ => fts_nil) (fun _ _ _ _ _ => (fe_cmp (os_in (rv hr)) (fv 1) (fe_glob (v := .str "abcdefghijklmnopqrstuvwxyz") (d := .str "abcdefghijklmnopqrstuvwxyz") (by rfl) T.g_LETTERS ⟨_, rfl⟩ (fun _ => .str _))))) fr_nil))))))), fun ρ R hl h => ?_⟩
  -- slots: 0 thing, 1 letter
  obtain ⟨x, rfl, hx, q⟩ := h
  have sz := sz2
  refine ⟨"str", true, rfl, rfl, ?_⟩
  refine ⟨hx.sz, ?_⟩
  show (if decide ((1 : Int) ≤ ((x.length : Nat) : Int)) = true then _ else _)
  by_cases h0 : (1 : Int) ≤ ((x.length : Nat) : Int)
  · rw [decide_eq_true h0]
    show (if (!decide (((x.length : Nat) : Int) ≤ 8)) = true then _ else _)
    by_cases h8 : ((x.length : Nat) : Int) ≤ 8
    case neg =>
      rw [decide_eq_false h8]
      have : gn x = false := by unfold gn; rw [decide_eq_false (by omega : ¬ (1 ≤ x.length ∧ x.length ≤ 8))]; rfl
      rw [this] at q
      exact q _
    rw [decide_eq_true h8]
    refine ⟨x, rfl, ?_⟩
    show (if (true ^^ decide (x ∈ kept)) = true then _ else _)
    by_cases hk : x ∈ kept
    · rw [decide_eq_true hk]
      have : gn x = false := by unfold gn; rw [decide_eq_true hk]; simp
      rw [this] at q
      exact q _
    · rw [decide_eq_false hk]
      refine ⟨fun i acc ρ => acc = ((x.cps.toList.take i).map fun c => D.bl (decide (c ∈ ltr.cps.toList))) ∧ ρ = [.sl false true (.str x), .un], ⟨rfl, rfl⟩, ?_, ?_, ?_⟩
      · rintro i y acc ρ hi ⟨rfl, rfl⟩
        rw [List.getElem?_map] at hi
        obtain ⟨z, hz, rfl⟩ := Option.map_eq_some_iff.mp hi
        have lx : x.cps.toList.length = x.length := Array.length_toList
        have := hx.few
        refine ⟨z, rfl, by rw [List.length_map, List.length_take]; omega, ?_, rfl⟩
        rw [List.take_succ, hz, List.map_append, Bool.false_xor]; rfl
      · rintro i acc ρ ⟨_, rfl⟩
        exact ⟨_, (rfl : _ = YP.wipeS [.sl false true (.str x), .un] [1])⟩
      · rintro acc ρ ⟨rfl, rfl⟩
        rw [List.length_map, List.take_length]
        refine ⟨x.cps.toList.map fun c => decide (c ∈ ltr.cps.toList), by rw [List.map_map]; rfl, ?_⟩
        rw [all_map]
        have : gn x = x.cps.toList.all fun c => decide (c ∈ ltr.cps.toList) := by
          unfold gn
          rw [decide_eq_false hk, decide_eq_true (by omega : 1 ≤ x.length ∧ x.length ≤ 8)]
          rfl
        rw [this] at q
        exact q _
  · rw [decide_eq_false h0]
    have : gn x = false := by unfold gn; rw [decide_eq_false (by omega : ¬ (1 ≤ x.length ∧ x.length ≤ 8))]; rfl
    rw [this] at q
    exact q _
theorem sc__law_none : FnScope ["text", "sign"] ["text"] (defScope s__law_none) := ⟨rfl, rfl, rfl, by decide +kernel, rfl, by decide +kernel, by decide +kernel⟩
theorem ok__law_none (T : Tx K w mg) : FnOk P w K mg base CX0 1 T.a__law_none T.f__law_none ["text"] (PSp K 1 uNone) := by
  refine fn_mk T.d__law_none.fn sc__law_none (by decide) fun cdv A outer s H E hr => ?_
  refine ⟨_, (fb_cons (fs_if (FW.ft (fw_or (ft_not (ft_chain os_le os_le fe_int (fe_b cb_len (by rfl) T.z_len (by decide +kernel) (fr_ref (fv 0) fr_nil)) fe_int)) (fw_or1 (ft_cmp os_inT (fv 0) (fe_tup (fa_cons fe_str (fa_cons fe_str (fa_cons fe_str (fa_cons fe_str (fa_cons fe_str fa_nil))))))))))
      (fb_one (fs_ret fe_bl))
      fb_nil)
      (fb_one (fs_ret (fe_cmp (os_ne (ru hr)) (fe_lc rfl sc__law_none.nd (fi_str (fv 0)) (blkOk_by (own := [("sign", 1)]) (N := ["text", "sign"]) (sc := defScope s__law_none) (by decide +kernel)) (fun _ _ _ _ _ => (fg_name (pg_name (i := 1) sc__law_none.nd rfl (.inl rfl)) (by intro l e; cases e; decide +kernel))) (fun _ _ _ _ _ => (fts_one (ft_cmp (os_notin (rv hr)) (fv 1) fe_str))) (fun _ _ _ _ _ => (fv 1))) (fe_lst fa_nil))))), fun ρ R hl h => ?_⟩
  -- slots: 0 text, 1 sign
  obtain ⟨x, rfl, hx, q⟩ := h
  have sz := sz2
  refine ⟨hx.sz, ?_⟩
  show (if decide ((1 : Int) ≤ ((x.length : Nat) : Int)) = true then _ else _)
  by_cases h0 : (1 : Int) ≤ ((x.length : Nat) : Int)
  case neg =>
    rw [decide_eq_false h0]
    have : gn x = false := by unfold gn; rw [decide_eq_false (by omega : ¬ (1 ≤ x.length ∧ x.length ≤ 8))]; rfl
    rw [this] at q
    exact q _
  rw [decide_eq_true h0]
  show (if (!decide (((x.length : Nat) : Int) ≤ 8)) = true then _ else _)
  by_cases h8 : ((x.length : Nat) : Int) ≤ 8
  case neg =>
    rw [decide_eq_false h8]
    have : gn x = false := by unfold gn; rw [decide_eq_false (by omega : ¬ (1 ≤ x.length ∧ x.length ≤ 8))]; rfl
    rw [this] at q
    exact q _
  rw [decide_eq_true h8]
  refine ⟨by show 5 ≤ _; omega, kept, rfl, ?_⟩
  show (if (false ^^ decide (x ∈ kept)) = true then _ else _)
  by_cases hk : x ∈ kept
  · rw [decide_eq_true hk]
    have : gn x = false := by unfold gn; rw [decide_eq_true hk]; simp
    rw [this] at q
    exact q _
  rw [decide_eq_false hk]
  have lx : x.cps.toList.length = x.length := Array.length_toList
  have few := hx.few
  refine ⟨fun i acc ρ => acc = (((x.cps.toList.take i).filter fun c => !decide (c ∈ ltr.cps.toList)).map fun c => D.str ⟨#[c]⟩) ∧ ρ = [.sl false true (.str x), .un], ⟨rfl, rfl⟩, ?_, ?_, ?_⟩
  · rintro i y acc ρ hi ⟨rfl, rfl⟩
    rw [List.getElem?_map] at hi
    obtain ⟨z, hz, rfl⟩ := Option.map_eq_some_iff.mp hi
    have e1 : x.cps.toList.take (i + 1) = x.cps.toList.take i ++ [z] := by rw [List.take_succ, hz]; rfl
    refine ⟨z, rfl, ?_⟩
    dsimp only
    by_cases hc : z ∈ ltr.cps.toList
    · rw [decide_eq_true hc]
      refine ⟨?_, rfl⟩
      rw [e1, List.filter_append, List.filter_cons_of_neg (by simp [hc])]; simp
    · rw [decide_eq_false hc]
      refine ⟨?_, ?_, rfl⟩
      · rw [List.length_map]
        have := List.length_filter_le (fun c => !decide (c ∈ ltr.cps.toList)) (x.cps.toList.take i)
        rw [List.length_take] at this
        omega
      · rw [e1, List.filter_append, List.filter_cons_of_pos (by simp [hc]), List.map_append]; rfl
  · rintro i acc ρ ⟨_, rfl⟩
    exact ⟨_, (rfl : _ = YP.wipeS [.sl false true (.str x), .un] [1])⟩
  rintro acc ρ ⟨rfl, rfl⟩
  rw [List.length_map, List.take_length]
  have okc : ∀ c ∈ x.cps.toList, OkN 0 (.str ⟨#[c]⟩) := fun c hc => okN_str (ok_codes.mpr fun d hd => by
    have hd : d ∈ [c] := hd
    rw [List.mem_singleton.mp hd]; exact ok_codes.mp hx.ok c hc)
  refine ⟨Nat.zero_le _, (okN_lst (n := 0) fun d hd => ?_).ok, by decide +kernel, ?_⟩
  · obtain ⟨c, hc, rfl⟩ := List.mem_map.mp hd
    exact okc c (List.mem_filter.mp hc).1
  have hg : gn x = (x.cps.toList.all fun c => decide (c ∈ ltr.cps.toList)) := by
    unfold gn
    rw [decide_eq_false hk, decide_eq_true (by omega : 1 ≤ x.length ∧ x.length ≤ 8)]
    rfl
  have he : eqD (.lst ((x.cps.toList.filter fun c => !decide (c ∈ ltr.cps.toList)).map fun c => D.str ⟨#[c]⟩)) (.lst []) = gn x := by
    rw [hg]
    cases hf : x.cps.toList.filter fun c => !decide (c ∈ ltr.cps.toList) with
    | nil =>
      rw [List.filter_eq_nil_iff] at hf
      have : (x.cps.toList.all fun c => decide (c ∈ ltr.cps.toList)) = true := List.all_eq_true.mpr fun c hc => by simpa using hf c hc
      rw [this]; rfl
    | cons c l =>
      have hc : c ∈ x.cps.toList.filter fun c => !decide (c ∈ ltr.cps.toList) := by rw [hf]; exact List.mem_cons_self
      have h1 := List.mem_filter.mp hc
      have : (x.cps.toList.all fun c => decide (c ∈ ltr.cps.toList)) = false := by
        rw [List.all_eq_false]
        exact ⟨c, h1.1, by simpa using h1.2⟩
      rw [this]; rfl
  rw [he]
  exact q _
end
end K10
set_option maxRecDepth 100000
set_option maxHeartbeats 1000000
namespace K10
open PySem PySem.Spec PyProof.Rows L2 Yard YP
/-! ### patterns -/
inductive PT where
  | sg (s : Str) | em | th (a b : PT) | or (a b : PT) | ag (a : PT) | mo (a : PT) | mb (a : PT)
def PT.dep : PT → Nat
  | .sg _ => 0 | .em => 0 | .th a b => max a.dep b.dep + 1 | .or a b => max a.dep b.dep + 1 | .ag a => a.dep + 1 | .mo a => a.dep + 1 | .mb a => a.dep + 1
def PT.cnt : PT → Nat
  | .sg _ => 1 | .em => 0 | .th a b => a.cnt + b.cnt | .or a b => a.cnt + b.cnt | .ag a => a.cnt | .mo a => a.cnt | .mb a => a.cnt
def PT.bare : PT → Bool
  | .sg _ => false | .em => true | .th a b => a.bare && b.bare | .or a b => a.bare || b.bare | .ag _ => true | .mo a => a.bare | .mb _ => true
def PT.wrd : PT → Str
  | .sg _ => "signs" | .em => "empty" | .th _ _ => "then" | .or _ _ => "or" | .ag _ => "again" | .mo _ => "more" | .mb _ => "maybe"
def PT.pts : PT → List PT
  | .sg _ => [] | .em => [] | .th a b => [a, b] | .or a b => [a, b] | .ag a => [a] | .mo a => [a] | .mb a => [a]
def PT.d : PT → D
  | .sg s => .tup [.str "signs", .str s] | .em => .tup [.str "empty"] | .th a b => .tup [.str "then", a.d, b.d] | .or a b => .tup [.str "or", a.d, b.d]
  | .ag a => .tup [.str "again", a.d] | .mo a => .tup [.str "more", a.d] | .mb a => .tup [.str "maybe", a.d]
theorem PT.d_pts {p : PT} (n : ∀ s, p ≠ .sg s) : p.d = .tup (.str p.wrd :: p.pts.map PT.d) := by
  cases p with
  | sg s => exact absurd rfl (n s)
  | _ => rfl
theorem PT.cnt_pts {p : PT} (n : ∀ s, p ≠ .sg s) : p.cnt = (p.pts.map PT.cnt).sum := by
  cases p with
  | sg s => exact absurd rfl (n s)
  | em => rfl
  | th a b => simp [PT.cnt, PT.pts]
  | or a b => simp [PT.cnt, PT.pts]
  | ag a => simp [PT.cnt, PT.pts]
  | mo a => simp [PT.cnt, PT.pts]
  | mb a => simp [PT.cnt, PT.pts]
theorem PT.wrd_ne {p : PT} (n : ∀ s, p ≠ .sg s) : eqD (.str p.wrd) (.str "signs") = false := by
  cases p with
  | sg s => exact absurd rfl (n s)
  | em => exact (by decide +kernel : eqD (.str "empty") (.str "signs") = false)
  | th a b => exact (by decide +kernel : eqD (.str "then") (.str "signs") = false)
  | or a b => exact (by decide +kernel : eqD (.str "or") (.str "signs") = false)
  | ag a => exact (by decide +kernel : eqD (.str "again") (.str "signs") = false)
  | mo a => exact (by decide +kernel : eqD (.str "more") (.str "signs") = false)
  | mb a => exact (by decide +kernel : eqD (.str "maybe") (.str "signs") = false)
theorem PT.ok_wrd (p : PT) : okD (.str p.wrd) = true := by
  cases p with
  | sg s => exact (by decide +kernel : okD (.str "signs") = true)
  | em => exact (by decide +kernel : okD (.str "empty") = true)
  | th a b => exact (by decide +kernel : okD (.str "then") = true)
  | or a b => exact (by decide +kernel : okD (.str "or") = true)
  | ag a => exact (by decide +kernel : okD (.str "again") = true)
  | mo a => exact (by decide +kernel : okD (.str "more") = true)
  | mb a => exact (by decide +kernel : okD (.str "maybe") = true)
theorem PT.pts_dep {p q : PT} (h : q ∈ p.pts) : q.dep + 1 ≤ p.dep := by
  cases p <;> simp [PT.pts] at h <;> (try rcases h with rfl | rfl) <;> (try subst h) <;> simp only [PT.dep] <;> omega
theorem PT.pts_few (p : PT) : p.pts.length ≤ 2 := by cases p <;> simp [PT.pts]
theorem ycut1 {α : Type} (x : α) (xs : List α) : YP.cut (x :: xs) (some 1) none = xs := ycut_from (x :: xs) 1
def uCnt (k : Nat) : UF := fun ρ R => ∃ p : PT, ρ = [dat p.d] ∧ p.dep ≤ k ∧ ∀ s, R (.val (.int (p.cnt : Nat))) [s]
def uBare (k : Nat) : UF := fun ρ R => ∃ p : PT, ρ = [dat p.d] ∧ p.dep ≤ k ∧ ∀ s, R (.val (.bl p.bare)) [s]
section
variable {P : Program} {w : World} {K : PySem.W.Frag} {mg : Str → Option Value} {base : Heap}
theorem sc_how_many_signs : FnScope ["pattern", "part"] ["pattern"] (defScope s_how_many_signs) := ⟨rfl, rfl, rfl, by decide +kernel, rfl, by decide +kernel, by decide +kernel⟩
theorem st_how_many_signs (T : Tx K w mg) (k : Nat) (G : FnOk P w K mg base CX0 (k + 1) T.a_how_many_signs T.f_how_many_signs ["pattern"] (PSp K 1 (uBefore uCnt k))) : FnOk P w K mg base CX0 (k + 2) T.a_how_many_signs T.f_how_many_signs ["pattern"] (PSp K 1 (uCnt k)) := by
  refine fn_mk T.d_how_many_signs.fn sc_how_many_signs (by decide) fun cdv A outer s H E hr => ?_
  refine ⟨_, (fb_cons (fs_if (ft_cmp (os_eq (ru hr)) (fe_ix (fv 0) fe_int) fe_str)
      (fb_one (fs_ret fe_int))
      fb_nil)
      (fb_one (fs_ret (fe_b (cb_sum rfl) (by rfl) T.z_sum (by decide +kernel) (fr_ref (fe_lc rfl sc_how_many_signs.nd (fi_tup (fe_sl (fv 0) (fo_int fe_int) fo_no)) (blkOk_by (own := [("part", 1)]) (N := ["pattern", "part"]) (sc := defScope s_how_many_signs) (by decide +kernel)) (fun _ _ _ _ _ => (fg_name (pg_name (i := 1) sc_how_many_signs.nd rfl (.inl rfl)) (by intro l e; cases e; decide +kernel))) (fun _ _ _ _ _ => fts_nil) (fun _ _ _ _ _ => (fe_call G (hr.mono (by omega)) (by rfl) T.d_how_many_signs.at_ T.d_how_many_signs.kp T.d_how_many_signs.bd (fr_val (fv 1) fr_nil)))) fr_nil))))), fun ρ R hl h => ?_⟩
  obtain ⟨p, rfl, hk, q⟩ := h
  have sz := sz2
  by_cases hs : ∃ l, p = .sg l
  · obtain ⟨l, rfl⟩ := hs
    refine ⟨.str "signs", rfl, by decide +kernel, by decide +kernel, ?_⟩
    rw [show eqD (.str "signs") (.str "signs") = true by decide +kernel]
    exact q _
  have ng : ∀ l, p ≠ .sg l := fun l e => hs ⟨l, e⟩
  rw [PT.d_pts ng]
  have tl : YP.cut (D.str p.wrd :: p.pts.map PT.d) (some 1) none = p.pts.map PT.d := ycut1 _ _
  refine ⟨.str p.wrd, atI_nat (j := 0) rfl, p.ok_wrd, by decide +kernel, ?_⟩
  rw [PT.wrd_ne ng]
  refine ⟨fun i acc ρ => acc = (p.pts.take i).map (fun x => D.int (x.cnt : Nat)) ∧ ρ = [.sl false true (.tup (.str p.wrd :: p.pts.map PT.d)), .un], ⟨rfl, rfl⟩, ?_, ?_, ?_⟩
  · rintro i d acc ρ hi ⟨rfl, rfl⟩
    rw [tl, List.getElem?_map] at hi
    obtain ⟨x, ex, rfl⟩ := Option.map_eq_some_iff.mp hi
    have dx := PT.pts_dep (List.mem_of_getElem? ex)
    obtain ⟨m, rfl⟩ : ∃ m, k = m + 1 := ⟨k - 1, by omega⟩
    refine ⟨List.nodup_nil, x, rfl, by omega, fun s => ?_⟩
    dsimp only
    rw [wb_no (rs := [.val x.d]) [s] rfl]
    refine ⟨?_, (?_ : _ = (p.pts.take (i + 1)).map (fun x => D.int (x.cnt : Nat))), rfl⟩
    · rw [List.length_map, List.length_take]
      have := p.pts_few
      omega
    · rw [List.take_succ, ex, List.map_append]; rfl
  · rintro i acc ρ ⟨_, rfl⟩
    exact ⟨_, (rfl : _ = YP.wipeS [.sl false true (.tup (.str p.wrd :: p.pts.map PT.d)), .un] [1])⟩
  rintro acc ρ ⟨rfl, rfl⟩
  rw [tl, List.length_map, List.take_length]
  refine ⟨p.pts.map fun x => ((x.cnt : Nat) : Int), by rw [List.map_map]; rfl, ?_⟩
  have e : (p.pts.map fun x => ((x.cnt : Nat) : Int)).sum = ((p.cnt : Nat) : Int) := by
    rw [PT.cnt_pts ng]
    generalize p.pts = l
    induction l with
    | nil => rfl
    | cons a l ih => simp only [List.map_cons, List.sum_cons, ih, Int.natCast_add]
  rw [e]
  exact q _
theorem ok_how_many_signs (T : Tx K w mg) : ∀ k, FnOk P w K mg base CX0 (k + 2) T.a_how_many_signs T.f_how_many_signs ["pattern"] (PSp K 1 (uCnt k))
  | 0 => st_how_many_signs T 0 no_pure
  | k + 1 => st_how_many_signs T (k + 1) (ok_how_many_signs T k)
theorem sc__law_signs : FnScope ["pattern", "part"] ["pattern"] (defScope s__law_signs) := ⟨rfl, rfl, rfl, by decide +kernel, rfl, by decide +kernel, by decide +kernel⟩
theorem st__law_signs (T : Tx K w mg) (k : Nat) (G : FnOk P w K mg base CX0 (k + 1) T.a__law_signs T.f__law_signs ["pattern"] (PSp K 1 (uBefore uCnt k))) : FnOk P w K mg base CX0 (k + 2) T.a__law_signs T.f__law_signs ["pattern"] (PSp K 1 (uCnt k)) := by
  refine fn_mk T.d__law_signs.fn sc__law_signs (by decide) fun cdv A outer s H E hr => ?_
  refine ⟨_, (fb_one (fs_ret (fe_if (ft_cmp (os_eq (ru hr)) (fe_ix (fv 0) fe_int) fe_str) fe_int (fe_b (cb_sum rfl) (by rfl) T.z_sum (by decide +kernel) (fr_ref (fe_lc rfl sc__law_signs.nd (fi_tup (fe_sl (fv 0) (fo_int fe_int) fo_no)) (blkOk_by (own := [("part", 1)]) (N := ["pattern", "part"]) (sc := defScope s__law_signs) (by decide +kernel)) (fun _ _ _ _ _ => (fg_name (pg_name (i := 1) sc__law_signs.nd rfl (.inl rfl)) (by intro l e; cases e; decide +kernel))) (fun _ _ _ _ _ => fts_nil) (fun _ _ _ _ _ => (fe_call G (hr.mono (by omega)) (by rfl) T.d__law_signs.at_ T.d__law_signs.kp T.d__law_signs.bd (fr_val (fv 1) fr_nil)))) fr_nil))))), fun ρ R hl h => ?_⟩
  obtain ⟨p, rfl, hk, q⟩ := h
  have sz := sz2
  by_cases hs : ∃ l, p = .sg l
  · obtain ⟨l, rfl⟩ := hs
    refine ⟨.str "signs", rfl, by decide +kernel, by decide +kernel, ?_⟩
    rw [show eqD (.str "signs") (.str "signs") = true by decide +kernel]
    exact q _
  have ng : ∀ l, p ≠ .sg l := fun l e => hs ⟨l, e⟩
  rw [PT.d_pts ng]
  have tl : YP.cut (D.str p.wrd :: p.pts.map PT.d) (some 1) none = p.pts.map PT.d := ycut1 _ _
  refine ⟨.str p.wrd, atI_nat (j := 0) rfl, p.ok_wrd, by decide +kernel, ?_⟩
  rw [PT.wrd_ne ng]
  refine ⟨fun i acc ρ => acc = (p.pts.take i).map (fun x => D.int (x.cnt : Nat)) ∧ ρ = [.sl false true (.tup (.str p.wrd :: p.pts.map PT.d)), .un], ⟨rfl, rfl⟩, ?_, ?_, ?_⟩
  · rintro i d acc ρ hi ⟨rfl, rfl⟩
    rw [tl, List.getElem?_map] at hi
    obtain ⟨x, ex, rfl⟩ := Option.map_eq_some_iff.mp hi
    have dx := PT.pts_dep (List.mem_of_getElem? ex)
    obtain ⟨m, rfl⟩ : ∃ m, k = m + 1 := ⟨k - 1, by omega⟩
    refine ⟨List.nodup_nil, x, rfl, by omega, fun s => ?_⟩
    dsimp only
    rw [wb_no (rs := [.val x.d]) [s] rfl]
    refine ⟨?_, (?_ : _ = (p.pts.take (i + 1)).map (fun x => D.int (x.cnt : Nat))), rfl⟩
    · rw [List.length_map, List.length_take]
      have := p.pts_few
      omega
    · rw [List.take_succ, ex, List.map_append]; rfl
  · rintro i acc ρ ⟨_, rfl⟩
    exact ⟨_, (rfl : _ = YP.wipeS [.sl false true (.tup (.str p.wrd :: p.pts.map PT.d)), .un] [1])⟩
  rintro acc ρ ⟨rfl, rfl⟩
  rw [tl, List.length_map, List.take_length]
  refine ⟨p.pts.map fun x => ((x.cnt : Nat) : Int), by rw [List.map_map]; rfl, ?_⟩
  have e : (p.pts.map fun x => ((x.cnt : Nat) : Int)).sum = ((p.cnt : Nat) : Int) := by
    rw [PT.cnt_pts ng]
    generalize p.pts = l
    induction l with
    | nil => rfl
    | cons a l ih => simp only [List.map_cons, List.sum_cons, ih, Int.natCast_add]
  rw [e]
  exact q _
theorem ok__law_signs (T : Tx K w mg) : ∀ k, FnOk P w K mg base CX0 (k + 2) T.a__law_signs T.f__law_signs ["pattern"] (PSp K 1 (uCnt k))
  | 0 => st__law_signs T 0 no_pure
  | k + 1 => st__law_signs T (k + 1) (ok__law_signs T k)
theorem sc_spells_none : FnScope ["pattern", "word"] ["pattern"] (defScope s_spells_none) := ⟨rfl, rfl, rfl, by decide +kernel, rfl, by decide +kernel, by decide +kernel⟩
theorem st_spells_none (T : Tx K w mg) (k : Nat) (G : FnOk P w K mg base CX0 (k + 1) T.a_spells_none T.f_spells_none ["pattern"] (PSp K 1 (uBefore uBare k))) : FnOk P w K mg base CX0 (k + 2) T.a_spells_none T.f_spells_none ["pattern"] (PSp K 1 (uBare k)) := by
  refine fn_mk T.d_spells_none.fn sc_spells_none (by decide) fun cdv A outer s H E hr => ?_
  refine ⟨_, (fb_cons (fs_set (ps_set (i := 1) sc_spells_none.nd rfl (.inl rfl) pe_S) (fe_ix (fv 0) fe_int))
      (fb_cons (fs_if (ft_cmp (os_eq (ru hr)) (fv 1) fe_str)
      (fb_one (fs_ret fe_bl))
      fb_nil)
      (fb_cons (fs_if (ft_cmp (os_eq (ru hr)) (fv 1) fe_str)
      (fb_one (fs_ret (fe_and (fe_call G (hr.mono (by omega)) (by rfl) T.d_spells_none.at_ T.d_spells_none.kp T.d_spells_none.bd (fr_val (fe_ix (fv 0) fe_int) fr_nil)) (fe_one (fe_call G (hr.mono (by omega)) (by rfl) T.d_spells_none.at_ T.d_spells_none.kp T.d_spells_none.bd (fr_val (fe_ix (fv 0) fe_int) fr_nil))))))
      fb_nil)
      (fb_cons (fs_if (ft_cmp (os_eq (ru hr)) (fv 1) fe_str)
      (fb_one (fs_ret (fe_or (fe_call G (hr.mono (by omega)) (by rfl) T.d_spells_none.at_ T.d_spells_none.kp T.d_spells_none.bd (fr_val (fe_ix (fv 0) fe_int) fr_nil)) (fe_one (fe_call G (hr.mono (by omega)) (by rfl) T.d_spells_none.at_ T.d_spells_none.kp T.d_spells_none.bd (fr_val (fe_ix (fv 0) fe_int) fr_nil))))))
      fb_nil)
      (fb_one (fs_ret (fe_or (fe_cmp (os_ne (ru hr)) (fv 1) fe_str) (fe_one (fe_call G (hr.mono (by omega)) (by rfl) T.d_spells_none.at_ T.d_spells_none.kp T.d_spells_none.bd (fr_val (fe_ix (fv 0) fe_int) fr_nil)))))))))), fun ρ R hl h => ?_⟩
  obtain ⟨p, rfl, hk, q⟩ := h
  have sz := sz2
  cases p with
  | sg s =>
    refine ⟨.str "signs", rfl, by decide +kernel, by decide +kernel, ?_⟩
    rw [show eqD (.str "signs") (.str "signs") = true by decide +kernel]
    exact q _
  | em =>
    refine ⟨.str "empty", rfl, by decide +kernel, by decide +kernel, ?_⟩
    rw [show eqD (.str "empty") (.str "signs") = false by decide +kernel]
    refine ⟨by decide +kernel, by decide +kernel, ?_⟩
    rw [show eqD (.str "empty") (.str "then") = false by decide +kernel]
    refine ⟨by decide +kernel, by decide +kernel, ?_⟩
    rw [show eqD (.str "empty") (.str "or") = false by decide +kernel]
    refine ⟨by decide +kernel, by decide +kernel, ?_⟩
    rw [show eqD (.str "empty") (.str "more") = false by decide +kernel]
    exact q _
  | th a b =>
    refine ⟨.str "then", rfl, by decide +kernel, by decide +kernel, ?_⟩
    rw [show eqD (.str "then") (.str "signs") = false by decide +kernel]
    refine ⟨by decide +kernel, by decide +kernel, ?_⟩
    rw [show eqD (.str "then") (.str "then") = true by decide +kernel]
    obtain ⟨m, rfl⟩ : ∃ m, k = m + 1 := ⟨k - 1, by simp only [PT.dep] at hk; omega⟩
    refine ⟨a.d, rfl, List.nodup_nil, a, rfl, by simp only [PT.dep] at hk; omega, fun s => ?_⟩
    dsimp only
    rw [wb_no (rs := [.val a.d]) [s] rfl]
    cases ha : a.bare with
    | false =>
      have e : PT.bare (.th a b) = false := by simp [PT.bare, ha]
      rw [e] at q
      exact q _
    | true =>
      refine ⟨b.d, rfl, List.nodup_nil, b, rfl, by simp only [PT.dep] at hk; omega, fun s => ?_⟩
      dsimp only
      rw [wb_no (rs := [.val b.d]) [s] rfl]
      have e : PT.bare (.th a b) = b.bare := by simp [PT.bare, ha]
      rw [e] at q
      exact q _
  | or a b =>
    refine ⟨.str "or", rfl, by decide +kernel, by decide +kernel, ?_⟩
    rw [show eqD (.str "or") (.str "signs") = false by decide +kernel]
    refine ⟨by decide +kernel, by decide +kernel, ?_⟩
    rw [show eqD (.str "or") (.str "then") = false by decide +kernel]
    refine ⟨by decide +kernel, by decide +kernel, ?_⟩
    rw [show eqD (.str "or") (.str "or") = true by decide +kernel]
    obtain ⟨m, rfl⟩ : ∃ m, k = m + 1 := ⟨k - 1, by simp only [PT.dep] at hk; omega⟩
    refine ⟨a.d, rfl, List.nodup_nil, a, rfl, by simp only [PT.dep] at hk; omega, fun s => ?_⟩
    dsimp only
    rw [wb_no (rs := [.val a.d]) [s] rfl]
    cases ha : a.bare with
    | true =>
      have e : PT.bare (.or a b) = true := by simp [PT.bare, ha]
      rw [e] at q
      exact q _
    | false =>
      refine ⟨b.d, rfl, List.nodup_nil, b, rfl, by simp only [PT.dep] at hk; omega, fun s => ?_⟩
      dsimp only
      rw [wb_no (rs := [.val b.d]) [s] rfl]
      have e : PT.bare (.or a b) = b.bare := by simp [PT.bare, ha]
      rw [e] at q
      exact q _
  | ag a =>
    refine ⟨.str "again", rfl, by decide +kernel, by decide +kernel, ?_⟩
    rw [show eqD (.str "again") (.str "signs") = false by decide +kernel]
    refine ⟨by decide +kernel, by decide +kernel, ?_⟩
    rw [show eqD (.str "again") (.str "then") = false by decide +kernel]
    refine ⟨by decide +kernel, by decide +kernel, ?_⟩
    rw [show eqD (.str "again") (.str "or") = false by decide +kernel]
    refine ⟨by decide +kernel, by decide +kernel, ?_⟩
    rw [show eqD (.str "again") (.str "more") = false by decide +kernel]
    exact q _
  | mo a =>
    refine ⟨.str "more", rfl, by decide +kernel, by decide +kernel, ?_⟩
    rw [show eqD (.str "more") (.str "signs") = false by decide +kernel]
    refine ⟨by decide +kernel, by decide +kernel, ?_⟩
    rw [show eqD (.str "more") (.str "then") = false by decide +kernel]
    refine ⟨by decide +kernel, by decide +kernel, ?_⟩
    rw [show eqD (.str "more") (.str "or") = false by decide +kernel]
    refine ⟨by decide +kernel, by decide +kernel, ?_⟩
    rw [show eqD (.str "more") (.str "more") = true by decide +kernel]
    obtain ⟨m, rfl⟩ : ∃ m, k = m + 1 := ⟨k - 1, by simp only [PT.dep] at hk; omega⟩
    refine ⟨a.d, rfl, List.nodup_nil, a, rfl, by simp only [PT.dep] at hk; omega, fun s => ?_⟩
    dsimp only
    rw [wb_no (rs := [.val a.d]) [s] rfl]
    exact q _
  | mb a =>
    refine ⟨.str "maybe", rfl, by decide +kernel, by decide +kernel, ?_⟩
    rw [show eqD (.str "maybe") (.str "signs") = false by decide +kernel]
    refine ⟨by decide +kernel, by decide +kernel, ?_⟩
    rw [show eqD (.str "maybe") (.str "then") = false by decide +kernel]
    refine ⟨by decide +kernel, by decide +kernel, ?_⟩
    rw [show eqD (.str "maybe") (.str "or") = false by decide +kernel]
    refine ⟨by decide +kernel, by decide +kernel, ?_⟩
    rw [show eqD (.str "maybe") (.str "more") = false by decide +kernel]
    exact q _
theorem ok_spells_none (T : Tx K w mg) : ∀ k, FnOk P w K mg base CX0 (k + 2) T.a_spells_none T.f_spells_none ["pattern"] (PSp K 1 (uBare k))
  | 0 => st_spells_none T 0 no_pure
  | k + 1 => st_spells_none T (k + 1) (ok_spells_none T k)
theorem sc__law_bare : FnScope ["pattern"] ["pattern"] (defScope s__law_bare) := ⟨rfl, rfl, rfl, by decide +kernel, rfl, by decide +kernel, by decide +kernel⟩
theorem st__law_bare (T : Tx K w mg) (k : Nat) (G : FnOk P w K mg base CX0 (k + 1) T.a__law_bare T.f__law_bare ["pattern"] (PSp K 1 (uBefore uBare k))) : FnOk P w K mg base CX0 (k + 2) T.a__law_bare T.f__law_bare ["pattern"] (PSp K 1 (uBare k)) := by
  refine fn_mk T.d__law_bare.fn sc__law_bare (by decide) fun cdv A outer s H E hr => ?_
  refine ⟨_, (fb_cons (fs_if (ft_cmp (os_eq (ru hr)) (fe_ix (fv 0) fe_int) fe_str)
      (fb_one (fs_ret (fe_and (fe_call G (hr.mono (by omega)) (by rfl) T.d__law_bare.at_ T.d__law_bare.kp T.d__law_bare.bd (fr_val (fe_ix (fv 0) fe_int) fr_nil)) (fe_one (fe_call G (hr.mono (by omega)) (by rfl) T.d__law_bare.at_ T.d__law_bare.kp T.d__law_bare.bd (fr_val (fe_ix (fv 0) fe_int) fr_nil))))))
      fb_nil)
      (fb_cons (fs_if (ft_cmp (os_eq (ru hr)) (fe_ix (fv 0) fe_int) fe_str)
      (fb_one (fs_ret (fe_or (fe_call G (hr.mono (by omega)) (by rfl) T.d__law_bare.at_ T.d__law_bare.kp T.d__law_bare.bd (fr_val (fe_ix (fv 0) fe_int) fr_nil)) (fe_one (fe_call G (hr.mono (by omega)) (by rfl) T.d__law_bare.at_ T.d__law_bare.kp T.d__law_bare.bd (fr_val (fe_ix (fv 0) fe_int) fr_nil))))))
      fb_nil)
      (fb_cons (fs_if (ft_cmp (os_eq (ru hr)) (fe_ix (fv 0) fe_int) fe_str)
      (fb_one (fs_ret (fe_call G (hr.mono (by omega)) (by rfl) T.d__law_bare.at_ T.d__law_bare.kp T.d__law_bare.bd (fr_val (fe_ix (fv 0) fe_int) fr_nil))))
      fb_nil)
      (fb_one (fs_ret (fe_cmp (os_ne (ru hr)) (fe_ix (fv 0) fe_int) fe_str)))))), fun ρ R hl h => ?_⟩
  obtain ⟨p, rfl, hk, q⟩ := h
  have sz := sz2
  cases p with
  | sg s =>
    refine ⟨.str "signs", rfl, by decide +kernel, by decide +kernel, ?_⟩
    rw [show eqD (.str "signs") (.str "then") = false by decide +kernel]
    refine ⟨.str "signs", rfl, by decide +kernel, by decide +kernel, ?_⟩
    rw [show eqD (.str "signs") (.str "or") = false by decide +kernel]
    refine ⟨.str "signs", rfl, by decide +kernel, by decide +kernel, ?_⟩
    rw [show eqD (.str "signs") (.str "more") = false by decide +kernel]
    refine ⟨.str "signs", rfl, by decide +kernel, by decide +kernel, ?_⟩
    rw [show eqD (.str "signs") (.str "signs") = true by decide +kernel]
    exact q _
  | em =>
    refine ⟨.str "empty", rfl, by decide +kernel, by decide +kernel, ?_⟩
    rw [show eqD (.str "empty") (.str "then") = false by decide +kernel]
    refine ⟨.str "empty", rfl, by decide +kernel, by decide +kernel, ?_⟩
    rw [show eqD (.str "empty") (.str "or") = false by decide +kernel]
    refine ⟨.str "empty", rfl, by decide +kernel, by decide +kernel, ?_⟩
    rw [show eqD (.str "empty") (.str "more") = false by decide +kernel]
    refine ⟨.str "empty", rfl, by decide +kernel, by decide +kernel, ?_⟩
    rw [show eqD (.str "empty") (.str "signs") = false by decide +kernel]
    exact q _
  | th a b =>
    refine ⟨.str "then", rfl, by decide +kernel, by decide +kernel, ?_⟩
    rw [show eqD (.str "then") (.str "then") = true by decide +kernel]
    obtain ⟨m, rfl⟩ : ∃ m, k = m + 1 := ⟨k - 1, by simp only [PT.dep] at hk; omega⟩
    refine ⟨a.d, rfl, List.nodup_nil, a, rfl, by simp only [PT.dep] at hk; omega, fun s => ?_⟩
    dsimp only
    rw [wb_no (rs := [.val a.d]) [s] rfl]
    cases ha : a.bare with
    | false =>
      have e : PT.bare (.th a b) = false := by simp [PT.bare, ha]
      rw [e] at q
      exact q _
    | true =>
      refine ⟨b.d, rfl, List.nodup_nil, b, rfl, by simp only [PT.dep] at hk; omega, fun s => ?_⟩
      dsimp only
      rw [wb_no (rs := [.val b.d]) [s] rfl]
      have e : PT.bare (.th a b) = b.bare := by simp [PT.bare, ha]
      rw [e] at q
      exact q _
  | or a b =>
    refine ⟨.str "or", rfl, by decide +kernel, by decide +kernel, ?_⟩
    rw [show eqD (.str "or") (.str "then") = false by decide +kernel]
    refine ⟨.str "or", rfl, by decide +kernel, by decide +kernel, ?_⟩
    rw [show eqD (.str "or") (.str "or") = true by decide +kernel]
    obtain ⟨m, rfl⟩ : ∃ m, k = m + 1 := ⟨k - 1, by simp only [PT.dep] at hk; omega⟩
    refine ⟨a.d, rfl, List.nodup_nil, a, rfl, by simp only [PT.dep] at hk; omega, fun s => ?_⟩
    dsimp only
    rw [wb_no (rs := [.val a.d]) [s] rfl]
    cases ha : a.bare with
    | true =>
      have e : PT.bare (.or a b) = true := by simp [PT.bare, ha]
      rw [e] at q
      exact q _
    | false =>
      refine ⟨b.d, rfl, List.nodup_nil, b, rfl, by simp only [PT.dep] at hk; omega, fun s => ?_⟩
      dsimp only
      rw [wb_no (rs := [.val b.d]) [s] rfl]
      have e : PT.bare (.or a b) = b.bare := by simp [PT.bare, ha]
      rw [e] at q
      exact q _
  | ag a =>
    refine ⟨.str "again", rfl, by decide +kernel, by decide +kernel, ?_⟩
    rw [show eqD (.str "again") (.str "then") = false by decide +kernel]
    refine ⟨.str "again", rfl, by decide +kernel, by decide +kernel, ?_⟩
    rw [show eqD (.str "again") (.str "or") = false by decide +kernel]
    refine ⟨.str "again", rfl, by decide +kernel, by decide +kernel, ?_⟩
    rw [show eqD (.str "again") (.str "more") = false by decide +kernel]
    refine ⟨.str "again", rfl, by decide +kernel, by decide +kernel, ?_⟩
    rw [show eqD (.str "again") (.str "signs") = false by decide +kernel]
    exact q _
  | mo a =>
    refine ⟨.str "more", rfl, by decide +kernel, by decide +kernel, ?_⟩
    rw [show eqD (.str "more") (.str "then") = false by decide +kernel]
    refine ⟨.str "more", rfl, by decide +kernel, by decide +kernel, ?_⟩
    rw [show eqD (.str "more") (.str "or") = false by decide +kernel]
    refine ⟨.str "more", rfl, by decide +kernel, by decide +kernel, ?_⟩
    rw [show eqD (.str "more") (.str "more") = true by decide +kernel]
    obtain ⟨m, rfl⟩ : ∃ m, k = m + 1 := ⟨k - 1, by simp only [PT.dep] at hk; omega⟩
    refine ⟨a.d, rfl, List.nodup_nil, a, rfl, by simp only [PT.dep] at hk; omega, fun s => ?_⟩
    dsimp only
    rw [wb_no (rs := [.val a.d]) [s] rfl]
    exact q _
  | mb a =>
    refine ⟨.str "maybe", rfl, by decide +kernel, by decide +kernel, ?_⟩
    rw [show eqD (.str "maybe") (.str "then") = false by decide +kernel]
    refine ⟨.str "maybe", rfl, by decide +kernel, by decide +kernel, ?_⟩
    rw [show eqD (.str "maybe") (.str "or") = false by decide +kernel]
    refine ⟨.str "maybe", rfl, by decide +kernel, by decide +kernel, ?_⟩
    rw [show eqD (.str "maybe") (.str "more") = false by decide +kernel]
    refine ⟨.str "maybe", rfl, by decide +kernel, by decide +kernel, ?_⟩
    rw [show eqD (.str "maybe") (.str "signs") = false by decide +kernel]
    exact q _
theorem ok__law_bare (T : Tx K w mg) : ∀ k, FnOk P w K mg base CX0 (k + 2) T.a__law_bare T.f__law_bare ["pattern"] (PSp K 1 (uBare k))
  | 0 => st__law_bare T 0 no_pure
  | k + 1 => st__law_bare T (k + 1) (ok__law_bare T k)
end
end K10
set_option maxRecDepth 100000
set_option maxHeartbeats 1000000
namespace K10
open PySem PySem.Spec PyProof.Rows L2 Yard YP
/-! ### grammars as they are handed in -/
def PT.tk : PT → Prop
  | .sg s => Tk s | .em => True | .th a b => a.tk ∧ b.tk | .or a b => a.tk ∧ b.tk | .ag a => a.tk | .mo a => a.tk | .mb a => a.tk
theorem okW (w : Str) (h : PyData.strOk w = true := by decide +kernel) : OkN 0 (.str w) := okN_str h
theorem okN_1 {w : D} {a : D} {n : Nat} (hw : OkN 0 w) (ha : OkN n a) : OkN (n + 1) (.tup [w, a]) := okN_tup fun d hd => by
  simp only [List.mem_cons, List.not_mem_nil, or_false] at hd
  rcases hd with rfl | rfl
  · exact hw.mono (Nat.zero_le _)
  · exact ha
theorem okN_2 {w : D} {a b : D} {n m : Nat} (hw : OkN 0 w) (ha : OkN n a) (hb : OkN m b) : OkN (max n m + 1) (.tup [w, a, b]) := okN_tup fun d hd => by
  simp only [List.mem_cons, List.not_mem_nil, or_false] at hd
  rcases hd with rfl | rfl | rfl
  · exact hw.mono (Nat.zero_le _)
  · exact ha.mono (Nat.le_max_left _ _)
  · exact hb.mono (Nat.le_max_right _ _)
theorem PT.okN : ∀ p : PT, p.tk → OkN (p.dep + 1) p.d
  | .sg s, h => okN_1 (okW "signs") (okTk h)
  | .em, _ => okN_tup fun d hd => by
    simp only [List.mem_cons, List.not_mem_nil, or_false] at hd
    rw [hd]; exact okW "empty"
  | .th a b, h => (okN_2 (okW "then") (a.okN h.1) (b.okN h.2)).mono (by simp only [PT.dep]; omega)
  | .or a b, h => (okN_2 (okW "or") (a.okN h.1) (b.okN h.2)).mono (by simp only [PT.dep]; omega)
  | .ag a, h => okN_1 (okW "again") (a.okN h)
  | .mo a, h => okN_1 (okW "more") (a.okN h)
  | .mb a, h => okN_1 (okW "maybe") (a.okN h)
structure KD where
  name : Str
  pat : PT
  skip : Bool
structure AL where
  label : Str
  row : List Str
structure RU where
  head : Str
  alts : List AL
structure BA where
  one : Str
  place : Int
  other : Str
def KD.d (k : KD) : D := .tup [.str k.name, k.pat.d, .bl k.skip]
def AL.d (a : AL) : D := .tup [.str a.label, .tup (a.row.map D.str)]
def RU.d (r : RU) : D := .tup [.str r.head, .lst (r.alts.map AL.d)]
def BA.d (b : BA) : D := .tup [.str b.one, .int b.place, .str b.other]
def ksD (ks : List KD) : D := .lst (ks.map KD.d)
def rsD (rs : List RU) : D := .lst (rs.map RU.d)
def bsD (bs : List BA) : D := .tup (bs.map BA.d)
structure KOk (k : KD) : Prop where
  tk : Tk k.name
  dp : k.pat.dep ≤ 20
  pk : k.pat.tk
structure AOk (a : AL) : Prop where
  tk : Tk a.label
  row : ∀ s ∈ a.row, Tk s
  few : a.row.length ≤ 1000
structure ROk (r : RU) : Prop where
  tk : Tk r.head
  al : ∀ a ∈ r.alts, AOk a
  few : r.alts.length ≤ 1000
structure KsOk (ks : List KD) : Prop where
  ok : ∀ k ∈ ks, KOk k
  few : ks.length ≤ 100000
structure RsOk (rs : List RU) : Prop where
  ok : ∀ r ∈ rs, ROk r
  few : rs.length ≤ 100000
  tot : (rs.map fun r => r.alts.length).sum ≤ 1000000
structure BOk (b : BA) : Prop where
  t1 : Tk b.one
  t2 : Tk b.other
  lo : -100 ≤ b.place
  hi : b.place ≤ 100
structure BsOk (bs : List BA) : Prop where
  ok : ∀ b ∈ bs, BOk b
  few : bs.length ≤ 100000
/-! ### the first fault -/
def sgs (ks : List KD) : Nat := (ks.map fun k => k.pat.cnt).sum
def als (rs : List RU) : Nat := (rs.map fun r => r.alts.length).sum
def many (ks : List KD) (rs : List RU) (bs : List BA) : Bool := !decide (1 ≤ ks.length ∧ ks.length ≤ 14) || (!decide (1 ≤ rs.length ∧ rs.length ≤ 40) || (decide (30 < bs.length) || (decide (40 < sgs ks) || decide (100 < als rs))))
def newF (name : Str) (taken : List Str) : Option (Str × Str) := if gn name = false then some ("name", name) else if name ∈ taken then some ("twice", name) else none
def kinF : List Str → List KD → Option (Str × Str)
  | _, [] => none
  | met, k :: ks => match newF k.name met with
    | some f => some f
    | none => if k.pat.bare = true then some ("empty", k.name) else kinF (met ++ [k.name]) ks
def fld (w : Str) (x : D) : List (Str × D) := [("name", x), ("what", .str w)]
theorem drop_at {α : Type} {ds : List α} {i : Nat} {d : α} (h : ds[i]? = some d) : ds.drop i = d :: ds.drop (i + 1) := by
  have hi := (List.getElem?_eq_some_iff.mp h).1
  have e := (List.getElem?_eq_some_iff.mp h).2
  rw [List.drop_eq_getElem_cons hi, e]
theorem cast_sum {α : Type} (f : α → Nat) : ∀ l : List α, (l.map fun x => ((f x : Nat) : Int)).sum = (((l.map f).sum : Nat) : Int)
  | [] => rfl
  | a :: l => by simp only [List.map_cons, List.sum_cons, cast_sum f l, Int.natCast_add]
section
variable {P : Program} {w : World} {K : PySem.W.Frag} {mg : Str → Option Value} {base : Heap}
def uFew (C : Addr) : UFX := fun ρ R RX => ∃ ks rs bs, ρ = [dat (ksD ks), dat (rsD rs), dat (bsD bs)] ∧ KsOk ks ∧ RsOk rs ∧ BsOk bs ∧ (many ks rs bs = false → ∀ s0 s1 s2, R (.val .non) [s0, s1, s2]) ∧ (many ks rs bs = true → ∀ ss, RX C (fld "many" .non) ss)
def uNew (C : Addr) : UFX := fun ρ R RX => ∃ (x : Str) (tk : List Str), ρ = [dat (.str x), own (.lst (tk.map D.str))] ∧ Tk x ∧ (∀ t ∈ tk, Tk t) ∧ (newF x tk = none → ∀ s0, R (.val .non) [s0, own (.lst (tk.map D.str))]) ∧ (∀ f, newF x tk = some f → ∀ ss, RX C (fld f.1 (.str f.2)) ss)
def uKin (C : Addr) : UFX := fun ρ R RX => ∃ ks, ρ = [dat (ksD ks)] ∧ KsOk ks ∧ (kinF [] ks = none → ∀ s0, R (.val .non) [s0]) ∧ (∀ f, kinF [] ks = some f → ∀ ss, RX C (fld f.1 (.str f.2)) ss)
theorem sc_need_few : FnScope ["kinds", "rules", "bars", "signs", "alternatives", "_", "pattern"] ["kinds", "rules", "bars"] (defScope s_need_few) := ⟨rfl, rfl, rfl, by decide +kernel, rfl, by decide +kernel, by decide +kernel⟩
theorem ok_need_few (T : Tx K w mg) : FnOk P w K mg base (L2.CX P w) 23 T.a_need_few T.f_need_few ["kinds", "rules", "bars"] (PSpX K 3 (uFew T.c_NoGrammar)) := by
  refine fn_mkx T.d_need_few.fn sc_need_few (by decide) fun cdv A outer s H E hr => ?_
  refine ⟨_, (fbx_cons (fsx_if (FW.ft (fw_or (ft_not (ft_chain os_le os_le fe_int (fe_b cb_len (by rfl) T.z_len (by decide +kernel) (fr_ref (fv 0) fr_nil)) (fe_glob (v := .int 14) (d := .int 14) (by rfl) T.g_MOST_KINDS ⟨_, rfl⟩ (fun _ => .int _)))) (fw_or (ft_not (ft_chain os_le os_le fe_int (fe_b cb_len (by rfl) T.z_len (by decide +kernel) (fr_ref (fv 1) fr_nil)) (fe_glob (v := .int 40) (d := .int 40) (by rfl) T.g_MOST_RULES ⟨_, rfl⟩ (fun _ => .int _)))) (fw_or1 (ft_cmp os_gt (fe_b cb_len (by rfl) T.z_len (by decide +kernel) (fr_ref (fv 2) fr_nil)) (fe_glob (v := .int 30) (d := .int 30) (by rfl) T.g_MOST_BARS ⟨_, rfl⟩ (fun _ => .int _)))))))
      (fbx_one (fsx_raise rfl T.x_NoGrammar.ox T.k_NoGrammar___init__ T.t_NoGrammar___init__ (ok_NoGrammar___init__ T) (hr.mono (by omega)) T.b_NoGrammar___init__ pass0 (by rfl) T.g_NoGrammar (fa_cons fe_str (fa_cons fe_non fa_nil))))
      fbx_nil)
      (fbx_cons (fx (fs_set (ps_set (i := 3) sc_need_few.nd rfl (.inl rfl) pe_S) (fe_b (cb_sum rfl) (by rfl) T.z_sum (by decide +kernel) (fr_ref (fe_lc rfl sc_need_few.nd (fi_list (fv 0)) (blkOk_by (own := [("_", 5), ("pattern", 6)]) (N := ["kinds", "rules", "bars", "signs", "alternatives", "_", "pattern"]) (sc := defScope s_need_few) (by decide +kernel)) (fun _ _ _ _ _ => (fg_tup (n := 3) rfl (fgs_cons (fg_name (pg_name (i := 5) sc_need_few.nd rfl (.inl rfl)) (by intro l e; cases e; decide +kernel)) (fgs_cons (fg_name (pg_name (i := 6) sc_need_few.nd rfl (.inl rfl)) (by intro l e; cases e; decide +kernel)) (fgs_cons (fg_name (pg_name (i := 5) sc_need_few.nd rfl (.inl rfl)) (by intro l e; cases e; decide +kernel)) fgs_nil))))) (fun _ _ _ _ _ => fts_nil) (fun _ _ _ _ _ => (fe_call (pure_any (N := 20) fun n hn => (ok_how_many_signs T n).mono (Nat.add_le_add_right hn 2)) (hr.mono (by omega)) (by rfl) T.d_how_many_signs.at_ T.d_how_many_signs.kp T.d_how_many_signs.bd (fr_val (fv 6) fr_nil)))) fr_nil))))
      (fbx_cons (fx (fs_set (ps_set (i := 4) sc_need_few.nd rfl (.inl rfl) pe_S) (fe_b (cb_sum rfl) (by rfl) T.z_sum (by decide +kernel) (fr_ref (fe_lc rfl sc_need_few.nd (fi_list (fv 1)) (blkOk_by (own := [("_", 5), ("alternatives", 4)]) (N := ["kinds", "rules", "bars", "signs", "alternatives", "_", "pattern"]) (sc := defScope s_need_few) (by decide +kernel)) (fun _ _ _ _ _ => (fg_tup (n := 2) rfl (fgs_cons (fg_name (pg_name (i := 5) sc_need_few.nd rfl (.inl rfl)) (by intro l e; cases e; decide +kernel)) (fgs_cons (fg_name (pg_name (i := 4) sc_need_few.nd rfl (.inl rfl)) (by intro l e; cases e; decide +kernel)) fgs_nil)))) (fun _ _ _ _ _ => fts_nil) (fun _ _ _ _ _ => (fe_b cb_len (by rfl) T.z_len (by decide +kernel) (fr_ref (fv 4) fr_nil)))) fr_nil))))
      (fbx_one (fsx_if (FW.ft (fw_or (ft_cmp os_gt (fv 3) (fe_glob (v := .int 40) (d := .int 40) (by rfl) T.g_MOST_SIGNS ⟨_, rfl⟩ (fun _ => .int _))) (fw_or1 (ft_cmp os_gt (fv 4) (fe_glob (v := .int 100) (d := .int 100) (by rfl) T.g_MOST_ALTERNATIVES ⟨_, rfl⟩ (fun _ => .int _))))))
      (fbx_one (fsx_raise rfl T.x_NoGrammar.ox T.k_NoGrammar___init__ T.t_NoGrammar___init__ (ok_NoGrammar___init__ T) (hr.mono (by omega)) T.b_NoGrammar___init__ pass0 (by rfl) T.g_NoGrammar (fa_cons fe_str (fa_cons fe_non fa_nil))))
      fbx_nil))))), fun ρ R RX hl h => ?_⟩
  -- slots: 0 kinds, 1 rules, 2 bars, 3 signs, 4 alternatives, 5 _, 6 pattern
  obtain ⟨ks, rs, bs, rfl, hk, hr', hb, q, qx⟩ := h
  have sz := sz2
  have lk := hk.few
  have lr := hr'.few
  have lb := hb.few
  have out : many ks rs bs = true → (2 : Nat) = 2 ∧ 2 ≤ 1000 ∧ ∀ ss, RX T.c_NoGrammar (fld "many" .non) ss := fun e => ⟨rfl, (by show 2 ≤ 1000; decide), qx e⟩
  show (if decide ((1 : Int) ≤ (((ks.map KD.d).length : Nat) : Int)) = true then _ else _)
  rw [List.length_map]
  by_cases h0 : (1 : Int) ≤ ((ks.length : Nat) : Int)
  case neg =>
    rw [decide_eq_false h0]
    exact ⟨rfl, (by show 2 ≤ 1000; decide), qx (by unfold many; rw [decide_eq_false (by omega : ¬ (1 ≤ ks.length ∧ ks.length ≤ 14))]; rfl) _⟩
  rw [decide_eq_true h0]
  show (if (!decide (((ks.length : Nat) : Int) ≤ 14)) = true then _ else _)
  by_cases h1 : ((ks.length : Nat) : Int) ≤ 14
  case neg =>
    rw [decide_eq_false h1]
    exact ⟨rfl, (by show 2 ≤ 1000; decide), qx (by unfold many; rw [decide_eq_false (by omega : ¬ (1 ≤ ks.length ∧ ks.length ≤ 14))]; rfl) _⟩
  rw [decide_eq_true h1]
  have k1 : (!decide (1 ≤ ks.length ∧ ks.length ≤ 14)) = false := by rw [decide_eq_true (by omega : 1 ≤ ks.length ∧ ks.length ≤ 14)]; rfl
  show (if decide ((1 : Int) ≤ (((rs.map RU.d).length : Nat) : Int)) = true then _ else _)
  rw [List.length_map]
  by_cases h2 : (1 : Int) ≤ ((rs.length : Nat) : Int)
  case neg =>
    rw [decide_eq_false h2]
    exact ⟨rfl, (by show 2 ≤ 1000; decide), qx (by unfold many; rw [k1, decide_eq_false (by omega : ¬ (1 ≤ rs.length ∧ rs.length ≤ 40))]; rfl) _⟩
  rw [decide_eq_true h2]
  show (if (!decide (((rs.length : Nat) : Int) ≤ 40)) = true then _ else _)
  by_cases h3 : ((rs.length : Nat) : Int) ≤ 40
  case neg =>
    rw [decide_eq_false h3]
    exact ⟨rfl, (by show 2 ≤ 1000; decide), qx (by unfold many; rw [k1, decide_eq_false (by omega : ¬ (1 ≤ rs.length ∧ rs.length ≤ 40))]; rfl) _⟩
  rw [decide_eq_true h3]
  have k2 : (!decide (1 ≤ rs.length ∧ rs.length ≤ 40)) = false := by rw [decide_eq_true (by omega : 1 ≤ rs.length ∧ rs.length ≤ 40)]; rfl
  show (if decide ((30 : Int) < (((bs.map BA.d).length : Nat) : Int)) = true then _ else _)
  rw [List.length_map]
  by_cases h4 : (30 : Int) < ((bs.length : Nat) : Int)
  · rw [decide_eq_true h4]
    exact ⟨rfl, (by show 2 ≤ 1000; decide), qx (by unfold many; rw [k1, k2, decide_eq_true (by omega : 30 < bs.length)]; rfl) _⟩
  rw [decide_eq_false h4]
  have k3 : decide (30 < bs.length) = false := decide_eq_false (by omega)
  refine ⟨fun i acc ρ => acc = (ks.take i).map (fun k => D.int (k.pat.cnt : Nat)) ∧ ρ = [.sl false true (ksD ks), .sl false true (rsD rs), .sl false true (bsD bs), .un, .un, .un, .un], ⟨rfl, rfl⟩, ?_, ?_, ?_⟩
  · rintro i y acc ρ hi ⟨rfl, rfl⟩
    rw [List.getElem?_map] at hi
    obtain ⟨k, hi2, rfl⟩ := Option.map_eq_some_iff.mp hi
    have hil : i < ks.length := (List.getElem?_eq_some_iff.mp hi2).1
    have kk := hk.ok k (List.mem_of_getElem? hi2)
    refine ⟨rfl, List.nodup_nil, 20, Nat.le_refl _, k.pat, rfl, kk.dp, fun s => ?_⟩
    refine ⟨by rw [List.length_map, List.length_take]; omega, ?_, rfl⟩
    rw [List.take_succ, hi2, List.map_append]; rfl
  · rintro i acc ρ ⟨_, rfl⟩
    exact ⟨_, (rfl : _ = YP.wipeS [.sl false true (ksD ks), .sl false true (rsD rs), .sl false true (bsD bs), .un, .un, .un, .un] [5, 6])⟩
  rintro acc ρ ⟨rfl, rfl⟩
  rw [List.length_map, List.take_length]
  refine ⟨ks.map fun k => ((k.pat.cnt : Nat) : Int), by rw [List.map_map]; rfl, ?_⟩
  have es : (ks.map fun k => ((k.pat.cnt : Nat) : Int)).sum = ((sgs ks : Nat) : Int) := cast_sum (fun k : KD => k.pat.cnt) ks
  rw [es]
  refine ⟨fun i acc ρ => acc = (rs.take i).map (fun r => D.int (r.alts.length : Nat)) ∧ ρ = [.sl false true (ksD ks), .sl false true (rsD rs), .sl false true (bsD bs), dat (.int (sgs ks : Nat)), .un, .un, .un], ⟨rfl, rfl⟩, ?_, ?_, ?_⟩
  · rintro i y acc ρ hi ⟨rfl, rfl⟩
    rw [List.getElem?_map] at hi
    obtain ⟨r, hi2, rfl⟩ := Option.map_eq_some_iff.mp hi
    have hil : i < rs.length := (List.getElem?_eq_some_iff.mp hi2).1
    refine ⟨rfl, by rw [List.length_map, List.length_take]; omega, ?_, rfl⟩
    rw [List.take_succ, hi2, List.map_append]
    show _ = _ ++ [D.int ((r.alts.length : Nat) : Int)]
    rw [List.length_map]
  · rintro i acc ρ ⟨_, rfl⟩
    exact ⟨_, (rfl : _ = YP.wipeS [.sl false true (ksD ks), .sl false true (rsD rs), .sl false true (bsD bs), dat (.int (sgs ks : Nat)), .un, .un, .un] [5, 4])⟩
  rintro acc ρ ⟨rfl, rfl⟩
  rw [List.length_map, List.take_length]
  refine ⟨rs.map fun r => ((r.alts.length : Nat) : Int), by rw [List.map_map]; rfl, ?_⟩
  have et : (rs.map fun r => ((r.alts.length : Nat) : Int)).sum = ((als rs : Nat) : Int) := cast_sum (fun r : RU => r.alts.length) rs
  rw [et]
  show (if decide ((40 : Int) < ((sgs ks : Nat) : Int)) = true then _ else _)
  by_cases h5 : (40 : Int) < ((sgs ks : Nat) : Int)
  · rw [decide_eq_true h5]
    exact ⟨rfl, (by show 2 ≤ 1000; decide), qx (by unfold many; rw [k1, k2, k3, decide_eq_true (by omega : 40 < sgs ks)]; rfl) _⟩
  rw [decide_eq_false h5]
  have k4 : decide (40 < sgs ks) = false := decide_eq_false (by omega)
  show (if decide ((100 : Int) < ((als rs : Nat) : Int)) = true then _ else _)
  by_cases h6 : (100 : Int) < ((als rs : Nat) : Int)
  · rw [decide_eq_true h6]
    exact ⟨rfl, (by show 2 ≤ 1000; decide), qx (by unfold many; rw [k1, k2, k3, k4, decide_eq_true (by omega : 100 < als rs)]; rfl) _⟩
  rw [decide_eq_false h6]
  exact q (by unfold many; rw [k1, k2, k3, k4, decide_eq_false (by omega : ¬ 100 < als rs)]; rfl) _ _ _
theorem sc_need_new_name : FnScope ["name", "taken"] ["name", "taken"] (defScope s_need_new_name) := ⟨rfl, rfl, rfl, by decide +kernel, rfl, by decide +kernel, by decide +kernel⟩
theorem ok_need_new_name (T : Tx K w mg) : FnOk P w K mg base (L2.CX P w) 3 T.a_need_new_name T.f_need_new_name ["name", "taken"] (PSpX K 2 (uNew T.c_NoGrammar)) := by
  refine fn_mkx T.d_need_new_name.fn sc_need_new_name (by decide) fun cdv A outer s H E hr => ?_
  refine ⟨_, (fbx_cons (fsx_if (ft_not (ft_tru (fe_call (ok_is_name T) (hr.mono (by omega)) (by rfl) T.d_is_name.at_ T.d_is_name.kp T.d_is_name.bd (fr_val (fv 0) fr_nil))))
      (fbx_one (fsx_raise rfl T.x_NoGrammar.ox T.k_NoGrammar___init__ T.t_NoGrammar___init__ (ok_NoGrammar___init__ T) (hr.mono (by omega)) T.b_NoGrammar___init__ pass0 (by rfl) T.g_NoGrammar (fa_cons fe_str (fa_cons (fv 0) fa_nil))))
      fbx_nil)
      (fbx_one (fsx_if (ft_cmp (os_in (rv hr)) (fv 0) (fv 1))
      (fbx_one (fsx_raise rfl T.x_NoGrammar.ox T.k_NoGrammar___init__ T.t_NoGrammar___init__ (ok_NoGrammar___init__ T) (hr.mono (by omega)) T.b_NoGrammar___init__ pass0 (by rfl) T.g_NoGrammar (fa_cons fe_str (fa_cons (fv 0) fa_nil))))
      fbx_nil))), fun ρ R RX hl h => ?_⟩
  -- slots: 0 name, 1 taken
  obtain ⟨x, tk, rfl, hx, ht, q, qx⟩ := h
  have sz := sz2
  refine ⟨List.nodup_nil, x, rfl, hx, fun s => ?_⟩
  dsimp only
  show (if (!gn x) = true then _ else _)
  cases hg : gn x with
  | false => exact ⟨rfl, (by show 2 ≤ 1000; decide), qx ("name", x) (by unfold newF; rw [if_pos hg]) _⟩
  | true =>
    refine ⟨(okTk hx).ok, (okN_lst fun d hd => by
      obtain ⟨t, h1, rfl⟩ := List.mem_map.mp hd
      exact okTk (ht t h1)).ok, ?_⟩
    rw [any_strs]
    have ng : ¬ gn x = false := by rw [hg]; decide
    by_cases hm : x ∈ tk
    · rw [decide_eq_true hm]
      exact ⟨rfl, (by show 2 ≤ 1000; decide), qx ("twice", x) (by unfold newF; rw [if_neg ng, if_pos hm]) _⟩
    · rw [decide_eq_false hm]
      exact q (by unfold newF; rw [if_neg ng, if_neg hm]) _
theorem sc_need_kinds : FnScope ["kinds", "taken", "name", "pattern", "_"] ["kinds"] (defScope s_need_kinds) := ⟨rfl, rfl, rfl, by decide +kernel, rfl, by decide +kernel, by decide +kernel⟩
theorem ok_need_kinds (T : Tx K w mg) : FnOk P w K mg base (L2.CX P w) 23 T.a_need_kinds T.f_need_kinds ["kinds"] (PSpX K 1 (uKin T.c_NoGrammar)) := by
  refine fn_mkx T.d_need_kinds.fn sc_need_kinds (by decide) fun cdv A outer s H E hr => ?_
  refine ⟨_, (fbx_cons (fx (fs_set (ps_set (i := 1) sc_need_kinds.nd rfl (.inl rfl) pe_S) (fe_lst fa_nil)))
      (fbx_one (fsx_for (passes_of rfl) rfl (fi_list (fv 0)) (fg_tup (n := 3) rfl (fgs_cons (fg_name (pg_name (i := 2) sc_need_kinds.nd rfl (.inl rfl))) (fgs_cons (fg_name (pg_name (i := 3) sc_need_kinds.nd rfl (.inl rfl))) (fgs_cons (fg_name (pg_name (i := 4) sc_need_kinds.nd rfl (.inl rfl))) fgs_nil))))
      (fbx_cons (fsx_expr (fex_call (ok_need_new_name T) (hr.mono (by omega)) (by rfl) T.d_need_new_name.at_ T.d_need_new_name.kp T.d_need_new_name.bd (fr_val (fv 2) (fr_ref (fv 1) fr_nil))))
      (fbx_cons (fsx_if (ft_tru (fe_call (pure_any (N := 20) fun n hn => (ok_spells_none T n).mono (Nat.add_le_add_right hn 2)) (hr.mono (by omega)) (by rfl) T.d_spells_none.at_ T.d_spells_none.kp T.d_spells_none.bd (fr_val (fv 3) fr_nil)))
      (fbx_one (fsx_raise rfl T.x_NoGrammar.ox T.k_NoGrammar___init__ T.t_NoGrammar___init__ (ok_NoGrammar___init__ T) (hr.mono (by omega)) T.b_NoGrammar___init__ pass0 (by rfl) T.g_NoGrammar (fa_cons fe_str (fa_cons (fv 2) fa_nil))))
      fbx_nil)
      (fbx (fb_one (fs_expr (fe_mu mu_append PySem.F.slot_list_append PySem.F.type_list_append (fv 1) (fa_cons (fv 2) fa_nil)))))))))), fun ρ R RX hl h => ?_⟩
  -- slots: 0 kinds, 1 taken, 2 name, 3 pattern, 4 _
  obtain ⟨ks, rfl, hk, q, qx⟩ := h
  have sz := sz2
  have lk := hk.few
  refine ⟨Nat.zero_le _, ?_⟩
  refine ⟨fun i ρ => ∃ (s2 s3 s4 : Sl), kinF [] ks = kinF ((ks.take i).map KD.name) (ks.drop i) ∧ ρ = [.sl false true (ksD ks), own (.lst (((ks.take i).map KD.name).map D.str)), s2, s3, s4], ⟨.un, .un, .un, rfl, rfl⟩, ?_, ?_⟩
  · rintro i y ρ hi ⟨s2, s3, s4, hw, rfl⟩
    rw [List.getElem?_map] at hi
    obtain ⟨k, hi2, rfl⟩ := Option.map_eq_some_iff.mp hi
    have hil : i < ks.length := (List.getElem?_eq_some_iff.mp hi2).1
    have kk := hk.ok k (List.mem_of_getElem? hi2)
    have e1 : ks.take (i + 1) = ks.take i ++ [k] := by rw [List.take_succ, hi2]; rfl
    rw [drop_at hi2] at hw
    have tks : ∀ t ∈ (ks.take i).map KD.name, Tk t := fun t ht => by
      obtain ⟨z, hz, rfl⟩ := List.mem_map.mp ht
      exact (hk.ok z (List.mem_of_mem_take hz)).tk
    refine ⟨rfl, nd1 _, k.name, (ks.take i).map KD.name, rfl, kk.tk, tks, fun e s0 => ?_, fun f e ss => ?_⟩
    · refine ⟨List.nodup_nil, 20, Nat.le_refl _, k.pat, rfl, kk.dp, fun s => ?_⟩
      dsimp only
      rw [wb_no (rs := [.val k.pat.d]) [s] rfl]
      show (if k.pat.bare = true then _ else _)
      cases hb : k.pat.bare with
      | true =>
        refine ⟨rfl, (by show 2 ≤ 1000; decide), qx ("empty", k.name) ?_ _⟩
        rw [hw]; unfold kinF; rw [e]; exact if_pos hb
      | false =>
        refine ⟨by rw [List.length_map, List.length_map, List.length_take]; omega, dat (.str k.name), dat k.pat.d, dat (.bl k.skip), ?_, ?_⟩
        · rw [hw, e1, List.map_append]; conv => lhs; unfold kinF
          rw [e]; exact if_neg (by rw [hb]; decide)
        · rw [e1, List.map_append, List.map_append]; rfl
    · refine qx f ?_ _
      rw [hw]; unfold kinF; rw [e]
  · rintro ρ ⟨s2, s3, s4, hw, rfl⟩
    refine q ?_ _
    rw [hw, List.length_map, List.drop_length]; rfl
end
end K10
set_option maxRecDepth 100000
set_option maxHeartbeats 1000000
namespace K10
open PySem PySem.Spec PyProof.Rows L2 Yard YP
def altF : List Str → List AL → Option (Str × Str)
  | _, [] => none
  | ls, a :: as => if gn a.label = false then some ("label", a.label) else if a.label ∈ ls then some ("again", a.label) else if 6 < a.row.length then some ("long", a.label) else altF (ls ++ [a.label]) as
def labs (rs : List RU) : List Str := rs.flatMap fun r => r.alts.map AL.label
def rulF : List Str → List Str → List RU → Option (Str × Str)
  | _, _, [] => none
  | tk, ls, r :: rs => match newF r.head tk with
    | some f => some f
    | none => if r.alts.length = 0 then some ("bare", r.head) else match altF ls r.alts with
      | some f => some f
      | none => rulF (tk ++ [r.head]) (ls ++ r.alts.map AL.label) rs
theorem labs_snoc {rs : List RU} {i : Nat} {r : RU} (h : rs[i]? = some r) : labs (rs.take (i + 1)) = labs (rs.take i) ++ r.alts.map AL.label := by
  unfold labs
  rw [List.take_succ, h, List.flatMap_append]; simp
theorem labs_len {rs : List RU} (h : RsOk rs) (i : Nat) : (labs (rs.take i)).length ≤ 1000 * i := by
  induction i with
  | zero => exact Nat.le_of_eq rfl
  | succ i ih =>
    cases e : rs[i]? with
    | none =>
      rw [List.take_succ, e]; simp only [Option.toList, List.append_nil]; omega
    | some r =>
      rw [labs_snoc e, List.length_append, List.length_map]
      have := (h.ok r (List.mem_of_getElem? e)).few
      omega
section
variable {P : Program} {w : World} {K : PySem.W.Frag} {mg : Str → Option Value} {base : Heap}
def uRul (C : Addr) : UFX := fun ρ R RX => ∃ ks rs, ρ = [dat (ksD ks), dat (rsD rs)] ∧ KsOk ks ∧ RsOk rs ∧ ks.length ≤ 14 ∧ rs.length ≤ 40 ∧ (rulF (ks.map KD.name) [] rs = none → ∀ s0 s1, R (.val .non) [s0, s1]) ∧ (∀ f, rulF (ks.map KD.name) [] rs = some f → ∀ ss, RX C (fld f.1 (.str f.2)) ss)
theorem sc_need_rules : FnScope ["kinds", "rules", "taken", "labels", "name", "alternatives", "label", "row", "_"] ["kinds", "rules"] (defScope s_need_rules) := ⟨rfl, rfl, rfl, by decide +kernel, rfl, by decide +kernel, by decide +kernel⟩
theorem ok_need_rules (T : Tx K w mg) : FnOk P w K mg base (L2.CX P w) 4 T.a_need_rules T.f_need_rules ["kinds", "rules"] (PSpX K 2 (uRul T.c_NoGrammar)) := by
  refine fn_mkx T.d_need_rules.fn sc_need_rules (by decide) fun cdv A outer s H E hr => ?_
  refine ⟨_, (fbx_cons (fx (fs_setLc (i := 2) rfl sc_need_rules.nd rfl rfl (sw_true rfl rfl rfl (by decide +kernel)) (fi_list (fv 0)) (blkOk_by (own := [("name", 4), ("_", 8)]) (N := ["kinds", "rules", "taken", "labels", "name", "alternatives", "label", "row", "_"]) (sc := defScope s_need_rules) (by decide +kernel)) (fun _ _ _ _ _ => (fg_tup (n := 3) rfl (fgs_cons (fg_name (pg_name (i := 4) sc_need_rules.nd rfl (.inl rfl)) (by intro l e; cases e; decide +kernel)) (fgs_cons (fg_name (pg_name (i := 8) sc_need_rules.nd rfl (.inl rfl)) (by intro l e; cases e; decide +kernel)) (fgs_cons (fg_name (pg_name (i := 8) sc_need_rules.nd rfl (.inl rfl)) (by intro l e; cases e; decide +kernel)) fgs_nil))))) (fun _ _ _ _ _ => fts_nil) (fun _ _ _ _ _ => (fv 4))))
      (fbx_cons (fx (fs_set (ps_set (i := 3) sc_need_rules.nd rfl (.inl rfl) pe_S) (fe_lst fa_nil)))
      (fbx_one (fsx_for (passes_of rfl) rfl (fi_list (fv 1)) (fg_tup (n := 2) rfl (fgs_cons (fg_name (pg_name (i := 4) sc_need_rules.nd rfl (.inl rfl))) (fgs_cons (fg_name (pg_name (i := 5) sc_need_rules.nd rfl (.inl rfl))) fgs_nil)))
      (fbx_cons (fsx_expr (fex_call (ok_need_new_name T) (hr.mono (by omega)) (by rfl) T.d_need_new_name.at_ T.d_need_new_name.kp T.d_need_new_name.bd (fr_val (fv 4) (fr_ref (fv 2) fr_nil))))
      (fbx_cons (fx (fs_expr (fe_mu mu_append PySem.F.slot_list_append PySem.F.type_list_append (fv 2) (fa_cons (fv 4) fa_nil))))
      (fbx_cons (fsx_if (ft_cmp (os_eq (ru hr)) (fe_b cb_len (by rfl) T.z_len (by decide +kernel) (fr_ref (fv 5) fr_nil)) fe_int)
      (fbx_one (fsx_raise rfl T.x_NoGrammar.ox T.k_NoGrammar___init__ T.t_NoGrammar___init__ (ok_NoGrammar___init__ T) (hr.mono (by omega)) T.b_NoGrammar___init__ pass0 (by rfl) T.g_NoGrammar (fa_cons fe_str (fa_cons (fv 4) fa_nil))))
      fbx_nil)
      (fbx_one (fsx_for (passes_of rfl) rfl (fi_list (fv 5)) (fg_tup (n := 2) rfl (fgs_cons (fg_name (pg_name (i := 6) sc_need_rules.nd rfl (.inl rfl))) (fgs_cons (fg_name (pg_name (i := 7) sc_need_rules.nd rfl (.inl rfl))) fgs_nil)))
      (fbx_cons (fsx_if (ft_not (ft_tru (fe_call (ok_is_name T) (hr.mono (by omega)) (by rfl) T.d_is_name.at_ T.d_is_name.kp T.d_is_name.bd (fr_val (fv 6) fr_nil))))
      (fbx_one (fsx_raise rfl T.x_NoGrammar.ox T.k_NoGrammar___init__ T.t_NoGrammar___init__ (ok_NoGrammar___init__ T) (hr.mono (by omega)) T.b_NoGrammar___init__ pass0 (by rfl) T.g_NoGrammar (fa_cons fe_str (fa_cons (fv 6) fa_nil))))
      fbx_nil)
      (fbx_cons (fsx_if (ft_cmp (os_in (rv hr)) (fv 6) (fv 3))
      (fbx_one (fsx_raise rfl T.x_NoGrammar.ox T.k_NoGrammar___init__ T.t_NoGrammar___init__ (ok_NoGrammar___init__ T) (hr.mono (by omega)) T.b_NoGrammar___init__ pass0 (by rfl) T.g_NoGrammar (fa_cons fe_str (fa_cons (fv 6) fa_nil))))
      fbx_nil)
      (fbx_cons (fsx_if (ft_cmp os_gt (fe_b cb_len (by rfl) T.z_len (by decide +kernel) (fr_ref (fv 7) fr_nil)) (fe_glob (v := .int 6) (d := .int 6) (by rfl) T.g_MOST_SYMBOLS ⟨_, rfl⟩ (fun _ => .int _)))
      (fbx_one (fsx_raise rfl T.x_NoGrammar.ox T.k_NoGrammar___init__ T.t_NoGrammar___init__ (ok_NoGrammar___init__ T) (hr.mono (by omega)) T.b_NoGrammar___init__ pass0 (by rfl) T.g_NoGrammar (fa_cons fe_str (fa_cons (fv 6) fa_nil))))
      fbx_nil)
      (fbx (fb_one (fs_expr (fe_mu mu_append PySem.F.slot_list_append PySem.F.type_list_append (fv 3) (fa_cons (fv 6) fa_nil))))))))))))))))), fun ρ R RX hl h => ?_⟩
  -- slots: 0 kinds, 1 rules, 2 taken, 3 labels, 4 name, 5 alternatives, 6 label, 7 row, 8 _
  obtain ⟨ks, rs, rfl, hk, hr', nk, nr, q, qx⟩ := h
  have sz := sz2
  refine ⟨fun i acc ρ => acc = ((ks.take i).map KD.name).map D.str ∧ ρ = [.sl false true (ksD ks), .sl false true (rsD rs), .un, .un, .un, .un, .un, .un, .un], ⟨rfl, rfl⟩, ?_, ?_, ?_⟩
  · rintro i y acc ρ hi ⟨rfl, rfl⟩
    rw [List.getElem?_map] at hi
    obtain ⟨k, hi2, rfl⟩ := Option.map_eq_some_iff.mp hi
    have hil : i < ks.length := (List.getElem?_eq_some_iff.mp hi2).1
    refine ⟨rfl, ?_⟩
    refine ⟨by rw [List.length_map, List.length_map, List.length_take]; omega, ?_, rfl⟩
    rw [List.take_succ, hi2, List.map_append, List.map_append]; rfl
  · rintro i acc ρ ⟨_, rfl⟩
    exact ⟨_, (rfl : _ = YP.wipeS [.sl false true (ksD ks), .sl false true (rsD rs), .un, .un, .un, .un, .un, .un, .un] [4, 8])⟩
  rintro acc ρ ⟨rfl, rfl⟩
  rw [List.length_map, List.take_length]
  refine ⟨Nat.zero_le _, ?_⟩
  refine ⟨fun i ρ => ∃ (s4 s5 s6 s7 s8 : Sl), rulF (ks.map KD.name) [] rs = rulF (ks.map KD.name ++ (rs.take i).map RU.head) (labs (rs.take i)) (rs.drop i) ∧
    ρ = [.sl false true (ksD ks), .sl false true (rsD rs), own (.lst ((ks.map KD.name ++ (rs.take i).map RU.head).map D.str)), own (.lst ((labs (rs.take i)).map D.str)), s4, s5, s6, s7, s8], ⟨.un, .un, .un, .un, .un, by rw [List.take_zero, List.map_nil, List.append_nil]; rfl, by rw [List.take_zero, List.map_nil, List.append_nil]; rfl⟩, ?_, ?_⟩
  · rintro i y ρ hi ⟨s4, s5, s6, s7, s8, hw, rfl⟩
    rw [List.getElem?_map] at hi
    obtain ⟨r, hi2, rfl⟩ := Option.map_eq_some_iff.mp hi
    have hil : i < rs.length := (List.getElem?_eq_some_iff.mp hi2).1
    have rr := hr'.ok r (List.mem_of_getElem? hi2)
    have ll := labs_len hr' i
    have rf := rr.few
    rw [drop_at hi2] at hw
    have tks : ∀ t ∈ ks.map KD.name ++ (rs.take i).map RU.head, Tk t := fun t ht => by
      rcases List.mem_append.mp ht with ht | ht
      · obtain ⟨z, hz, rfl⟩ := List.mem_map.mp ht
        exact (hk.ok z hz).tk
      · obtain ⟨z, hz, rfl⟩ := List.mem_map.mp ht
        exact (hr'.ok z (List.mem_of_mem_take hz)).tk
    have tls : ∀ t ∈ labs (rs.take i), Tk t := fun t ht => by
      obtain ⟨z, hz, ht⟩ := List.mem_flatMap.mp ht
      obtain ⟨a, ha, rfl⟩ := List.mem_map.mp ht
      exact ((hr'.ok z (List.mem_of_mem_take hz)).al a ha).tk
    refine ⟨rfl, nd1 _, r.head, _, rfl, rr.tk, tks, fun e s0 => ?ok, fun f e ss => ?bad⟩
    case bad =>
      refine qx f ?_ _
      rw [hw]; unfold rulF; rw [e]
    refine ⟨by rw [List.length_map, List.length_append, List.length_map, List.length_map, List.length_take]; omega, ?_⟩
    refine ⟨rfl, rfl, ?_⟩
    rw [eqD_int, List.length_map]
    by_cases h0 : ((r.alts.length : Nat) : Int) = 0
    · rw [decide_eq_true h0]
      refine ⟨rfl, (by show 2 ≤ 1000; decide), qx ("bare", r.head) ?_ _⟩
      rw [hw]; unfold rulF; rw [e]; exact if_pos (by omega)
    rw [decide_eq_false h0]
    have hn : ¬ r.alts.length = 0 := by omega
    refine ⟨fun j ρ => ∃ (s6 s7 s8 : Sl), altF (labs (rs.take i)) r.alts = altF (labs (rs.take i) ++ (r.alts.take j).map AL.label) (r.alts.drop j) ∧
      ρ = [.sl false true (ksD ks), .sl false true (rsD rs), own (.lst ((ks.map KD.name ++ (rs.take i).map RU.head).map D.str ++ [.str r.head])), own (.lst ((labs (rs.take i) ++ (r.alts.take j).map AL.label).map D.str)), dat (.str r.head), dat (.lst (r.alts.map AL.d)), s6, s7, s8], ⟨s6, s7, s8, by rw [List.take_zero, List.map_nil, List.append_nil]; rfl, by rw [List.take_zero, List.map_nil, List.append_nil]; rfl⟩, ?_, ?_⟩
    · rintro j y ρ hj ⟨s6, s7, s8, ha, rfl⟩
      rw [List.getElem?_map] at hj
      obtain ⟨a, hj2, rfl⟩ := Option.map_eq_some_iff.mp hj
      have hjl : j < r.alts.length := (List.getElem?_eq_some_iff.mp hj2).1
      have aa := rr.al a (List.mem_of_getElem? hj2)
      have af := aa.few
      rw [drop_at hj2] at ha
      have bad : ∀ f, altF (labs (rs.take i) ++ (r.alts.take j).map AL.label) (a :: r.alts.drop (j + 1)) = some f → rulF (ks.map KD.name) [] rs = some f := fun f ef => by
        rw [hw]; unfold rulF; rw [e]; show (if r.alts.length = 0 then _ else _) = _
        rw [if_neg hn, ha, ef]
      refine ⟨rfl, List.nodup_nil, a.label, rfl, aa.tk, fun s => ?_⟩
      dsimp only
      rw [wb_no (rs := [.val (.str a.label)]) [s] rfl]
      show (if (!gn a.label) = true then _ else _)
      cases hg : gn a.label with
      | false => exact ⟨rfl, (by show 2 ≤ 1000; decide), qx ("label", a.label) (bad _ (by unfold altF; exact if_pos hg)) _⟩
      | true =>
        have ng : ¬ gn a.label = false := by rw [hg]; decide
        have tll : ∀ t ∈ labs (rs.take i) ++ (r.alts.take j).map AL.label, Tk t := fun t ht => by
          rcases List.mem_append.mp ht with ht | ht
          · exact tls t ht
          · obtain ⟨z, hz, rfl⟩ := List.mem_map.mp ht
            exact (rr.al z (List.mem_of_mem_take hz)).tk
        refine ⟨(okTk aa.tk).ok, (okN_lst fun d hd => by
          obtain ⟨t, h1, rfl⟩ := List.mem_map.mp hd
          exact okTk (tll t h1)).ok, ?_⟩
        rw [any_strs]
        by_cases hm : a.label ∈ labs (rs.take i) ++ (r.alts.take j).map AL.label
        · rw [decide_eq_true hm]
          exact ⟨rfl, (by show 2 ≤ 1000; decide), qx ("again", a.label) (bad _ (by unfold altF; rw [if_neg ng]; exact if_pos hm)) _⟩
        rw [decide_eq_false hm]
        show (if decide ((6 : Int) < (((a.row.map D.str).length : Nat) : Int)) = true then _ else _)
        rw [List.length_map]
        by_cases h6 : (6 : Int) < ((a.row.length : Nat) : Int)
        · rw [decide_eq_true h6]
          exact ⟨rfl, (by show 2 ≤ 1000; decide), qx ("long", a.label) (bad _ (by unfold altF; rw [if_neg ng, if_neg hm]; exact if_pos (by omega))) _⟩
        rw [decide_eq_false h6]
        refine ⟨by rw [List.length_map, List.length_append, List.length_map, List.length_take]; omega, dat (.str a.label), dat (.tup (a.row.map D.str)), s8, ?_, ?_⟩
        · rw [ha]; conv => lhs; unfold altF
          rw [if_neg ng, if_neg hm, if_neg (by omega : ¬ 6 < a.row.length), List.take_succ, hj2, List.map_append, ← List.append_assoc]; rfl
        · have eL : (labs (rs.take i) ++ (r.alts.take (j + 1)).map AL.label).map D.str = (labs (rs.take i) ++ (r.alts.take j).map AL.label).map D.str ++ [.str a.label] := by rw [List.take_succ, hj2]; simp
          rw [eL]; rfl
    · rintro ρ ⟨s6, s7, s8, ha, rfl⟩
      rw [List.length_map, List.drop_length, List.take_length] at ha
      rw [List.length_map, List.take_length]
      refine ⟨dat (.str r.head), dat (.lst (r.alts.map AL.d)), s6, s7, s8, ?_, ?_⟩
      · rw [hw]; conv => lhs; unfold rulF
        rw [e]; show (if r.alts.length = 0 then _ else _) = _
        rw [if_neg hn, ha]
        show rulF _ _ _ = _
        rw [labs_snoc hi2, List.take_succ, hi2, List.map_append, ← List.append_assoc]; rfl
      · have eH : (ks.map KD.name ++ (rs.take (i + 1)).map RU.head).map D.str = (ks.map KD.name ++ (rs.take i).map RU.head).map D.str ++ [.str r.head] := by rw [List.take_succ, hi2]; simp
        rw [labs_snoc hi2, eH]
  · rintro ρ ⟨s4, s5, s6, s7, s8, hw, rfl⟩
    refine q ?_ _ _
    rw [hw, List.length_map, List.drop_length]; rfl
end
end K10
set_option maxRecDepth 100000
set_option maxHeartbeats 1000000
namespace K10
open PySem PySem.Spec PyProof.Rows L2 Yard YP
def symF (known skipped : List Str) : List Str → Option (Str × Str)
  | [] => none
  | s :: ss => if s ∈ known then (if s ∈ skipped then some ("skipped", s) else symF known skipped ss) else some ("symbol", s)
def rows (as : List AL) : List Str := as.flatMap AL.row
def syms (rs : List RU) : List Str := rs.flatMap fun r => rows r.alts
def skp (ks : List KD) : List Str := (ks.filter KD.skip).map KD.name
def knw (ks : List KD) (rs : List RU) : List Str := ks.map KD.name ++ rs.map RU.head
theorem rows_at {as : List AL} {j : Nat} {a : AL} (h : as[j]? = some a) : rows (as.drop j) = a.row ++ rows (as.drop (j + 1)) := by
  rw [drop_at h]; rfl
theorem syms_at {rs : List RU} {j : Nat} {a : RU} (h : rs[j]? = some a) : syms (rs.drop j) = rows a.alts ++ syms (rs.drop (j + 1)) := by
  rw [drop_at h]; rfl
section
variable {P : Program} {w : World} {K : PySem.W.Frag} {mg : Str → Option Value} {base : Heap}
def uSym (C : Addr) : UFX := fun ρ R RX => ∃ ks rs, ρ = [dat (ksD ks), dat (rsD rs)] ∧ KsOk ks ∧ RsOk rs ∧ ks.length ≤ 14 ∧ rs.length ≤ 40 ∧ (symF (knw ks rs) (skp ks) (syms rs) = none → ∀ s0 s1, R (.val .non) [s0, s1]) ∧ (∀ f, symF (knw ks rs) (skp ks) (syms rs) = some f → ∀ ss, RX C (fld f.1 (.str f.2)) ss)
theorem sc_need_symbols : FnScope ["kinds", "rules", "skipped", "known", "_", "alternatives", "row", "symbol", "name", "skip"] ["kinds", "rules"] (defScope s_need_symbols) := ⟨rfl, rfl, rfl, by decide +kernel, rfl, by decide +kernel, by decide +kernel⟩
theorem ok_need_symbols (T : Tx K w mg) : FnOk P w K mg base (L2.CX P w) 3 T.a_need_symbols T.f_need_symbols ["kinds", "rules"] (PSpX K 2 (uSym T.c_NoGrammar)) := by
  refine fn_mkx T.d_need_symbols.fn sc_need_symbols (by decide) fun cdv A outer s H E hr => ?_
  refine ⟨_, (fbx_cons (fx (fs_setLc (i := 2) rfl sc_need_symbols.nd rfl rfl (sw_true rfl rfl rfl (by decide +kernel)) (fi_list (fv 0)) (blkOk_by (own := [("name", 8), ("_", 4), ("skip", 9)]) (N := ["kinds", "rules", "skipped", "known", "_", "alternatives", "row", "symbol", "name", "skip"]) (sc := defScope s_need_symbols) (by decide +kernel)) (fun _ _ _ _ _ => (fg_tup (n := 3) rfl (fgs_cons (fg_name (pg_name (i := 8) sc_need_symbols.nd rfl (.inl rfl)) (by intro l e; cases e; decide +kernel)) (fgs_cons (fg_name (pg_name (i := 4) sc_need_symbols.nd rfl (.inl rfl)) (by intro l e; cases e; decide +kernel)) (fgs_cons (fg_name (pg_name (i := 9) sc_need_symbols.nd rfl (.inl rfl)) (by intro l e; cases e; decide +kernel)) fgs_nil))))) (fun _ _ _ _ _ => (fts_one (ft_tru (fv 9)))) (fun _ _ _ _ _ => (fv 8))))
      (fbx_cons (fx (fs_set (ps_set (i := 3) sc_need_symbols.nd rfl (.inl rfl) pe_S) (fe_op os_add (fe_lc rfl sc_need_symbols.nd (fi_list (fv 0)) (blkOk_by (own := [("name", 8), ("_", 4)]) (N := ["kinds", "rules", "skipped", "known", "_", "alternatives", "row", "symbol", "name", "skip"]) (sc := defScope s_need_symbols) (by decide +kernel)) (fun _ _ _ _ _ => (fg_tup (n := 3) rfl (fgs_cons (fg_name (pg_name (i := 8) sc_need_symbols.nd rfl (.inl rfl)) (by intro l e; cases e; decide +kernel)) (fgs_cons (fg_name (pg_name (i := 4) sc_need_symbols.nd rfl (.inl rfl)) (by intro l e; cases e; decide +kernel)) (fgs_cons (fg_name (pg_name (i := 4) sc_need_symbols.nd rfl (.inl rfl)) (by intro l e; cases e; decide +kernel)) fgs_nil))))) (fun _ _ _ _ _ => fts_nil) (fun _ _ _ _ _ => (fv 8))) (fe_lc rfl sc_need_symbols.nd (fi_list (fv 1)) (blkOk_by (own := [("name", 8), ("_", 4)]) (N := ["kinds", "rules", "skipped", "known", "_", "alternatives", "row", "symbol", "name", "skip"]) (sc := defScope s_need_symbols) (by decide +kernel)) (fun _ _ _ _ _ => (fg_tup (n := 2) rfl (fgs_cons (fg_name (pg_name (i := 8) sc_need_symbols.nd rfl (.inl rfl)) (by intro l e; cases e; decide +kernel)) (fgs_cons (fg_name (pg_name (i := 4) sc_need_symbols.nd rfl (.inl rfl)) (by intro l e; cases e; decide +kernel)) fgs_nil)))) (fun _ _ _ _ _ => fts_nil) (fun _ _ _ _ _ => (fv 8))))))
      (fbx_one (fsx_for (passes_of rfl) rfl (fi_list (fv 1)) (fg_tup (n := 2) rfl (fgs_cons (fg_name (pg_name (i := 4) sc_need_symbols.nd rfl (.inl rfl))) (fgs_cons (fg_name (pg_name (i := 5) sc_need_symbols.nd rfl (.inl rfl))) fgs_nil)))
      (fbx_one (fsx_for (passes_of rfl) rfl (fi_list (fv 5)) (fg_tup (n := 2) rfl (fgs_cons (fg_name (pg_name (i := 4) sc_need_symbols.nd rfl (.inl rfl))) (fgs_cons (fg_name (pg_name (i := 6) sc_need_symbols.nd rfl (.inl rfl))) fgs_nil)))
      (fbx_one (fsx_for (passes_of rfl) rfl (fi_tup (fv 6)) (fg_name (pg_name (i := 7) sc_need_symbols.nd rfl (.inl rfl)))
      (fbx_cons (fsx_if (ft_cmp (os_notin (rv hr)) (fv 7) (fv 3))
      (fbx_one (fsx_raise rfl T.x_NoGrammar.ox T.k_NoGrammar___init__ T.t_NoGrammar___init__ (ok_NoGrammar___init__ T) (hr.mono (by omega)) T.b_NoGrammar___init__ pass0 (by rfl) T.g_NoGrammar (fa_cons fe_str (fa_cons (fv 7) fa_nil))))
      fbx_nil)
      (fbx_one (fsx_if (ft_cmp (os_in (rv hr)) (fv 7) (fv 2))
      (fbx_one (fsx_raise rfl T.x_NoGrammar.ox T.k_NoGrammar___init__ T.t_NoGrammar___init__ (ok_NoGrammar___init__ T) (hr.mono (by omega)) T.b_NoGrammar___init__ pass0 (by rfl) T.g_NoGrammar (fa_cons fe_str (fa_cons (fv 7) fa_nil))))
      fbx_nil))))))))))), fun ρ R RX hl h => ?_⟩
  -- slots: 0 kinds, 1 rules, 2 skipped, 3 known, 4 _, 5 alternatives, 6 row, 7 symbol, 8 name, 9 skip
  obtain ⟨ks, rs, rfl, hk, hr', nk, nr, q, qx⟩ := h
  have sz := sz2
  have tkk : ∀ t ∈ ks.map KD.name, Tk t := fun t ht => by
    obtain ⟨z, hz, rfl⟩ := List.mem_map.mp ht
    exact (hk.ok z hz).tk
  have tkh : ∀ t ∈ rs.map RU.head, Tk t := fun t ht => by
    obtain ⟨z, hz, rfl⟩ := List.mem_map.mp ht
    exact (hr'.ok z hz).tk
  have okl : ∀ l : List Str, (∀ t ∈ l, Tk t) → okD (.lst (l.map D.str)) = true := fun l h => (okN_lst fun d hd => by
    obtain ⟨t, h1, rfl⟩ := List.mem_map.mp hd
    exact okTk (h t h1)).ok
  refine ⟨fun i acc ρ => acc = (skp (ks.take i)).map D.str ∧ ρ = [.sl false true (ksD ks), .sl false true (rsD rs), .un, .un, .un, .un, .un, .un, .un, .un], ⟨rfl, rfl⟩, ?_, ?_, ?_⟩
  · rintro i y acc ρ hi ⟨rfl, rfl⟩
    rw [List.getElem?_map] at hi
    obtain ⟨k, hi2, rfl⟩ := Option.map_eq_some_iff.mp hi
    have hil : i < ks.length := (List.getElem?_eq_some_iff.mp hi2).1
    have e1 : ks.take (i + 1) = ks.take i ++ [k] := by rw [List.take_succ, hi2]; rfl
    refine ⟨rfl, ?_⟩
    show (if k.skip = true then _ else _)
    cases hs : k.skip with
    | true =>
      have e2 : skp (ks.take (i + 1)) = skp (ks.take i) ++ [k.name] := by unfold skp; rw [e1]; simp [hs]
      refine ⟨?_, (?_ : _ = _), rfl⟩
      · rw [List.length_map]; unfold skp
        rw [List.length_map]
        have := List.length_filter_le KD.skip (ks.take i)
        rw [List.length_take] at this
        omega
      · rw [e2, List.map_append]; rfl
    | false =>
      have e2 : skp (ks.take (i + 1)) = skp (ks.take i) := by unfold skp; rw [e1]; simp [hs]
      exact ⟨by rw [e2], rfl⟩
  · rintro i acc ρ ⟨_, rfl⟩
    exact ⟨_, (rfl : _ = YP.wipeS [.sl false true (ksD ks), .sl false true (rsD rs), .un, .un, .un, .un, .un, .un, .un, .un] [8, 4, 9])⟩
  rintro acc ρ ⟨rfl, rfl⟩
  rw [List.length_map, List.take_length]
  have l1 : (skp ks).length ≤ 14 := by
    unfold skp
    rw [List.length_map]
    have := List.length_filter_le KD.skip ks
    omega
  have tks : ∀ t ∈ skp ks, Tk t := fun t ht => by
    obtain ⟨z, hz, rfl⟩ := List.mem_map.mp ht
    exact (hk.ok z (List.mem_filter.mp hz).1).tk
  refine ⟨fun i acc ρ => acc = ((ks.take i).map KD.name).map D.str ∧ ρ = [.sl false true (ksD ks), .sl false true (rsD rs), own (.lst ((skp ks).map D.str)), .un, .un, .un, .un, .un, .un, .un], ⟨rfl, rfl⟩, ?_, ?_, ?_⟩
  · rintro i y acc ρ hi ⟨rfl, rfl⟩
    rw [List.getElem?_map] at hi
    obtain ⟨k, hi2, rfl⟩ := Option.map_eq_some_iff.mp hi
    have hil : i < ks.length := (List.getElem?_eq_some_iff.mp hi2).1
    refine ⟨rfl, ?_⟩
    refine ⟨by rw [List.length_map, List.length_map, List.length_take]; omega, ?_, rfl⟩
    rw [List.take_succ, hi2, List.map_append, List.map_append]; rfl
  · rintro i acc ρ ⟨_, rfl⟩
    exact ⟨_, (rfl : _ = YP.wipeS [.sl false true (ksD ks), .sl false true (rsD rs), own (.lst ((skp ks).map D.str)), .un, .un, .un, .un, .un, .un, .un] [8, 4])⟩
  rintro acc ρ ⟨rfl, rfl⟩
  rw [List.length_map, List.take_length]
  refine ⟨fun i acc ρ => acc = ((rs.take i).map RU.head).map D.str ∧ ρ = [.sl false true (ksD ks), .sl false true (rsD rs), own (.lst ((skp ks).map D.str)), .un, .un, .un, .un, .un, .un, .un], ⟨rfl, rfl⟩, ?_, ?_, ?_⟩
  · rintro i y acc ρ hi ⟨rfl, rfl⟩
    rw [List.getElem?_map] at hi
    obtain ⟨k, hi2, rfl⟩ := Option.map_eq_some_iff.mp hi
    have hil : i < rs.length := (List.getElem?_eq_some_iff.mp hi2).1
    refine ⟨rfl, ?_⟩
    refine ⟨by rw [List.length_map, List.length_map, List.length_take]; omega, ?_, rfl⟩
    rw [List.take_succ, hi2, List.map_append, List.map_append]; rfl
  · rintro i acc ρ ⟨_, rfl⟩
    exact ⟨_, (rfl : _ = YP.wipeS [.sl false true (ksD ks), .sl false true (rsD rs), own (.lst ((skp ks).map D.str)), .un, .un, .un, .un, .un, .un, .un] [8, 4])⟩
  rintro acc ρ ⟨rfl, rfl⟩
  rw [List.length_map, List.take_length]
  refine ⟨by rw [List.length_map, List.length_map, List.length_map, List.length_map]; omega, ?_⟩
  have ek : (ks.map KD.name).map D.str ++ (rs.map RU.head).map D.str = (knw ks rs).map D.str := by unfold knw; rw [List.map_append]
  rw [ek]
  have tkn : ∀ t ∈ knw ks rs, Tk t := fun t ht => (List.mem_append.mp ht).elim (tkk t) (tkh t)
  refine ⟨fun i ρ => ∃ (s4 s5 s6 s7 : Sl), symF (knw ks rs) (skp ks) (syms rs) = symF (knw ks rs) (skp ks) (syms (rs.drop i)) ∧ ρ = [.sl false true (ksD ks), .sl false true (rsD rs), own (.lst ((skp ks).map D.str)), own (.lst ((knw ks rs).map D.str)), s4, s5, s6, s7, .un, .un], ⟨.un, .un, .un, .un, rfl, rfl⟩, ?_, ?_⟩
  · rintro i y ρ hi ⟨s4, s5, s6, s7, hw, rfl⟩
    rw [List.getElem?_map] at hi
    obtain ⟨r, hi2, rfl⟩ := Option.map_eq_some_iff.mp hi
    have rr := hr'.ok r (List.mem_of_getElem? hi2)
    rw [syms_at hi2] at hw
    refine ⟨rfl, ?_⟩
    refine ⟨fun j ρ => ∃ (s4 s6 s7 : Sl), symF (knw ks rs) (skp ks) (syms rs) = symF (knw ks rs) (skp ks) (rows (r.alts.drop j) ++ syms (rs.drop (i + 1))) ∧ ρ = [.sl false true (ksD ks), .sl false true (rsD rs), own (.lst ((skp ks).map D.str)), own (.lst ((knw ks rs).map D.str)), s4, dat (.lst (r.alts.map AL.d)), s6, s7, .un, .un], ⟨dat (.str r.head), s6, s7, hw, rfl⟩, ?_, ?_⟩
    · rintro j y ρ hj ⟨s4, s6, s7, hw, rfl⟩
      rw [List.getElem?_map] at hj
      obtain ⟨a, hj2, rfl⟩ := Option.map_eq_some_iff.mp hj
      have aa := rr.al a (List.mem_of_getElem? hj2)
      rw [rows_at hj2, List.append_assoc] at hw
      refine ⟨rfl, ?_⟩
      refine ⟨fun k ρ => ∃ (s7 : Sl), symF (knw ks rs) (skp ks) (syms rs) = symF (knw ks rs) (skp ks) (a.row.drop k ++ (rows (r.alts.drop (j + 1)) ++ syms (rs.drop (i + 1)))) ∧ ρ = [.sl false true (ksD ks), .sl false true (rsD rs), own (.lst ((skp ks).map D.str)), own (.lst ((knw ks rs).map D.str)), dat (.str a.label), dat (.lst (r.alts.map AL.d)), dat (.tup (a.row.map D.str)), s7, .un, .un], ⟨s7, hw, rfl⟩, ?_, ?_⟩
      · rintro k y ρ hk2 ⟨s7, hw, rfl⟩
        rw [List.getElem?_map] at hk2
        obtain ⟨x, hx, rfl⟩ := Option.map_eq_some_iff.mp hk2
        have tx := aa.row x (List.mem_of_getElem? hx)
        rw [drop_at hx] at hw
        refine ⟨(okTk tx).ok, okl _ tkn, ?_⟩
        rw [any_strs]
        show (if (true ^^ decide (x ∈ knw ks rs)) = true then _ else _)
        by_cases h1 : x ∈ knw ks rs
        case neg =>
          rw [decide_eq_false h1]
          refine ⟨rfl, (by show 2 ≤ 1000; decide), qx ("symbol", x) ?_ _⟩
          rw [hw]; show symF _ _ (x :: _) = _; unfold symF; rw [if_neg h1]
        rw [decide_eq_true h1]
        refine ⟨(okTk tx).ok, okl _ tks, ?_⟩
        rw [any_strs]
        show (if (false ^^ decide (x ∈ skp ks)) = true then _ else _)
        by_cases h2 : x ∈ skp ks
        · rw [decide_eq_true h2]
          refine ⟨rfl, (by show 2 ≤ 1000; decide), qx ("skipped", x) ?_ _⟩
          rw [hw]; show symF _ _ (x :: _) = _; unfold symF; rw [if_pos h1, if_pos h2]
        · rw [decide_eq_false h2]
          refine ⟨dat (.str x), ?_, rfl⟩
          rw [hw]; show symF _ _ (x :: _) = _; conv => lhs; unfold symF
          rw [if_pos h1, if_neg h2]; rfl
      · rintro ρ ⟨s7, hw, rfl⟩
        rw [List.length_map, List.drop_length] at hw
        exact ⟨dat (.str a.label), dat (.tup (a.row.map D.str)), s7, hw, rfl⟩
    · rintro ρ ⟨s4, s6, s7, hw, rfl⟩
      rw [List.length_map, List.drop_length] at hw
      exact ⟨s4, dat (.lst (r.alts.map AL.d)), s6, s7, hw, rfl⟩
  · rintro ρ ⟨s4, s5, s6, s7, hw, rfl⟩
    refine q ?_ _ _
    rw [hw, List.length_map, List.drop_length]; rfl
end
end K10
set_option maxRecDepth 100000
set_option maxHeartbeats 1000000
namespace K10
open PySem PySem.Spec PyProof.Rows L2 Yard YP
instance decBA : DecidableEq BA := fun a b =>
  if h : a.one = b.one ∧ a.place = b.place ∧ a.other = b.other then isTrue (by
    obtain ⟨a1, a2, a3⟩ := a
    obtain ⟨b1, b2, b3⟩ := b
    obtain ⟨h1, h2, h3⟩ := h
    dsimp only at h1 h2 h3
    subst h1; subst h2; subst h3; rfl) else isFalse fun e => h (by subst e; exact ⟨rfl, rfl, rfl⟩)
theorem eqD_BA (x y : BA) : eqD x.d y.d = decide (x = y) := by
  have h : eqD x.d y.d = (eqD (.str x.one) (.str y.one) && (eqD (.int x.place) (.int y.place) && (eqD (.str x.other) (.str y.other) && true))) := rfl
  rw [h, eqD_str, eqD_int, eqD_str]
  obtain ⟨a, b, c⟩ := x
  obtain ⟨a', b', c'⟩ := y
  by_cases h1 : a = a' <;> by_cases h2 : b = b' <;> by_cases h3 : c = c' <;> simp [h1, h2, h3]
theorem any_BA (x : BA) : ∀ ys : List BA, ((ys.map BA.d).any fun z => eqD z x.d) = decide (x ∈ ys)
  | [] => by simp
  | y :: ys => by
    rw [List.map_cons, List.any_cons, any_BA x ys, eqD_BA]
    by_cases e : y = x
    · subst e; simp
    · have e' : x ≠ y := fun z => e z.symm
      simp [e, e']
abbrev Fnd := Str → Option (List Str)
def rowB (f : Fnd) (b : BA) : List Str := (f b.one).getD []
def inB (f g : Fnd) (b : BA) : Bool := decide (1 ≤ b.place ∧ b.place ≤ ((rowB f b).length : Nat)) && (match (rowB f b)[(b.place - 1).toNat]? with
  | some s => decide (b.other ∈ (g s).getD [])
  | none => false)
def barF (f g : Fnd) : List BA → List BA → Option Str
  | _, [] => none
  | ah, b :: bs => if inB f g b = true ∧ b ∉ ah then barF f g (ah ++ [b]) bs else some b.one
def tupD (r : List Str) : D := .tup (r.map D.str)
def lstD (r : List Str) : D := .lst (r.map D.str)
structure DcOk (f g : Fnd) (RW LB : List (Key × D)) : Prop where
  rw_ : ∀ x, kget RW (.inr x) = (f x).map tupD
  lb : ∀ x, kget LB (.inr x) = (g x).map lstD
  rt : ∀ x r, f x = some r → (∀ s ∈ r, Tk s) ∧ r.length ≤ 1000
  lt : ∀ x r, g x = some r → ∀ s ∈ r, Tk s
section
variable {P : Program} {w : World} {K : PySem.W.Frag} {mg : Str → Option Value} {base : Heap}
def uBar (C : Addr) : UFX := fun ρ R RX => ∃ bs RW LB f g, ρ = [dat (bsD bs), dat (.dic RW), dat (.dic LB)] ∧ BsOk bs ∧ bs.length ≤ 30 ∧ DcOk f g RW LB ∧ (barF f g [] bs = none → ∀ s0 s1 s2, R (.val .non) [s0, s1, s2]) ∧ (∀ x, barF f g [] bs = some x → ∀ ss, RX C (fld "bar" (.str x)) ss)
theorem sc_need_bars : FnScope ["bars", "rows", "labels", "ahead", "bar", "above", "place", "below", "row"] ["bars", "rows", "labels"] (defScope s_need_bars) := ⟨rfl, rfl, rfl, by decide +kernel, rfl, by decide +kernel, by decide +kernel⟩
theorem ok_need_bars (T : Tx K w mg) : FnOk P w K mg base (L2.CX P w) 3 T.a_need_bars T.f_need_bars ["bars", "rows", "labels"] (PSpX K 3 (uBar T.c_NoGrammar)) := by
  refine fn_mkx T.d_need_bars.fn sc_need_bars (by decide) fun cdv A outer s H E hr => ?_
  refine ⟨_, (fbx_cons (fx (fs_set (ps_set (i := 3) sc_need_bars.nd rfl (.inl rfl) pe_S) (fe_lst fa_nil)))
      (fbx_one (fsx_for (passes_of rfl) rfl (fi_tup (fv 0)) (fg_name (pg_name (i := 4) sc_need_bars.nd rfl (.inl rfl)))
      (fbx_cons (fx (fs_asg (ps_asg pe_S pg_S) (fv 4) (fg_tup (n := 3) rfl (fgs_cons (fg_name (pg_name (i := 5) sc_need_bars.nd rfl (.inl rfl))) (fgs_cons (fg_name (pg_name (i := 6) sc_need_bars.nd rfl (.inl rfl))) (fgs_cons (fg_name (pg_name (i := 7) sc_need_bars.nd rfl (.inl rfl))) fgs_nil))))))
      (fbx_cons (fx (fs_set (ps_set (i := 8) sc_need_bars.nd rfl (.inl rfl) pe_S) (fe_dget2 (rk hr) (fv 1) (fv 5) (fe_tup fa_nil))))
      (fbx_cons (fsx_if (FW.ft (fw_or (ft_not (ft_chain os_le os_le fe_int (fv 6) (fe_b cb_len (by rfl) T.z_len (by decide +kernel) (fr_ref (fv 8) fr_nil)))) (fw_or (ft_cmp (os_notin (rv hr)) (fv 7) (fe_dget2 (rk hr) (fv 2) (fe_ix (fv 8) (fe_op os_sub (fv 6) fe_int)) (fe_lst fa_nil))) (fw_or1 (ft_cmp (os_in (rv hr)) (fv 4) (fv 3))))))
      (fbx_one (fsx_raise rfl T.x_NoGrammar.ox T.k_NoGrammar___init__ T.t_NoGrammar___init__ (ok_NoGrammar___init__ T) (hr.mono (by omega)) T.b_NoGrammar___init__ pass0 (by rfl) T.g_NoGrammar (fa_cons fe_str (fa_cons (fv 5) fa_nil))))
      fbx_nil)
      (fbx (fb_one (fs_expr (fe_mu mu_append PySem.F.slot_list_append PySem.F.type_list_append (fv 3) (fa_cons (fv 4) fa_nil))))))))))), fun ρ R RX hl h => ?_⟩
  -- slots: 0 bars, 1 rows, 2 labels, 3 ahead, 4 bar, 5 above, 6 place, 7 below, 8 row

  obtain ⟨bs, RW, LB, f, g, rfl, hb, nb, dc, q, qx⟩ := h
  have sz := sz2
  refine ⟨Nat.zero_le _, ?_⟩
  refine ⟨fun i ρ => ∃ (s4 s5 s6 s7 s8 : Sl), barF f g [] bs = barF f g (bs.take i) (bs.drop i) ∧ ρ = [.sl false true (bsD bs), .sl false true (.dic RW), .sl false true (.dic LB), own (.lst ((bs.take i).map BA.d)), s4, s5, s6, s7, s8], ⟨.un, .un, .un, .un, .un, rfl, rfl⟩, ?_, ?_⟩
  · rintro i y ρ hi ⟨s4, s5, s6, s7, s8, hw, rfl⟩
    rw [List.getElem?_map] at hi
    obtain ⟨b, hi2, rfl⟩ := Option.map_eq_some_iff.mp hi
    have hil : i < bs.length := (List.getElem?_eq_some_iff.mp hi2).1
    have bb := hb.ok b (List.mem_of_getElem? hi2)
    have okb : ∀ c ∈ bs, OkN 1 c.d := fun c hc => okN_tup fun d hd => by
      have := hb.ok c hc
      simp only [List.mem_cons, List.not_mem_nil, or_false] at hd
      rcases hd with rfl | rfl | rfl
      · exact okTk this.t1
      · exact okN_int
      · exact okTk this.t2
    rw [drop_at hi2] at hw
    have e8 : (kget RW (.inr b.one)).getD (.tup []) = tupD (rowB f b) := by
      rw [dc.rw_]; unfold rowB; cases f b.one <;> rfl
    have rok : (∀ s ∈ rowB f b, Tk s) ∧ (rowB f b).length ≤ 1000 := by
      unfold rowB
      cases e : f b.one with
      | none => exact ⟨(fun _ h => nomatch h), Nat.zero_le _⟩
      | some r => exact dc.rt _ _ e
    have lo := bb.lo
    have hi3 := bb.hi
    have bad : inB f g b = false → barF f g [] bs = some b.one := fun e => by
      rw [hw]; unfold barF; rw [if_neg (by rw [e]; simp)]
    refine ⟨rfl, ?_⟩
    refine ⟨Nat.zero_le _, .inr b.one, rfl, ?_⟩
    rw [e8]
    show (if decide ((1 : Int) ≤ b.place) = true then _ else _)
    by_cases h1 : (1 : Int) ≤ b.place
    case neg =>
      rw [decide_eq_false h1]
      exact ⟨rfl, (by show 2 ≤ 1000; decide), qx b.one (bad (by unfold inB; rw [decide_eq_false (by omega : ¬ (1 ≤ b.place ∧ b.place ≤ ((rowB f b).length : Nat)))]; rfl)) _⟩
    rw [decide_eq_true h1]
    show (if (!decide (b.place ≤ ((((rowB f b).map D.str).length : Nat) : Int))) = true then _ else _)
    rw [List.length_map]
    by_cases h2 : b.place ≤ (((rowB f b).length : Nat) : Int)
    case neg =>
      rw [decide_eq_false h2]
      exact ⟨rfl, (by show 2 ≤ 1000; decide), qx b.one (bad (by unfold inB; rw [decide_eq_false (by omega : ¬ (1 ≤ b.place ∧ b.place ≤ ((rowB f b).length : Nat)))]; rfl)) _⟩
    rw [decide_eq_true h2]
    have l3 : (b.place - 1).toNat < (rowB f b).length := by omega
    have e3 : (rowB f b)[(b.place - 1).toNat]? = some (rowB f b)[(b.place - 1).toNat] := List.getElem?_eq_getElem l3
    generalize hx : (rowB f b)[(b.place - 1).toNat] = x at e3
    have e4 : L2.atI ((rowB f b).map D.str) (b.place - 1) = some (.str x) := by
      have : b.place - 1 = (((b.place - 1).toNat : Nat) : Int) := by omega
      rw [this]
      exact atI_nat (by rw [List.getElem?_map, e3]; rfl)
    have e5 : (kget LB (.inr x)).getD (.lst []) = lstD ((g x).getD []) := by
      rw [dc.lb]; cases g x <;> rfl
    have gok : ∀ s ∈ (g x).getD [], Tk s := by
      cases e : g x with
      | none => exact fun _ h => nomatch h
      | some r => exact dc.lt _ _ e
    have ine : inB f g b = decide (b.other ∈ (g x).getD []) := by
      unfold inB; rw [decide_eq_true (⟨h1, h2⟩ : 1 ≤ b.place ∧ b.place ≤ ((rowB f b).length : Nat)), e3]; rfl
    refine ⟨.str x, e4, ?_⟩
    refine ⟨Nat.zero_le _, .inr x, rfl, ?_⟩
    rw [e5]
    refine ⟨(okTk bb.t2).ok, (okN_lst fun d hd => by
      obtain ⟨t, h1, rfl⟩ := List.mem_map.mp hd
      exact okTk (gok t h1)).ok, ?_⟩
    rw [any_strs]
    show (if (true ^^ decide (b.other ∈ (g x).getD [])) = true then _ else _)
    by_cases h4 : b.other ∈ (g x).getD []
    case neg =>
      rw [decide_eq_false h4]
      exact ⟨rfl, (by show 2 ≤ 1000; decide), qx b.one (bad (by rw [ine, decide_eq_false h4])) _⟩
    rw [decide_eq_true h4]
    refine ⟨(okb b (List.mem_of_getElem? hi2)).ok, (okN_lst fun d hd => by
      obtain ⟨t, h1, rfl⟩ := List.mem_map.mp hd
      exact okb t (List.mem_of_mem_take h1)).ok, ?_⟩
    rw [any_BA]
    show (if (false ^^ decide (b ∈ bs.take i)) = true then _ else _)
    by_cases h5 : b ∈ bs.take i
    · rw [decide_eq_true h5]
      refine ⟨rfl, (by show 2 ≤ 1000; decide), qx b.one ?_ _⟩
      rw [hw]; unfold barF; exact if_neg fun z => z.2 h5
    rw [decide_eq_false h5]
    refine ⟨by rw [List.length_map, List.length_take]; omega, dat b.d, dat (.str b.one), dat (.int b.place), dat (.str b.other), dat (tupD (rowB f b)), ?_, ?_⟩
    · rw [hw]; conv => lhs; unfold barF
      rw [if_pos ⟨by rw [ine, decide_eq_true h4], h5⟩, List.take_succ, hi2]; rfl
    · have eL : (bs.take (i + 1)).map BA.d = (bs.take i).map BA.d ++ [b.d] := by rw [List.take_succ, hi2]; simp
      rw [eL]; rfl
  · rintro ρ ⟨s4, s5, s6, s7, s8, hw, rfl⟩
    refine q ?_ _ _ _
    rw [hw, List.length_map, List.drop_length]; rfl
end
end K10
set_option maxRecDepth 100000
set_option maxHeartbeats 2000000
namespace K10
open PySem PySem.Spec PyProof.Rows L2 Yard YP
/-! ### a grammar that is made -/
def labP (rs : List RU) : List (Str × List Str) := rs.map fun r => (r.head, r.alts.map AL.label)
def homP (rs : List RU) : List (Str × Str) := rs.flatMap fun r => r.alts.map fun a => (a.label, r.head)
def rowP (rs : List RU) : List (Str × List Str) := rs.flatMap fun r => r.alts.map fun a => (a.label, a.row)
def ofP {β : Type} (f : β → D) (l : List (Str × β)) : List (Str × D) := l.map fun p => (p.1, f p.2)
def begD : Option Str → D
  | some x => .str x
  | none => .non
def begOf (rs : List RU) : Option Str → Str
  | some x => x
  | none => match rs with
    | r :: _ => r.head
    | [] => ""
def knmL (ks : List KD) : List (Key × D) := bld (ks.map fun k => (k.name, D.bl true))
def rulT (rs : List RU) : D := .tup (rs.map fun r => .tup [.str r.head, .tup (r.alts.map AL.d)])
def osOf (ks : List KD) (rs : List RU) (b : Option Str) (bs : List BA) (L : List (Str × List Str)) (M : List (Str × Str)) (N : List (Str × List Str)) : OS :=
  [("_kinds", false, .tup (ks.map KD.d)), ("_rules", false, rulT rs), ("_begin", false, .str (begOf rs b)), ("_bars", false, bsD bs), ("_kind_names", false, .dic (knmL ks)),
    ("_labels", true, .dic (bld (ofP lstD L))), ("_homes", true, .dic (bld (ofP D.str M))), ("_rows", true, .dic (bld (ofP tupD N)))]
def gramF (ks : List KD) (rs : List RU) (b : Option Str) (bs : List BA) : List (Str × D) := ofs (osOf ks rs b bs (labP rs) (homP rs) (rowP rs))
def fSt (f : Option (Str × Str)) : Option (Str × D) := f.map fun p => (p.1, .str p.2)
def fault (ks : List KD) (rs : List RU) (b : Option Str) (bs : List BA) : Option (Str × D) :=
  if many ks rs bs = true then some ("many", .non) else match kinF [] ks with
    | some f => some (f.1, .str f.2)
    | none => match rulF (ks.map KD.name) [] rs with
      | some f => some (f.1, .str f.2)
      | none => match symF (knw ks rs) (skp ks) (syms rs) with
        | some f => some (f.1, .str f.2)
        | none => if begOf rs b ∉ rs.map RU.head then some ("begin", begD b) else match barF (lst? (rowP rs)) (lst? (labP rs)) [] bs with
          | some x => some ("bar", .str x)
          | none => none
theorem few_of {ks : List KD} {rs : List RU} {bs : List BA} (h : many ks rs bs = false) : ks.length ≤ 14 ∧ rs.length ≤ 40 ∧ 1 ≤ rs.length ∧ bs.length ≤ 30 ∧ 1 ≤ ks.length := by
  unfold many at h
  simp only [Bool.or_eq_false_iff, Bool.not_eq_false', decide_eq_true_eq, decide_eq_false_iff_not] at h
  omega
theorem fresh_of {os : OS} {f : Str} (h : (os.all fun p => !(p.1 == f)) = true) : ∀ p ∈ os, p.1 ≠ f := fun p hp e => by
  have := List.all_eq_true.mp h p hp
  rw [e] at this; simp at this
theorem seq_cutO {t u : USO} {E : EnO} {os : OS} {ρ : List Sl} (P : OS → List Sl → Prop) (h2 : ∀ os ρ, P os ρ → u E os ρ) (h1 : (∀ os ρ, P os ρ → u E os ρ) → uSeqO t u E os ρ) : uSeqO t u E os ρ := h1 h2
theorem ofP_snoc {β : Type} (f : β → D) (l : List (Str × β)) (x : Str) (b : β) : bld (ofP f (l ++ [(x, b)])) = kput (bld (ofP f l)) (.inr x) (f b) := by
  unfold ofP; rw [List.map_append]; exact bld_snoc _ (x, f b)
theorem ofP_len {β : Type} (f : β → D) (l : List (Str × β)) : (ofP f l).length = l.length := List.length_map ..
theorem homP_len (rs : List RU) : (homP rs).length = (labs rs).length := by
  unfold homP labs
  induction rs with
  | nil => rfl
  | cons r rs ih => rw [List.flatMap_cons, List.flatMap_cons, List.length_append, List.length_append, ih, List.length_map, List.length_map]
theorem rowP_len (rs : List RU) : (rowP rs).length = (labs rs).length := by
  unfold rowP labs
  induction rs with
  | nil => rfl
  | cons r rs ih => rw [List.flatMap_cons, List.flatMap_cons, List.length_append, List.length_append, ih, List.length_map, List.length_map]
section
variable {ks : List KD} {rs : List RU} {b : Option Str} {bs : List BA} {L : List (Str × List Str)} {M : List (Str × Str)} {N : List (Str × List Str)} {x : Str}
theorem os_lab {l : List Str} : oset "_labels" (.dic (kput (bld (ofP lstD L)) (.inr x) (lstD l))) (osOf ks rs b bs L M N) = osOf ks rs b bs (L ++ [(x, l)]) M N := by
  unfold osOf; rw [ofP_snoc]; rfl
theorem os_hom {y : Str} : oset "_homes" (.dic (kput (bld (ofP D.str M)) (.inr x) (.str y))) (osOf ks rs b bs L M N) = osOf ks rs b bs L (M ++ [(x, y)]) N := by
  unfold osOf; rw [ofP_snoc]; rfl
theorem os_row {l : List Str} : oset "_rows" (.dic (kput (bld (ofP tupD N)) (.inr x) (tupD l))) (osOf ks rs b bs L M N) = osOf ks rs b bs L M (N ++ [(x, l)]) := by
  unfold osOf; rw [ofP_snoc]; rfl
end
section
variable {P : Program} {w : World} {K : PySem.W.Frag} {mg : Str → Option Value} {base : Heap}
def uGram (C : Addr) : UFI := fun ρ R RX => ∃ ks rs b bs, ρ = [dat (ksD ks), dat (rsD rs), dat (begD b), dat (bsD bs)] ∧ KsOk ks ∧ RsOk rs ∧ BsOk bs ∧ (∀ x, b = some x → Tk x) ∧
  (fault ks rs b bs = none → ∀ ss, R (gramF ks rs b bs) ss) ∧ (∀ f, fault ks rs b bs = some f → ∀ ss, RX C (fld f.1 f.2) ss)
theorem sc_Grammar___init__ : FnScope ["self", "kinds", "rules", "begin", "bars", "name", "alternatives", "label", "row", "_"] ["self", "kinds", "rules", "begin", "bars"] (defScope s_Grammar___init__) := ⟨rfl, rfl, rfl, by decide +kernel, rfl, by decide +kernel, by decide +kernel⟩
theorem ok_Grammar___init__ (T : Tx K w mg) : FnOk P w K mg base (L2.CX P w) 24 T.a_Grammar___init__ T.f_Grammar___init__ ["self", "kinds", "rules", "begin", "bars"] (PSpI K T.c_Grammar 4 (uGram T.c_NoGrammar)) := by
  refine fn_mkI T.d_Grammar___init__ sc_Grammar___init__ (by decide) rfl fun cdv A outer s H E hr => ?_
  refine ⟨_, (fbo_cons (fso_x (fsx_expr (fex_call (ok_need_few T) (hr.mono (by omega)) (by rfl) T.d_need_few.at_ T.d_need_few.kp T.d_need_few.bd (fr_val (fv 1) (fr_val (fv 2) (fr_val (fv 4) fr_nil))))))
      (fbo_cons (fso_x (fsx_expr (fex_call (ok_need_kinds T) (hr.mono (by omega)) (by rfl) T.d_need_kinds.at_ T.d_need_kinds.kp T.d_need_kinds.bd (fr_val (fv 1) fr_nil))))
      (fbo_cons (fso_x (fsx_expr (fex_call (ok_need_rules T) (hr.mono (by omega)) (by rfl) T.d_need_rules.at_ T.d_need_rules.kp T.d_need_rules.bd (fr_val (fv 1) (fr_val (fv 2) fr_nil)))))
      (fbo_cons (fso_x (fsx_expr (fex_call (ok_need_symbols T) (hr.mono (by omega)) (by rfl) T.d_need_symbols.at_ T.d_need_symbols.kp T.d_need_symbols.bd (fr_val (fv 1) (fr_val (fv 2) fr_nil)))))
      (fbo_cons (fso_fldF T.cl_Grammar T.n_Grammar__kinds (pv 0) (fe_bt cb_tuple (by rfl) T.z_tuple (by decide +kernel) (fr_ref (fv 1) fr_nil)))
      (fbo_cons (fso_fldF T.cl_Grammar T.n_Grammar__rules (pv 0) (fe_bt cb_tuple (by rfl) T.z_tuple (by decide +kernel) (fr_ref (fe_lc rfl sc_Grammar___init__.nd (fi_list (fv 2)) (blkOk_by (own := [("name", 5), ("alternatives", 6)]) (N := ["self", "kinds", "rules", "begin", "bars", "name", "alternatives", "label", "row", "_"]) (sc := defScope s_Grammar___init__) (by decide +kernel)) (fun _ _ _ _ _ => (fg_tup (n := 2) rfl (fgs_cons (fg_name (pg_name (i := 5) sc_Grammar___init__.nd rfl (.inl rfl)) (by intro l e; cases e; decide +kernel)) (fgs_cons (fg_name (pg_name (i := 6) sc_Grammar___init__.nd rfl (.inl rfl)) (by intro l e; cases e; decide +kernel)) fgs_nil)))) (fun _ _ _ _ _ => fts_nil) (fun _ _ _ _ _ => (fe_tup (fa_cons (fv 5) (fa_cons (fe_bt cb_tuple (by rfl) T.z_tuple (by decide +kernel) (fr_ref (fv 6) fr_nil)) fa_nil))))) fr_nil)))
      (fbo_cons (fso_fldF T.cl_Grammar T.n_Grammar__begin (pv 0) (fe_if (ft_cmp os_is (fv 3) fe_non) (fe_ix (fe_ix (fv 2) fe_int) fe_int) (fv 3)))
      (fbo_cons (fso_fldF T.cl_Grammar T.n_Grammar__bars (pv 0) (fe_bt cb_tuple (by rfl) T.z_tuple (by decide +kernel) (fr_ref (fv 4) fr_nil)))
      (fbo_cons (fso_fldF T.cl_Grammar T.n_Grammar__kind_names (pv 0) (fe_dc rfl sc_Grammar___init__.nd (fi_list (fv 1)) (blkOk_by (own := [("name", 5), ("_", 9)]) (N := ["self", "kinds", "rules", "begin", "bars", "name", "alternatives", "label", "row", "_"]) (sc := defScope s_Grammar___init__) (by decide +kernel)) (fun _ _ _ _ _ => (fg_tup (n := 3) rfl (fgs_cons (fg_name (pg_name (i := 5) sc_Grammar___init__.nd rfl (.inl rfl)) (by intro l e; cases e; decide +kernel)) (fgs_cons (fg_name (pg_name (i := 9) sc_Grammar___init__.nd rfl (.inl rfl)) (by intro l e; cases e; decide +kernel)) (fgs_cons (fg_name (pg_name (i := 9) sc_Grammar___init__.nd rfl (.inl rfl)) (by intro l e; cases e; decide +kernel)) fgs_nil))))) (fun _ _ _ _ _ => fts_nil) (fun _ _ _ _ _ => (fv 5)) (fun _ _ _ _ _ => fe_bl)))
      (fbo_cons (fso_fldO T.cl_Grammar T.n_Grammar__labels (pv 0) fe_dnew)
      (fbo_cons (fso_fldO T.cl_Grammar T.n_Grammar__homes (pv 0) fe_dnew)
      (fbo_cons (fso_fldO T.cl_Grammar T.n_Grammar__rows (pv 0) fe_dnew)
      (fbo_cons (fso_for (passes_of rfl) rfl (fi_list (fv 2)) (fg_tup (n := 2) rfl (fgs_cons (fg_name (pg_name (i := 5) sc_Grammar___init__.nd rfl (.inl rfl))) (fgs_cons (fg_name (pg_name (i := 6) sc_Grammar___init__.nd rfl (.inl rfl))) fgs_nil)))
      (fbo_cons (fso_putK (rk hr) T.cl_Grammar T.n_Grammar__labels (pv 0) (fe_lc rfl sc_Grammar___init__.nd (fi_list (fv 6)) (blkOk_by (own := [("label", 7), ("_", 9)]) (N := ["self", "kinds", "rules", "begin", "bars", "name", "alternatives", "label", "row", "_"]) (sc := defScope s_Grammar___init__) (by decide +kernel)) (fun _ _ _ _ _ => (fg_tup (n := 2) rfl (fgs_cons (fg_name (pg_name (i := 7) sc_Grammar___init__.nd rfl (.inl rfl)) (by intro l e; cases e; decide +kernel)) (fgs_cons (fg_name (pg_name (i := 9) sc_Grammar___init__.nd rfl (.inl rfl)) (by intro l e; cases e; decide +kernel)) fgs_nil)))) (fun _ _ _ _ _ => fts_nil) (fun _ _ _ _ _ => (fv 7))) (fv 5))
      (fbo_one (fso_for (passes_of rfl) rfl (fi_list (fv 6)) (fg_tup (n := 2) rfl (fgs_cons (fg_name (pg_name (i := 7) sc_Grammar___init__.nd rfl (.inl rfl))) (fgs_cons (fg_name (pg_name (i := 8) sc_Grammar___init__.nd rfl (.inl rfl))) fgs_nil)))
      (fbo_cons (fso_putK (rk hr) T.cl_Grammar T.n_Grammar__homes (pv 0) (fv 5) (fv 7))
      (fbo_one (fso_putK (rk hr) T.cl_Grammar T.n_Grammar__rows (pv 0) (fe_bt cb_tuple (by rfl) T.z_tuple (by decide +kernel) (fr_ref (fv 8) fr_nil)) (fv 7))))))))
      (fbo_rel (fbx_cons (fsx_if (ft_dnotin (rk hr) (fe_fld T.cl_Grammar T.n_Grammar__begin (fv 0)) (fe_fld T.cl_Grammar T.n_Grammar__labels (fv 0)))
      (fbx_one (fsx_raise rfl T.x_NoGrammar.ox T.k_NoGrammar___init__ T.t_NoGrammar___init__ (ok_NoGrammar___init__ T) (hr.mono (by omega)) T.b_NoGrammar___init__ pass0 (by rfl) T.g_NoGrammar (fa_cons fe_str (fa_cons (fv 3) fa_nil))))
      fbx_nil)
      (fbx_one (fsx_expr (fex_call (ok_need_bars T) (hr.mono (by omega)) (by rfl) T.d_need_bars.at_ T.d_need_bars.kp T.d_need_bars.bd (fr_val (fv 4) (fr_val (fe_fld T.cl_Grammar T.n_Grammar__rows (fv 0)) (fr_val (fe_fld T.cl_Grammar T.n_Grammar__labels (fv 0)) fr_nil))))))))))))))))))))), fun a ρ R RX hl h => ?_⟩
  obtain ⟨ks, rs, b, bs, rfl, hk, hr', hb, hbt, q, qx⟩ := h
  have sz := sz2
  -- need_few
  refine ⟨List.nodup_nil, ks, rs, bs, rfl, hk, hr', hb, fun f1 s0 s1 s2 => ?ok1, fun f1 ss => ?bad1⟩
  case bad1 => exact qx ("many", .non) (by unfold fault; exact if_pos f1) _
  have nm : ¬ many ks rs bs = true := by rw [f1]; decide
  have fw := few_of f1
  dsimp only
  rw [wb_no (rs := [.val (ksD ks), .val (rsD rs), .val (bsD bs)]) [s0, s1, s2] rfl]
  refine ⟨rfl, ?_⟩
  refine ⟨List.nodup_nil, ks, rfl, hk, fun f2 s0 => ?ok2, fun f e ss => ?bad2⟩
  case bad2 => exact qx (f.1, .str f.2) (by unfold fault; rw [if_neg nm, e]) _
  dsimp only
  rw [wb_no (rs := [.val (ksD ks)]) [s0] rfl]
  refine ⟨rfl, ?_⟩
  refine ⟨List.nodup_nil, ks, rs, rfl, hk, hr', fw.1, fw.2.1, fun f3 s0 s1 => ?ok3, fun f e ss => ?bad3⟩
  case bad3 => exact qx (f.1, .str f.2) (by unfold fault; rw [if_neg nm, f2]; show (match rulF _ _ _ with | some f => _ | none => _) = _; rw [e]) _
  dsimp only
  rw [wb_no (rs := [.val (ksD ks), .val (rsD rs)]) [s0, s1] rfl]
  refine ⟨rfl, ?_⟩
  refine ⟨List.nodup_nil, ks, rs, rfl, hk, hr', fw.1, fw.2.1, fun f4 s0 s1 => ?ok4, fun f e ss => ?bad4⟩
  case bad4 => exact qx (f.1, .str f.2) (by unfold fault; rw [if_neg nm, f2]; show (match rulF _ _ _ with | some f => _ | none => _) = _; rw [f3]; show (match symF _ _ _ with | some f => _ | none => _) = _; rw [e]) _
  dsimp only
  rw [wb_no (rs := [.val (ksD ks), .val (rsD rs)]) [s0, s1] rfl]
  refine ⟨rfl, ?_⟩
  have fe : fault ks rs b bs = if begOf rs b ∉ rs.map RU.head then some (("begin" : Str), begD b) else match barF (lst? (rowP rs)) (lst? (labP rs)) [] bs with
      | some x => some (("bar" : Str), D.str x)
      | none => none := by
    unfold fault; rw [if_neg nm, f2]; show (match rulF _ _ _ with | some f => _ | none => _) = _; rw [f3]; show (match symF _ _ _ with | some f => _ | none => _) = _; rw [f4]
  -- the fields
  refine ⟨rfl, by show 0 < 1000; decide, fresh_of rfl, ?_⟩
  refine ⟨fun i acc ρ => acc = (rs.take i).map (fun r => D.tup [.str r.head, .tup (r.alts.map AL.d)]) ∧ ρ = [S0 a, .sl false true (ksD ks), .sl false true (rsD rs), .sl false true (begD b), .sl false true (bsD bs), .un, .un, .un, .un, .un], ⟨rfl, rfl⟩, ?_, ?_, ?_⟩
  · rintro i y acc ρ hi ⟨rfl, rfl⟩
    rw [List.getElem?_map] at hi
    obtain ⟨r, hi2, rfl⟩ := Option.map_eq_some_iff.mp hi
    have hil : i < rs.length := (List.getElem?_eq_some_iff.mp hi2).1
    refine ⟨rfl, ?_⟩
    refine ⟨by show 2 ≤ _; omega, ?_⟩
    refine ⟨by rw [List.length_map, List.length_take]; omega, ?_, rfl⟩
    rw [List.take_succ, hi2, List.map_append]; rfl
  · rintro i acc ρ ⟨_, rfl⟩
    exact ⟨_, (rfl : _ = YP.wipeS [S0 a, .sl false true (ksD ks), .sl false true (rsD rs), .sl false true (begD b), .sl false true (bsD bs), .un, .un, .un, .un, .un] [5, 6])⟩
  rintro acc ρ ⟨rfl, rfl⟩
  rw [List.length_map, List.take_length]
  refine ⟨rfl, by show 1 < 1000; decide, fresh_of rfl, ?_⟩
  -- _begin
  dsimp only
  refine seq_cutO (fun os ρ => os = ([("_kinds", false, .tup (ks.map KD.d)), ("_rules", false, rulT rs), ("_begin", false, .str (begOf rs b))] : OS) ∧ ρ = [S0 a, .sl false true (ksD ks), .sl false true (rsD rs), .sl false true (begD b), .sl false true (bsD bs), .un, .un, .un, .un, .un]) ?rest fun rest => ?here
  case here =>
    cases b with
    | none =>
      cases rs with
      | nil => have := fw.2.2.1; simp at this
      | cons r rs =>
        refine ⟨.tup [.str r.head, .lst (r.alts.map AL.d)], atI_nat (j := 0) rfl, .str r.head, rfl, ?_⟩
        exact ⟨rfl, by show 2 < 1000; decide, fresh_of rfl, rest _ _ ⟨rfl, rfl⟩⟩
    | some x =>
      refine ⟨rfl, by show 2 < 1000; decide, fresh_of rfl, rest _ _ ⟨rfl, rfl⟩⟩
  rintro os ρ ⟨rfl, rfl⟩
  -- _bars
  refine ⟨rfl, by show 3 < 1000; decide, fresh_of rfl, ?_⟩
  -- _kind_names
  refine ⟨fun i acc ρ => acc = bld ((ks.take i).map fun k => (k.name, D.bl true)) ∧ ρ = [S0 a, .sl false true (ksD ks), .sl false true (rsD rs), .sl false true (begD b), .sl false true (bsD bs), .un, .un, .un, .un, .un], ⟨rfl, rfl⟩, ?_, ?_, ?_⟩
  · rintro i y acc ρ hi ⟨rfl, rfl⟩
    rw [List.getElem?_map] at hi
    obtain ⟨k, hi2, rfl⟩ := Option.map_eq_some_iff.mp hi
    have hil : i < ks.length := (List.getElem?_eq_some_iff.mp hi2).1
    have lb := bld_len ((ks.take i).map fun k => (k.name, D.bl true))
    rw [List.length_map, List.length_take] at lb
    have lk := hk.few
    refine ⟨rfl, ?_⟩
    refine ⟨.inr k.name, rfl, by omega, ?_, rfl⟩
    rw [List.take_succ, hi2, List.map_append]
    exact (bld_snoc _ (k.name, D.bl true)).symm
  · rintro i acc ρ ⟨_, rfl⟩
    exact ⟨_, (rfl : _ = YP.wipeS [S0 a, .sl false true (ksD ks), .sl false true (rsD rs), .sl false true (begD b), .sl false true (bsD bs), .un, .un, .un, .un, .un] [5, 9])⟩
  rintro acc ρ ⟨rfl, rfl⟩
  rw [List.length_map, List.take_length]
  refine ⟨rfl, by show 4 < 1000; decide, fresh_of rfl, ?_⟩
  refine ⟨rfl, by show 5 < 1000; decide, fresh_of rfl, ?_⟩
  refine ⟨rfl, by show 6 < 1000; decide, fresh_of rfl, ?_⟩
  refine ⟨rfl, by show 7 < 1000; decide, fresh_of rfl, ?_⟩
  -- the walk
  refine ⟨rfl, ?_⟩
  refine ⟨fun i os ρ => ∃ s5 s6 s7 s8 s9 : Sl, os = osOf ks rs b bs (labP (rs.take i)) (homP (rs.take i)) (rowP (rs.take i)) ∧ ρ = [S0 a, .sl false true (ksD ks), .sl false true (rsD rs), .sl false true (begD b), .sl false true (bsD bs), s5, s6, s7, s8, s9], ⟨.un, .un, .un, .un, .un, rfl, rfl⟩, ?_, ?_⟩
  · rintro i y os ρ hi ⟨s5, s6, s7, s8, s9, rfl, rfl⟩ _
    rw [List.getElem?_map] at hi
    obtain ⟨r, hi2, rfl⟩ := Option.map_eq_some_iff.mp hi
    have hil : i < rs.length := (List.getElem?_eq_some_iff.mp hi2).1
    have rr := hr'.ok r (List.mem_of_getElem? hi2)
    have rf := rr.few
    have e1 : rs.take (i + 1) = rs.take i ++ [r] := by rw [List.take_succ, hi2]; rfl
    have ll := labs_len hr' i
    have lH := homP_len (rs.take i)
    have lR := rowP_len (rs.take i)
    have lL : (labP (rs.take i)).length ≤ 40 := by unfold labP; rw [List.length_map, List.length_take]; omega
    refine ⟨rfl, rfl, ?_⟩
    refine ⟨_, rfl, by have := bld_len (ofP lstD (labP (rs.take i))); rw [ofP_len] at this; omega, ?_⟩
    refine ⟨fun j acc ρ => acc = ((r.alts.take j).map AL.label).map D.str ∧ ρ = [S0 a, .sl false true (ksD ks), .sl false true (rsD rs), .sl false true (begD b), .sl false true (bsD bs), dat (.str r.head), dat (.lst (r.alts.map AL.d)), .un, s8, .un], ⟨rfl, rfl⟩, ?_, ?_, ?_⟩
    · rintro j y acc ρ hj ⟨rfl, rfl⟩
      rw [List.getElem?_map] at hj
      obtain ⟨c, hj2, rfl⟩ := Option.map_eq_some_iff.mp hj
      have hjl : j < r.alts.length := (List.getElem?_eq_some_iff.mp hj2).1
      refine ⟨rfl, ?_⟩
      refine ⟨by rw [List.length_map, List.length_map, List.length_take]; omega, ?_, rfl⟩
      rw [List.take_succ, hj2, List.map_append, List.map_append]; rfl
    · rintro j acc ρ ⟨_, rfl⟩
      exact ⟨_, (rfl : _ = YP.wipeS [S0 a, .sl false true (ksD ks), .sl false true (rsD rs), .sl false true (begD b), .sl false true (bsD bs), dat (.str r.head), dat (.lst (r.alts.map AL.d)), .un, s8, .un] [7, 9])⟩
    rintro acc ρ ⟨rfl, rfl⟩
    rw [List.length_map, List.take_length]
    refine ⟨rfl, .inr r.head, rfl, ?_⟩
    refine ⟨rfl, ?_⟩
    refine ⟨fun j os ρ => ∃ s7 s8 : Sl, os = osOf ks rs b bs (labP (rs.take (i + 1))) (homP (rs.take i) ++ (r.alts.take j).map fun c => (c.label, r.head)) (rowP (rs.take i) ++ (r.alts.take j).map fun c => (c.label, c.row)) ∧
      ρ = [S0 a, .sl false true (ksD ks), .sl false true (rsD rs), .sl false true (begD b), .sl false true (bsD bs), dat (.str r.head), dat (.lst (r.alts.map AL.d)), s7, s8, .un], ⟨.un, s8, ?_, rfl⟩, ?_, ?_⟩
    · rw [List.take_zero, List.map_nil, List.append_nil, List.map_nil, List.append_nil, e1]
      show oset _ (.dic (kput _ _ (lstD (r.alts.map AL.label)))) _ = _
      rw [os_lab]
      unfold labP
      rw [List.map_append]; rfl
    · rintro j y os ρ hj ⟨s7, s8, rfl, rfl⟩ _
      rw [List.getElem?_map] at hj
      obtain ⟨c, hj2, rfl⟩ := Option.map_eq_some_iff.mp hj
      have hjl : j < r.alts.length := (List.getElem?_eq_some_iff.mp hj2).1
      refine ⟨rfl, rfl, ?_⟩
      refine ⟨_, rfl, ?_, ?_⟩
      · have := bld_len (ofP D.str (homP (rs.take i) ++ (r.alts.take j).map fun c => (c.label, r.head)))
        rw [ofP_len, List.length_append, List.length_map, List.length_take] at this
        omega
      refine ⟨rfl, .inr c.label, rfl, ?_⟩
      rw [os_hom]
      refine ⟨_, rfl, ?_, ?_⟩
      · have := bld_len (ofP tupD (rowP (rs.take i) ++ (r.alts.take j).map fun c => (c.label, c.row)))
        rw [ofP_len, List.length_append, List.length_map, List.length_take] at this
        omega
      refine ⟨rfl, .inr c.label, rfl, ?_⟩
      refine ⟨dat (.str c.label), dat (.tup (c.row.map D.str)), ?_, rfl⟩
      show oset _ (.dic (kput _ _ (tupD c.row))) _ = _
      have et : r.alts.take (j + 1) = r.alts.take j ++ [c] := by rw [List.take_succ, hj2]; rfl
      rw [os_row, et, List.map_append, List.map_append, ← List.append_assoc, ← List.append_assoc]; rfl
    · rintro os ρ ⟨s7, s8, rfl, rfl⟩
      rw [List.length_map, List.take_length]
      refine ⟨dat (.str r.head), dat (.lst (r.alts.map AL.d)), s7, s8, .un, ?_, rfl⟩
      have eh : homP (rs.take (i + 1)) = homP (rs.take i) ++ r.alts.map fun c => (c.label, r.head) := by rw [e1]; unfold homP; rw [List.flatMap_append]; simp
      have er : rowP (rs.take (i + 1)) = rowP (rs.take i) ++ r.alts.map fun c => (c.label, c.row) := by rw [e1]; unfold rowP; rw [List.flatMap_append]; simp
      rw [eh, er]
  rintro os ρ ⟨s5, s6, s7, s8, s9, rfl, rfl⟩
  rw [List.length_map, List.take_length]
  -- it stays
  have hsome : ∀ x, (kget (bld (ofP lstD (labP rs))) (.inr x)).isSome = decide (x ∈ rs.map RU.head) := fun x => by
    rw [kget_bld, show lst? (ofP lstD (labP rs)) x = (lst? (labP rs) x).map lstD from lst?_map lstD _ x, Option.isSome_map]
    have em : (labP rs).map (·.1) = rs.map RU.head := by unfold labP; rw [List.map_map]; rfl
    by_cases hx : x ∈ rs.map RU.head
    · rw [decide_eq_true hx]
      cases e : lst? (labP rs) x with
      | some _ => rfl
      | none => rw [lst?_none, em] at e; exact absurd hx e
    · rw [decide_eq_false hx, lst?_none.mpr (by rw [em]; exact hx)]; rfl
  refine ⟨_, .str (begOf rs b), rfl, rfl, ?_⟩
  refine ⟨_, .dic (bld (ofP lstD (labP rs))), rfl, rfl, ?_⟩
  refine ⟨.inr (begOf rs b), rfl, ?_⟩
  rw [hsome]
  show (if (true ^^ decide (begOf rs b ∈ rs.map RU.head)) = true then _ else _)
  by_cases hg : begOf rs b ∈ rs.map RU.head
  case neg =>
    rw [decide_eq_false hg]
    rw [if_pos hg] at fe
    exact ⟨rfl, (by show 2 ≤ 1000; decide), qx ("begin", begD b) fe _⟩
  rw [decide_eq_true hg]
  rw [if_neg (fun z => z hg)] at fe
  have dc : DcOk (lst? (rowP rs)) (lst? (labP rs)) (bld (ofP tupD (rowP rs))) (bld (ofP lstD (labP rs))) := by
    refine ⟨fun x => ?_, fun x => ?_, fun x l e => ?_, fun x l e => ?_⟩
    · rw [kget_bld]; exact lst?_map tupD _ x
    · rw [kget_bld]; exact lst?_map lstD _ x
    · have m := lst?_mem e
      obtain ⟨r, hr1, m⟩ := List.mem_flatMap.mp m
      obtain ⟨c, hc, e2⟩ := List.mem_map.mp m
      cases e2
      have aa := (hr'.ok r hr1).al c hc
      exact ⟨aa.row, aa.few⟩
    · have m := lst?_mem e
      obtain ⟨r, hr1, e2⟩ := List.mem_map.mp m
      cases e2
      intro s hs
      obtain ⟨c, hc, rfl⟩ := List.mem_map.mp hs
      exact ((hr'.ok r hr1).al c hc).tk
  refine ⟨_, .dic (bld (ofP tupD (rowP rs))), rfl, rfl, ?_⟩
  refine ⟨_, .dic (bld (ofP lstD (labP rs))), rfl, rfl, ?_⟩
  refine ⟨List.nodup_nil, bs, _, _, _, _, rfl, hb, fw.2.2.2.1, dc, fun e s0 s1 s2 => ?_, fun x e ss => ?_⟩
  · dsimp only
    rw [wb_no (rs := [.val (bsD bs), .val (.dic (bld (ofP tupD (rowP rs)))), .val (.dic (bld (ofP lstD (labP rs))))]) [s0, s1, s2] rfl]
    rw [e] at fe
    exact q fe _
  · rw [e] at fe
    exact qx ("bar", .str x) fe _
end
end K10
set_option maxRecDepth 100000
set_option maxHeartbeats 2000000
namespace K10
open PySem PySem.Spec PyProof.Rows L2 Yard YP
/-! ### the law's own look -/
def altD (h : Str) (a : AL) : D := .tup [.str h, .str a.label, .tup (a.row.map D.str)]
def allD (rs : List RU) : List D := rs.flatMap fun r => r.alts.map (altD r.head)
theorem allD_len (rs : List RU) : (allD rs).length = als rs := by
  unfold allD als
  induction rs with
  | nil => rfl
  | cons r rs ih => rw [List.flatMap_cons, List.length_append, ih, List.length_map, List.map_cons, List.sum_cons]
theorem als_take (rs : List RU) (i : Nat) : als (rs.take i) ≤ als rs := by
  unfold als
  induction rs generalizing i with
  | nil => simp
  | cons r rs ih =>
    cases i with
    | zero => simp
    | succ i =>
      have := ih i
      simp only [List.take_succ_cons, List.map_cons, List.sum_cons]
      omega
structure WOk (ks : List KD) (rs : List RU) (st : Str) (bs : List BA) : Prop where
  ks : KsOk ks
  rs : RsOk rs
  st : Tk st
  bs : BsOk bs
def wD (ks : List KD) (rs : List RU) (st : Str) (bs : List BA) : D := .lst [ksD ks, rsD rs, .str st, .lst (bs.map BA.d)]
theorem okKD {k : KD} (h : KOk k) : OkN 22 k.d := okN_tup fun d hd => by
  simp only [List.mem_cons, List.not_mem_nil, or_false] at hd
  rcases hd with rfl | rfl | rfl
  · exact (okTk h.tk).mono (Nat.zero_le _)
  · exact (k.pat.okN h.pk).mono (Nat.succ_le_succ h.dp)
  · exact okN_bl.mono (Nat.zero_le _)
theorem okAL {a : AL} (h : AOk a) : OkN 2 a.d := okN_tup fun d hd => by
  simp only [List.mem_cons, List.not_mem_nil, or_false] at hd
  rcases hd with rfl | rfl
  · exact (okTk h.tk).mono (Nat.zero_le _)
  · exact okN_tup fun d hd => by
      obtain ⟨s, hs, rfl⟩ := List.mem_map.mp hd
      exact okTk (h.row s hs)
theorem okRU {r : RU} (h : ROk r) : OkN 4 r.d := okN_tup fun d hd => by
  simp only [List.mem_cons, List.not_mem_nil, or_false] at hd
  rcases hd with rfl | rfl
  · exact (okTk h.tk).mono (Nat.zero_le _)
  · exact okN_lst fun d hd => by
      obtain ⟨s, hs, rfl⟩ := List.mem_map.mp hd
      exact okAL (h.al s hs)
theorem okBA {b : BA} (h : BOk b) : OkN 1 b.d := okN_tup fun d hd => by
  simp only [List.mem_cons, List.not_mem_nil, or_false] at hd
  rcases hd with rfl | rfl | rfl
  · exact okTk h.t1
  · exact okN_int
  · exact okTk h.t2
theorem okKs {ks : List KD} (h : KsOk ks) : OkN 23 (ksD ks) := okN_lst fun d hd => by
  obtain ⟨s, hs, rfl⟩ := List.mem_map.mp hd
  exact okKD (h.ok s hs)
theorem okRs {rs : List RU} (h : RsOk rs) : OkN 5 (rsD rs) := okN_lst fun d hd => by
  obtain ⟨s, hs, rfl⟩ := List.mem_map.mp hd
  exact okRU (h.ok s hs)
theorem eqD_nil (l : List D) : eqD (.lst l) (.lst []) = decide (l.length = 0) := by
  cases l with
  | nil => rfl
  | cons a l => rfl
section
variable {P : Program} {w : World} {K : PySem.W.Frag} {mg : Str → Option Value} {base : Heap}
def uAll : UF := fun ρ R => ∃ rs, ρ = [dat (rsD rs)] ∧ RsOk rs ∧ ∀ s, R (.own (.lst (allD rs))) [s]
def uTooM : UF := fun ρ R => ∃ ks rs st bs, ρ = [dat (wD ks rs st bs)] ∧ WOk ks rs st bs ∧ ∀ s, R (.val (.bl (many ks rs bs))) [s]
theorem sc__law_all : FnScope ["rules", "found", "head", "some", "label", "row"] ["rules"] (defScope s__law_all) := ⟨rfl, rfl, rfl, by decide +kernel, rfl, by decide +kernel, by decide +kernel⟩
theorem ok__law_all (T : Tx K w mg) : FnOk P w K mg base CX0 2 T.a__law_all T.f__law_all ["rules"] (PSp K 1 uAll) := by
  refine fn_mk T.d__law_all.fn sc__law_all (by decide) fun cdv A outer s H E hr => ?_
  refine ⟨_, (fb_cons (fs_set (ps_set (i := 1) sc__law_all.nd rfl (.inl rfl) pe_S) (fe_lst fa_nil))
      (fb_cons (fs_for PassesOwn.never rfl (fi_list (fv 0)) (fg_tup (n := 2) rfl (fgs_cons (fg_name (pg_name (i := 2) sc__law_all.nd rfl (.inr rfl))) (fgs_cons (fg_name (pg_name (i := 3) sc__law_all.nd rfl (.inl rfl))) fgs_nil)))
      (fb_one (fs_expr (fe_mu (mu_extend rfl) PySem.F.slot_list_extend PySem.F.type_list_extend (fv 1) (fa_cons (fe_lc rfl sc__law_all.nd (fi_list (fv 3)) (blkOk_by (own := [("label", 4), ("row", 5)]) (N := ["rules", "found", "head", "some", "label", "row"]) (sc := defScope s__law_all) (by decide +kernel)) (fun _ _ _ _ _ => (fg_tup (n := 2) rfl (fgs_cons (fg_name (pg_name (i := 4) sc__law_all.nd rfl (.inl rfl)) (by intro l e; cases e; decide +kernel)) (fgs_cons (fg_name (pg_name (i := 5) sc__law_all.nd rfl (.inl rfl)) (by intro l e; cases e; decide +kernel)) fgs_nil)))) (fun _ _ _ _ _ => fts_nil) (fun _ _ _ _ _ => (fe_tup (fa_cons (fv 2) (fa_cons (fv 4) (fa_cons (fv 5) fa_nil)))))) fa_nil)))))
      (fb_one (fs_ret (fv 1))))), fun ρ R hl h => ?_⟩
  obtain ⟨rs, rfl, hr', q⟩ := h
  have sz := sz2
  refine ⟨Nat.zero_le _, ?_⟩
  refine ⟨fun i ρ => ∃ (s2 s3 : Sl), ρ = [.sl false true (rsD rs), own (.lst (allD (rs.take i))), s2, s3, .un, .un], ⟨.un, .un, rfl⟩, ?_, ?_⟩
  · rintro i y ρ hi ⟨s2, s3, rfl⟩
    rw [List.getElem?_map] at hi
    obtain ⟨r, hi2, rfl⟩ := Option.map_eq_some_iff.mp hi
    have rr := hr'.ok r (List.mem_of_getElem? hi2)
    have rf := rr.few
    have e1 : rs.take (i + 1) = rs.take i ++ [r] := by rw [List.take_succ, hi2]; rfl
    have la := als_take rs (i + 1)
    have tt : als rs ≤ 1000000 := hr'.tot
    have e2 : allD (rs.take (i + 1)) = allD (rs.take i) ++ r.alts.map (altD r.head) := by rw [e1]; unfold allD; rw [List.flatMap_append]; simp
    have l2 := allD_len (rs.take (i + 1))
    rw [e2, List.length_append, List.length_map] at l2
    refine ⟨rfl, ?_⟩
    refine ⟨fun j acc ρ => acc = (r.alts.take j).map (altD r.head) ∧ ρ = [.sl false true (rsD rs), own (.lst (allD (rs.take i))), dat (.str r.head), dat (.lst (r.alts.map AL.d)), .un, .un], ⟨rfl, rfl⟩, ?_, ?_, ?_⟩
    · rintro j y acc ρ hj ⟨rfl, rfl⟩
      rw [List.getElem?_map] at hj
      obtain ⟨c, hj2, rfl⟩ := Option.map_eq_some_iff.mp hj
      have hjl : j < r.alts.length := (List.getElem?_eq_some_iff.mp hj2).1
      refine ⟨rfl, ?_⟩
      refine ⟨by show 3 ≤ _; omega, ?_⟩
      refine ⟨by rw [List.length_map, List.length_take]; omega, ?_, rfl⟩
      rw [List.take_succ, hj2, List.map_append]; rfl
    · rintro j acc ρ ⟨_, rfl⟩
      exact ⟨_, (rfl : _ = YP.wipeS [.sl false true (rsD rs), own (.lst (allD (rs.take i))), dat (.str r.head), dat (.lst (r.alts.map AL.d)), .un, .un] [4, 5])⟩
    rintro acc ρ ⟨rfl, rfl⟩
    rw [List.length_map, List.take_length]
    refine ⟨?_, dat (.str r.head), dat (.lst (r.alts.map AL.d)), ?_⟩
    · rw [List.length_map]; omega
    · rw [e2]; rfl
  · rintro ρ ⟨s2, s3, rfl⟩
    rw [List.length_map, List.take_length]
    exact q _
theorem sc__law_too_many : FnScope ["world", "kinds", "rules", "start", "barred", "labels", "signs", "head", "label", "row", "one", "pattern", "skipped"] ["world"] (defScope s__law_too_many) := ⟨rfl, rfl, rfl, by decide +kernel, rfl, by decide +kernel, by decide +kernel⟩
theorem ok__law_too_many (T : Tx K w mg) : FnOk P w K mg base CX0 23 T.a__law_too_many T.f__law_too_many ["world"] (PSp K 1 uTooM) := by
  refine fn_mk T.d__law_too_many.fn sc__law_too_many (by decide) fun cdv A outer s H E hr => ?_
  refine ⟨_, (fb_cons (fs_asg (ps_asg pe_S pg_S) (fv 0) (fg_lst (n := 4) rfl (fgs_cons (fg_name (pg_name (i := 1) sc__law_too_many.nd rfl (.inl rfl))) (fgs_cons (fg_name (pg_name (i := 2) sc__law_too_many.nd rfl (.inl rfl))) (fgs_cons (fg_name (pg_name (i := 3) sc__law_too_many.nd rfl (.inl rfl))) (fgs_cons (fg_name (pg_name (i := 4) sc__law_too_many.nd rfl (.inl rfl))) fgs_nil))))))
      (fb_cons (fs_setLc (i := 5) rfl sc__law_too_many.nd rfl rfl (sw_true rfl rfl rfl (by decide +kernel)) (fi_list (fe_call (ok__law_all T) (hr.mono (by omega)) (by rfl) T.d__law_all.at_ T.d__law_all.kp T.d__law_all.bd (fr_val (fv 2) fr_nil))) (blkOk_by (own := [("head", 7), ("label", 8), ("row", 9)]) (N := ["world", "kinds", "rules", "start", "barred", "labels", "signs", "head", "label", "row", "one", "pattern", "skipped"]) (sc := defScope s__law_too_many) (by decide +kernel)) (fun _ _ _ _ _ => (fg_tup (n := 3) rfl (fgs_cons (fg_name (pg_name (i := 7) sc__law_too_many.nd rfl (.inl rfl)) (by intro l e; cases e; decide +kernel)) (fgs_cons (fg_name (pg_name (i := 8) sc__law_too_many.nd rfl (.inl rfl)) (by intro l e; cases e; decide +kernel)) (fgs_cons (fg_name (pg_name (i := 9) sc__law_too_many.nd rfl (.inl rfl)) (by intro l e; cases e; decide +kernel)) fgs_nil))))) (fun _ _ _ _ _ => fts_nil) (fun _ _ _ _ _ => (fv 8)))
      (fb_cons (fs_set (ps_set (i := 6) sc__law_too_many.nd rfl (.inl rfl) pe_S) (fe_b (cb_sum rfl) (by rfl) T.z_sum (by decide +kernel) (fr_ref (fe_lc rfl sc__law_too_many.nd (fi_list (fv 1)) (blkOk_by (own := [("one", 10), ("pattern", 11), ("skipped", 12)]) (N := ["world", "kinds", "rules", "start", "barred", "labels", "signs", "head", "label", "row", "one", "pattern", "skipped"]) (sc := defScope s__law_too_many) (by decide +kernel)) (fun _ _ _ _ _ => (fg_tup (n := 3) rfl (fgs_cons (fg_name (pg_name (i := 10) sc__law_too_many.nd rfl (.inl rfl)) (by intro l e; cases e; decide +kernel)) (fgs_cons (fg_name (pg_name (i := 11) sc__law_too_many.nd rfl (.inl rfl)) (by intro l e; cases e; decide +kernel)) (fgs_cons (fg_name (pg_name (i := 12) sc__law_too_many.nd rfl (.inl rfl)) (by intro l e; cases e; decide +kernel)) fgs_nil))))) (fun _ _ _ _ _ => fts_nil) (fun _ _ _ _ _ => (fe_call (pure_any (N := 20) fun n hn => (ok__law_signs T n).mono (Nat.add_le_add_right hn 2)) (hr.mono (by omega)) (by rfl) T.d__law_signs.at_ T.d__law_signs.kp T.d__law_signs.bd (fr_val (fv 11) fr_nil)))) fr_nil)))
      (fb_cons (fs_if (FW.ft (fw_or (ft_cmp (os_eq (ru hr)) (fv 1) (fe_lst fa_nil)) (fw_or (ft_cmp (os_eq (ru hr)) (fv 2) (fe_lst fa_nil)) (fw_or (ft_cmp os_gt (fe_b cb_len (by rfl) T.z_len (by decide +kernel) (fr_ref (fv 1) fr_nil)) fe_int) (fw_or (ft_cmp os_gt (fv 6) fe_int) (fw_or1 (ft_cmp os_gt (fe_b cb_len (by rfl) T.z_len (by decide +kernel) (fr_ref (fv 2) fr_nil)) fe_int)))))))
      (fb_one (fs_ret fe_bl))
      fb_nil)
      (fb_one (fs_ret (fe_or (fe_cmp os_gt (fe_b cb_len (by rfl) T.z_len (by decide +kernel) (fr_ref (fv 5) fr_nil)) fe_int) (fe_one (fe_cmp os_gt (fe_b cb_len (by rfl) T.z_len (by decide +kernel) (fr_ref (fv 4) fr_nil)) fe_int))))))))), fun ρ R hl h => ?_⟩
  obtain ⟨ks, rs, st, bs, rfl, hw, q⟩ := h
  have sz := sz2
  have lk := hw.ks.few
  have lr := hw.rs.few
  have lb := hw.bs.few
  have tt : als rs ≤ 1000000 := hw.rs.tot
  have l2 := allD_len rs
  refine ⟨rfl, ?_⟩
  refine ⟨List.nodup_nil, rs, rfl, hw.rs, fun s => ?_⟩
  refine ⟨fun i acc ρ => acc.length = i ∧ (i ≤ (allD rs).length → ∃ ls : List Str, acc = ls.map D.str) ∧ ρ = [.sl false true (wD ks rs st bs), dat (ksD ks), dat (rsD rs), dat (.str st), dat (.lst (bs.map BA.d)), .un, .un, .un, .un, .un, .un, .un, .un], ⟨rfl, fun _ => ⟨[], rfl⟩, rfl⟩, ?_, ?_, ?_⟩
  · rintro i y acc ρ hi ⟨rfl, hls, rfl⟩
    obtain ⟨ls, rfl⟩ := hls (Nat.le_of_lt (List.getElem?_eq_some_iff.mp hi).1)
    have hil := (List.getElem?_eq_some_iff.mp hi).1
    obtain ⟨r, hr1, hy⟩ := List.mem_flatMap.mp (List.mem_of_getElem? hi)
    obtain ⟨c, hc, rfl⟩ := List.mem_map.mp hy
    refine ⟨rfl, ?_⟩
    refine ⟨by omega, by simp, fun _ => ⟨ls ++ [c.label], by simp⟩, rfl⟩
  · rintro i acc ρ ⟨_, _, rfl⟩
    exact ⟨_, (rfl : _ = YP.wipeS [.sl false true (wD ks rs st bs), dat (ksD ks), dat (rsD rs), dat (.str st), dat (.lst (bs.map BA.d)), .un, .un, .un, .un, .un, .un, .un, .un] [7, 8, 9])⟩
  rintro acc ρ ⟨hlen, hls, rfl⟩
  obtain ⟨ls, rfl⟩ := hls (Nat.le_refl _)
  rw [l2] at hlen
  refine ⟨fun i acc ρ => acc = (ks.take i).map (fun k => D.int (k.pat.cnt : Nat)) ∧ ρ = [.sl false true (wD ks rs st bs), dat (ksD ks), dat (rsD rs), dat (.str st), dat (.lst (bs.map BA.d)), own (.lst (ls.map D.str)), .un, .un, .un, .un, .un, .un, .un], ⟨rfl, rfl⟩, ?_, ?_, ?_⟩
  · rintro i y acc ρ hi ⟨rfl, rfl⟩
    rw [List.getElem?_map] at hi
    obtain ⟨k, hi2, rfl⟩ := Option.map_eq_some_iff.mp hi
    have hil : i < ks.length := (List.getElem?_eq_some_iff.mp hi2).1
    have kk := hw.ks.ok k (List.mem_of_getElem? hi2)
    refine ⟨rfl, List.nodup_nil, 20, Nat.le_refl _, k.pat, rfl, kk.dp, fun s => ?_⟩
    refine ⟨by rw [List.length_map, List.length_take]; omega, ?_, rfl⟩
    rw [List.take_succ, hi2, List.map_append]; rfl
  · rintro i acc ρ ⟨_, rfl⟩
    exact ⟨_, (rfl : _ = YP.wipeS [.sl false true (wD ks rs st bs), dat (ksD ks), dat (rsD rs), dat (.str st), dat (.lst (bs.map BA.d)), own (.lst (ls.map D.str)), .un, .un, .un, .un, .un, .un, .un] [10, 11, 12])⟩
  rintro acc ρ ⟨rfl, rfl⟩
  rw [List.length_map, List.take_length]
  refine ⟨ks.map fun k => ((k.pat.cnt : Nat) : Int), by rw [List.map_map]; rfl, ?_⟩
  have es : (ks.map fun k => ((k.pat.cnt : Nat) : Int)).sum = ((sgs ks : Nat) : Int) := cast_sum (fun k : KD => k.pat.cnt) ks
  rw [es]
  have okn : okD (.lst []) = true := by decide +kernel
  refine ⟨Nat.zero_le _, (okKs hw.ks).ok, okn, ?_⟩
  have yes : many ks rs bs = true → ∀ s, R (.val (.bl true)) [s] := fun e s => by rw [e] at q; exact q _
  rw [show eqD (ksD ks) (.lst []) = decide ((ks.map KD.d).length = 0) from eqD_nil _, List.length_map]
  by_cases h1 : ks.length = 0
  · rw [decide_eq_true h1]
    exact yes (by simp [many, h1]) _
  rw [decide_eq_false h1]
  refine ⟨Nat.zero_le _, (okRs hw.rs).ok, okn, ?_⟩
  rw [show eqD (rsD rs) (.lst []) = decide ((rs.map RU.d).length = 0) from eqD_nil _, List.length_map]
  by_cases h2 : rs.length = 0
  · rw [decide_eq_true h2]
    exact yes (by simp [many, h2]) _
  rw [decide_eq_false h2]
  show (if decide ((14 : Int) < (((ks.map KD.d).length : Nat) : Int)) = true then _ else _)
  rw [List.length_map]
  by_cases h3 : (14 : Int) < ((ks.length : Nat) : Int)
  · rw [decide_eq_true h3]
    exact yes (by simp [many]; omega) _
  rw [decide_eq_false h3]
  show (if decide ((40 : Int) < ((sgs ks : Nat) : Int)) = true then _ else _)
  by_cases h4 : (40 : Int) < ((sgs ks : Nat) : Int)
  · rw [decide_eq_true h4]
    exact yes (by simp [many]; omega) _
  rw [decide_eq_false h4]
  show (if decide ((40 : Int) < (((rs.map RU.d).length : Nat) : Int)) = true then _ else _)
  rw [List.length_map]
  by_cases h5 : (40 : Int) < ((rs.length : Nat) : Int)
  · rw [decide_eq_true h5]
    exact yes (by simp [many]; omega) _
  rw [decide_eq_false h5]
  show (if decide ((100 : Int) < (((ls.map D.str).length : Nat) : Int)) = true then _ else _)
  rw [hlen]
  by_cases h6 : (100 : Int) < ((als rs : Nat) : Int)
  · rw [decide_eq_true h6]
    exact yes (by simp [many]; omega) _
  rw [decide_eq_false h6]
  show R (.val (.bl (decide ((30 : Int) < (((bs.map BA.d).length : Nat) : Int))))) _
  rw [List.length_map]
  have : many ks rs bs = decide ((30 : Int) < ((bs.length : Nat) : Int)) := by
    by_cases h7 : (30 : Int) < ((bs.length : Nat) : Int)
    · rw [decide_eq_true h7]; simp [many]; omega
    · rw [decide_eq_false h7]; simp [many]; omega
  rw [this] at q
  exact q _
end
end K10
set_option maxRecDepth 100000
set_option maxHeartbeats 2000000
namespace K10
open PySem PySem.Spec PyProof.Rows L2 Yard YP
def nameF (ks : List KD) (rs : List RU) : Option (Str × Str) := match kinF [] ks with
  | some f => some f
  | none => rulF (ks.map KD.name) [] rs
section
variable {P : Program} {w : World} {K : PySem.W.Frag} {mg : Str → Option Value} {base : Heap}
def uNaD : UF := fun ρ R => ∃ ks rs, ρ = [dat (ksD ks), dat (rsD rs)] ∧ KsOk ks ∧ RsOk rs ∧ ks.length ≤ 14 ∧ rs.length ≤ 40 ∧ ∀ s0 s1, (nameF ks rs = none → R (.val .non) [s0, s1]) ∧ (∀ f, nameF ks rs = some f → R (.own (.lst [.str f.1, .str f.2])) [s0, s1])
theorem sc__law_name_due : FnScope ["kinds", "rules", "met", "one", "pattern", "skipped", "labels", "head", "some", "label", "row", "first"] ["kinds", "rules"] (defScope s__law_name_due) := ⟨rfl, rfl, rfl, by decide +kernel, rfl, by decide +kernel, by decide +kernel⟩
theorem ok__law_name_due (T : Tx K w mg) : FnOk P w K mg base CX0 23 T.a__law_name_due T.f__law_name_due ["kinds", "rules"] (PSp K 2 uNaD) := by
  refine fn_mk T.d__law_name_due.fn sc__law_name_due (by decide) fun cdv A outer s H E hr => ?_
  refine ⟨_, (fb_cons (fs_set (ps_set (i := 2) sc__law_name_due.nd rfl (.inl rfl) pe_S) (fe_lst fa_nil))
      (fb_cons (fs_for PassesOwn.never rfl (fi_list (fv 0)) (fg_tup (n := 3) rfl (fgs_cons (fg_name (pg_name (i := 3) sc__law_name_due.nd rfl (.inl rfl))) (fgs_cons (fg_name (pg_name (i := 4) sc__law_name_due.nd rfl (.inl rfl))) (fgs_cons (fg_name (pg_name (i := 5) sc__law_name_due.nd rfl (.inl rfl))) fgs_nil))))
      (fb_cons (fs_if (FW.ft (fw_or (ft_tru (fe_call (ok__law_none T) (hr.mono (by omega)) (by rfl) T.d__law_none.at_ T.d__law_none.kp T.d__law_none.bd (fr_val (fv 3) fr_nil))) (fw_or (ft_cmp (os_in (rv hr)) (fv 3) (fv 2)) (fw_or1 (ft_tru (fe_call (pure_any (N := 20) fun n hn => (ok__law_bare T n).mono (Nat.add_le_add_right hn 2)) (hr.mono (by omega)) (by rfl) T.d__law_bare.at_ T.d__law_bare.kp T.d__law_bare.bd (fr_val (fv 4) fr_nil)))))))
      (fb_one (fs_ret (fe_lst (fa_cons (fe_if (FW.ft (fw_or (ft_tru (fe_call (ok__law_none T) (hr.mono (by omega)) (by rfl) T.d__law_none.at_ T.d__law_none.kp T.d__law_none.bd (fr_val (fv 3) fr_nil))) (fw_or1 (ft_cmp (os_in (rv hr)) (fv 3) (fv 2))))) (fe_ix (fe_lst (fa_cons fe_str (fa_cons fe_str fa_nil))) (fe_bt cb_int (by rfl) T.z_int (by decide +kernel) (fr_ref (fe_call (ok__law_none T) (hr.mono (by omega)) (by rfl) T.d__law_none.at_ T.d__law_none.kp T.d__law_none.bd (fr_val (fv 3) fr_nil)) fr_nil))) fe_str) (fa_cons (fv 3) fa_nil)))))
      fb_nil)
      (fb_one (fs_expr (fe_mu mu_append PySem.F.slot_list_append PySem.F.type_list_append (fv 2) (fa_cons (fv 3) fa_nil))))))
      (fb_cons (fs_set (ps_set (i := 6) sc__law_name_due.nd rfl (.inl rfl) pe_S) (fe_lst fa_nil))
      (fb_cons (fs_for PassesOwn.never rfl (fi_list (fv 1)) (fg_tup (n := 2) rfl (fgs_cons (fg_name (pg_name (i := 7) sc__law_name_due.nd rfl (.inl rfl))) (fgs_cons (fg_name (pg_name (i := 8) sc__law_name_due.nd rfl (.inl rfl))) fgs_nil)))
      (fb_cons (fs_if (FW.ft (fw_or (ft_tru (fe_call (ok__law_none T) (hr.mono (by omega)) (by rfl) T.d__law_none.at_ T.d__law_none.kp T.d__law_none.bd (fr_val (fv 7) fr_nil))) (fw_or (ft_cmp (os_in (rv hr)) (fv 7) (fv 2)) (fw_or1 (ft_cmp (os_eq (ru hr)) (fv 8) (fe_lst fa_nil))))))
      (fb_one (fs_ret (fe_lst (fa_cons (fe_if (FW.ft (fw_or (ft_tru (fe_call (ok__law_none T) (hr.mono (by omega)) (by rfl) T.d__law_none.at_ T.d__law_none.kp T.d__law_none.bd (fr_val (fv 7) fr_nil))) (fw_or1 (ft_cmp (os_in (rv hr)) (fv 7) (fv 2))))) (fe_ix (fe_lst (fa_cons fe_str (fa_cons fe_str fa_nil))) (fe_bt cb_int (by rfl) T.z_int (by decide +kernel) (fr_ref (fe_call (ok__law_none T) (hr.mono (by omega)) (by rfl) T.d__law_none.at_ T.d__law_none.kp T.d__law_none.bd (fr_val (fv 7) fr_nil)) fr_nil))) fe_str) (fa_cons (fv 7) fa_nil)))))
      fb_nil)
      (fb_cons (fs_expr (fe_mu mu_append PySem.F.slot_list_append PySem.F.type_list_append (fv 2) (fa_cons (fv 7) fa_nil)))
      (fb_one (fs_for PassesOwn.never rfl (fi_list (fv 8)) (fg_tup (n := 2) rfl (fgs_cons (fg_name (pg_name (i := 9) sc__law_name_due.nd rfl (.inl rfl))) (fgs_cons (fg_name (pg_name (i := 10) sc__law_name_due.nd rfl (.inl rfl))) fgs_nil)))
      (fb_cons (fs_if (FW.ft (fw_or (ft_tru (fe_call (ok__law_none T) (hr.mono (by omega)) (by rfl) T.d__law_none.at_ T.d__law_none.kp T.d__law_none.bd (fr_val (fv 9) fr_nil))) (fw_or (ft_cmp (os_in (rv hr)) (fv 9) (fv 6)) (fw_or1 (ft_cmp os_gt (fe_b cb_len (by rfl) T.z_len (by decide +kernel) (fr_ref (fv 10) fr_nil)) fe_int)))))
      (fb_cons (fs_set (ps_set (i := 11) sc__law_name_due.nd rfl (.inl rfl) pe_S) (fe_ix (fe_lst (fa_cons fe_str (fa_cons fe_str fa_nil))) (fe_bt cb_int (by rfl) T.z_int (by decide +kernel) (fr_ref (fe_call (ok__law_none T) (hr.mono (by omega)) (by rfl) T.d__law_none.at_ T.d__law_none.kp T.d__law_none.bd (fr_val (fv 9) fr_nil)) fr_nil))))
      (fb_one (fs_ret (fe_lst (fa_cons (fe_if (FW.ft (fw_or (ft_tru (fe_call (ok__law_none T) (hr.mono (by omega)) (by rfl) T.d__law_none.at_ T.d__law_none.kp T.d__law_none.bd (fr_val (fv 9) fr_nil))) (fw_or1 (ft_cmp (os_in (rv hr)) (fv 9) (fv 6))))) (fv 11) fe_str) (fa_cons (fv 9) fa_nil))))))
      fb_nil)
      (fb_one (fs_expr (fe_mu mu_append PySem.F.slot_list_append PySem.F.type_list_append (fv 6) (fa_cons (fv 9) fa_nil))))))))))
      (fb_one (fs_ret fe_non)))))), fun ρ R hl h => ?_⟩
  obtain ⟨ks, rs, rfl, hk, hr', nk, nr, q⟩ := h
  have sz := sz2
  have okl : ∀ l : List Str, (∀ t ∈ l, Tk t) → okD (.lst (l.map D.str)) = true := fun l h => (okN_lst fun d hd => by
    obtain ⟨t, h1, rfl⟩ := List.mem_map.mp hd
    exact okTk (h t h1)).ok
  refine ⟨Nat.zero_le _, ?_⟩
  refine ⟨fun i ρ => ∃ (s3 s4 s5 : Sl), kinF [] ks = kinF ((ks.take i).map KD.name) (ks.drop i) ∧ ρ = [.sl false true (ksD ks), .sl false true (rsD rs), own (.lst (((ks.take i).map KD.name).map D.str)), s3, s4, s5, .un, .un, .un, .un, .un, .un], ⟨.un, .un, .un, rfl, rfl⟩, ?_, ?_⟩
  · rintro i y ρ hi ⟨s3, s4, s5, hw, rfl⟩
    rw [List.getElem?_map] at hi
    obtain ⟨k, hi2, rfl⟩ := Option.map_eq_some_iff.mp hi
    have hil : i < ks.length := (List.getElem?_eq_some_iff.mp hi2).1
    have kk := hk.ok k (List.mem_of_getElem? hi2)
    have e1 : ks.take (i + 1) = ks.take i ++ [k] := by rw [List.take_succ, hi2]; rfl
    rw [drop_at hi2] at hw
    have tks : ∀ t ∈ (ks.take i).map KD.name, Tk t := fun t ht => by
      obtain ⟨z, hz, rfl⟩ := List.mem_map.mp ht
      exact (hk.ok z (List.mem_of_mem_take hz)).tk
    have bad : ∀ f, kinF ((ks.take i).map KD.name) (k :: ks.drop (i + 1)) = some f → nameF ks rs = some f := fun f e => by
      unfold nameF; rw [hw, e]
    refine ⟨rfl, ?_⟩
    refine ⟨List.nodup_nil, k.name, rfl, kk.tk, fun s => ?_⟩
    dsimp only
    rw [wb_no (rs := [.val (.str k.name)]) [s] rfl]
    show (if (!gn k.name) = true then _ else _)
    cases hg : gn k.name with
    | false =>
      have ef := bad ("name", k.name) (by unfold kinF newF; rw [if_pos hg])
      refine ⟨List.nodup_nil, k.name, rfl, kk.tk, fun s => ?_⟩
      dsimp only
      rw [wb_no (rs := [.val (.str k.name)]) [s] rfl]
      show (if (!gn k.name) = true then _ else _)
      rw [hg]
      refine ⟨by show 2 ≤ _; omega, ?_⟩
      refine ⟨List.nodup_nil, k.name, rfl, kk.tk, fun s => ?_⟩
      dsimp only
      rw [wb_no (rs := [.val (.str k.name)]) [s] rfl]
      rw [hg]
      refine ⟨.str "name", atI_nat (j := 1) rfl, by show 2 ≤ _; omega, ?_⟩
      exact (q _ _).2 _ ef
    | true =>
      have ng : ¬ gn k.name = false := by rw [hg]; decide
      refine ⟨(okTk kk.tk).ok, okl _ tks, ?_⟩
      rw [any_strs]
      show (if (false ^^ decide (k.name ∈ (ks.take i).map KD.name)) = true then _ else _)
      by_cases hm : k.name ∈ (ks.take i).map KD.name
      · rw [decide_eq_true hm]
        have ef := bad ("twice", k.name) (by unfold kinF newF; rw [if_neg ng, if_pos hm])
        refine ⟨List.nodup_nil, k.name, rfl, kk.tk, fun s => ?_⟩
        dsimp only
        rw [wb_no (rs := [.val (.str k.name)]) [s] rfl]
        show (if (!gn k.name) = true then _ else _)
        rw [hg]
        refine ⟨(okTk kk.tk).ok, okl _ tks, ?_⟩
        rw [any_strs]
        show (if (false ^^ decide (k.name ∈ (ks.take i).map KD.name)) = true then _ else _)
        rw [decide_eq_true hm]
        refine ⟨by show 2 ≤ _; omega, ?_⟩
        refine ⟨List.nodup_nil, k.name, rfl, kk.tk, fun s => ?_⟩
        dsimp only
        rw [wb_no (rs := [.val (.str k.name)]) [s] rfl]
        rw [hg]
        refine ⟨.str "twice", atI_nat (j := 0) rfl, by show 2 ≤ _; omega, ?_⟩
        exact (q _ _).2 _ ef
      rw [decide_eq_false hm]
      have en : newF k.name ((ks.take i).map KD.name) = none := by unfold newF; rw [if_neg ng, if_neg hm]
      refine ⟨List.nodup_nil, 20, Nat.le_refl _, k.pat, rfl, kk.dp, fun s => ?_⟩
      dsimp only
      rw [wb_no (rs := [.val k.pat.d]) [s] rfl]
      show (if k.pat.bare = true then _ else _)
      cases hb : k.pat.bare with
      | true =>
        have ef := bad ("empty", k.name) (by unfold kinF; rw [en]; exact if_pos hb)
        refine ⟨List.nodup_nil, k.name, rfl, kk.tk, fun s => ?_⟩
        dsimp only
        rw [wb_no (rs := [.val (.str k.name)]) [s] rfl]
        show (if (!gn k.name) = true then _ else _)
        rw [hg]
        refine ⟨(okTk kk.tk).ok, okl _ tks, ?_⟩
        rw [any_strs]
        show (if (false ^^ decide (k.name ∈ (ks.take i).map KD.name)) = true then _ else _)
        rw [decide_eq_false hm]
        refine ⟨by show 2 ≤ _; omega, ?_⟩
        exact (q _ _).2 _ ef
      | false =>
        refine ⟨by rw [List.length_map, List.length_map, List.length_take]; omega, dat (.str k.name), dat k.pat.d, dat (.bl k.skip), ?_, ?_⟩
        · rw [hw, e1, List.map_append]; conv => lhs; unfold kinF
          rw [en]; exact if_neg (by rw [hb]; decide)
        · rw [e1, List.map_append, List.map_append]; rfl
  rintro ρ ⟨s3, s4, s5, hw, rfl⟩
  rw [List.length_map, List.drop_length] at hw
  rw [List.length_map, List.take_length]
  have hk0 : kinF [] ks = none := hw
  have nf : nameF ks rs = rulF (ks.map KD.name) [] rs := by unfold nameF; rw [hk0]
  refine ⟨Nat.zero_le _, ?_⟩
  refine ⟨fun i ρ => ∃ (s3 s4 s5 s7 s8 s9 s10 s11 : Sl), rulF (ks.map KD.name) [] rs = rulF (ks.map KD.name ++ (rs.take i).map RU.head) (labs (rs.take i)) (rs.drop i) ∧
    ρ = [.sl false true (ksD ks), .sl false true (rsD rs), own (.lst ((ks.map KD.name ++ (rs.take i).map RU.head).map D.str)), s3, s4, s5, own (.lst ((labs (rs.take i)).map D.str)), s7, s8, s9, s10, s11], ⟨s3, s4, s5, .un, .un, .un, .un, .un, by rw [List.take_zero, List.map_nil, List.append_nil]; rfl, by rw [List.take_zero, List.map_nil, List.append_nil]; rfl⟩, ?_, ?_⟩
  · rintro i y ρ hi ⟨s3, s4, s5, s7, s8, s9, s10, s11, hw, rfl⟩
    rw [List.getElem?_map] at hi
    obtain ⟨r, hi2, rfl⟩ := Option.map_eq_some_iff.mp hi
    have hil : i < rs.length := (List.getElem?_eq_some_iff.mp hi2).1
    have rr := hr'.ok r (List.mem_of_getElem? hi2)
    have ll := labs_len hr' i
    have rf := rr.few
    rw [drop_at hi2] at hw
    have tks : ∀ t ∈ ks.map KD.name ++ (rs.take i).map RU.head, Tk t := fun t ht => by
      rcases List.mem_append.mp ht with ht | ht
      · obtain ⟨z, hz, rfl⟩ := List.mem_map.mp ht
        exact (hk.ok z hz).tk
      · obtain ⟨z, hz, rfl⟩ := List.mem_map.mp ht
        exact (hr'.ok z (List.mem_of_mem_take hz)).tk
    have tls : ∀ t ∈ labs (rs.take i), Tk t := fun t ht => by
      obtain ⟨z, hz, ht⟩ := List.mem_flatMap.mp ht
      obtain ⟨a, ha, rfl⟩ := List.mem_map.mp ht
      exact ((hr'.ok z (List.mem_of_mem_take hz)).al a ha).tk
    have bad : ∀ f, rulF (ks.map KD.name ++ (rs.take i).map RU.head) (labs (rs.take i)) (r :: rs.drop (i + 1)) = some f → nameF ks rs = some f := fun f e => by
      rw [nf, hw, e]
    refine ⟨rfl, ?_⟩
    refine ⟨List.nodup_nil, r.head, rfl, rr.tk, fun s => ?_⟩
    dsimp only
    rw [wb_no (rs := [.val (.str r.head)]) [s] rfl]
    show (if (!gn r.head) = true then _ else _)
    cases hg : gn r.head with
    | false =>
      have ef := bad ("name", r.head) (by unfold rulF newF; rw [if_pos hg])
      refine ⟨List.nodup_nil, r.head, rfl, rr.tk, fun s => ?_⟩
      dsimp only
      rw [wb_no (rs := [.val (.str r.head)]) [s] rfl]
      show (if (!gn r.head) = true then _ else _)
      rw [hg]
      refine ⟨by show 2 ≤ _; omega, ?_⟩
      refine ⟨List.nodup_nil, r.head, rfl, rr.tk, fun s => ?_⟩
      dsimp only
      rw [wb_no (rs := [.val (.str r.head)]) [s] rfl]
      rw [hg]
      refine ⟨.str "name", atI_nat (j := 1) rfl, by show 2 ≤ _; omega, ?_⟩
      exact (q _ _).2 _ ef
    | true =>
      have ng : ¬ gn r.head = false := by rw [hg]; decide
      refine ⟨(okTk rr.tk).ok, okl _ tks, ?_⟩
      rw [any_strs]
      show (if (false ^^ decide (r.head ∈ ks.map KD.name ++ (rs.take i).map RU.head)) = true then _ else _)
      by_cases hm : r.head ∈ ks.map KD.name ++ (rs.take i).map RU.head
      · rw [decide_eq_true hm]
        have ef := bad ("twice", r.head) (by unfold rulF newF; rw [if_neg ng, if_pos hm])
        refine ⟨List.nodup_nil, r.head, rfl, rr.tk, fun s => ?_⟩
        dsimp only
        rw [wb_no (rs := [.val (.str r.head)]) [s] rfl]
        show (if (!gn r.head) = true then _ else _)
        rw [hg]
        refine ⟨(okTk rr.tk).ok, okl _ tks, ?_⟩
        rw [any_strs]
        show (if (false ^^ decide (r.head ∈ ks.map KD.name ++ (rs.take i).map RU.head)) = true then _ else _)
        rw [decide_eq_true hm]
        refine ⟨by show 2 ≤ _; omega, ?_⟩
        refine ⟨List.nodup_nil, r.head, rfl, rr.tk, fun s => ?_⟩
        dsimp only
        rw [wb_no (rs := [.val (.str r.head)]) [s] rfl]
        rw [hg]
        refine ⟨.str "twice", atI_nat (j := 0) rfl, by show 2 ≤ _; omega, ?_⟩
        exact (q _ _).2 _ ef
      rw [decide_eq_false hm]
      have en : newF r.head (ks.map KD.name ++ (rs.take i).map RU.head) = none := by unfold newF; rw [if_neg ng, if_neg hm]
      have okal : okD (.lst (r.alts.map AL.d)) = true := (okN_lst fun d hd => by
        obtain ⟨t, h1, rfl⟩ := List.mem_map.mp hd
        exact okAL (rr.al t h1)).ok
      refine ⟨Nat.zero_le _, okal, by decide +kernel, ?_⟩
      rw [eqD_nil, List.length_map]
      by_cases h0 : r.alts.length = 0
      · rw [decide_eq_true h0]
        have ef := bad ("bare", r.head) (by unfold rulF; rw [en]; exact if_pos h0)
        refine ⟨List.nodup_nil, r.head, rfl, rr.tk, fun s => ?_⟩
        dsimp only
        rw [wb_no (rs := [.val (.str r.head)]) [s] rfl]
        show (if (!gn r.head) = true then _ else _)
        rw [hg]
        refine ⟨(okTk rr.tk).ok, okl _ tks, ?_⟩
        rw [any_strs]
        show (if (false ^^ decide (r.head ∈ ks.map KD.name ++ (rs.take i).map RU.head)) = true then _ else _)
        rw [decide_eq_false hm]
        refine ⟨by show 2 ≤ _; omega, ?_⟩
        exact (q _ _).2 _ ef
      rw [decide_eq_false h0]
      refine ⟨by rw [List.length_map, List.length_append, List.length_map, List.length_map, List.length_take]; omega, ?_⟩
      refine ⟨fun j ρ => ∃ (s9 s10 s11 : Sl), altF (labs (rs.take i)) r.alts = altF (labs (rs.take i) ++ (r.alts.take j).map AL.label) (r.alts.drop j) ∧
        ρ = [.sl false true (ksD ks), .sl false true (rsD rs), own (.lst ((ks.map KD.name ++ (rs.take i).map RU.head).map D.str ++ [.str r.head])), s3, s4, s5, own (.lst ((labs (rs.take i) ++ (r.alts.take j).map AL.label).map D.str)), dat (.str r.head), dat (.lst (r.alts.map AL.d)), s9, s10, s11], ⟨s9, s10, s11, by rw [List.take_zero, List.map_nil, List.append_nil]; rfl, by rw [List.take_zero, List.map_nil, List.append_nil]; rfl⟩, ?_, ?_⟩
      · rintro j y ρ hj ⟨s9, s10, s11, ha, rfl⟩
        rw [List.getElem?_map] at hj
        obtain ⟨a, hj2, rfl⟩ := Option.map_eq_some_iff.mp hj
        have hjl : j < r.alts.length := (List.getElem?_eq_some_iff.mp hj2).1
        have aa := rr.al a (List.mem_of_getElem? hj2)
        have af := aa.few
        rw [drop_at hj2] at ha
        have bad2 : ∀ f, altF (labs (rs.take i) ++ (r.alts.take j).map AL.label) (a :: r.alts.drop (j + 1)) = some f → nameF ks rs = some f := fun f ef => bad f (by
          unfold rulF; rw [en]; show (if r.alts.length = 0 then _ else _) = _
          rw [if_neg h0, ha, ef])
        have tll : ∀ t ∈ labs (rs.take i) ++ (r.alts.take j).map AL.label, Tk t := fun t ht => by
          rcases List.mem_append.mp ht with ht | ht
          · exact tls t ht
          · obtain ⟨z, hz, rfl⟩ := List.mem_map.mp ht
            exact (rr.al z (List.mem_of_mem_take hz)).tk
        refine ⟨rfl, ?_⟩
        refine ⟨List.nodup_nil, a.label, rfl, aa.tk, fun s => ?_⟩
        dsimp only
        rw [wb_no (rs := [.val (.str a.label)]) [s] rfl]
        show (if (!gn a.label) = true then _ else _)
        cases hg2 : gn a.label with
        | false =>
          have ef := bad2 ("label", a.label) (by unfold altF; exact if_pos hg2)
          refine ⟨by show 2 ≤ _; omega, ?_⟩
          refine ⟨List.nodup_nil, a.label, rfl, aa.tk, fun s => ?_⟩
          dsimp only
          rw [wb_no (rs := [.val (.str a.label)]) [s] rfl]
          rw [hg2]
          refine ⟨.str "label", atI_nat (j := 1) rfl, ?_⟩
          refine ⟨List.nodup_nil, a.label, rfl, aa.tk, fun s => ?_⟩
          dsimp only
          rw [wb_no (rs := [.val (.str a.label)]) [s] rfl]
          show (if (!gn a.label) = true then _ else _)
          rw [hg2]
          refine ⟨by show 2 ≤ _; omega, ?_⟩
          exact (q _ _).2 _ ef
        | true =>
          have ng2 : ¬ gn a.label = false := by rw [hg2]; decide
          refine ⟨(okTk aa.tk).ok, okl _ tll, ?_⟩
          rw [any_strs]
          show (if (false ^^ decide (a.label ∈ labs (rs.take i) ++ (r.alts.take j).map AL.label)) = true then _ else _)
          by_cases hm2 : a.label ∈ labs (rs.take i) ++ (r.alts.take j).map AL.label
          · rw [decide_eq_true hm2]
            have ef := bad2 ("again", a.label) (by unfold altF; rw [if_neg ng2]; exact if_pos hm2)
            refine ⟨by show 2 ≤ _; omega, ?_⟩
            refine ⟨List.nodup_nil, a.label, rfl, aa.tk, fun s => ?_⟩
            dsimp only
            rw [wb_no (rs := [.val (.str a.label)]) [s] rfl]
            rw [hg2]
            refine ⟨.str "again", atI_nat (j := 0) rfl, ?_⟩
            refine ⟨List.nodup_nil, a.label, rfl, aa.tk, fun s => ?_⟩
            dsimp only
            rw [wb_no (rs := [.val (.str a.label)]) [s] rfl]
            show (if (!gn a.label) = true then _ else _)
            rw [hg2]
            refine ⟨(okTk aa.tk).ok, okl _ tll, ?_⟩
            rw [any_strs]
            show (if (false ^^ decide (a.label ∈ labs (rs.take i) ++ (r.alts.take j).map AL.label)) = true then _ else _)
            rw [decide_eq_true hm2]
            refine ⟨by show 2 ≤ _; omega, ?_⟩
            exact (q _ _).2 _ ef
          rw [decide_eq_false hm2]
          show (if decide ((6 : Int) < (((a.row.map D.str).length : Nat) : Int)) = true then _ else _)
          rw [List.length_map]
          by_cases h6 : (6 : Int) < ((a.row.length : Nat) : Int)
          · rw [decide_eq_true h6]
            have ef := bad2 ("long", a.label) (by unfold altF; rw [if_neg ng2, if_neg hm2]; exact if_pos (by omega))
            refine ⟨by show 2 ≤ _; omega, ?_⟩
            refine ⟨List.nodup_nil, a.label, rfl, aa.tk, fun s => ?_⟩
            dsimp only
            rw [wb_no (rs := [.val (.str a.label)]) [s] rfl]
            rw [hg2]
            refine ⟨.str "again", atI_nat (j := 0) rfl, ?_⟩
            refine ⟨List.nodup_nil, a.label, rfl, aa.tk, fun s => ?_⟩
            dsimp only
            rw [wb_no (rs := [.val (.str a.label)]) [s] rfl]
            show (if (!gn a.label) = true then _ else _)
            rw [hg2]
            refine ⟨(okTk aa.tk).ok, okl _ tll, ?_⟩
            rw [any_strs]
            show (if (false ^^ decide (a.label ∈ labs (rs.take i) ++ (r.alts.take j).map AL.label)) = true then _ else _)
            rw [decide_eq_false hm2]
            refine ⟨by show 2 ≤ _; omega, ?_⟩
            exact (q _ _).2 _ ef
          rw [decide_eq_false h6]
          refine ⟨by rw [List.length_map, List.length_append, List.length_map, List.length_take]; omega, dat (.str a.label), dat (.tup (a.row.map D.str)), s11, ?_, ?_⟩
          · rw [ha]; conv => lhs; unfold altF
            rw [if_neg ng2, if_neg hm2, if_neg (by omega : ¬ 6 < a.row.length), List.take_succ, hj2, List.map_append, ← List.append_assoc]; rfl
          · have eL : (labs (rs.take i) ++ (r.alts.take (j + 1)).map AL.label).map D.str = (labs (rs.take i) ++ (r.alts.take j).map AL.label).map D.str ++ [.str a.label] := by rw [List.take_succ, hj2]; simp
            rw [eL]; rfl
      · rintro ρ ⟨s9, s10, s11, ha, rfl⟩
        rw [List.length_map, List.drop_length, List.take_length] at ha
        rw [List.length_map, List.take_length]
        refine ⟨s3, s4, s5, dat (.str r.head), dat (.lst (r.alts.map AL.d)), s9, s10, s11, ?_, ?_⟩
        · rw [hw]; conv => lhs; unfold rulF
          rw [en]; show (if r.alts.length = 0 then _ else _) = _
          rw [if_neg h0, ha]
          show rulF _ _ _ = _
          rw [labs_snoc hi2, List.take_succ, hi2, List.map_append, ← List.append_assoc]; rfl
        · have eH : (ks.map KD.name ++ (rs.take (i + 1)).map RU.head).map D.str = (ks.map KD.name ++ (rs.take i).map RU.head).map D.str ++ [.str r.head] := by rw [List.take_succ, hi2]; simp
          rw [labs_snoc hi2, eH]
  rintro ρ ⟨s3, s4, s5, s7, s8, s9, s10, s11, hw, rfl⟩
  rw [List.length_map, List.drop_length] at hw
  exact (q _ _).1 (by rw [nf, hw]; rfl)
end
end K10
set_option maxRecDepth 100000
set_option maxHeartbeats 4000000
namespace K10
open PySem PySem.Spec PyProof.Rows L2 Yard YP
def allA (rs : List RU) : List (Str × AL) := rs.flatMap fun r => r.alts.map fun a => (r.head, a)
theorem allA_D (rs : List RU) : allD rs = (allA rs).map fun p => altD p.1 p.2 := by
  unfold allD allA; rw [List.map_flatMap]; simp only [List.map_map]; rfl
theorem allA_row (rs : List RU) : rowP rs = (allA rs).map fun p => (p.2.label, p.2.row) := by
  unfold rowP allA; rw [List.map_flatMap]; simp only [List.map_map]; rfl
theorem allA_len (rs : List RU) : (allA rs).length = als rs := by rw [← allD_len, allA_D, List.length_map]
theorem flatMap_flatMap' {α β γ : Type} (f : α → List β) (g : β → List γ) : ∀ l : List α, (l.flatMap f).flatMap g = l.flatMap fun x => (f x).flatMap g
  | [] => rfl
  | a :: l => by rw [List.flatMap_cons, List.flatMap_append, flatMap_flatMap' f g l, List.flatMap_cons]
theorem allA_sym (rs : List RU) : syms rs = (allA rs).flatMap fun p => p.2.row := by
  unfold syms rows allA
  rw [flatMap_flatMap']
  congr 1; funext r
  rw [List.flatMap_map]
def hdP (rs : List RU) : List (Str × List AL) := rs.map fun r => (r.head, r.alts)
def alD (l : List AL) : D := .lst (l.map AL.d)
theorem hd_lab (rs : List RU) (x : Str) : lst? (labP rs) x = (lst? (hdP rs) x).map fun l => l.map AL.label := by
  have : labP rs = (hdP rs).map fun p => (p.1, p.2.map AL.label) := by unfold labP hdP; rw [List.map_map]; rfl
  rw [this]; exact lst?_map (fun l : List AL => l.map AL.label) _ x
theorem hd_some (rs : List RU) (x : Str) : (lst? (hdP rs) x).isSome = decide (x ∈ rs.map RU.head) := by
  have em : (hdP rs).map (·.1) = rs.map RU.head := by unfold hdP; rw [List.map_map]; rfl
  by_cases hx : x ∈ rs.map RU.head
  · rw [decide_eq_true hx]
    cases e : lst? (hdP rs) x with
    | some _ => rfl
    | none => rw [lst?_none, em] at e; exact absurd hx e
  · rw [decide_eq_false hx, lst?_none.mpr (by rw [em]; exact hx)]; rfl
theorem kmerge_bld (l : List (Str × D)) : kmerge [] (l.map fun p => (Sum.inr p.1, p.2)) = bld l := by
  unfold kmerge bld; rw [List.foldl_map]
theorem eqD_sk (x y : Str) (b : Bool) : eqD (.tup [.str y, .bl b]) (.tup [.str x, .bl true]) = (decide (y = x) && b) := by
  have h : eqD (.tup [.str y, .bl b]) (.tup [.str x, .bl true]) = (eqD (.str y) (.str x) && (eqD (.bl b) (.bl true) && true)) := rfl
  rw [h, eqD_str]
  have : eqD (.bl b) (.bl true) = b := by cases b <;> (show eqD _ _ = _) <;> decide +kernel
  rw [this, Bool.and_true]
theorem any_sk (x : Str) (ks : List KD) : ((ks.map fun k => D.tup [.str k.name, .bl k.skip]).any fun z => eqD z (.tup [.str x, .bl true])) = decide (x ∈ skp ks) := by
  unfold skp
  induction ks with
  | nil => rfl
  | cons k ks ih =>
    rw [List.map_cons, List.any_cons, ih, eqD_sk]
    cases hs : k.skip with
    | false => rw [List.filter_cons_of_neg (by rw [hs]; decide)]; simp
    | true =>
      rw [List.filter_cons_of_pos hs, List.map_cons]
      by_cases e : k.name = x
      · subst e; simp
      · have e' : x ≠ k.name := fun z => e z.symm
        simp [e, e']
theorem nums_get {ds : List D} {i : Nat} {y : D} (h : (nums ds)[i]? = some y) : ∃ d, ds[i]? = some d ∧ y = .tup [.int (i : Int), d] := by
  have hi : i < (nums ds).length := (List.getElem?_eq_some_iff.mp h).1
  have hl : (nums ds).length = ds.length := by simp [nums]
  rw [hl] at hi
  refine ⟨ds[i], List.getElem?_eq_getElem hi, ?_⟩
  simp [nums, hi] at h
  exact h.symm
theorem nums_len {ds : List D} : (nums ds).length = ds.length := by simp [nums]
theorem allA_D_len (rs : List RU) : (allA rs).length = (allD rs).length := by rw [allA_D, List.length_map]
theorem allA_ok {rs : List RU} (h : RsOk rs) {p : Str × AL} (hp : p ∈ allA rs) : AOk p.2 := by
  obtain ⟨r, hr, hp⟩ := List.mem_flatMap.mp hp
  obtain ⟨a, ha, rfl⟩ := List.mem_map.mp hp
  exact (h.ok r hr).al a ha
theorem fm_len {rs : List RU} (h : RsOk rs) (i : Nat) : (((allA rs).take i).flatMap fun p => p.2.row).length ≤ 1000 * i := by
  induction i with
  | zero => exact Nat.le_of_eq rfl
  | succ i ih =>
    cases e : (allA rs)[i]? with
    | none => rw [List.take_succ, e]; simp only [Option.toList, List.append_nil]; omega
    | some p =>
      rw [List.take_succ, e, List.flatMap_append, List.length_append]
      have := (allA_ok h (List.mem_of_getElem? e)).few
      simp only [Option.toList, List.flatMap_cons, List.flatMap_nil, List.append_nil]
      omega
section
variable {P : Program} {w : World} {K : PySem.W.Frag} {mg : Str → Option Value} {base : Heap}
def uDue : UF := fun ρ R => ∃ ks rs st bs, ρ = [dat (wD ks rs st bs)] ∧ WOk ks rs st bs ∧ ∀ s, (fault ks rs (some st) bs = none → R (.val .non) [s]) ∧ (∀ f, fault ks rs (some st) bs = some f → R (.own (.lst [.str f.1, f.2])) [s])
theorem sc__law_due : FnScope ["world", "kinds", "rules", "start", "barred", "due", "names", "heads", "rows", "signs", "head", "label", "row", "sign", "at", "one", "place", "other", "inner", "pattern", "skipped"] ["world"] (defScope s__law_due) := ⟨rfl, rfl, rfl, by decide +kernel, rfl, by decide +kernel, by decide +kernel⟩
theorem ok__law_due (T : Tx K w mg) : FnOk P w K mg base CX0 24 T.a__law_due T.f__law_due ["world"] (PSp K 1 uDue) := by
  refine fn_mk T.d__law_due.fn sc__law_due (by decide) fun cdv A outer s H E hr => ?_
  refine ⟨_, (fb_cons (fs_asg (ps_asg pe_S pg_S) (fv 0) (fg_lst (n := 4) rfl (fgs_cons (fg_name (pg_name (i := 1) sc__law_due.nd rfl (.inl rfl))) (fgs_cons (fg_name (pg_name (i := 2) sc__law_due.nd rfl (.inl rfl))) (fgs_cons (fg_name (pg_name (i := 3) sc__law_due.nd rfl (.inl rfl))) (fgs_cons (fg_name (pg_name (i := 4) sc__law_due.nd rfl (.inl rfl))) fgs_nil))))))
      (fb_cons (fs_if (ft_tru (fe_call (ok__law_too_many T) (hr.mono (by omega)) (by rfl) T.d__law_too_many.at_ T.d__law_too_many.kp T.d__law_too_many.bd (fr_val (fv 0) fr_nil)))
      (fb_one (fs_ret (fe_lst (fa_cons fe_str (fa_cons fe_non fa_nil)))))
      fb_nil)
      (fb_cons (fs_set (ps_set (i := 5) sc__law_due.nd rfl (.inl rfl) pe_S) (fe_call (ok__law_name_due T) (hr.mono (by omega)) (by rfl) T.d__law_name_due.at_ T.d__law_name_due.kp T.d__law_name_due.bd (fr_val (fv 1) (fr_val (fv 2) fr_nil))))
      (fb_cons (fs_if (ft_cmp os_isnot (fv 5) fe_non)
      (fb_one (fs_ret (fv 5)))
      fb_nil)
      (fb_cons (fs_setLc (i := 6) rfl sc__law_due.nd rfl rfl (sw_true rfl rfl rfl (by decide +kernel)) (fi_list (fv 1)) (blkOk_by (own := [("one", 15), ("pattern", 19), ("skipped", 20)]) (N := ["world", "kinds", "rules", "start", "barred", "due", "names", "heads", "rows", "signs", "head", "label", "row", "sign", "at", "one", "place", "other", "inner", "pattern", "skipped"]) (sc := defScope s__law_due) (by decide +kernel)) (fun _ _ _ _ _ => (fg_tup (n := 3) rfl (fgs_cons (fg_name (pg_name (i := 15) sc__law_due.nd rfl (.inl rfl)) (by intro l e; cases e; decide +kernel)) (fgs_cons (fg_name (pg_name (i := 19) sc__law_due.nd rfl (.inl rfl)) (by intro l e; cases e; decide +kernel)) (fgs_cons (fg_name (pg_name (i := 20) sc__law_due.nd rfl (.inl rfl)) (by intro l e; cases e; decide +kernel)) fgs_nil))))) (fun _ _ _ _ _ => fts_nil) (fun _ _ _ _ _ => (fv 15)))
      (fb_cons (fs_set (ps_set (i := 7) sc__law_due.nd rfl (.inl rfl) pe_S) (fe_bt (cb_dict rfl) (by rfl) T.z_dict (by decide +kernel) (fr_ref (fv 2) fr_nil)))
      (fb_cons (fs_set (ps_set (i := 8) sc__law_due.nd rfl (.inl rfl) pe_S) (fe_bt (cb_dict rfl) (by rfl) T.z_dict (by decide +kernel) (fr_ref (fe_lc rfl sc__law_due.nd (fi_list (fe_call (ok__law_all T) (hr.mono (by omega)) (by rfl) T.d__law_all.at_ T.d__law_all.kp T.d__law_all.bd (fr_val (fv 2) fr_nil))) (blkOk_by (own := [("head", 10), ("label", 11), ("row", 12)]) (N := ["world", "kinds", "rules", "start", "barred", "due", "names", "heads", "rows", "signs", "head", "label", "row", "sign", "at", "one", "place", "other", "inner", "pattern", "skipped"]) (sc := defScope s__law_due) (by decide +kernel)) (fun _ _ _ _ _ => (fg_tup (n := 3) rfl (fgs_cons (fg_name (pg_name (i := 10) sc__law_due.nd rfl (.inl rfl)) (by intro l e; cases e; decide +kernel)) (fgs_cons (fg_name (pg_name (i := 11) sc__law_due.nd rfl (.inl rfl)) (by intro l e; cases e; decide +kernel)) (fgs_cons (fg_name (pg_name (i := 12) sc__law_due.nd rfl (.inl rfl)) (by intro l e; cases e; decide +kernel)) fgs_nil))))) (fun _ _ _ _ _ => fts_nil) (fun _ _ _ _ _ => (fe_tup (fa_cons (fv 11) (fa_cons (fv 12) fa_nil))))) fr_nil)))
      (fb_cons (fs_set (ps_set (i := 9) sc__law_due.nd rfl (.inl rfl) pe_S) (fe_lst fa_nil))
      (fb_cons (fs_for PassesOwn.never rfl (fi_list (fe_call (ok__law_all T) (hr.mono (by omega)) (by rfl) T.d__law_all.at_ T.d__law_all.kp T.d__law_all.bd (fr_val (fv 2) fr_nil))) (fg_tup (n := 3) rfl (fgs_cons (fg_name (pg_name (i := 10) sc__law_due.nd rfl (.inl rfl))) (fgs_cons (fg_name (pg_name (i := 11) sc__law_due.nd rfl (.inl rfl))) (fgs_cons (fg_name (pg_name (i := 12) sc__law_due.nd rfl (.inl rfl))) fgs_nil))))
      (fb_one (fs_expr (fe_mu (mu_extend rfl) PySem.F.slot_list_extend PySem.F.type_list_extend (fv 9) (fa_cons (fe_bt cb_list (by rfl) T.z_list (by decide +kernel) (fr_ref (fv 12) fr_nil)) fa_nil)))))
      (fb_cons (fs_for PassesOwn.never rfl (fi_list (fv 9)) (fg_name (pg_name (i := 13) sc__law_due.nd rfl (.inl rfl)))
      (fb_cons (fs_if (FW.ft (fw_and (ft_cmp (os_notin (rv hr)) (fv 13) (fv 6)) (fw_and1 (ft_dnotin (rk hr) (fv 13) (fv 7)))))
      (fb_one (fs_ret (fe_lst (fa_cons fe_str (fa_cons (fv 13) fa_nil)))))
      fb_nil)
      (fb_one (fs_if (ft_cmp (os_in (rv hr)) (fe_tup (fa_cons (fv 13) (fa_cons fe_bl fa_nil))) (fe_lc rfl sc__law_due.nd (fi_list (fv 1)) (blkOk_by (own := [("one", 15), ("pattern", 19), ("skipped", 20)]) (N := ["world", "kinds", "rules", "start", "barred", "due", "names", "heads", "rows", "signs", "head", "label", "row", "sign", "at", "one", "place", "other", "inner", "pattern", "skipped"]) (sc := defScope s__law_due) (by decide +kernel)) (fun _ _ _ _ _ => (fg_tup (n := 3) rfl (fgs_cons (fg_name (pg_name (i := 15) sc__law_due.nd rfl (.inl rfl)) (by intro l e; cases e; decide +kernel)) (fgs_cons (fg_name (pg_name (i := 19) sc__law_due.nd rfl (.inl rfl)) (by intro l e; cases e; decide +kernel)) (fgs_cons (fg_name (pg_name (i := 20) sc__law_due.nd rfl (.inl rfl)) (by intro l e; cases e; decide +kernel)) fgs_nil))))) (fun _ _ _ _ _ => fts_nil) (fun _ _ _ _ _ => (fe_tup (fa_cons (fv 15) (fa_cons (fv 20) fa_nil))))))
      (fb_one (fs_ret (fe_lst (fa_cons fe_str (fa_cons (fv 13) fa_nil)))))
      fb_nil))))
      (fb_cons (fs_if (ft_dnotin (rk hr) (fv 3) (fv 7))
      (fb_one (fs_ret (fe_lst (fa_cons fe_str (fa_cons (fv 3) fa_nil)))))
      fb_nil)
      (fb_cons (fs_for PassesOwn.never rfl (fi_enum (by rfl) T.z_enumerate (fa_cons (fv 4) fa_nil)) (fg_tup (n := 2) rfl (fgs_cons (fg_name (pg_name (i := 14) sc__law_due.nd rfl (.inl rfl))) (fgs_cons (fg_tup (n := 3) rfl (fgs_cons (fg_name (pg_name (i := 15) sc__law_due.nd rfl (.inl rfl))) (fgs_cons (fg_name (pg_name (i := 16) sc__law_due.nd rfl (.inl rfl))) (fgs_cons (fg_name (pg_name (i := 17) sc__law_due.nd rfl (.inl rfl))) fgs_nil)))) fgs_nil)))
      (fb_cons (fs_set (ps_set (i := 12) sc__law_due.nd rfl (.inl rfl) pe_S) (fe_dget2 (rk hr) (fv 8) (fv 15) (fe_tup fa_nil)))
      (fb_cons (fs_set (ps_set (i := 18) sc__law_due.nd rfl (.inl rfl) pe_S) (fe_if (ft_not (ft_chain os_le os_le fe_int (fv 16) (fe_b cb_len (by rfl) T.z_len (by decide +kernel) (fr_ref (fv 12) fr_nil)))) (fe_lst fa_nil) (fe_dget2 (rk hr) (fv 7) (fe_ix (fv 12) (fe_op os_sub (fv 16) fe_int)) (fe_lst fa_nil))))
      (fb_one (fs_if (FW.ft (fw_or (ft_cmp (os_in (rv hr)) (fe_tup (fa_cons (fv 15) (fa_cons (fv 16) (fa_cons (fv 17) fa_nil)))) (fe_sl (fv 4) fo_no (fo_int (fv 14)))) (fw_or1 (ft_dnotin (rk hr) (fv 17) (fe_bt (cb_dict rfl) (by rfl) T.z_dict (by decide +kernel) (fr_ref (fv 18) fr_nil))))))
      (fb_one (fs_ret (fe_lst (fa_cons fe_str (fa_cons (fv 15) fa_nil)))))
      fb_nil)))))
      (fb_one (fs_ret fe_non)))))))))))))), fun ρ R hl h => ?_⟩
  obtain ⟨ks, rs, st, bs, rfl, hw, q⟩ := h
  have sz := sz2
  have okl : ∀ l : List Str, (∀ t ∈ l, Tk t) → okD (.lst (l.map D.str)) = true := fun l h => (okN_lst fun d hd => by
    obtain ⟨t, h1, rfl⟩ := List.mem_map.mp hd
    exact okTk (h t h1)).ok
  refine ⟨rfl, ?_⟩
  refine ⟨List.nodup_nil, ks, rs, st, bs, rfl, hw, fun s => ?_⟩
  dsimp only
  rw [wb_no (rs := [.val (wD ks rs st bs)]) [s] rfl]
  show (if many ks rs bs = true then _ else _)
  cases hm : many ks rs bs with
  | true =>
    refine ⟨by show 2 ≤ _; omega, ?_⟩
    exact (q _).2 ("many", .non) (by unfold fault; rw [if_pos hm])
  | false =>
  have fw := few_of hm
  have nm : ¬ many ks rs bs = true := by rw [hm]; decide
  refine ⟨List.nodup_nil, ks, rs, rfl, hw.ks, hw.rs, fw.1, fw.2.1, fun s0 s1 => ⟨fun en => ?_, fun f ef => ?_⟩⟩
  case refine_2 =>
    dsimp only
    have ff : fault ks rs (some st) bs = some (f.1, .str f.2) := by
      unfold fault; rw [if_neg nm]
      unfold nameF at ef
      cases e : kinF [] ks with
      | some g => rw [e] at ef; cases ef; rfl
      | none => rw [e] at ef; show (match rulF _ _ _ with | some f => _ | none => _) = _; rw [show rulF (ks.map KD.name) [] rs = some f from ef]
    exact (q _).2 _ ff
  have k0 : kinF [] ks = none := by
    unfold nameF at en
    cases e : kinF [] ks with
    | some g => rw [e] at en; cases en
    | none => rfl
  have r0 : rulF (ks.map KD.name) [] rs = none := by unfold nameF at en; rw [k0] at en; exact en
  have fe : fault ks rs (some st) bs = match symF (knw ks rs) (skp ks) (syms rs) with
    | some f => some (f.1, D.str f.2)
    | none => if st ∉ rs.map RU.head then some (("begin" : Str), D.str st) else match barF (lst? (rowP rs)) (lst? (labP rs)) [] bs with
      | some x => some (("bar" : Str), D.str x)
      | none => none := by
    unfold fault; rw [if_neg nm, k0]; show (match rulF _ _ _ with | some f => _ | none => _) = _; rw [r0]; rfl
  dsimp only
  rw [wb_no (rs := [.val (ksD ks), .val (rsD rs)]) [s0, s1] rfl]
  refine ⟨fun i acc ρ => acc = ((ks.take i).map KD.name).map D.str ∧ ρ = [.sl false true (wD ks rs st bs), dat (ksD ks), dat (rsD rs), dat (.str st), dat (.lst (bs.map BA.d)), dat .non, .un, .un, .un, .un, .un, .un, .un, .un, .un, .un, .un, .un, .un, .un, .un], ⟨rfl, rfl⟩, ?_, ?_, ?_⟩
  · rintro i y acc ρ hi ⟨rfl, rfl⟩
    rw [List.getElem?_map] at hi
    obtain ⟨k, hi2, rfl⟩ := Option.map_eq_some_iff.mp hi
    have hil : i < ks.length := (List.getElem?_eq_some_iff.mp hi2).1
    refine ⟨rfl, ?_⟩
    refine ⟨by rw [List.length_map, List.length_map, List.length_take]; omega, ?_, rfl⟩
    rw [List.take_succ, hi2, List.map_append, List.map_append]; rfl
  · rintro i acc ρ ⟨_, rfl⟩
    exact ⟨_, (rfl : _ = YP.wipeS [.sl false true (wD ks rs st bs), dat (ksD ks), dat (rsD rs), dat (.str st), dat (.lst (bs.map BA.d)), dat .non, .un, .un, .un, .un, .un, .un, .un, .un, .un, .un, .un, .un, .un, .un, .un] [15, 19, 20])⟩
  rintro acc ρ ⟨rfl, rfl⟩
  rw [List.length_map, List.take_length]
  -- heads
  refine ⟨(hdP rs).map fun p => (.inr p.1, alD p.2), by unfold hdP; rw [List.map_map, List.map_map]; rfl, ?_⟩
  have eh : kmerge [] ((hdP rs).map fun p => ((.inr p.1 : Key), alD p.2)) = bld (ofP alD (hdP rs)) := by
    rw [← kmerge_bld]; unfold ofP; rw [List.map_map]; rfl
  rw [eh]
  -- rows
  have ta : als rs ≤ 100 := by
    have := hm
    unfold many at this
    simp only [Bool.or_eq_false_iff, decide_eq_false_iff_not] at this
    omega
  have la := allA_len rs
  refine ⟨List.nodup_nil, rs, rfl, hw.rs, fun s => ?_⟩
  refine ⟨fun i acc ρ => acc = ((rowP rs).take i).map (fun p => D.tup [.str p.1, tupD p.2]) ∧ ρ = [.sl false true (wD ks rs st bs), dat (ksD ks), dat (rsD rs), dat (.str st), dat (.lst (bs.map BA.d)), dat .non, own (.lst ((ks.map KD.name).map D.str)), own (.dic (bld (ofP alD (hdP rs)))), .un, .un, .un, .un, .un, .un, .un, .un, .un, .un, .un, .un, .un], ⟨rfl, rfl⟩, ?_, ?_, ?_⟩
  · rintro i y acc ρ hi ⟨rfl, rfl⟩
    rw [allA_D, List.getElem?_map] at hi
    obtain ⟨p, hi2, rfl⟩ := Option.map_eq_some_iff.mp hi
    have hil : i < (allA rs).length := (List.getElem?_eq_some_iff.mp hi2).1
    have er : (rowP rs)[i]? = some (p.2.label, p.2.row) := by rw [allA_row, List.getElem?_map, hi2]; rfl
    refine ⟨rfl, ?_⟩
    refine ⟨by show 2 ≤ _; omega, ?_⟩
    refine ⟨by rw [List.length_map, List.length_take]; omega, ?_, rfl⟩
    rw [List.take_succ, er, List.map_append]; rfl
  · rintro i acc ρ ⟨_, rfl⟩
    exact ⟨_, (rfl : _ = YP.wipeS [.sl false true (wD ks rs st bs), dat (ksD ks), dat (rsD rs), dat (.str st), dat (.lst (bs.map BA.d)), dat .non, own (.lst ((ks.map KD.name).map D.str)), own (.dic (bld (ofP alD (hdP rs)))), .un, .un, .un, .un, .un, .un, .un, .un, .un, .un, .un, .un, .un] [10, 11, 12])⟩
  rintro acc ρ ⟨rfl, rfl⟩
  have lr : (rowP rs).length = (allD rs).length := by rw [allA_row, allA_D, List.length_map, List.length_map]
  rw [← lr, List.take_length]
  refine ⟨(rowP rs).map fun p => (.inr p.1, tupD p.2), by rw [List.map_map]; rfl, ?_⟩
  have eR : kmerge [] ((rowP rs).map fun p => ((.inr p.1 : Key), tupD p.2)) = bld (ofP tupD (rowP rs)) := by
    rw [← kmerge_bld]; unfold ofP; rw [List.map_map]; rfl
  rw [eR]
  -- signs
  refine ⟨Nat.zero_le _, ?_⟩
  refine ⟨List.nodup_nil, rs, rfl, hw.rs, fun s => ?_⟩
  refine ⟨fun i ρ => ∃ (s10 s11 s12 : Sl), ρ = [.sl false true (wD ks rs st bs), dat (ksD ks), dat (rsD rs), dat (.str st), dat (.lst (bs.map BA.d)), dat .non, own (.lst ((ks.map KD.name).map D.str)), own (.dic (bld (ofP alD (hdP rs)))), own (.dic (bld (ofP tupD (rowP rs)))), own (.lst ((((allA rs).take i).flatMap fun p => p.2.row).map D.str)), s10, s11, s12, .un, .un, .un, .un, .un, .un, .un, .un], ⟨.un, .un, .un, rfl⟩, ?_, ?_⟩
  · rintro i y ρ hi ⟨s10, s11, s12, rfl⟩
    rw [allA_D, List.getElem?_map] at hi
    obtain ⟨p, hi2, rfl⟩ := Option.map_eq_some_iff.mp hi
    have hil : i < (allA rs).length := (List.getElem?_eq_some_iff.mp hi2).1
    have lf := fm_len hw.rs i
    have aa := allA_ok hw.rs (List.mem_of_getElem? hi2)
    have af := aa.few
    refine ⟨rfl, ?_⟩
    refine ⟨?_, dat (.str p.1), dat (.str p.2.label), dat (.tup (p.2.row.map D.str)), ?_⟩
    · rw [List.length_map, List.length_map]; omega
    · have e3 : (((allA rs).take (i + 1)).flatMap fun p => p.2.row).map D.str = (((allA rs).take i).flatMap fun p => p.2.row).map D.str ++ p.2.row.map D.str := by rw [List.take_succ, hi2, List.flatMap_append]; simp
      rw [e3]; rfl
  rintro ρ ⟨s10, s11, s12, rfl⟩
  rw [← allA_D_len rs, List.take_length, ← allA_sym]
  have tkn : ∀ t ∈ ks.map KD.name, Tk t := fun t ht => by
    obtain ⟨z, hz, rfl⟩ := List.mem_map.mp ht
    exact (hw.ks.ok z hz).tk
  have hks : ∀ x, (kget (bld (ofP alD (hdP rs))) (.inr x)).isSome = decide (x ∈ rs.map RU.head) := fun x => by
    rw [kget_bld, show lst? (ofP alD (hdP rs)) x = (lst? (hdP rs) x).map alD from lst?_map alD _ x, Option.isSome_map, hd_some]
  have tsy : ∀ x ∈ syms rs, Tk x := fun x hx => by
    rw [allA_sym] at hx
    obtain ⟨p, hp, hx⟩ := List.mem_flatMap.mp hx
    exact (allA_ok hw.rs hp).row x hx
  -- the symbols
  refine ⟨fun i ρ => ∃ (s13 : Sl), symF (knw ks rs) (skp ks) (syms rs) = symF (knw ks rs) (skp ks) ((syms rs).drop i) ∧ ρ = [.sl false true (wD ks rs st bs), dat (ksD ks), dat (rsD rs), dat (.str st), dat (.lst (bs.map BA.d)), dat .non, own (.lst ((ks.map KD.name).map D.str)), own (.dic (bld (ofP alD (hdP rs)))), own (.dic (bld (ofP tupD (rowP rs)))), dat (.lst ((syms rs).map D.str)), s10, s11, s12, s13, .un, .un, .un, .un, .un, .un, .un], ⟨.un, rfl, rfl⟩, ?_, ?_⟩
  · rintro i y ρ hi ⟨s13, hs, rfl⟩
    rw [List.getElem?_map] at hi
    obtain ⟨x, hi2, rfl⟩ := Option.map_eq_some_iff.mp hi
    have tx := tsy x (List.mem_of_getElem? hi2)
    rw [drop_at hi2] at hs
    have bad : ∀ f, symF (knw ks rs) (skp ks) (x :: (syms rs).drop (i + 1)) = some f → fault ks rs (some st) bs = some (f.1, .str f.2) := fun f e => by
      rw [fe, hs, e]
    have kn : x ∈ knw ks rs ↔ x ∈ ks.map KD.name ∨ x ∈ rs.map RU.head := List.mem_append
    refine seq_cut (ρ := [.sl false true (wD ks rs st bs), dat (ksD ks), dat (rsD rs), dat (.str st), dat (.lst (bs.map BA.d)), dat .non, own (.lst ((ks.map KD.name).map D.str)), own (.dic (bld (ofP alD (hdP rs)))), own (.dic (bld (ofP tupD (rowP rs)))), dat (.lst ((syms rs).map D.str)), s10, s11, s12, dat (.str x), .un, .un, .un, .un, .un, .un, .un]) (fun ρ => x ∈ knw ks rs ∧ ρ = [.sl false true (wD ks rs st bs), dat (ksD ks), dat (rsD rs), dat (.str st), dat (.lst (bs.map BA.d)), dat .non, own (.lst ((ks.map KD.name).map D.str)), own (.dic (bld (ofP alD (hdP rs)))), own (.dic (bld (ofP tupD (rowP rs)))), dat (.lst ((syms rs).map D.str)), s10, s11, s12, dat (.str x), .un, .un, .un, .un, .un, .un, .un]) ?rest fun rest => ?here
    case here =>
      refine ⟨(okTk tx).ok, okl _ tkn, ?_⟩
      rw [any_strs]
      show (if (true ^^ decide (x ∈ ks.map KD.name)) = true then _ else _)
      by_cases h1 : x ∈ ks.map KD.name
      · rw [decide_eq_true h1]
        exact rest _ ⟨kn.mpr (.inl h1), rfl⟩
      rw [decide_eq_false h1]
      refine ⟨.inr x, rfl, ?_⟩
      rw [hks]
      show (if (true ^^ decide (x ∈ rs.map RU.head)) = true then _ else _)
      by_cases h2 : x ∈ rs.map RU.head
      · rw [decide_eq_true h2]
        exact rest _ ⟨kn.mpr (.inr h2), rfl⟩
      rw [decide_eq_false h2]
      refine ⟨by show 2 ≤ _; omega, ?_⟩
      exact (q _).2 ("symbol", .str x) (bad ("symbol", x) (by unfold symF; rw [if_neg fun z => (kn.mp z).elim h1 h2]))
    rintro ρ ⟨hx, rfl⟩
    refine ⟨by show 2 ≤ _; omega, ?_⟩
    refine ⟨fun i acc ρ => acc = (ks.take i).map (fun k => D.tup [.str k.name, .bl k.skip]) ∧ ρ = [.sl false true (wD ks rs st bs), dat (ksD ks), dat (rsD rs), dat (.str st), dat (.lst (bs.map BA.d)), dat .non, own (.lst ((ks.map KD.name).map D.str)), own (.dic (bld (ofP alD (hdP rs)))), own (.dic (bld (ofP tupD (rowP rs)))), dat (.lst ((syms rs).map D.str)), s10, s11, s12, dat (.str x), .un, .un, .un, .un, .un, .un, .un], ⟨rfl, rfl⟩, ?_, ?_, ?_⟩
    · rintro i y acc ρ hi ⟨rfl, rfl⟩
      rw [List.getElem?_map] at hi
      obtain ⟨k, hi2, rfl⟩ := Option.map_eq_some_iff.mp hi
      have hil : i < ks.length := (List.getElem?_eq_some_iff.mp hi2).1
      refine ⟨rfl, ?_⟩
      refine ⟨by show 2 ≤ _; omega, ?_⟩
      refine ⟨by rw [List.length_map, List.length_take]; omega, ?_, rfl⟩
      rw [List.take_succ, hi2, List.map_append]; rfl
    · rintro i acc ρ ⟨_, rfl⟩
      exact ⟨_, (rfl : _ = YP.wipeS [.sl false true (wD ks rs st bs), dat (ksD ks), dat (rsD rs), dat (.str st), dat (.lst (bs.map BA.d)), dat .non, own (.lst ((ks.map KD.name).map D.str)), own (.dic (bld (ofP alD (hdP rs)))), own (.dic (bld (ofP tupD (rowP rs)))), dat (.lst ((syms rs).map D.str)), s10, s11, s12, dat (.str x), .un, .un, .un, .un, .un, .un, .un] [15, 19, 20])⟩
    rintro acc ρ ⟨rfl, rfl⟩
    rw [List.length_map, List.take_length]
    have o1 : ∀ y : Str, ∀ b : Bool, Tk y → OkN 1 (.tup [.str y, .bl b]) := fun y b hy => okN_tup fun d hd => by
      simp only [List.mem_cons, List.not_mem_nil, or_false] at hd
      rcases hd with rfl | rfl
      · exact okTk hy
      · exact okN_bl
    refine ⟨(o1 x true tx).ok, (okN_lst fun d hd => by
      obtain ⟨k, hk, rfl⟩ := List.mem_map.mp hd
      exact o1 _ _ (hw.ks.ok k hk).tk).ok, ?_⟩
    rw [any_sk]
    show (if (false ^^ decide (x ∈ skp ks)) = true then _ else _)
    by_cases h3 : x ∈ skp ks
    · rw [decide_eq_true h3]
      refine ⟨by show 2 ≤ _; omega, ?_⟩
      exact (q _).2 ("skipped", .str x) (bad ("skipped", x) (by unfold symF; rw [if_pos hx, if_pos h3]))
    rw [decide_eq_false h3]
    refine ⟨dat (.str x), ?_, rfl⟩
    rw [hs]; conv => lhs; unfold symF
    rw [if_pos hx, if_neg h3]
  rintro ρ ⟨s13, hs, rfl⟩
  rw [List.length_map, List.drop_length] at hs
  have s0' : symF (knw ks rs) (skp ks) (syms rs) = none := hs
  rw [s0'] at fe
  -- the beginning
  refine ⟨.inr st, rfl, ?_⟩
  rw [hks]
  show (if (true ^^ decide (st ∈ rs.map RU.head)) = true then _ else _)
  by_cases hb : st ∈ rs.map RU.head
  case neg =>
    rw [decide_eq_false hb]
    refine ⟨by show 2 ≤ _; omega, ?_⟩
    exact (q _).2 ("begin", .str st) (fe.trans (if_pos hb))
  rw [decide_eq_true hb]
  have fe2 : fault ks rs (some st) bs = match barF (lst? (rowP rs)) (lst? (labP rs)) [] bs with
      | some x => some (("bar" : Str), D.str x)
      | none => none := fe.trans (if_neg fun z => z hb)
  -- the bars
  refine ⟨fun i ρ => ∃ (s12 s14 s15 s16 s17 s18 : Sl), barF (lst? (rowP rs)) (lst? (labP rs)) [] bs = barF (lst? (rowP rs)) (lst? (labP rs)) (bs.take i) (bs.drop i) ∧ ρ = [.sl false true (wD ks rs st bs), dat (ksD ks), dat (rsD rs), dat (.str st), dat (.lst (bs.map BA.d)), dat .non, own (.lst ((ks.map KD.name).map D.str)), own (.dic (bld (ofP alD (hdP rs)))), own (.dic (bld (ofP tupD (rowP rs)))), dat (.lst ((syms rs).map D.str)), s10, s11, s12, s13, s14, s15, s16, s17, s18, .un, .un], ⟨s12, .un, .un, .un, .un, .un, rfl, rfl⟩, ?_, ?_⟩
  · rintro i y ρ hi ⟨s12, s14, s15, s16, s17, s18, hbb, rfl⟩
    obtain ⟨d, hd, rfl⟩ := nums_get hi
    rw [List.getElem?_map] at hd
    obtain ⟨b, hi2, rfl⟩ := Option.map_eq_some_iff.mp hd
    have hil : i < bs.length := (List.getElem?_eq_some_iff.mp hi2).1
    have bb := hw.bs.ok b (List.mem_of_getElem? hi2)
    rw [drop_at hi2] at hbb
    refine ⟨rfl, ?_⟩
    have dcr : ∀ x l, lst? (rowP rs) x = some l → l.length ≤ 1000 := fun x l e => by
      have m := lst?_mem e
      obtain ⟨r, hr1, m⟩ := List.mem_flatMap.mp m
      obtain ⟨c, hc, e2⟩ := List.mem_map.mp m
      cases e2
      exact ((hw.rs.ok r hr1).al c hc).few
    have e8 : (kget (bld (ofP tupD (rowP rs))) (.inr b.one)).getD (.tup []) = tupD (rowB (lst? (rowP rs)) b) := by
      rw [kget_bld, show lst? (ofP tupD (rowP rs)) b.one = (lst? (rowP rs) b.one).map tupD from lst?_map tupD _ _]; unfold rowB
      cases lst? (rowP rs) b.one <;> rfl
    have lo := bb.lo
    have hi3 := bb.hi
    have rfew : (rowB (lst? (rowP rs)) b).length ≤ 1000 := by
      unfold rowB
      cases e : lst? (rowP rs) b.one with
      | none => exact Nat.zero_le _
      | some l => exact dcr _ _ e
    refine ⟨rfl, ?_⟩
    refine ⟨Nat.zero_le _, .inr b.one, rfl, ?_⟩
    rw [e8]
    dsimp only [YP.put, List.set]
    refine seq_cut (ρ := [.sl false true (wD ks rs st bs), dat (ksD ks), dat (rsD rs), dat (.str st), dat (.lst (bs.map BA.d)), dat .non, own (.lst ((ks.map KD.name).map D.str)), own (.dic (bld (ofP alD (hdP rs)))), own (.dic (bld (ofP tupD (rowP rs)))), dat (.lst ((syms rs).map D.str)), s10, s11, dat (tupD (rowB (lst? (rowP rs)) b)), s13, dat (.int (i : Int)), dat (.str b.one), dat (.int b.place), dat (.str b.other), s18, .un, .un]) (fun ρ => ∃ (inn : List AL) (o : Bool), inB (lst? (rowP rs)) (lst? (labP rs)) b = decide (b.other ∈ inn.map AL.label) ∧ (∀ a ∈ inn, AOk a) ∧ ρ = [.sl false true (wD ks rs st bs), dat (ksD ks), dat (rsD rs), dat (.str st), dat (.lst (bs.map BA.d)), dat .non, own (.lst ((ks.map KD.name).map D.str)), own (.dic (bld (ofP alD (hdP rs)))), own (.dic (bld (ofP tupD (rowP rs)))), dat (.lst ((syms rs).map D.str)), s10, s11, dat (tupD (rowB (lst? (rowP rs)) b)), s13, dat (.int (i : Int)), dat (.str b.one), dat (.int b.place), dat (.str b.other), .sl o false (alD inn), .un, .un]) ?rest2 fun rest => ?here2
    case here2 =>
      show (if decide ((1 : Int) ≤ b.place) = true then _ else _)
      by_cases h1 : (1 : Int) ≤ b.place
      case neg =>
        rw [decide_eq_false h1]
        refine ⟨Nat.zero_le _, rest _ ⟨[], true, ?_, (fun _ h => nomatch h), rfl⟩⟩
        unfold inB; rw [decide_eq_false (by omega : ¬ (1 ≤ b.place ∧ b.place ≤ ((rowB (lst? (rowP rs)) b).length : Nat)))]; rfl
      rw [decide_eq_true h1]
      show (if (!decide (b.place ≤ ((((rowB (lst? (rowP rs)) b).map D.str).length : Nat) : Int))) = true then _ else _)
      rw [List.length_map]
      by_cases h2 : b.place ≤ (((rowB (lst? (rowP rs)) b).length : Nat) : Int)
      case neg =>
        rw [decide_eq_false h2]
        refine ⟨Nat.zero_le _, rest _ ⟨[], true, ?_, (fun _ h => nomatch h), rfl⟩⟩
        unfold inB; rw [decide_eq_false (by omega : ¬ (1 ≤ b.place ∧ b.place ≤ ((rowB (lst? (rowP rs)) b).length : Nat)))]; rfl
      rw [decide_eq_true h2]
      have l3 : (b.place - 1).toNat < (rowB (lst? (rowP rs)) b).length := by omega
      have e3 : (rowB (lst? (rowP rs)) b)[(b.place - 1).toNat]? = some (rowB (lst? (rowP rs)) b)[(b.place - 1).toNat] := List.getElem?_eq_getElem l3
      generalize hx : (rowB (lst? (rowP rs)) b)[(b.place - 1).toNat] = x at e3
      have e4 : L2.atI ((rowB (lst? (rowP rs)) b).map D.str) (b.place - 1) = some (.str x) := by
        have : b.place - 1 = (((b.place - 1).toNat : Nat) : Int) := by omega
        rw [this]
        exact atI_nat (by rw [List.getElem?_map, e3]; rfl)
      have e5 : (kget (bld (ofP alD (hdP rs))) (.inr x)).getD (.lst []) = alD ((lst? (hdP rs) x).getD []) := by
        rw [kget_bld, show lst? (ofP alD (hdP rs)) x = (lst? (hdP rs) x).map alD from lst?_map alD _ _]
        cases lst? (hdP rs) x <;> rfl
      refine ⟨.str x, e4, ?_⟩
      refine ⟨Nat.zero_le _, .inr x, rfl, ?_⟩
      rw [e5]
      refine rest _ ⟨(lst? (hdP rs) x).getD [], false, ?_, ?_, rfl⟩
      · unfold inB; rw [decide_eq_true (⟨h1, h2⟩ : 1 ≤ b.place ∧ b.place ≤ ((rowB (lst? (rowP rs)) b).length : Nat)), e3, Bool.true_and]
        show decide (b.other ∈ (lst? (labP rs) x).getD []) = _
        rw [hd_lab]
        cases lst? (hdP rs) x <;> rfl
      · intro a ha
        cases e : lst? (hdP rs) x with
        | none => rw [e] at ha; cases ha
        | some l =>
          rw [e] at ha
          obtain ⟨r, hr1, e2⟩ := List.mem_map.mp (lst?_mem e)
          cases e2
          exact (hw.rs.ok r hr1).al a ha
    rintro ρ ⟨inn, o, hin, hok, rfl⟩
    have bad : inB (lst? (rowP rs)) (lst? (labP rs)) b = false ∨ b ∈ bs.take i → fault ks rs (some st) bs = some (("bar" : Str), D.str b.one) := fun e => by
      have : barF (lst? (rowP rs)) (lst? (labP rs)) (bs.take i) (b :: bs.drop (i + 1)) = some b.one := by
        unfold barF; rw [if_neg]; rintro ⟨z1, z2⟩
        rcases e with e | e
        · rw [e] at z1; cases z1
        · exact z2 e
      rw [fe2, hbb, this]
    refine ⟨by show 3 ≤ _; omega, ?_⟩
    have ec : YP.cut (bs.map BA.d) none (some (i : Int)) = (bs.take i).map BA.d := by rw [ycut_to, List.map_take]
    have oc : okD (.lst ((bs.take i).map BA.d)) = true := (okN_lst fun d hd => by
      obtain ⟨t, h1, rfl⟩ := List.mem_map.mp hd
      exact okBA (hw.bs.ok t (List.mem_of_mem_take h1))).ok
    refine ⟨(okBA bb).ok, by rw [ec]; exact oc, ?_⟩
    rw [ec]
    have ea : ((bs.take i).map BA.d).any (fun z => eqD z (D.tup [.str b.one, .int b.place, .str b.other])) = decide (b ∈ bs.take i) := any_BA b _
    rw [ea]
    show (if (false ^^ decide (b ∈ bs.take i)) = true then _ else _)
    by_cases h5 : b ∈ bs.take i
    · rw [decide_eq_true h5]
      refine ⟨by show 2 ≤ _; omega, ?_⟩
      exact (q _).2 ("bar", .str b.one) (bad (.inr h5))
    rw [decide_eq_false h5]
    have ed : kmerge [] ((inn.map fun a => (a.label, tupD a.row)).map fun p => ((.inr p.1 : Key), p.2)) = bld (inn.map fun a => (a.label, tupD a.row)) := kmerge_bld _
    have ei : ∀ x, (kget (bld (inn.map fun a => (a.label, tupD a.row))) (.inr x)).isSome = decide (x ∈ inn.map AL.label) := fun x => by
      rw [kget_bld]
      have em : ((inn.map fun a => (a.label, tupD a.row)).map (·.1)) = inn.map AL.label := by rw [List.map_map]; rfl
      by_cases hx : x ∈ inn.map AL.label
      · rw [decide_eq_true hx]
        cases e : lst? (inn.map fun a => (a.label, tupD a.row)) x with
        | some _ => rfl
        | none => rw [lst?_none, em] at e; exact absurd hx e
      · rw [decide_eq_false hx, lst?_none.mpr (by rw [em]; exact hx)]; rfl
    cases o <;>
    · refine ⟨(inn.map fun a => (a.label, tupD a.row)).map fun p => ((.inr p.1 : Key), p.2), by rw [List.map_map, List.map_map]; rfl, ?_⟩
      rw [ed]
      refine ⟨.inr b.other, rfl, ?_⟩
      rw [ei]
      show (if (true ^^ decide (b.other ∈ inn.map AL.label)) = true then _ else _)
      by_cases h6 : b.other ∈ inn.map AL.label
      · rw [decide_eq_true h6]
        refine ⟨_, _, _, _, _, _, ?_, rfl⟩
        rw [hbb]; conv => lhs; unfold barF
        rw [if_pos ⟨by rw [hin, decide_eq_true h6], h5⟩, List.take_succ, hi2]; rfl
      · rw [decide_eq_false h6]
        refine ⟨by show 2 ≤ _; omega, ?_⟩
        exact (q _).2 ("bar", .str b.one) (bad (.inl (by rw [hin, decide_eq_false h6])))
  rintro ρ ⟨s12, s14, s15, s16, s17, s18, hbb, rfl⟩
  rw [nums_len, List.length_map, List.drop_length] at hbb
  exact (q _).1 (by rw [fe2, hbb]; rfl)
end
end K10
set_option maxRecDepth 100000
set_option maxHeartbeats 2000000
namespace K10
open PySem PySem.Spec PyProof.Rows L2 Yard YP
/-! ### calls of Grammar -/
def bothR (rs qs : List Rv) : List Rv := rs ++ qs
theorem gr_both {K : PySem.W.Frag} : GR K (fun vs zs => vs ++ zs) bothR := ⟨fun _ h => ⟨_, fun _ => rfl, h⟩⟩
theorem kb_both {K : PySem.W.Frag} {w : World} {mg : Str → Option Value} (T : Tx K w mg) : ∃ g : List Value → List Value → List Value, KBn K T.f_Grammar___init__ ["self", "kinds", "rules", "begin", "bars"] 3 ["begin", "bars"] g (fun vs zs => vs ++ zs) := by
  obtain ⟨mv, h⟩ := T.d_Grammar___init__.kbinds0 (ps := ["self", "kinds", "rules", "begin", "bars"]) 3 ["begin", "bars"] [] (fun us _ ws => us ++ ws) (by simp) (fun _ h => nomatch h) (fun r1 _ r3 => r1.append r3)
    fun D doc pm an cdv ct us mv ws l1 l2 l3 => by
      match us, mv, ws, l1, l2, l3 with
      | [a, b, c], [], [d, e], _, _, _ => rfl
  exact ⟨_, h⟩
def noneR (rs qs : List Rv) : List Rv := rs ++ [.val .non, .val (.tup [])]
theorem kb_none {K : PySem.W.Frag} {w : World} {mg : Str → Option Value} (T : Tx K w mg) : ∃ g : List Value → List Value → List Value, KBn K T.f_Grammar___init__ ["self", "kinds", "rules", "begin", "bars"] 3 [] g (fun vs zs => vs ++ [V.non, V.ref T.T_Grammar_bars]) := by
  obtain ⟨mv, h⟩ := T.d_Grammar___init__.kbinds0 (ps := ["self", "kinds", "rules", "begin", "bars"]) 3 [] [("begin", .non), ("bars", .ref T.T_Grammar_bars)] (fun us ms _ => us ++ ms) (by simp) (fun _ h => h) (fun r1 r2 _ => r1.append r2)
    fun D doc pm an cdv ct us mv ws l1 l2 l3 => by
      match us, mv, ws, l1, l2, l3 with
      | [a, b, c], [d, e], [], _, _, _ =>
        exact ⟨_, _, _, _, _, _, rfl, rfl, _, _, _, _, _, _, rfl, rfl, rfl⟩
  exact ⟨_, h⟩
theorem rrs_snoc {K : PySem.W.Frag} {F H : Hp} {ρ : List Sl} {σ : L2.St} : ∀ {B : Addr → Prop} {rs : List Rv} {vs : List V} {qs : List Rv} {zs : List V}, RRs K F H ρ σ B rs vs → (∀ B, RRs K F H ρ σ B qs zs) → RRs K F H ρ σ B (rs ++ qs) (vs ++ zs)
  | _, [], [], _, _, _, k => k _
  | _, [], _ :: _, _, _, h, _ => h.elim
  | _, _ :: _, [], _, _, h, _ => h.elim
  | _, _ :: _, _ :: _, _, _, h, k => ⟨h.1, rrs_snoc h.2 k⟩
theorem gr_none {K : PySem.W.Frag} {T : Addr} (e : ∀ H, SqT K H T []) : GR K (fun vs zs => vs ++ [V.non, V.ref T]) noneR := ⟨fun {F H ρ σ B rs qs vs zs} hl h => by
  refine ⟨vs ++ [V.non, V.ref T], fun _ => rfl, ?_⟩
  have h1 : RRs K F H ρ σ B rs vs := by
    have : ∀ {B : Addr → Prop} {rs : List Rv} {vs : List V} {qs : List Rv} {zs : List V}, rs.length = vs.length → RRs K F H ρ σ B (rs ++ qs) (vs ++ zs) → RRs K F H ρ σ B rs vs := by
      intro B rs
      induction rs generalizing B with
      | nil => intro vs qs zs hl _; cases vs with
        | nil => trivial
        | cons v vs => cases hl
      | cons r rs ih => intro vs qs zs hl h; cases vs with
        | nil => cases hl
        | cons v vs => exact ⟨h.1, ih (Nat.succ.inj hl) h.2⟩
    exact this hl h
  exact rrs_snoc h1 fun B => ⟨.non, .tup (e F) .nil, trivial⟩⟩
section
variable {P : Program} {w : World} {K : PySem.W.Frag} {mg : Str → Option Value} {base : Heap}
def dueD : Option (Str × D) → D
  | none => .non
  | some f => .lst [.str f.1, f.2]
def uTold : UF := fun ρ R => ∃ ks rs st bs, ρ = [dat (wD ks rs st bs)] ∧ WOk ks rs st bs ∧ ∀ s, (fault ks rs (some st) bs = none → R (.val .non) [s]) ∧ (∀ f, fault ks rs (some st) bs = some f → R (.own (.lst [.str f.1, f.2])) [s])
theorem sc__law_told : FnScope ["world", "kinds", "rules", "start", "barred", "e", "others"] ["world"] (defScope s__law_told) := ⟨rfl, rfl, rfl, by decide +kernel, rfl, by decide +kernel, by decide +kernel⟩
theorem ok__law_told (T : Tx K w mg) : FnOk P w K mg base CX0 26 T.a__law_told T.f__law_told ["world"] (PSp K 1 uTold) := by
  refine fn_mk T.d__law_told.fn sc__law_told (by decide) fun cdv A outer s H E hr => ?_
  obtain ⟨gK, kb⟩ := kb_both T
  refine ⟨_, (fb_cons (fs_asg (ps_asg pe_S pg_S) (fv 0) (fg_lst (n := 4) rfl (fgs_cons (fg_name (pg_name (i := 1) sc__law_told.nd rfl (.inl rfl))) (fgs_cons (fg_name (pg_name (i := 2) sc__law_told.nd rfl (.inl rfl))) (fgs_cons (fg_name (pg_name (i := 3) sc__law_told.nd rfl (.inl rfl))) (fgs_cons (fg_name (pg_name (i := 4) sc__law_told.nd rfl (.inl rfl))) fgs_nil))))))
      (fb_cons (fs_never (fsx_try (i := 5) (c := .ref T.c_NoGrammar) (ts := fun a dd C => uSeq (uSet 6 (uIsXT K a dd C (uVar 5) (uTup (uCons (uC (.ref T.c_Barred)) (uCons (uC (.ref T.c_NoLabel)) (uCons (uC (.ref T.c_NoName)) (uCons (uC (.ref T.c_NoText)) (uCons (uC (.ref T.c_NoTree)) (uCons (uC (.ref T.c_TooMany)) uNil)))))))))
          (uRet (uIf (uAnd (uTru (uIsX K a dd C (.ref T.c_YardError) (uVar 5))) (uAnd (uTru (uIsX K a dd C (.type "ValueError") (uVar 5))) (uNot (uTru (uVar 6))))) (uLst (uCons (uXf a dd C "what" (uVar 5)) (uCons (uXf a dd C "name" (uVar 5)) uNil))) (uC (.str "other")))))
        (fun C => C = T.c_NoGrammar) rfl rfl sc__law_told.nd rfl rfl ⟨by rfl, by decide, .inl T.g_NoGrammar⟩
        (fun pn xe hp => fbx_one (fsx_expr (fex_make T.k_Grammar___init__ (ok_Grammar___init__ T) (hr.mono (by omega)) (by rfl) T.g_Grammar kb gr_both (fr_val (fv 1) (fr_val (fv 2) fr_nil)) (fk_val (fv 3) (fk_val (fe_bt cb_tuple (by rfl) T.z_tuple (by decide +kernel) (fr_ref (fv 4) fr_nil)) fk_nil)))))
        (fun a oe C dd pn hC hz hf => by
          subst hC
          exact fb_cons (fs_set (ps_set (i := 6) sc__law_told.nd rfl (.inl rfl) pe_S) (fe_isXT T.x_NoGrammar.is hz hf (by rfl) T.z_isinstance (fv 5) (fe_tup (fa_cons (fe_glob (v := .ref T.c_Barred) (by rfl) T.g_Barred rfl (fun _ => .ref _)) (fa_cons (fe_glob (v := .ref T.c_NoLabel) (by rfl) T.g_NoLabel rfl (fun _ => .ref _)) (fa_cons (fe_glob (v := .ref T.c_NoName) (by rfl) T.g_NoName rfl (fun _ => .ref _)) (fa_cons (fe_glob (v := .ref T.c_NoText) (by rfl) T.g_NoText rfl (fun _ => .ref _)) (fa_cons (fe_glob (v := .ref T.c_NoTree) (by rfl) T.g_NoTree rfl (fun _ => .ref _)) (fa_cons (fe_glob (v := .ref T.c_TooMany) (by rfl) T.g_TooMany rfl (fun _ => .ref _)) fa_nil)))))))))
            (fb_one (fs_ret (fe_if (FW.ft (fw_and (ft_tru (fe_isX (c := .ref T.c_YardError) T.x_NoGrammar.is hz hf (by rfl) T.z_isinstance (fv 5) (pe_glob (by rfl) T.g_YardError rfl) (fun u r => r))) (fw_and (ft_tru (fe_isX (c := .ty "ValueError") T.x_NoGrammar.is hz hf (by rfl) T.z_isinstance (fv 5) (pe_bltn (v := .ty "ValueError") (by rfl) T.z_ValueError (by decide +kernel) rfl (by decide)) (fun u r => r))) (fw_and1 (ft_not (ft_tru (fv 6)))))))
              (fe_lst (fa_cons (fe_xf T.x_NoGrammar.xf T.n_NoGrammar_what hz hf (fv 5)) (fa_cons (fe_xf T.x_NoGrammar.xf T.n_NoGrammar_name hz hf (fv 5)) fa_nil))) fe_str))))))
      (fb_one (fs_ret fe_non)))), fun ρ R hl h => ?_⟩
  -- slots: 0 world, 1 kinds, 2 rules, 3 start, 4 barred, 5 e, 6 others
  obtain ⟨ks, rs, st, bs, rfl, hw, q⟩ := h
  have sz := sz2
  refine ⟨rfl, ?_⟩
  refine ⟨rfl, List.nodup_nil, ks, rs, some st, bs, rfl, hw.ks, hw.rs, hw.bs, (fun x e => by cases e; exact hw.st), fun e ss => ?_, fun f e ss => ?_⟩
  · dsimp only
    rw [wb_no (rs := bothR [.val (ksD ks), .val (rsD rs)] [.val (.str st), .val (.tup (bs.map BA.d))]) ss rfl]
    exact (q _).1 e
  dsimp only
  rw [wb_no (rs := bothR [.val (ksD ks), .val (rsD rs)] [.val (.str st), .val (.tup (bs.map BA.d))]) ss rfl]
  refine ⟨true, T.m_NoGrammar, fun _ => ⟨rfl, fun a dd => ?_⟩, fun z => nomatch z⟩
  have kk : ∀ S : Addr, PySem.W.kitOne K (.ref T.c_NoGrammar) (.ref S) = some false → ∀ r, PySem.W.kitAny K (.ref T.c_NoGrammar) (.ref S :: r) = PySem.W.kitAny K (.ref T.c_NoGrammar) r := fun S h r => by
    show (match PySem.W.kitOne K (.ref T.c_NoGrammar) (.ref S) with | some true => some true | some false => _ | none => none) = _
    rw [h]
  refine ⟨by show 6 ≤ _; omega, fld f.1 f.2, [T.c_Barred, T.c_NoLabel, T.c_NoName, T.c_NoText, T.c_NoTree, T.c_TooMany], false, rfl, rfl, ?_, ?_⟩
  · show PySem.W.kitAny K (.ref T.c_NoGrammar) [.ref T.c_Barred, .ref T.c_NoLabel, .ref T.c_NoName, .ref T.c_NoText, .ref T.c_NoTree, .ref T.c_TooMany] = _
    rw [kk _ T.i_NoGrammar_Barred, kk _ T.i_NoGrammar_NoLabel, kk _ T.i_NoGrammar_NoName, kk _ T.i_NoGrammar_NoText, kk _ T.i_NoGrammar_NoTree, kk _ T.i_NoGrammar_TooMany]; rfl
  refine ⟨fld f.1 f.2, true, rfl, T.i_NoGrammar_YardError, ?_⟩
  refine ⟨fld f.1 f.2, true, rfl, T.v_NoGrammar, ?_⟩
  refine ⟨fld f.1 f.2, .str f.1, rfl, rfl, ?_⟩
  refine ⟨fld f.1 f.2, f.2, rfl, rfl, ?_⟩
  refine ⟨by show 2 ≤ _; omega, ?_⟩
  exact (q _).2 f e
end
end K10
set_option maxRecDepth 100000
set_option maxHeartbeats 2000000
namespace K10
open PySem PySem.Spec PyProof.Rows L2 Yard YP
def JarOk (c : Nat) (d : D) : Prop := ∃ x y z : Int, d = .lst [.int x, .int y, .int z] ∧ 0 ≤ x ∧ 0 ≤ y ∧ y < 2 ^ 210 ∧ 0 ≤ z ∧ z ≤ c
theorem JarOk.mono {c c' : Nat} {d : D} (h : JarOk c d) (n : c ≤ c') : JarOk c' d := by
  obtain ⟨x, y, z, e, a1, a2, a3, a4, a5⟩ := h
  exact ⟨x, y, z, e, a1, a2, a3, a4, by omega⟩
theorem set_val {i : Nat} {d : D} {u : US} {E : En} {ρ : List Sl} (h : u E (ρ.set i (.sl false false d))) : uSeq (uSet i (uC d)) u E ρ := h
section
variable {P : Program} {w : World} {K : PySem.W.Frag} {mg : Str → Option Value} {base : Heap}
def uPurse : UF := fun ρ R => ∃ (ns : List Int) (k : Nat), ρ = [dat (.scr ns), dat (.int (k : Nat))] ∧ k ≤ 100 ∧ ∀ d s0 s1, JarOk 0 d → R (.own d) [s0, s1]
def uDraw : UF := fun ρ R => ∃ (c : Nat) (d : D) (m : Int), ρ = [own d, dat (.int m)] ∧ JarOk c d ∧ 0 < m ∧ m < 1073741824 ∧ c < 1000000 ∧ ∀ (r : Int) d2 s1, 0 ≤ r → r < m → JarOk (c + 1) d2 → R (.val (.int r)) [own d2, s1]
theorem sc__law_purse : FnScope ["script", "k", "cell"] ["script", "k"] (defScope s__law_purse) := ⟨rfl, rfl, rfl, by decide +kernel, rfl, by decide +kernel, by decide +kernel⟩
theorem ok__law_purse (T : Tx K w mg) : FnOk P w K mg base CX0 1 T.a__law_purse T.f__law_purse ["script", "k"] (PSp K 2 uPurse) := by
  refine fn_mk T.d__law_purse.fn sc__law_purse (by decide) fun cdv A outer s H E hr => ?_
  refine ⟨_, (fb_cons (fs_set (ps_set (i := 2) sc__law_purse.nd rfl (.inl rfl) pe_S) fe_int)
      (fb_cons (fs_if (ft_cmp os_lt (fv 1) (fe_b cb_len (by rfl) T.z_len (by decide +kernel) (fr_ref (fv 0) fr_nil)))
      (fb_one (fs_set (ps_set (i := 2) sc__law_purse.nd rfl (.inl rfl) pe_S) (fe_ix (fv 0) (fv 1))))
      fb_nil)
      (fb_one (fs_ret (fe_lst (fa_cons (fe_b (cb_max rfl) (by rfl) T.z_max (by decide +kernel) (fr_ref fe_int (fr_ref (fe_op os_sub (fv 2) (fe_op os_pow fe_int fe_int)) fr_nil))) (fa_cons (fe_op os_add (fe_op os_mod (fv 2) (fe_op os_add (fe_op os_pow fe_int fe_int) fe_int)) (fe_op os_mul fe_int (fv 1))) (fa_cons fe_int fa_nil)))))))), fun ρ R hl h => ?_⟩
  obtain ⟨ns, k, rfl, hk, q⟩ := h
  have sz := sz2
  refine set_val ?_
  refine seq_cut (fun ρ => ∃ c : Int, ρ = [.sl false true (.scr ns), .sl false true (.int (k : Nat)), dat (.int c)]) ?rest fun rest => ?here
  case here =>
    show (if decide ((k : Int) < ((ns.length : Nat) : Int)) = true then _ else _)
    by_cases h1 : (k : Int) < ((ns.length : Nat) : Int)
    · rw [decide_eq_true h1]
      have hl : k < ns.length := by omega
      exact ⟨ns[k], atI_nat (List.getElem?_eq_getElem hl), rest _ ⟨_, rfl⟩⟩
    · rw [decide_eq_false h1]
      exact rest _ ⟨0, rfl⟩
  rintro ρ ⟨c, rfl⟩
  refine ⟨⟨by decide, 4, by decide, by decide, by decide⟩, ?_⟩
  refine ⟨⟨by decide, 4, by decide, by decide, by decide⟩, (by decide : (0 : Int) < 1000000000000000000000000000000000000000000000000000000000007), ?_⟩
  refine ⟨.inl (by decide), by show 3 ≤ _; omega, ?_⟩
  have e60 : (10 : Int) ^ Int.toNat 60 + 7 = 1000000000000000000000000000000000000000000000000000000000007 := by decide
  rw [e60]
  have m1 := Int.emod_nonneg c (b := 1000000000000000000000000000000000000000000000000000000000007) (by decide)
  have m2 := Int.emod_lt_of_pos c (b := 1000000000000000000000000000000000000000000000000000000000007) (by decide)
  refine q _ _ _ ⟨_, _, _, rfl, ?_, ?_, ?_, by decide, by decide⟩
  · split <;> omega
  · show 0 ≤ c % _ + 611953 * (k : Int); omega
  · have e2 : (2 : Int) ^ 210 = 1645504557321206042154969182557350504982735865633579863348609024 := by decide
    show c % _ + 611953 * (k : Int) < _
    omega
theorem sc__law_drawn : FnScope ["purse", "many", "found", "count", "mixed"] ["purse", "many"] (defScope s__law_drawn) := ⟨rfl, rfl, rfl, by decide +kernel, rfl, by decide +kernel, by decide +kernel⟩
theorem ok__law_drawn (T : Tx K w mg) : FnOk P w K mg base CX0 1 T.a__law_drawn T.f__law_drawn ["purse", "many"] (PSp K 2 uDraw) := by
  refine fn_mk T.d__law_drawn.fn sc__law_drawn (by decide) fun cdv A outer s H E hr => ?_
  refine ⟨_, (fb_cons (fs_if (ft_cmp os_gt (fe_ix (fv 0) fe_int) fe_int)
      (fb_cons (fs_set (ps_set (i := 2) sc__law_drawn.nd rfl (.inl rfl) pe_S) (fe_op os_mod (fe_ix (fv 0) fe_int) (fv 1)))
      (fb_cons (fs_putL (ps_asg pe_S (pg_sub pe_S pe_S set_list)) (fe_op os_div (fe_ix (fv 0) fe_int) (fv 1)) (fv 0) fe_int)
      (fb_one (fs_ret (fv 2)))))
      fb_nil)
      (fb_cons (fs_set (ps_set (i := 3) sc__law_drawn.nd rfl (.inl rfl) pe_S) (fe_op os_add (fe_ix (fv 0) fe_int) fe_int))
      (fb_cons (fs_putL (ps_asg pe_S (pg_sub pe_S pe_S set_list)) (fv 3) (fv 0) fe_int)
      (fb_cons (fs_set (ps_set (i := 4) sc__law_drawn.nd rfl (.inl rfl) pe_S) (fe_op os_mod (fe_op os_pow (fe_op os_add (fe_op os_add (fe_ix (fv 0) fe_int) (fe_op os_mul (fe_op os_mul fe_int (fv 3)) (fv 3))) (fe_op os_mul fe_int (fv 3))) fe_int) (fe_op os_add (fe_op os_pow fe_int fe_int) fe_int)))
      (fb_cons (fs_set (ps_set (i := 4) sc__law_drawn.nd rfl (.inl rfl) pe_S) (fe_op os_mod (fe_op os_pow (fe_op os_add (fv 4) (fe_op os_mul fe_int (fv 3))) fe_int) (fe_op os_add (fe_op os_pow fe_int fe_int) fe_int)))
      (fb_one (fs_ret (fe_op os_mod (fe_op os_div (fv 4) fe_int) (fv 1))))))))), fun ρ R hl h => ?_⟩
  obtain ⟨c, d, m, rfl, ⟨x, y, z, rfl, hx, hy, hy2, hz, hzc⟩, h0, h1, hc, q⟩ := h
  refine ⟨.int x, rfl, ?_⟩
  show (if decide ((0 : Int) < x) = true then _ else _)
  by_cases hx1 : (0 : Int) < x
  · rw [decide_eq_true hx1]
    refine ⟨.int x, rfl, h0, .int x, rfl, ⟨h0, h1⟩, 0, rfl, ?_⟩
    exact q _ _ _ (Int.emod_nonneg _ (by omega)) (Int.emod_lt_of_pos _ h0) ⟨_, _, _, rfl, Int.ediv_nonneg hx (by omega), hy, hy2, hz, by omega⟩
  rw [decide_eq_false hx1]
  refine ⟨.int z, rfl, 2, rfl, ?_⟩
  refine ⟨.int y, rfl, ?_⟩
  refine ⟨.inl (by decide), .inr ?_, .inl (by decide), ?_⟩
  · have e0 : (2 : Int) ^ 64 = 18446744073709551616 := by decide
    rw [e0]; constructor <;> omega
  have u1 : (15485863 * (z + 1)) * (z + 1) ≤ 15485863000000 * 1000000 := Int.mul_le_mul (by omega) (by omega) (by omega) (by decide)
  have u0 : 0 ≤ (15485863 * (z + 1)) * (z + 1) := Int.mul_nonneg (by omega) (by omega)
  refine ⟨⟨by decide, 215, ?_, by decide, by decide⟩, ⟨by decide, 4, by decide, by decide, by decide⟩, (by decide : (0 : Int) < 1000000000000000009), ?_⟩
  · show (y + (15485863 * (z + 1)) * (z + 1) + 32452843 * (z + 1)).natAbs < 2 ^ 215
    generalize (15485863 * (z + 1)) * (z + 1) = u at u0 u1 ⊢
    have e1 : (2 : Int) ^ 210 = 1645504557321206042154969182557350504982735865633579863348609024 := by decide
    have e2 : (2 : Nat) ^ 215 = 52656145834278593348959013841835216159447547700274555627155488768 := by decide
    omega
  have e18 : (10 : Int) ^ Int.toNat 18 + 9 = 1000000000000000009 := by decide
  rw [e18]
  generalize (y + (15485863 * (z + 1)) * (z + 1) + 32452843 * (z + 1)) ^ Int.toNat 5 = B
  have m1 := Int.emod_nonneg B (b := 1000000000000000009) (by decide)
  have m2 := Int.emod_lt_of_pos B (b := 1000000000000000009) (by decide)
  refine ⟨.inl (by decide), ⟨by decide, 100, ?_, by decide, by decide⟩, ⟨by decide, 4, by decide, by decide, by decide⟩, (by decide : (0 : Int) < 1000000000000000003), ?_⟩
  · show (B % 1000000000000000009 + 49979687 * (z + 1)).natAbs < 2 ^ 100
    have e2 : (2 : Nat) ^ 100 = 1267650600228229401496703205376 := by decide
    omega
  refine ⟨⟨by decide, by decide⟩, h0, ?_⟩
  exact q _ _ _ (Int.emod_nonneg _ (by omega)) (Int.emod_lt_of_pos _ h0) ⟨_, _, _, rfl, hx, hy, hy2, by omega, by omega⟩
end
end K10
set_option maxRecDepth 100000
set_option maxHeartbeats 2000000
namespace K10
open PySem PySem.Spec PyProof.Rows L2 Yard YP
/-! ### how long a world is when it is shown -/
def strW (s : Str) : Nat := 10 * s.length + 6
def PT.wt : PT → Nat
  | .sg s => 61 + strW s | .em => 61 | .th a b => 65 + a.wt + b.wt | .or a b => 65 + a.wt + b.wt | .ag a => 65 + a.wt | .mo a => 65 + a.wt | .mb a => 65 + a.wt
def KD.wt (k : KD) : Nat := 20 + strW k.name + k.pat.wt
def rowW (r : List Str) : Nat := (r.map strW).sum
def AL.wt (a : AL) : Nat := 12 + strW a.label + rowW a.row
def altW (l : List AL) : Nat := (l.map AL.wt).sum
def RU.wt (r : RU) : Nat := 12 + strW r.head + altW r.alts
def BA.wt (b : BA) : Nat := 20 + strW b.one + strW b.other
def kwt (ks : List KD) : Nat := (ks.map KD.wt).sum
def rwt (rs : List RU) : Nat := (rs.map RU.wt).sum
def bwt (bs : List BA) : Nat := (bs.map BA.wt).sum
def fW : Nat → Nat
  | 0 => 6000
  | n + 1 => 41 * fW n + 2000
def gW : Nat → Nat
  | 0 => 6000
  | n + 1 => 10 * gW n + 2000
theorem sumW_app {α : Type} (f : α → Nat) (a b : List α) : ((a ++ b).map f).sum = (a.map f).sum + (b.map f).sum := by
  rw [List.map_append, List.sum_append]
theorem sumW_told {α : Type} (f : α → Nat) (l : List α) (k : Int) : ((told l k).map f).sum = k.toNat * (l.map f).sum := by
  unfold told
  generalize k.toNat = n
  induction n with
  | zero => simp
  | succ n ih => rw [List.replicate_succ, List.flatten_cons, sumW_app, ih, Nat.succ_mul]; omega
theorem sumW_le {α : Type} (f : α → Nat) (w : Nat) : ∀ l : List α, (∀ a ∈ l, f a ≤ w) → (l.map f).sum ≤ l.length * w
  | [], _ => Nat.zero_le _
  | a :: l, h => by
    have h1 := h a List.mem_cons_self
    have h2 := sumW_le f w l fun z hz => h z (List.mem_cons_of_mem _ hz)
    rw [List.map_cons, List.sum_cons, List.length_cons, Nat.succ_mul]
    omega
theorem sumW_split {α : Type} (f : α → Nat) {l : List α} {i : Nat} {a : α} (h : l[i]? = some a) : (l.map f).sum = ((l.take i).map f).sum + f a + ((l.drop (i + 1)).map f).sum := by
  have e : l.take i ++ [a] ++ l.drop (i + 1) = l := by
    rw [List.append_assoc, List.singleton_append, ← drop_at h, List.take_append_drop]
  conv => lhs; rw [← e]
  rw [sumW_app, sumW_app]
  simp
theorem sumW_sub {α : Type} (f : α → Nat) (l : List α) (i j : Nat) (h : i ≤ j) : ((l.take i).map f).sum + ((l.drop j).map f).sum ≤ (l.map f).sum := by
  have e : (l.map f).sum = ((l.take i).map f).sum + ((l.drop i).map f).sum := by
    rw [← sumW_app, List.take_append_drop]
  have e2 : ((l.drop i).map f).sum = (((l.drop i).take (j - i)).map f).sum + ((l.drop j).map f).sum := by
    rw [← sumW_app]
    have : l.drop j = (l.drop i).drop (j - i) := by rw [List.drop_drop]; congr 1; omega
    rw [this, List.take_append_drop]
  omega
theorem strW_le {s : Str} (h : Tk s) : strW s ≤ 96 := by have := h.few; unfold strW; omega
theorem rowW_le {r : List Str} (h : ∀ s ∈ r, Tk s) : rowW r ≤ r.length * 96 := sumW_le strW 96 r fun s hs => strW_le (h s hs)
theorem AL.wt_le {a : AL} {k : Nat} (h : AOk a) (l : a.row.length ≤ k) : a.wt ≤ 108 + 96 * k := by
  have := rowW_le h.row
  have := strW_le h.tk
  have := Nat.mul_le_mul_right 96 l
  unfold AL.wt
  omega
theorem RU.wt_le {r : RU} {m k : Nat} (h : ROk r) (l : r.alts.length ≤ m) (q : ∀ a ∈ r.alts, a.row.length ≤ k) : r.wt ≤ 108 + m * (108 + 96 * k) := by
  have h1 : altW r.alts ≤ r.alts.length * (108 + 96 * k) := sumW_le AL.wt _ r.alts fun a ha => AL.wt_le (h.al a ha) (q a ha)
  have := strW_le h.tk
  have := Nat.mul_le_mul_right (108 + 96 * k) l
  unfold RU.wt
  omega
theorem BA.wt_le {b : BA} (h : BOk b) : b.wt ≤ 212 := by
  have := strW_le h.t1
  have := strW_le h.t2
  unfold BA.wt
  omega
end K10
set_option maxRecDepth 100000
set_option maxHeartbeats 2000000
namespace K10
open PySem PySem.Spec PyProof.Rows L2 Yard YP
theorem tkW (s : Str) (h : PyData.strOk s = true := by decide +kernel) (k : s.length ≤ 9 := by decide +kernel) : Tk s := ⟨h, k⟩
abbrev odds : List Str := ["", "abcdefghi", "Ab", "word", "skip", "rule", "top", "bar", "a1", "a b", "zz", "_"]
theorem odds_tk : ∀ x ∈ odds, Tk x := by
  intro x hx
  simp only [odds, List.mem_cons, List.not_mem_nil, or_false] at hx
  rcases hx with rfl | rfl | rfl | rfl | rfl | rfl | rfl | rfl | rfl | rfl | rfl | rfl <;> exact tkW _
theorem atI_in {α : Type} {l : List α} {r : Int} (h0 : 0 ≤ r) (h1 : r < (l.length : Nat)) : ∃ x, x ∈ l ∧ L2.atI l r = some x := by
  obtain ⟨n, rfl⟩ : ∃ n : Nat, r = n := ⟨r.toNat, by omega⟩
  have hn : n < l.length := by omega
  exact ⟨l[n], List.getElem_mem hn, atI_nat (List.getElem?_eq_getElem hn)⟩
section
variable {P : Program} {w : World} {K : PySem.W.Frag} {mg : Str → Option Value} {base : Heap}
def uStrg : UF := fun ρ R => ∃ (c : Nat) (d : D) (ns : List Str), ρ = [own d, dat (.lst (ns.map D.str))] ∧ JarOk c d ∧ c < 1000000 ∧ (∀ n ∈ ns, Tk n) ∧ ns.length ≤ 1500000 ∧ ∀ (x : Str) d2 s1, Tk x → JarOk (c + 1) d2 → R (.val (.str x)) [own d2, s1]
def uANm : UF := fun ρ R => ∃ ks rs st bs, ρ = [dat (wD ks rs st bs)] ∧ WOk ks rs st bs ∧ ∀ (ns : List Str) s, (∀ n ∈ ns, Tk n) → ns.length ≤ 1300000 → R (.own (.lst (ns.map D.str))) [s]
theorem sc__law_strange : FnScope ["purse", "some", "odd"] ["purse", "some"] (defScope s__law_strange) := ⟨rfl, rfl, rfl, by decide +kernel, rfl, by decide +kernel, by decide +kernel⟩
theorem ok__law_strange (T : Tx K w mg) : FnOk P w K mg base CX0 2 T.a__law_strange T.f__law_strange ["purse", "some"] (PSp K 2 uStrg) := by
  refine fn_mk T.d__law_strange.fn sc__law_strange (by decide) fun cdv A outer s H E hr => ?_
  refine ⟨_, (fb_cons (fs_set (ps_set (i := 2) sc__law_strange.nd rfl (.inl rfl) pe_S) (fe_lst (fa_cons fe_str (fa_cons fe_str (fa_cons fe_str (fa_cons fe_str (fa_cons fe_str (fa_cons fe_str (fa_cons fe_str (fa_cons fe_str (fa_cons fe_str (fa_cons fe_str (fa_cons fe_str (fa_cons fe_str fa_nil))))))))))))))
      (fb_one (fs_ret (fe_ix (fe_op os_add (fv 2) (fv 1)) (fe_call (ok__law_drawn T) (hr.mono (by omega)) (by rfl) T.d__law_drawn.at_ T.d__law_drawn.kp T.d__law_drawn.bd (fr_ref (fv 0) (fr_val (fe_op os_add fe_int (fe_b cb_len (by rfl) T.z_len (by decide +kernel) (fr_ref (fv 1) fr_nil))) fr_nil))))))), fun ρ R hl h => ?_⟩
  obtain ⟨c, d, ns, rfl, hj, hc, hn, hl2, q⟩ := h
  have sz := sz2
  refine ⟨by show 12 ≤ _; omega, ?_⟩
  have ez : sizeLine = 16777216 := sizeLine_eq
  refine ⟨by rw [List.length_map]; show 12 + _ ≤ _; omega, ?_⟩
  refine ⟨nd1 _, c, d, 12 + ((ns.length : Nat) : Int), by rw [List.length_map]; rfl, hj, by omega, by omega, hc, fun r d2 s1 r0 r1 j2 => ?_⟩
  have e2 : ([D.str "", D.str "abcdefghi", D.str "Ab", D.str "word", D.str "skip", D.str "rule", D.str "top", D.str "bar", D.str "a1", D.str "a b", D.str "zz", D.str "_"] ++ ns.map D.str) = (odds ++ ns).map D.str := by rw [List.map_append]; rfl
  obtain ⟨x, hx, ex⟩ := atI_in (l := (odds ++ ns).map D.str) r0 (by rw [List.length_map, List.length_append]; show r < ((12 + ns.length : Nat) : Int); omega)
  obtain ⟨y, hy, rfl⟩ := List.mem_map.mp hx
  rw [e2]
  refine ⟨_, ex, ?_⟩
  exact q _ _ _ ((List.mem_append.mp hy).elim (odds_tk _) (hn _)) j2
theorem sc__law_all_names : FnScope ["world", "kinds", "rules", "start", "barred", "labels", "head", "label", "row", "one", "some"] ["world"] (defScope s__law_all_names) := ⟨rfl, rfl, rfl, by decide +kernel, rfl, by decide +kernel, by decide +kernel⟩
theorem ok__law_all_names (T : Tx K w mg) : FnOk P w K mg base CX0 3 T.a__law_all_names T.f__law_all_names ["world"] (PSp K 1 uANm) := by
  refine fn_mk T.d__law_all_names.fn sc__law_all_names (by decide) fun cdv A outer s H E hr => ?_
  refine ⟨_, (fb_cons (fs_asg (ps_asg pe_S pg_S) (fv 0) (fg_lst (n := 4) rfl (fgs_cons (fg_name (pg_name (i := 1) sc__law_all_names.nd rfl (.inl rfl))) (fgs_cons (fg_name (pg_name (i := 2) sc__law_all_names.nd rfl (.inl rfl))) (fgs_cons (fg_name (pg_name (i := 3) sc__law_all_names.nd rfl (.inl rfl))) (fgs_cons (fg_name (pg_name (i := 4) sc__law_all_names.nd rfl (.inl rfl))) fgs_nil))))))
      (fb_cons (fs_setLc (i := 5) rfl sc__law_all_names.nd rfl rfl (sw_true rfl rfl rfl (by decide +kernel)) (fi_list (fe_call (ok__law_all T) (hr.mono (by omega)) (by rfl) T.d__law_all.at_ T.d__law_all.kp T.d__law_all.bd (fr_val (fv 2) fr_nil))) (blkOk_by (own := [("head", 6), ("label", 7), ("row", 8)]) (N := ["world", "kinds", "rules", "start", "barred", "labels", "head", "label", "row", "one", "some"]) (sc := defScope s__law_all_names) (by decide +kernel)) (fun _ _ _ _ _ => (fg_tup (n := 3) rfl (fgs_cons (fg_name (pg_name (i := 6) sc__law_all_names.nd rfl (.inl rfl)) (by intro l e; cases e; decide +kernel)) (fgs_cons (fg_name (pg_name (i := 7) sc__law_all_names.nd rfl (.inl rfl)) (by intro l e; cases e; decide +kernel)) (fgs_cons (fg_name (pg_name (i := 8) sc__law_all_names.nd rfl (.inl rfl)) (by intro l e; cases e; decide +kernel)) fgs_nil))))) (fun _ _ _ _ _ => fts_nil) (fun _ _ _ _ _ => (fv 7)))
      (fb_one (fs_ret (fe_op os_add (fe_op os_add (fe_lc rfl sc__law_all_names.nd (fi_list (fv 1)) (blkOk_by (own := [("one", 9)]) (N := ["world", "kinds", "rules", "start", "barred", "labels", "head", "label", "row", "one", "some"]) (sc := defScope s__law_all_names) (by decide +kernel)) (fun _ _ _ _ _ => (fg_name (pg_name (i := 9) sc__law_all_names.nd rfl (.inl rfl)) (by intro l e; cases e; decide +kernel))) (fun _ _ _ _ _ => fts_nil) (fun _ _ _ _ _ => (fe_ix (fv 9) fe_int))) (fe_lc rfl sc__law_all_names.nd (fi_list (fv 2)) (blkOk_by (own := [("head", 6), ("some", 10)]) (N := ["world", "kinds", "rules", "start", "barred", "labels", "head", "label", "row", "one", "some"]) (sc := defScope s__law_all_names) (by decide +kernel)) (fun _ _ _ _ _ => (fg_tup (n := 2) rfl (fgs_cons (fg_name (pg_name (i := 6) sc__law_all_names.nd rfl (.inl rfl)) (by intro l e; cases e; decide +kernel)) (fgs_cons (fg_name (pg_name (i := 10) sc__law_all_names.nd rfl (.inl rfl)) (by intro l e; cases e; decide +kernel)) fgs_nil)))) (fun _ _ _ _ _ => fts_nil) (fun _ _ _ _ _ => (fv 6)))) (fv 5)))))), fun ρ R hl h => ?_⟩
  obtain ⟨ks, rs, st, bs, rfl, hw, q⟩ := h
  have sz := sz2
  have ez : sizeLine = 16777216 := sizeLine_eq
  have lk := hw.ks.few
  have lr := hw.rs.few
  have tt : als rs ≤ 1000000 := hw.rs.tot
  have l2 := allA_len rs
  refine ⟨rfl, ?_⟩
  refine ⟨List.nodup_nil, rs, rfl, hw.rs, fun s => ?_⟩
  refine ⟨fun i acc ρ => acc = ((allA rs).take i).map (fun p => D.str p.2.label) ∧ ρ = [.sl false true (wD ks rs st bs), dat (ksD ks), dat (rsD rs), dat (.str st), dat (.lst (bs.map BA.d)), .un, .un, .un, .un, .un, .un], ⟨rfl, rfl⟩, ?_, ?_, ?_⟩
  · rintro i y acc ρ hi ⟨rfl, rfl⟩
    rw [allA_D, List.getElem?_map] at hi
    obtain ⟨p, hi2, rfl⟩ := Option.map_eq_some_iff.mp hi
    have hil : i < (allA rs).length := (List.getElem?_eq_some_iff.mp hi2).1
    refine ⟨rfl, ?_⟩
    refine ⟨by rw [List.length_map, List.length_take]; omega, ?_, rfl⟩
    rw [List.take_succ, hi2, List.map_append]; rfl
  · rintro i acc ρ ⟨_, rfl⟩
    exact ⟨_, (rfl : _ = YP.wipeS [.sl false true (wD ks rs st bs), dat (ksD ks), dat (rsD rs), dat (.str st), dat (.lst (bs.map BA.d)), .un, .un, .un, .un, .un, .un] [6, 7, 8])⟩
  rintro acc ρ ⟨rfl, rfl⟩
  rw [← allA_D_len rs, List.take_length]
  refine ⟨fun i acc ρ => acc = ((ks.take i).map KD.name).map D.str ∧ ρ = [.sl false true (wD ks rs st bs), dat (ksD ks), dat (rsD rs), dat (.str st), dat (.lst (bs.map BA.d)), own (.lst ((allA rs).map fun p => D.str p.2.label)), .un, .un, .un, .un, .un], ⟨rfl, rfl⟩, ?_, ?_, ?_⟩
  · rintro i y acc ρ hi ⟨rfl, rfl⟩
    rw [List.getElem?_map] at hi
    obtain ⟨k, hi2, rfl⟩ := Option.map_eq_some_iff.mp hi
    have hil : i < ks.length := (List.getElem?_eq_some_iff.mp hi2).1
    refine ⟨.str k.name, atI_nat (j := 0) rfl, ?_⟩
    refine ⟨by rw [List.length_map, List.length_map, List.length_take]; omega, ?_, rfl⟩
    rw [List.take_succ, hi2, List.map_append, List.map_append]; rfl
  · rintro i acc ρ ⟨_, rfl⟩
    exact ⟨_, (rfl : _ = YP.wipeS [.sl false true (wD ks rs st bs), dat (ksD ks), dat (rsD rs), dat (.str st), dat (.lst (bs.map BA.d)), own (.lst ((allA rs).map fun p => D.str p.2.label)), .un, .un, .un, .un, .un] [9])⟩
  rintro acc ρ ⟨rfl, rfl⟩
  rw [List.length_map, List.take_length]
  refine ⟨fun i acc ρ => acc = ((rs.take i).map RU.head).map D.str ∧ ρ = [.sl false true (wD ks rs st bs), dat (ksD ks), dat (rsD rs), dat (.str st), dat (.lst (bs.map BA.d)), own (.lst ((allA rs).map fun p => D.str p.2.label)), .un, .un, .un, .un, .un], ⟨rfl, rfl⟩, ?_, ?_, ?_⟩
  · rintro i y acc ρ hi ⟨rfl, rfl⟩
    rw [List.getElem?_map] at hi
    obtain ⟨k, hi2, rfl⟩ := Option.map_eq_some_iff.mp hi
    have hil : i < rs.length := (List.getElem?_eq_some_iff.mp hi2).1
    refine ⟨rfl, ?_⟩
    refine ⟨by rw [List.length_map, List.length_map, List.length_take]; omega, ?_, rfl⟩
    rw [List.take_succ, hi2, List.map_append, List.map_append]; rfl
  · rintro i acc ρ ⟨_, rfl⟩
    exact ⟨_, (rfl : _ = YP.wipeS [.sl false true (wD ks rs st bs), dat (ksD ks), dat (rsD rs), dat (.str st), dat (.lst (bs.map BA.d)), own (.lst ((allA rs).map fun p => D.str p.2.label)), .un, .un, .un, .un, .un] [6, 10])⟩
  rintro acc ρ ⟨rfl, rfl⟩
  rw [List.length_map, List.take_length]
  refine ⟨by simp only [List.length_map]; omega, ?_⟩
  refine ⟨by simp only [List.length_map, List.length_append]; omega, ?_⟩
  have e : (ks.map KD.name).map D.str ++ (rs.map RU.head).map D.str ++ (allA rs).map (fun p => D.str p.2.label) = (ks.map KD.name ++ rs.map RU.head ++ (allA rs).map fun p => p.2.label).map D.str := by
    rw [List.map_append, List.map_append, List.map_map (f := fun p : Str × AL => p.2.label)]; rfl
  rw [e]
  refine q _ _ (fun n hn => ?_) ?_
  · rcases List.mem_append.mp hn with hn | hn
    · rcases List.mem_append.mp hn with hn | hn
      · obtain ⟨z, hz, rfl⟩ := List.mem_map.mp hn
        exact (hw.ks.ok z hz).tk
      · obtain ⟨z, hz, rfl⟩ := List.mem_map.mp hn
        exact (hw.rs.ok z hz).tk
    · obtain ⟨z, hz, rfl⟩ := List.mem_map.mp hn
      exact (allA_ok hw.rs hz).tk
  · rw [List.length_append, List.length_append, List.length_map, List.length_map, List.length_map]; omega
end
end K10
set_option maxRecDepth 100000
set_option maxHeartbeats 2000000
namespace K10
open PySem PySem.Spec PyProof.Rows L2 Yard YP
/-! ### unlike names -/
def L (i : Nat) : Nat := 97 + i % 26
theorem app_cps (x y : Str) : (x ++ y).cps.toList = x.cps.toList ++ y.cps.toList := by
  obtain ⟨a⟩ := x
  obtain ⟨b⟩ := y
  show (a ++ b).toList = _
  exact Array.toList_append
theorem add_toS (a b : List Nat) : toS a ++ toS b = toS (a ++ b) := by
  rw [← toS_of (toS a ++ toS b), app_cps]; rfl
theorem ltr_len : ltr.length = 26 := by decide +kernel
theorem ltr_lenL : ltr.cps.toList.length = 26 := by decide +kernel
theorem ltr_get (i : Nat) : ltr.cps.toList[i % 26]? = some (L i) := by
  have : ∀ j : Fin 26, ltr.cps.toList[j.val]? = some (97 + j.val) := by decide +kernel
  exact this ⟨i % 26, Nat.mod_lt _ (by decide)⟩
theorem ltr_atI {i : Nat} {x : Int} (h : x = ((i % 26 : Nat) : Int)) : L2.atI ltr.cps.toList x = some (L i) := by
  rw [h]; exact atI_nat (ltr_get i)
def Lt (z : Nat) : Prop := 97 ≤ z ∧ z ≤ 122
theorem L_lt (i : Nat) : Lt (L i) := ⟨by unfold L; omega, by unfold L; omega⟩
theorem Lt_mem {z : Nat} (h : Lt z) : z ∈ ltr.cps.toList := by
  have : ∀ j : Fin 26, 97 + j.val ∈ ltr.cps.toList := by decide +kernel
  have e := this ⟨z - 97, by have := h.1; have := h.2; omega⟩
  have : 97 + (z - 97) = z := by have := h.1; omega
  rwa [this] at e
theorem cutS_to (l : List Nat) (k : Nat) : cutS (toS l) none (some (k : Int)) = toS (l.take k) := by
  unfold cutS
  rw [HT.sIx_none, HT.sIx_nat, toS_len, toS_cps]
  show toS ((l.drop 0).take (min k l.length - 0)) = _
  rw [List.drop_zero, Nat.sub_zero]
  rcases Nat.le_total k l.length with h | h
  · rw [Nat.min_eq_left h]
  · rw [Nat.min_eq_right h, List.take_length, List.take_of_length_le h]
theorem cutS_from (l : List Nat) (k : Nat) : cutS (toS l) (some (k : Int)) none = toS (l.drop k) := by
  unfold cutS
  rw [HT.sIx_none, HT.sIx_nat, toS_len, toS_cps]
  show toS ((l.drop (min k l.length)).take (l.length - min k l.length)) = _
  rcases Nat.le_total k l.length with h | h
  · rw [Nat.min_eq_left h, List.take_of_length_le (by rw [List.length_drop]; omega)]
  · rw [Nat.min_eq_right h, List.drop_length, List.drop_of_length_le h]; simp
def nmL (sty : Nat) (stem : List Nat) (at_ sh k : Nat) : List Nat := if sty = 1 then stem.take at_ ++ ([L (sh + k), L sh] ++ stem.drop at_) else if sty = 2 then [L (sh + k)] else [L (sh + k), L sh]
structure NmOk (n : Nat) (ns : List Str) : Prop where
  len : ns.length = n
  gd : ∀ x ∈ ns, gn x = true ∧ Tk x ∧ x.length ≠ 3
  nd : ns.Nodup
theorem nm_lt {sty : Nat} {stem : List Nat} {at_ sh k : Nat} (h : ∀ z ∈ stem, Lt z) : ∀ z ∈ nmL sty stem at_ sh k, Lt z := by
  intro z hz
  unfold nmL at hz
  split at hz
  · rcases List.mem_append.mp hz with hz | hz
    · exact h z (List.mem_of_mem_take hz)
    · rcases List.mem_append.mp hz with hz | hz
      · simp only [List.mem_cons, List.not_mem_nil, or_false] at hz
        rcases hz with rfl | rfl <;> exact L_lt _
      · exact h z (List.mem_of_mem_drop hz)
  · split at hz
    · simp only [List.mem_cons, List.not_mem_nil, or_false] at hz
      rw [hz]; exact L_lt _
    · simp only [List.mem_cons, List.not_mem_nil, or_false] at hz
      rcases hz with rfl | rfl <;> exact L_lt _
theorem nm_len {sty : Nat} {stem : List Nat} {at_ sh k : Nat} (h : stem.length = 6) (ha : at_ ≤ 6) : (nmL sty stem at_ sh k).length = if sty = 1 then 8 else if sty = 2 then 1 else 2 := by
  unfold nmL
  split
  · simp only [List.length_append, List.length_take, List.length_drop, List.length_cons, List.length_nil]; omega
  · split <;> rfl
theorem gn_of {l : List Nat} (h : ∀ z ∈ l, Lt z) (h1 : 1 ≤ l.length) (h8 : l.length ≤ 8) (h3 : l.length ≠ 3) (h4 : l.length ≠ 4) : gn (toS l) = true := by
  have nk : toS l ∉ kept := by
    intro hm
    simp only [kept, List.mem_cons, List.not_mem_nil, or_false] at hm
    have e := toS_len l
    rcases hm with z | z | z | z | z
    · rw [z] at e; exact h4 (e.symm.trans (by decide +kernel))
    · rw [z] at e; exact h4 (e.symm.trans (by decide +kernel))
    · rw [z] at e; exact h4 (e.symm.trans (by decide +kernel))
    · rw [z] at e; exact h3 (e.symm.trans (by decide +kernel))
    · rw [z] at e; exact h3 (e.symm.trans (by decide +kernel))
  unfold gn
  rw [toS_len, decide_eq_true ⟨h1, h8⟩, decide_eq_false nk, toS_cps]
  show (l.all fun c => decide (c ∈ ltr.cps.toList)) = true
  exact List.all_eq_true.mpr fun z hz => decide_eq_true (Lt_mem (h z hz))
theorem tk_of {l : List Nat} (h : ∀ z ∈ l, Lt z) (h8 : l.length ≤ 8) : Tk (toS l) := ⟨strOk_toS fun c hc => by have := (h c hc).2; omega, by rw [toS_len]; omega⟩
theorem toS_inj {a b : List Nat} (h : toS a = toS b) : a = b := by
  have := congrArg (fun s : Str => s.cps.toList) h
  exact this
theorem L_inj {sh i j : Nat} (hi : i < 26) (hj : j < 26) (h : L (sh + i) = L (sh + j)) : i = j := by
  unfold L at h; omega
theorem nm_inj {sty : Nat} {stem : List Nat} {at_ sh i j : Nat} (hs : stem.length = 6) (ha : at_ ≤ 6) (hi : i < 26) (hj : j < 26) (h : nmL sty stem at_ sh i = nmL sty stem at_ sh j) : i = j := by
  unfold nmL at h
  split at h
  · have := List.append_cancel_left h
    simp only [List.cons_append, List.cons.injEq] at this
    exact L_inj hi hj this.1
  · split at h
    · simp only [List.cons.injEq] at h
      exact L_inj hi hj h.1
    · simp only [List.cons.injEq] at h
      exact L_inj hi hj h.1
theorem nm_ok {sty : Nat} {stem : List Nat} {at_ sh n : Nat} (hs : stem.length = 6) (hl : ∀ z ∈ stem, Lt z) (ha : at_ ≤ 6) (hn : n ≤ 26) : NmOk n ((List.range n).map fun k => toS (nmL sty stem at_ sh k)) := by
  refine ⟨by simp, fun x hx => ?_, ?_⟩
  · obtain ⟨k, hk, rfl⟩ := List.mem_map.mp hx
    have hlen := nm_len (sty := sty) (sh := sh) (k := k) hs ha
    have hlt := nm_lt (sty := sty) (at_ := at_) (sh := sh) (k := k) hl
    have b : 1 ≤ (nmL sty stem at_ sh k).length ∧ (nmL sty stem at_ sh k).length ≤ 8 ∧ (nmL sty stem at_ sh k).length ≠ 3 ∧ (nmL sty stem at_ sh k).length ≠ 4 := by
      rw [hlen]; split
      · decide
      · split <;> decide
    exact ⟨gn_of hlt b.1 b.2.1 b.2.2.1 b.2.2.2, tk_of hlt b.2.1, by rw [toS_len]; exact b.2.2.1⟩
  · rw [List.Nodup, List.pairwise_map]
    refine List.Pairwise.imp_of_mem (fun {i j} hi hj hne e => ?_) (List.nodup_range (n := n))
    exact hne (nm_inj hs ha (Nat.lt_of_lt_of_le (List.mem_range.mp hi) hn) (Nat.lt_of_lt_of_le (List.mem_range.mp hj) hn) (toS_inj e))
section
variable {P : Program} {w : World} {K : PySem.W.Frag} {mg : Str → Option Value} {base : Heap}
def uNmd : UF := fun ρ R => ∃ (c : Nat) (d : D) (m : Nat), ρ = [own d, dat (.int (m : Nat))] ∧ JarOk c d ∧ c + 20 < 1000000 ∧ m ≤ 26 ∧ ∀ (ns : List Str) d2 s1, NmOk m ns → JarOk (c + 20) d2 → R (.own (.lst (ns.map D.str))) [own d2, s1]
theorem sc__law_named : FnScope ["purse", "many", "letters", "style", "stem", "at", "shift", "found", "k", "pair"] ["purse", "many"] (defScope s__law_named) := ⟨rfl, rfl, rfl, by decide +kernel, rfl, by decide +kernel, by decide +kernel⟩
theorem ok__law_named (T : Tx K w mg) : FnOk P w K mg base CX0 2 T.a__law_named T.f__law_named ["purse", "many"] (PSp K 2 uNmd) := by
  refine fn_mk T.d__law_named.fn sc__law_named (by decide) fun cdv A outer s H E hr => ?_
  refine ⟨_, (fb_cons (fs_set (ps_set (i := 2) sc__law_named.nd rfl (.inr rfl) pe_S) fe_str)
      (fb_cons (fs_set (ps_set (i := 3) sc__law_named.nd rfl (.inl rfl) pe_S) (fe_call (ok__law_drawn T) (hr.mono (by omega)) (by rfl) T.d__law_drawn.at_ T.d__law_drawn.kp T.d__law_drawn.bd (fr_ref (fv 0) (fr_val fe_int fr_nil))))
      (fb_cons (fs_set (ps_set (i := 4) sc__law_named.nd rfl (.inl rfl) pe_S) (fe_join fe_str (fe_lc rfl sc__law_named.nd (fi_range1 (by rfl) T.z_range (fa_cons fe_int fa_nil)) (blkOk_by (own := [("k", 8)]) (N := ["purse", "many", "letters", "style", "stem", "at", "shift", "found", "k", "pair"]) (sc := defScope s__law_named) (by decide +kernel)) (fun _ _ _ _ _ => (fg_name (pg_name (i := 8) sc__law_named.nd rfl (.inl rfl)) (by intro l e; cases e; decide +kernel))) (fun _ _ _ _ _ => fts_nil) (fun _ _ _ _ _ => (fe_ix (fv 2) (fe_call (ok__law_drawn T) (hr.mono (by omega)) (by rfl) T.d__law_drawn.at_ T.d__law_drawn.kp T.d__law_drawn.bd (fr_ref (fv 0) (fr_val fe_int fr_nil))))))))
      (fb_cons (fs_set (ps_set (i := 5) sc__law_named.nd rfl (.inl rfl) pe_S) (fe_call (ok__law_drawn T) (hr.mono (by omega)) (by rfl) T.d__law_drawn.at_ T.d__law_drawn.kp T.d__law_drawn.bd (fr_ref (fv 0) (fr_val fe_int fr_nil))))
      (fb_cons (fs_set (ps_set (i := 6) sc__law_named.nd rfl (.inl rfl) pe_S) (fe_call (ok__law_drawn T) (hr.mono (by omega)) (by rfl) T.d__law_drawn.at_ T.d__law_drawn.kp T.d__law_drawn.bd (fr_ref (fv 0) (fr_val fe_int fr_nil))))
      (fb_cons (fs_set (ps_set (i := 7) sc__law_named.nd rfl (.inl rfl) pe_S) (fe_lst fa_nil))
      (fb_cons (fs_for PassesOwn.never rfl (fi_range1 (by rfl) T.z_range (fa_cons (fv 1) fa_nil)) (fg_name (pg_name (i := 8) sc__law_named.nd rfl (.inl rfl)))
      (fb_cons (fs_set (ps_set (i := 9) sc__law_named.nd rfl (.inl rfl) pe_S) (fe_op os_add (fe_ix (fv 2) (fe_op os_mod (fe_op os_add (fv 6) (fv 8)) fe_int)) (fe_ix (fv 2) (fe_op os_mod (fe_op os_add (fv 6) (fe_op os_div (fv 8) fe_int)) fe_int))))
      (fb_cons (fs_if (FW.ft (fw_and (ft_cmp (os_eq (ru hr)) (fv 3) fe_int) (fw_and1 (ft_cmp os_lt (fv 8) fe_int))))
      (fb_one (fs_set (ps_set (i := 9) sc__law_named.nd rfl (.inl rfl) pe_S) (fe_ix (fv 9) fe_int)))
      fb_nil)
      (fb_one (fs_expr (fe_mu mu_append PySem.F.slot_list_append PySem.F.type_list_append (fv 7) (fa_cons (fe_ix (fe_lst (fa_cons (fv 9) (fa_cons (fe_op os_add (fe_op os_add (fe_sl (fv 4) fo_no (fo_int (fv 5))) (fv 9)) (fe_sl (fv 4) (fo_int (fv 5)) fo_no)) (fa_cons (fv 9) fa_nil)))) (fv 3)) fa_nil)))))))
      (fb_one (fs_ret (fv 7)))))))))), fun ρ R hl h => ?_⟩
  obtain ⟨c, d, m, rfl, hj, hc, hm, q⟩ := h
  have sz := sz2
  refine ⟨nd1 _, c, d, 3, rfl, hj, by decide, by decide, by omega, fun r1 d1 t1 p0 p1 j1 => ?_⟩
  refine ⟨by decide, by decide, ?_⟩
  refine ⟨fun t acc ρ => ∃ (d4 : D) (ts : List Nat), JarOk (c + 1 + t) d4 ∧ acc = List.map sgD ts ∧ ts.length = t ∧ (∀ z ∈ ts, Lt z) ∧ ρ = [.sl true true d4, .sl false true (.int (m : Nat)), dat (.str ltr), dat (.int r1), .un, .un, .un, .un, .un, .un], ⟨d1, [], j1, rfl, rfl, (fun _ h => nomatch h), rfl⟩, ?_, ?_, ?_⟩
  · rintro t y acc ρ ht ⟨d4, ts, j4, rfl, lt, hts, rfl⟩
    obtain ⟨lt2, rfl⟩ := intsD_get ht
    have lt6 : t < 6 := lt2
    refine ⟨nd1 _, c + 1 + t, d4, 26, rfl, j4, by decide, by decide, by omega, fun r2 d5 s5' r20 r21 j5 => ?_⟩
    refine ⟨by show ltr.length ≤ _; rw [ltr_len]; omega, L r2.toNat, ltr_atI (by omega), ?_⟩
    refine ⟨by rw [List.length_map]; omega, d5, ts ++ [L r2.toNat], j5, ?_, by rw [List.length_append, lt]; rfl, fun z hz => ?_, rfl⟩
    · rw [List.map_append]; rfl
    · rcases List.mem_append.mp hz with q1 | q1
      · exact hts z q1
      · rw [List.mem_singleton.mp q1]; exact L_lt _
  · rintro t acc ρ ⟨d4, ts, _, _, _, _, rfl⟩
    exact ⟨_, (rfl : _ = YP.wipeS [.sl true true d4, .sl false true (.int (m : Nat)), dat (.str ltr), dat (.int r1), .un, .un, .un, .un, .un, .un] [8])⟩
  rintro acc ρ ⟨d4, ts, j4, rfl, lt, hts, rfl⟩
  rw [intsD_len] at lt j4
  have lt6 : ts.length = 6 := lt
  refine ⟨ts.map one, by rw [List.map_map]; rfl, ?_, ?_⟩
  · rw [show ((ts.map one).map (·.length)).sum = ts.length from ones_len ts]
    have e0 : (("" : Str).length) = 0 := rfl
    rw [e0, Nat.mul_zero]
    omega
  rw [show Txt.join "" (ts.map one) = toS ts from joined ts]
  have j7 : JarOk (c + 7) d4 := j4.mono (by show c + 1 + 6 ≤ _; omega)
  refine ⟨nd1 _, c + 7, d4, 7, rfl, j7, by decide, by decide, by omega, fun a d6 t6 a0 a1 j8 => ?_⟩
  refine ⟨nd1 _, c + 8, d6, 26, rfl, j8, by decide, by decide, by omega, fun s d7 t7 s0 s1 j9 => ?_⟩
  obtain ⟨sty, rfl⟩ : ∃ n : Nat, r1 = n := ⟨r1.toNat, by omega⟩
  obtain ⟨a, rfl⟩ : ∃ n : Nat, a = n := ⟨a.toNat, by omega⟩
  obtain ⟨s, rfl⟩ : ∃ n : Nat, s = n := ⟨s.toNat, by omega⟩
  refine ⟨Nat.zero_le _, ?_⟩
  refine ⟨by show -2 ^ 62 ≤ (m : Int); omega, by show (m : Int) < 2 ^ 62; omega, ?_⟩
  refine ⟨fun i ρ => ∃ (s8 s9 : Sl), ρ = [.sl true true d7, .sl false true (.int (m : Nat)), dat (.str ltr), dat (.int (sty : Nat)), dat (.str (toS ts)), dat (.int (a : Nat)), dat (.int (s : Nat)), own (.lst (((List.range i).map fun k => toS (nmL sty ts a s k)).map D.str)), s8, s9], ⟨.un, .un, rfl⟩, ?_, ?_⟩
  · rintro i y ρ hi ⟨s8, s9, rfl⟩
    obtain ⟨li, rfl⟩ := intsD_get hi
    have lim : i < m := li
    have lz : ltr.length ≤ sizeLine := by rw [ltr_len]; omega
    refine ⟨(by decide : (0 : Int) < 26), lz, L (s + i), ltr_atI (by omega), ?_⟩
    refine ⟨⟨by decide, by decide⟩, (by decide : (0 : Int) < 26), lz, L s, ltr_atI (by omega), ?_⟩
    refine ⟨by show 1 + 1 ≤ _; omega, ?_⟩
    dsimp only [YP.put, List.set]
    have e2 : (⟨#[L (s + i)]⟩ : Str) ++ ⟨#[L s]⟩ = toS [L (s + i), L s] := add_toS [L (s + i)] [L s]
    rw [e2]
    refine seq_cut (fun ρ => ρ = [.sl true true d7, .sl false true (.int (m : Nat)), dat (.str ltr), dat (.int (sty : Nat)), dat (.str (toS ts)), dat (.int (a : Nat)), dat (.int (s : Nat)), own (.lst (((List.range i).map fun k => toS (nmL sty ts a s k)).map D.str)), dat (.int (0 + (i : Int))), dat (.str (toS (if sty = 2 then [L (s + i)] else [L (s + i), L s])))]) ?rest fun rest => ?here
    case here =>
      refine ⟨rfl, rfl, ?_⟩
      rw [eqD_int]
      by_cases h2 : (sty : Int) = 2
      · rw [decide_eq_true h2]
        have h2' : sty = 2 := by omega
        show (if decide ((0 + (i : Int)) < 26) = true then _ else _)
        rw [decide_eq_true (by omega : (0 + (i : Int)) < 26)]
        refine ⟨by rw [toS_len]; show 2 ≤ _; omega, L (s + i), atI_nat (j := 0) rfl, ?_⟩
        dsimp only [YP.put, List.set]
        refine rest _ ?_
        rw [if_pos h2']; rfl
      · rw [decide_eq_false h2]
        exact rest [.sl true true d7, .sl false true (.int (m : Nat)), dat (.str ltr), dat (.int (sty : Nat)), dat (.str (toS ts)), dat (.int (a : Nat)), dat (.int (s : Nat)), own (.lst (((List.range i).map fun k => toS (nmL sty ts a s k)).map D.str)), dat (.int (0 + (i : Int))), dat (.str (toS [L (s + i), L s]))] (by rw [if_neg (by omega : ¬ sty = 2)])
    rintro ρ rfl
    generalize hp : (if sty = 2 then [L (s + i)] else [L (s + i), L s]) = pr
    have pl : pr.length ≤ 2 := by rw [← hp]; split <;> simp
    have lt7 : (toS ts).length = 6 := by rw [toS_len]; exact lt6
    have lp : (toS pr).length ≤ 2 := by rw [toS_len]; exact pl
    have c1 : cutS (toS ts) none (some (a : Int)) = toS (ts.take a) := cutS_to ts a
    have c2 : cutS (toS ts) (some (a : Int)) none = toS (ts.drop a) := cutS_from ts a
    have l1 : (toS (ts.take a)).length ≤ 6 := by rw [toS_len, List.length_take]; omega
    have l2 : (toS (ts.drop a)).length ≤ 6 := by rw [toS_len, List.length_drop]; omega
    refine ⟨by omega, by rw [c1]; omega, ?_⟩
    rw [c1, add_toS]
    refine ⟨by omega, by rw [c2, toS_len (ts.take a ++ pr), List.length_append, List.length_take]; omega, ?_⟩
    rw [c2, add_toS]
    refine ⟨by show 3 ≤ _; omega, .str (toS (nmL sty ts a s i)), ?_, ?_⟩
    · rcases (by omega : sty = 0 ∨ sty = 1 ∨ sty = 2) with h | h | h
      · subst h
        refine atI_nat (j := 0) ?_
        rw [← hp]; rfl
      · subst h
        refine atI_nat (j := 1) ?_
        rw [← hp]
        show some (D.str (toS (ts.take a ++ [L (s + i), L s] ++ ts.drop a))) = some (D.str (toS (ts.take a ++ ([L (s + i), L s] ++ ts.drop a))))
        rw [List.append_assoc]
      · subst h
        refine atI_nat (j := 2) ?_
        rw [← hp]; rfl
    refine ⟨by rw [List.length_map, List.length_map, List.length_range]; omega, dat (.int (0 + (i : Int))), dat (.str (toS pr)), ?_⟩
    rw [List.range_succ, List.map_append, List.map_append]; rfl
  · rintro ρ ⟨s8, s9, rfl⟩
    rw [intsD_len]
    exact q _ _ _ (nm_ok lt6 hts (by omega) hm) (j9.mono (by omega))
end
end K10
set_option maxRecDepth 100000
set_option maxHeartbeats 2000000
namespace K10
open PySem PySem.Spec PyProof.Rows L2 Yard YP
abbrev sgn : Str := "\n !\"#()*+,-.0129:;[\\]abcxyz|"
theorem sgn_len : sgn.length = 28 := by decide +kernel
theorem sgn_lenL : sgn.cps.toList.length = 28 := by decide +kernel
theorem sgn_low : ∀ c ∈ sgn.cps.toList, c < 128 := by decide +kernel
def bP : Nat → Nat
  | 0 => 5
  | n + 1 => 2 * bP n + 5
def wP : Nat → Nat
  | 0 => 100
  | n + 1 => 2 * wP n + 65
theorem wP_lo (n : Nat) : 100 ≤ wP n := by
  cases n with
  | zero => exact Nat.le_refl _
  | succ n => induction n with
    | zero => decide
    | succ n ih => show 100 ≤ 2 * wP (n + 1) + 65; omega
structure POk (n : Nat) (p : PT) : Prop where
  dp : p.dep ≤ n
  ct : p.cnt ≤ 2 ^ n
  tk : p.tk
  wt : p.wt ≤ wP n
theorem one_of : ∀ {ys : List Str}, (∀ y ∈ ys, ∃ c : Nat, c < 128 ∧ y = ⟨#[c]⟩) → ∃ l : List Nat, ys = l.map (fun c => (⟨#[c]⟩ : Str)) ∧ ∀ c ∈ l, c < 128
  | [], _ => ⟨[], rfl, fun _ h => nomatch h⟩
  | y :: ys, h => by
    obtain ⟨c, hc, e⟩ := h y List.mem_cons_self
    obtain ⟨l, el, hl⟩ := one_of fun z hz => h z (List.mem_cons_of_mem _ hz)
    refine ⟨c :: l, by rw [e, el]; rfl, fun z hz => ?_⟩
    rcases List.mem_cons.mp hz with q | q
    · rw [q]; exact hc
    · exact hl z q

section
variable {P : Program} {w : World} {K : PySem.W.Frag} {mg : Str → Option Value} {base : Heap}
def uPat (n : Nat) : UF := fun ρ R => ∃ (c : Nat) (d : D), ρ = [own d, dat (.int (n : Nat))] ∧ JarOk c d ∧ c + bP n < 1000000 ∧ ∀ (p : PT) d2 s1, POk n p → JarOk (c + bP n) d2 → R (.val p.d) [own d2, s1]
theorem sc__law_pattern : FnScope ["purse", "deep", "signs", "way", "some", "one", "k"] ["purse", "deep"] (defScope s__law_pattern) := ⟨rfl, rfl, rfl, by decide +kernel, rfl, by decide +kernel, by decide +kernel⟩
theorem st__law_pattern (T : Tx K w mg) (n : Nat) (G : FnOk P w K mg base CX0 (n + 2) T.a__law_pattern T.f__law_pattern ["purse", "deep"] (PSp K 2 (uBefore uPat n))) : FnOk P w K mg base CX0 (n + 3) T.a__law_pattern T.f__law_pattern ["purse", "deep"] (PSp K 2 (uPat n)) := by
  refine fn_mk T.d__law_pattern.fn sc__law_pattern (by decide) fun cdv A outer s H E hr => ?_
  refine ⟨_, (fb_cons (fs_set (ps_set (i := 2) sc__law_pattern.nd rfl (.inr rfl) pe_S) fe_str)
      (fb_cons (fs_set (ps_set (i := 3) sc__law_pattern.nd rfl (.inl rfl) pe_S) fe_int)
      (fb_cons (fs_if (ft_cmp os_gt (fv 1) fe_int)
      (fb_one (fs_set (ps_set (i := 3) sc__law_pattern.nd rfl (.inl rfl) pe_S) (fe_call (ok__law_drawn T) (hr.mono (by omega)) (by rfl) T.d__law_drawn.at_ T.d__law_drawn.kp T.d__law_drawn.bd (fr_ref (fv 0) (fr_val fe_int fr_nil)))))
      fb_nil)
      (fb_cons (fs_if (ft_cmp os_lt (fv 3) fe_int)
      (fb_cons (fs_setLc (i := 4) rfl sc__law_pattern.nd rfl rfl (sw_true rfl rfl rfl (by decide +kernel)) (fi_range1 (by rfl) T.z_range (fa_cons (fe_op os_add fe_int (fe_call (ok__law_drawn T) (hr.mono (by omega)) (by rfl) T.d__law_drawn.at_ T.d__law_drawn.kp T.d__law_drawn.bd (fr_ref (fv 0) (fr_val fe_int fr_nil)))) fa_nil)) (blkOk_by (own := [("k", 6)]) (N := ["purse", "deep", "signs", "way", "some", "one", "k"]) (sc := defScope s__law_pattern) (by decide +kernel)) (fun _ _ _ _ _ => (fg_name (pg_name (i := 6) sc__law_pattern.nd rfl (.inl rfl)) (by intro l e; cases e; decide +kernel))) (fun _ _ _ _ _ => fts_nil) (fun _ _ _ _ _ => (fe_ix (fv 2) (fe_call (ok__law_drawn T) (hr.mono (by omega)) (by rfl) T.d__law_drawn.at_ T.d__law_drawn.kp T.d__law_drawn.bd (fr_ref (fv 0) (fr_val (fe_b cb_len (by rfl) T.z_len (by decide +kernel) (fr_ref (fv 2) fr_nil)) fr_nil))))))
      (fb_one (fs_ret (fe_tup (fa_cons fe_str (fa_cons (fe_join fe_str (fe_setsorted rfl (by rfl) T.z_sorted (by rfl) T.z_set (fr_ref (fv 4) fr_nil))) fa_nil))))))
      fb_nil)
      (fb_cons (fs_set (ps_set (i := 5) sc__law_pattern.nd rfl (.inl rfl) pe_S) (fe_call G (hr.mono (by omega)) (by rfl) T.d__law_pattern.at_ T.d__law_pattern.kp T.d__law_pattern.bd (fr_ref (fv 0) (fr_val (fe_op os_sub (fv 1) fe_int) fr_nil))))
      (fb_cons (fs_if (ft_cmp os_lt (fv 3) fe_int)
      (fb_one (fs_ret (fe_tup (fa_cons (fe_ix (fe_lst (fa_cons fe_str (fa_cons fe_str fa_nil))) (fe_op os_sub (fv 3) fe_int)) (fa_cons (fv 5) (fa_cons (fe_call G (hr.mono (by omega)) (by rfl) T.d__law_pattern.at_ T.d__law_pattern.kp T.d__law_pattern.bd (fr_ref (fv 0) (fr_val (fe_op os_sub (fv 1) fe_int) fr_nil))) fa_nil))))))
      fb_nil)
      (fb_cons (fs_if (ft_cmp (os_eq (ru hr)) (fv 3) fe_int)
      (fb_one (fs_ret (fe_ix (fe_lst (fa_cons (fe_tup (fa_cons fe_str fa_nil)) (fa_cons (fe_tup (fa_cons fe_str (fa_cons (fv 5) fa_nil))) fa_nil))) (fe_call (ok__law_drawn T) (hr.mono (by omega)) (by rfl) T.d__law_drawn.at_ T.d__law_drawn.kp T.d__law_drawn.bd (fr_ref (fv 0) (fr_val fe_int fr_nil))))))
      fb_nil)
      (fb_one (fs_ret (fe_tup (fa_cons (fe_ix (fe_lst (fa_cons fe_str (fa_cons fe_str fa_nil))) (fe_op os_sub (fv 3) fe_int)) (fa_cons (fv 5) fa_nil)))))))))))), fun ρ R hl h => ?_⟩
  obtain ⟨c, d, rfl, hj, hc, q⟩ := h
  have sz := sz2
  have b1 : 5 ≤ bP n := by cases n <;> simp only [bP] <;> omega
  refine set_val ?_
  refine set_val ?_
  refine seq_cut (fun ρ => ∃ (d1 : D) (w : Nat), JarOk (c + 1) d1 ∧ w < 9 ∧ (n = 0 → w = 0) ∧ ρ = [.sl true true d1, .sl false true (.int (n : Nat)), dat (.str sgn), dat (.int (w : Nat)), .un, .un, .un]) ?rest fun rest => ?here
  case here =>
    show (if decide ((0 : Int) < (n : Int)) = true then _ else _)
    by_cases h0 : (0 : Int) < (n : Int)
    · rw [decide_eq_true h0]
      refine ⟨nd1 _, c, d, 9, rfl, hj, by decide, by decide, by omega, fun r1 d1 t1 p0 p1 j1 => ?_⟩
      obtain ⟨w, rfl⟩ : ∃ w : Nat, r1 = w := ⟨r1.toNat, by omega⟩
      exact rest _ ⟨d1, w, j1, by omega, fun z => by omega, rfl⟩
    · rw [decide_eq_false h0]
      exact rest _ ⟨d, 0, hj.mono (by omega), by omega, fun _ => rfl, rfl⟩
  rintro ρ ⟨d1, w, j1, hw9, hw0, rfl⟩
  show (if decide ((w : Int) < 4) = true then _ else _)
  by_cases h4 : (w : Int) < 4
  · rw [decide_eq_true h4]
    refine ⟨nd1 _, c + 1, d1, 3, rfl, j1, by decide, by decide, by omega, fun r2 d2 t2 p0 p1 j2 => ?_⟩
    obtain ⟨m, rfl⟩ : ∃ m : Nat, r2 = m := ⟨r2.toNat, by omega⟩
    refine ⟨by show -2 ^ 62 ≤ (1 : Int) + (m : Int); omega, by show (1 : Int) + (m : Int) < 2 ^ 62; omega, ?_⟩
    refine ⟨fun t acc ρ => ∃ (d4 : D) (ts : List Nat), JarOk (c + 2 + t) d4 ∧ acc = List.map sgD ts ∧ ts.length = t ∧ (∀ z ∈ ts, z < 128) ∧ ρ = [.sl true true d4, .sl false true (.int (n : Nat)), dat (.str sgn), dat (.int (w : Nat)), .un, .un, .un], ⟨d2, [], j2, rfl, rfl, (fun _ h => nomatch h), rfl⟩, ?_, ?_, ?_⟩
    · rintro t y acc ρ ht ⟨d4, ts, j4, rfl, lt, hts, rfl⟩
      obtain ⟨lt2, rfl⟩ := intsD_get ht
      have lt3 : t < 3 := by omega
      refine ⟨by rw [sgn_len]; omega, nd1 _, c + 2 + t, d4, 28, by rw [sgn_len]; rfl, j4, by decide, by decide, by omega, fun r2 d5 s5' r20 r21 j5 => ?_⟩
      obtain ⟨z, hz, ez⟩ := atI_in (l := sgn.cps.toList) r20 (by rw [sgn_lenL]; exact r21)
      refine ⟨by rw [sgn_len]; omega, z, ez, ?_⟩
      refine ⟨by rw [List.length_map]; omega, d5, ts ++ [z], j5, ?_, by rw [List.length_append, lt]; rfl, fun z' hz' => ?_, rfl⟩
      · rw [List.map_append]; rfl
      · rcases List.mem_append.mp hz' with q1 | q1
        · exact hts z' q1
        · rw [List.mem_singleton.mp q1]; exact sgn_low _ hz
    · rintro t acc ρ ⟨d4, ts, _, _, _, _, rfl⟩
      exact ⟨_, (rfl : _ = YP.wipeS [.sl true true d4, .sl false true (.int (n : Nat)), dat (.str sgn), dat (.int (w : Nat)), .un, .un, .un] [6])⟩
    rintro acc ρ ⟨d3, ts, j3, rfl, lt, hts, rfl⟩
    have lD : (intsD 0 (1 + (m : Int)).toNat).length = 1 + m := by rw [intsD_len]; omega
    rw [lD] at lt j3
    refine ⟨ts.map one, by rw [List.map_map]; rfl, by rw [List.length_map]; omega, fun ms lm hmm => ⟨by rw [List.length_map] at lm; omega, fun ys pm so => ?_⟩⟩
    obtain ⟨l, rfl, hl2⟩ := one_of (ys := ys) fun y hy => by
      obtain ⟨z, hz, rfl⟩ := List.mem_map.mp ((hmm y).mp (pm.mem_iff.mp hy))
      exact ⟨z, hts z hz, rfl⟩
    have ll : l.length ≤ 3 := by
      have := pm.length_eq
      rw [List.length_map] at this lm
      omega
    refine ⟨l.map fun z => (⟨#[z]⟩ : Str), rfl, ?_, by show 2 ≤ _; omega, ?_⟩
    · rw [ones_len]
      have e0 : (("" : Str).length) = 0 := rfl
      rw [e0, Nat.mul_zero]
      omega
    · rw [joined]
      refine q (.sg (toS l)) d3 _ ⟨Nat.zero_le _, Nat.one_le_two_pow, ?_, ?_⟩ (j3.mono (by omega))
      · exact ⟨strOk_toS fun c hc => Nat.lt_trans (hl2 c hc) (by decide), by rw [toS_len]; omega⟩
      · have := wP_lo n; show 61 + strW (toS l) ≤ _; unfold strW; rw [toS_len]; omega
  rw [decide_eq_false h4]
  obtain ⟨k, rfl⟩ : ∃ k, n = k + 1 := ⟨n - 1, by omega⟩
  have bk : bP (k + 1) = 2 * bP k + 5 := rfl
  have ek : (((k + 1 : Nat) : Int) - 1) = (k : Nat) := by omega
  have p2 : 2 ^ (k + 1) = 2 * 2 ^ k := by rw [Nat.pow_succ]; omega
  have p1 : 1 ≤ 2 ^ k := Nat.one_le_two_pow
  refine ⟨nd1 _, c + 1, d1, (by show [own d1, dat (.int (((k + 1 : Nat) : Int) - 1))] = _; rw [ek]), j1, by omega, fun p d2 s2 hp j2 => ?_⟩
  show (if decide ((w : Int) < 6) = true then _ else _)
  by_cases h6 : (w : Int) < 6
  · rw [decide_eq_true h6]
    refine ⟨by show 2 ≤ _; omega, ?_⟩
    rcases (by omega : w = 4 ∨ w = 5) with h | h
    · subst h
      refine ⟨.str "then", rfl, nd1 _, c + 1 + bP k, d2, (by show [own d2, dat (.int (((k + 1 : Nat) : Int) - 1))] = _; rw [ek]), j2, by omega, fun p' d3 s3 hp' j3 => ?_⟩
      refine ⟨by show 3 ≤ _; omega, ?_⟩
      refine q (.th p p') _ _ ⟨?_, ?_, ⟨hp.tk, hp'.tk⟩, ?_⟩ (j3.mono (by omega))
      · have := hp.dp; have := hp'.dp; simp only [PT.dep]; omega
      · have := hp.ct; have := hp'.ct; simp only [PT.cnt]; omega
      · have := hp.wt; have := hp'.wt; simp only [PT.wt, wP]; omega
    · subst h
      refine ⟨.str "or", rfl, nd1 _, c + 1 + bP k, d2, (by show [own d2, dat (.int (((k + 1 : Nat) : Int) - 1))] = _; rw [ek]), j2, by omega, fun p' d3 s3 hp' j3 => ?_⟩
      refine ⟨by show 3 ≤ _; omega, ?_⟩
      refine q (.or p p') _ _ ⟨?_, ?_, ⟨hp.tk, hp'.tk⟩, ?_⟩ (j3.mono (by omega))
      · have := hp.dp; have := hp'.dp; simp only [PT.dep]; omega
      · have := hp.ct; have := hp'.ct; simp only [PT.cnt]; omega
      · have := hp.wt; have := hp'.wt; simp only [PT.wt, wP]; omega
  rw [decide_eq_false h6]
  refine ⟨rfl, rfl, ?_⟩
  rw [eqD_int]
  by_cases h8 : (w : Int) = 8
  · rw [decide_eq_true h8]
    refine ⟨by show 1 ≤ _; omega, by show 2 ≤ _; omega, by show 2 ≤ _; omega, ?_⟩
    refine ⟨nd1 _, c + 1 + bP k, d2, 2, rfl, j2, by decide, by decide, by omega, fun r2 d3 t2 r0 r1 j3 => ?_⟩
    rcases (by omega : r2 = 0 ∨ r2 = 1) with h | h
    · subst h
      refine ⟨_, rfl, ?_⟩
      exact q .em _ _ ⟨Nat.zero_le _, Nat.zero_le _, trivial, by have := wP_lo (k + 1); show 61 ≤ _; omega⟩ (j3.mono (by omega))
    · subst h
      refine ⟨_, rfl, ?_⟩
      refine q (.ag p) _ _ ⟨?_, ?_, hp.tk, ?_⟩ (j3.mono (by omega))
      · have := hp.dp; simp only [PT.dep]; omega
      · have := hp.ct; simp only [PT.cnt]; omega
      · have := hp.wt; simp only [PT.wt, wP]; omega
  rw [decide_eq_false h8]
  refine ⟨by show 2 ≤ _; omega, ?_⟩
  rcases (by omega : w = 6 ∨ w = 7) with h | h
  · subst h
    refine ⟨.str "more", rfl, by show 2 ≤ _; omega, ?_⟩
    refine q (.mo p) _ _ ⟨?_, ?_, hp.tk, ?_⟩ (j2.mono (by omega))
    · have := hp.dp; simp only [PT.dep]; omega
    · have := hp.ct; simp only [PT.cnt]; omega
    · have := hp.wt; simp only [PT.wt, wP]; omega
  · subst h
    refine ⟨.str "maybe", rfl, by show 2 ≤ _; omega, ?_⟩
    refine q (.mb p) _ _ ⟨?_, ?_, hp.tk, ?_⟩ (j2.mono (by omega))
    · have := hp.dp; simp only [PT.dep]; omega
    · have := hp.ct; simp only [PT.cnt]; omega
    · have := hp.wt; simp only [PT.wt, wP]; omega
theorem ok__law_pattern (T : Tx K w mg) : ∀ n, FnOk P w K mg base CX0 (n + 3) T.a__law_pattern T.f__law_pattern ["purse", "deep"] (PSp K 2 (uPat n))
  | 0 => st__law_pattern T 0 no_pure
  | n + 1 => st__law_pattern T (n + 1) (ok__law_pattern T n)
end
end K10
set_option maxRecDepth 100000
set_option maxHeartbeats 2000000
namespace K10
open PySem PySem.Spec PyProof.Rows L2 Yard YP
/-! ### drawn kinds -/
theorem kinF_none : ∀ (ks : List KD) (met : List Str), (∀ k ∈ ks, gn k.name = true ∧ k.pat.bare = false) → (met ++ ks.map KD.name).Nodup → kinF met ks = none
  | [], _, _, _ => rfl
  | k :: ks, met, h, nd => by
    have hk := h k List.mem_cons_self
    rw [List.map_cons] at nd
    have nm : k.name ∉ met := fun z => (List.nodup_append.mp nd).2.2 k.name z k.name List.mem_cons_self rfl
    unfold kinF newF
    rw [if_neg (by rw [hk.1]; decide), if_neg nm]
    show (if k.pat.bare = true then _ else _) = _
    rw [if_neg (by rw [hk.2]; decide)]
    refine kinF_none ks _ (fun z hz => h z (List.mem_cons_of_mem _ hz)) ?_
    rw [List.append_assoc]; exact nd
def gapK : KD := ⟨"gap", .mo (.sg "\n "), true⟩
theorem gap_ok : KOk gapK := ⟨tkW _, by decide, tkW _⟩
structure GoodK (ns : List Str) (ks : List KD) : Prop where
  ok : KsOk ks
  ni : kinF [] ks = none
  sg : sgs ks ≤ 40
  lo : 1 ≤ ks.length
  hi : ks.length ≤ 4
  nm : ∀ x ∈ ns, x ∈ ks.map KD.name
  no : ∀ x ∈ ks.map KD.name, x ∈ ns ∨ x = "gap"
  sk : ∀ x ∈ skp ks, x = "gap"
  pw : ∀ k ∈ ks, k.wt ≤ 900
  pd : ∀ k ∈ ks, k.pat.dep ≤ 3
structure NsOk (ns : List Str) : Prop where
  gd : ∀ x ∈ ns, gn x = true ∧ Tk x ∧ x.length ≠ 3
  nd : ns.Nodup
section
variable {P : Program} {w : World} {K : PySem.W.Frag} {mg : Str → Option Value} {base : Heap}
def uKds : UF := fun ρ R => ∃ (c : Nat) (d : D) (ns : List Str), ρ = [own d, dat (.lst (ns.map D.str))] ∧ JarOk c d ∧ c + 200 < 1000000 ∧ NsOk ns ∧ 1 ≤ ns.length ∧ ns.length ≤ 3 ∧ ∀ (ks : List KD) d2 s1, GoodK ns ks → JarOk (c + 200) d2 → R (.own (ksD ks)) [own d2, s1]
theorem sc__law_kinds : FnScope ["purse", "some", "found", "one", "pattern"] ["purse", "some"] (defScope s__law_kinds) := ⟨rfl, rfl, rfl, by decide +kernel, rfl, by decide +kernel, by decide +kernel⟩
theorem ok__law_kinds (T : Tx K w mg) : FnOk P w K mg base CX0 25 T.a__law_kinds T.f__law_kinds ["purse", "some"] (PSp K 2 uKds) := by
  refine fn_mk T.d__law_kinds.fn sc__law_kinds (by decide) fun cdv A outer s H E hr => ?_
  refine ⟨_, (fb_cons (fs_set (ps_set (i := 2) sc__law_kinds.nd rfl (.inl rfl) pe_S) (fe_lst fa_nil))
      (fb_cons (fs_for PassesOwn.never rfl (fi_list (fv 1)) (fg_name (pg_name (i := 3) sc__law_kinds.nd rfl (.inl rfl)))
      (fb_cons (fs_set (ps_set (i := 4) sc__law_kinds.nd rfl (.inl rfl) pe_S) (fe_call (ok__law_pattern T 2) (hr.mono (by omega)) (by rfl) T.d__law_pattern.at_ T.d__law_pattern.kp T.d__law_pattern.bd (fr_ref (fv 0) (fr_val fe_int fr_nil))))
      (fb_cons (fs_if (ft_tru (fe_call (pure_any (N := 20) fun n hn => (ok__law_bare T n).mono (Nat.add_le_add_right hn 2)) (hr.mono (by omega)) (by rfl) T.d__law_bare.at_ T.d__law_bare.kp T.d__law_bare.bd (fr_val (fv 4) fr_nil)))
      (fb_one (fs_set (ps_set (i := 4) sc__law_kinds.nd rfl (.inl rfl) pe_S) (fe_tup (fa_cons fe_str (fa_cons (fe_tup (fa_cons fe_str (fa_cons fe_str fa_nil))) (fa_cons (fv 4) fa_nil))))))
      fb_nil)
      (fb_one (fs_expr (fe_mu mu_append PySem.F.slot_list_append PySem.F.type_list_append (fv 2) (fa_cons (fe_tup (fa_cons (fv 3) (fa_cons (fv 4) (fa_cons fe_bl fa_nil)))) fa_nil)))))))
      (fb_cons (fs_if (ft_cmp (os_eq (ru hr)) (fe_call (ok__law_drawn T) (hr.mono (by omega)) (by rfl) T.d__law_drawn.at_ T.d__law_drawn.kp T.d__law_drawn.bd (fr_ref (fv 0) (fr_val fe_int fr_nil))) fe_int)
      (fb_one (fs_expr (fe_mu mu_insert PySem.F.slot_list_insert PySem.F.type_list_insert (fv 2) (fa_cons (fe_call (ok__law_drawn T) (hr.mono (by omega)) (by rfl) T.d__law_drawn.at_ T.d__law_drawn.kp T.d__law_drawn.bd (fr_ref (fv 0) (fr_val (fe_op os_add (fe_b cb_len (by rfl) T.z_len (by decide +kernel) (fr_ref (fv 2) fr_nil)) fe_int) fr_nil))) (fa_cons (fe_tup (fa_cons fe_str (fa_cons (fe_tup (fa_cons fe_str (fa_cons (fe_tup (fa_cons fe_str (fa_cons fe_str fa_nil))) fa_nil))) (fa_cons fe_bl fa_nil)))) fa_nil)))))
      fb_nil)
      (fb_one (fs_ret (fv 2)))))), fun ρ R hl h => ?_⟩
  obtain ⟨c, d, ns, rfl, hj, hc, hn, n1, n3, q⟩ := h
  have sz := sz2
  refine ⟨Nat.zero_le _, ?_⟩
  refine ⟨fun i ρ => ∃ (d2 : D) (ks : List KD) (s3 s4 : Sl), JarOk (c + 40 * i) d2 ∧ ks.map KD.name = ns.take i ∧ (∀ k ∈ ks, KOk k ∧ k.pat.bare = false ∧ k.skip = false ∧ k.pat.cnt ≤ 5 ∧ k.pat.wt ≤ 750 ∧ k.pat.dep ≤ 3) ∧ ρ = [.sl true true d2, .sl false true (.lst (ns.map D.str)), own (ksD ks), s3, s4], ⟨d, [], .un, .un, hj, rfl, (fun _ h => nomatch h), rfl⟩, ?_, ?_⟩
  · rintro i y ρ hi ⟨d2, ks, s3, s4, j2, nm, hk, rfl⟩
    rw [List.getElem?_map] at hi
    obtain ⟨x, hi2, rfl⟩ := Option.map_eq_some_iff.mp hi
    have hil : i < ns.length := (List.getElem?_eq_some_iff.mp hi2).1
    have gx := hn.gd x (List.mem_of_getElem? hi2)
    have lk : ks.length ≤ 3 := by
      have := congrArg List.length nm
      rw [List.length_map, List.length_take] at this; omega
    refine ⟨nd1 _, c + 40 * i, d2, rfl, j2, by show c + 40 * i + 35 < _; omega, fun p d3 s5 hp j3 => ?_⟩
    have hp2 := hp.dp
    have hp3 : p.cnt ≤ 4 := hp.ct
    have hp4 : p.wt ≤ 595 := hp.wt
    have b2 : bP 2 = 35 := rfl
    rw [b2] at j3
    dsimp only [YP.put]
    refine seq_cut (fun ρ => ∃ p' : PT, p'.dep ≤ 3 ∧ p'.tk ∧ p'.bare = false ∧ p'.cnt ≤ 5 ∧ p'.wt ≤ 750 ∧ ρ = [.sl true true d3, .sl false true (.lst (ns.map D.str)), own (ksD ks), dat (.str x), dat p'.d]) ?rest fun rest => ?here
    case here =>
      refine ⟨List.nodup_nil, 20, Nat.le_refl _, p, rfl, by omega, fun s => ?_⟩
      dsimp only
      rw [wb_no (rs := [.val p.d]) [s] rfl]
      show (if p.bare = true then _ else _)
      cases hb : p.bare with
      | true =>
        refine ⟨by show 2 ≤ _; omega, by show 3 ≤ _; omega, ?_⟩
        refine rest _ ⟨.th (.sg "k") p, ?_, ⟨tkW _, hp.tk⟩, rfl, ?_, ?_, rfl⟩
        · simp only [PT.dep]; omega
        · simp only [PT.cnt]; omega
        · show 65 + (61 + strW "k") + p.wt ≤ 750; have : strW "k" = 16 := by decide +kernel
          omega
      | false => exact rest _ ⟨p, by omega, hp.tk, hb, by omega, by omega, rfl⟩
    rintro ρ ⟨p', q1, q2, q3, q4, q5, rfl⟩
    refine ⟨by show 3 ≤ _; omega, ?_⟩
    refine ⟨by rw [List.length_map]; omega, d3, ks ++ [⟨x, p', false⟩], dat (.str x), dat p'.d, j3.mono (by omega), ?_, fun k hk' => ?_, ?_⟩
    · rw [List.map_append, nm, List.take_succ, hi2]; rfl
    · rcases List.mem_append.mp hk' with z | z
      · exact hk k z
      · rw [List.mem_singleton.mp z]; exact ⟨⟨gx.2.1, (by show p'.dep ≤ 20; omega), q2⟩, q3, rfl, q4, q5, q1⟩
    · unfold ksD; rw [List.map_append]; rfl
  · rintro ρ ⟨d2, ks, s3, s4, j2, nm, hk, rfl⟩
    rw [List.length_map] at j2
    rw [List.length_map, List.take_length] at nm
    have lk : ks.length = ns.length := by have := congrArg List.length nm; rwa [List.length_map] at this
    have nsk : skp ks = [] := by
      unfold skp; rw [List.filter_eq_nil_iff.mpr (fun k hk' => by rw [(hk k hk').2.2.1]; decide)]; rfl
    have sg5 : ∀ l : List KD, (∀ k ∈ l, k.pat.cnt ≤ 5) → sgs l ≤ 5 * l.length := by
      intro l
      induction l with
      | nil => intro _; exact Nat.le_refl _
      | cons a l ih =>
        intro h
        have := ih fun k z => h k (List.mem_cons_of_mem _ z)
        have := h a List.mem_cons_self
        unfold sgs at *
        rw [List.map_cons, List.sum_cons, List.length_cons]; omega
    have pwk : ∀ k ∈ ks, k.wt ≤ 900 := fun k z => by
      have := (hk k z).2.2.2.2.1
      have := strW_le (hk k z).1.tk
      unfold KD.wt; omega
    have g0 : GoodK ns ks := by
      refine ⟨⟨fun k hk' => (hk k hk').1, by omega⟩, ?_, ?_, by omega, by omega, fun x hx => by rw [nm]; exact hx, fun x hx => .inl (by rw [nm] at hx; exact hx), (fun x hx => by rw [nsk] at hx; cases hx), fun k hk' => pwk k hk', fun k hk' => (hk k hk').2.2.2.2.2⟩
      · refine kinF_none ks [] (fun k hk' => ⟨?_, (hk k hk').2.1⟩) (by rw [List.nil_append, nm]; exact hn.nd)
        have : k.name ∈ ns := by rw [← nm]; exact List.mem_map.mpr ⟨k, hk', rfl⟩
        exact (hn.gd _ this).1
      · have := sg5 ks fun k z => (hk k z).2.2.2.1; omega
    refine ⟨nd1 _, c + 40 * ns.length, d2, 2, rfl, j2, by decide, by decide, by omega, fun r d3 t3 r0 r1 j3 => ?_⟩
    refine ⟨rfl, rfl, ?_⟩
    rw [eqD_int]
    by_cases hz : r = 0
    case neg =>
      rw [decide_eq_false hz]
      exact q ks d3 _ g0 (j3.mono (by omega))
    rw [decide_eq_true hz]
    refine ⟨nd1 _, c + 40 * ns.length + 1, d3, ((ks.length : Nat) : Int) + 1, by rw [← List.length_map (f := KD.d)]; rfl, j3, by omega, by omega, by omega, fun r2 d4 t4 r20 r21 j4 => ?_⟩
    obtain ⟨m, rfl⟩ : ∃ m : Nat, r2 = m := ⟨r2.toNat, by omega⟩
    refine ⟨by show 2 ≤ _; omega, by show 2 ≤ _; omega, by show 3 ≤ _; omega, ?_⟩
    refine ⟨by omega, by omega, by rw [List.length_map]; omega, ?_⟩
    have ei : (ks.map KD.d).take ((m : Nat) : Int).toNat ++ [gapK.d] ++ (ks.map KD.d).drop ((m : Nat) : Int).toNat = (ks.take m ++ gapK :: ks.drop m).map KD.d := by
      rw [Int.toNat_natCast, List.map_append, List.map_cons, List.map_take, List.map_drop, List.append_assoc]; rfl
    have pm : (ks.take m ++ gapK :: ks.drop m).Perm (gapK :: ks) := List.perm_middle.trans (by rw [List.take_append_drop])
    have mem : ∀ k, k ∈ ks.take m ++ gapK :: ks.drop m ↔ k = gapK ∨ k ∈ ks := fun k => by rw [pm.mem_iff, List.mem_cons]
    have ng : ("gap" : Str) ∉ ns := fun z => (hn.gd _ z).2.2 (by decide +kernel)
    have lk' : (ks.take m ++ gapK :: ks.drop m).length = ks.length + 1 := by rw [pm.length_eq, List.length_cons]
    have g1 : GoodK ns (ks.take m ++ gapK :: ks.drop m) := by
      refine ⟨⟨fun k hk' => ?_, by omega⟩, ?_, ?_, by omega, by omega, fun x hx => ?_, fun x hx => ?_, fun x hx => ?_, fun k hk' => by
        rcases (mem k).mp hk' with z | z
        · rw [z]; exact (by decide +kernel : gapK.wt ≤ 900)
        · exact pwk k z, fun k hk' => by
        rcases (mem k).mp hk' with z | z
        · rw [z]; exact (by decide +kernel : gapK.pat.dep ≤ 3)
        · exact (hk k z).2.2.2.2.2⟩
      · rcases (mem k).mp hk' with z | z
        · rw [z]; exact gap_ok
        · exact (hk k z).1
      · refine kinF_none _ [] (fun k hk' => ?_) ?_
        · rcases (mem k).mp hk' with z | z
          · rw [z]; exact ⟨by decide +kernel, rfl⟩
          · have : k.name ∈ ns := by rw [← nm]; exact List.mem_map.mpr ⟨k, z, rfl⟩
            exact ⟨(hn.gd _ this).1, (hk k z).2.1⟩
        · rw [List.nil_append, (pm.map KD.name).nodup_iff, List.map_cons, List.nodup_cons, nm]
          exact ⟨ng, hn.nd⟩
      · have := sg5 (ks.take m ++ gapK :: ks.drop m) fun k z => by
          rcases (mem k).mp z with z | z
          · rw [z]; decide
          · exact (hk k z).2.2.2.1
        omega
      · rw [(pm.map KD.name).mem_iff, List.map_cons, nm]; exact List.mem_cons_of_mem _ hx
      · rw [(pm.map KD.name).mem_iff, List.map_cons, nm] at hx
        rcases List.mem_cons.mp hx with z | z
        · exact .inr z
        · exact .inl z
      · unfold skp at hx
        obtain ⟨k, hk', rfl⟩ := List.mem_map.mp hx
        obtain ⟨h1, h2⟩ := List.mem_filter.mp hk'
        rcases (mem k).mp h1 with z | z
        · rw [z]; rfl
        · rw [(hk k z).2.2.1] at h2; cases h2
    have fin := fun s1 => q (ks.take m ++ gapK :: ks.drop m) d4 s1 g1 (j4.mono (by omega))
    unfold ksD at fin
    rw [← ei] at fin
    exact fin _
end
end K10
set_option maxRecDepth 100000
set_option maxHeartbeats 2000000
namespace K10
open PySem PySem.Spec PyProof.Rows L2 Yard YP
section
variable {P : Program} {w : World} {K : PySem.W.Frag} {mg : Str → Option Value} {base : Heap}
def uAlt : UF := fun ρ R => ∃ (c : Nat) (d : D) (b : Bool) (ls hs lt : List Str), ρ = [own d, dat (.bl b), own (.lst (ls.map D.str)), dat (.lst (hs.map D.str)), dat (.lst (lt.map D.str))] ∧ JarOk c d ∧ c + 40 < 1000000 ∧ 3 ≤ ls.length ∧ ls.length ≤ 100 ∧ hs.length ≤ 100 ∧ 1 ≤ lt.length ∧ lt.length ≤ 100 ∧
  ∀ (as : List AL) d2 s1 s3 s4, 1 ≤ as.length → as.length ≤ 3 → as.map AL.label = ls.take as.length → (∀ a ∈ as, a.row.length ≤ 3 ∧ ∀ s ∈ a.row, s ∈ hs ++ lt) → JarOk (c + 40) d2 → R (.own (alD as)) [own d2, s1, own (.lst ((ls.drop as.length).map D.str)), s3, s4]
theorem sc__law_alternatives : FnScope ["purse", "solid", "labels", "own", "later", "found", "k", "some", "row", "j"] ["purse", "solid", "labels", "own", "later"] (defScope s__law_alternatives) := ⟨rfl, rfl, rfl, by decide +kernel, rfl, by decide +kernel, by decide +kernel⟩
theorem ok__law_alternatives (T : Tx K w mg) : FnOk P w K mg base CX0 2 T.a__law_alternatives T.f__law_alternatives ["purse", "solid", "labels", "own", "later"] (PSp K 5 uAlt) := by
  refine fn_mk T.d__law_alternatives.fn sc__law_alternatives (by decide) fun cdv A outer s H E hr => ?_
  refine ⟨_, (fb_cons (fs_set (ps_set (i := 5) sc__law_alternatives.nd rfl (.inl rfl) pe_S) (fe_lst fa_nil))
      (fb_cons (fs_for PassesOwn.never rfl (fi_range1 (by rfl) T.z_range (fa_cons (fe_op os_add fe_int (fe_call (ok__law_drawn T) (hr.mono (by omega)) (by rfl) T.d__law_drawn.at_ T.d__law_drawn.kp T.d__law_drawn.bd (fr_ref (fv 0) (fr_val fe_int fr_nil)))) fa_nil)) (fg_name (pg_name (i := 6) sc__law_alternatives.nd rfl (.inl rfl)))
      (fb_cons (fs_set (ps_set (i := 7) sc__law_alternatives.nd rfl (.inr rfl) pe_S) (fe_op os_add (fv 3) (fv 4)))
      (fb_cons (fs_if (FW.ft (fw_and (ft_cmp (os_eq (ru hr)) (fv 6) fe_int) (fw_and1 (ft_tru (fv 1)))))
      (fb_one (fs_set (ps_set (i := 7) sc__law_alternatives.nd rfl (.inr rfl) pe_S) (fv 4)))
      fb_nil)
      (fb_cons (fs_setLc (i := 8) rfl sc__law_alternatives.nd rfl rfl (sw_true rfl rfl rfl (by decide +kernel)) (fi_range1 (by rfl) T.z_range (fa_cons (fe_ix (fe_lst (fa_cons fe_int (fa_cons fe_int (fa_cons fe_int (fa_cons fe_int (fa_cons fe_int fa_nil)))))) (fe_call (ok__law_drawn T) (hr.mono (by omega)) (by rfl) T.d__law_drawn.at_ T.d__law_drawn.kp T.d__law_drawn.bd (fr_ref (fv 0) (fr_val fe_int fr_nil)))) fa_nil)) (blkOk_by (own := [("j", 9)]) (N := ["purse", "solid", "labels", "own", "later", "found", "k", "some", "row", "j"]) (sc := defScope s__law_alternatives) (by decide +kernel)) (fun _ _ _ _ _ => (fg_name (pg_name (i := 9) sc__law_alternatives.nd rfl (.inl rfl)) (by intro l e; cases e; decide +kernel))) (fun _ _ _ _ _ => fts_nil) (fun _ _ _ _ _ => (fe_ix (fv 7) (fe_call (ok__law_drawn T) (hr.mono (by omega)) (by rfl) T.d__law_drawn.at_ T.d__law_drawn.kp T.d__law_drawn.bd (fr_ref (fv 0) (fr_val (fe_b cb_len (by rfl) T.z_len (by decide +kernel) (fr_ref (fv 7) fr_nil)) fr_nil))))))
      (fb_one (fs_expr (fe_mu mu_append PySem.F.slot_list_append PySem.F.type_list_append (fv 5) (fa_cons (fe_tup (fa_cons (fe_mu mu_popAt PySem.F.slot_list_pop PySem.F.type_list_pop (fv 2) (fa_cons fe_int fa_nil)) (fa_cons (fe_bt cb_tuple (by rfl) T.z_tuple (by decide +kernel) (fr_ref (fv 8) fr_nil)) fa_nil))) fa_nil))))))))
      (fb_one (fs_ret (fv 5))))), fun ρ R hl h => ?_⟩
  obtain ⟨c, d, b, ls, hs, lt, rfl, hj, hc, h3, hl9, hh9, hlt, hlt9, q⟩ := h
  have sz := sz2
  refine ⟨Nat.zero_le _, ?_⟩
  refine ⟨nd1 _, c, d, 3, rfl, hj, by decide, by decide, by omega, fun r d1 t1 p0 p1 j1 => ?_⟩
  obtain ⟨m, rfl⟩ : ∃ m : Nat, r = m := ⟨r.toNat, by omega⟩
  refine ⟨by show -2 ^ 62 ≤ (1 : Int) + (m : Int); omega, by show (1 : Int) + (m : Int) < 2 ^ 62; omega, ?_⟩
  refine ⟨fun i ρ => ∃ (d2 : D) (as : List AL) (s6 s7 s8 : Sl), JarOk (c + 1 + 10 * i) d2 ∧ as.length = i ∧ as.map AL.label = ls.take i ∧ (∀ a ∈ as, a.row.length ≤ 3 ∧ ∀ s ∈ a.row, s ∈ hs ++ lt) ∧
    ρ = [.sl true true d2, .sl false true (.bl b), .sl true true (.lst ((ls.drop i).map D.str)), .sl false true (.lst (hs.map D.str)), .sl false true (.lst (lt.map D.str)), own (alD as), s6, s7, s8, .un], ⟨d1, [], .un, .un, .un, j1, rfl, rfl, (fun _ h => nomatch h), rfl⟩, ?_, ?_⟩
  · rintro i y ρ hi ⟨d2, as, s6, s7, s8, j2, la, nm, ha, rfl⟩
    obtain ⟨li, rfl⟩ := intsD_get hi
    have li3 : i < 3 := by omega
    refine ⟨by rw [List.length_map, List.length_map]; omega, ?_⟩
    rw [← List.map_append]
    dsimp only [YP.put]
    refine seq_cut (fun ρ => ∃ (so : List Str) (o : Bool), 1 ≤ so.length ∧ so.length ≤ 200 ∧ (∀ s ∈ so, s ∈ hs ++ lt) ∧ ρ = [.sl true true d2, .sl false true (.bl b), .sl true true (.lst ((ls.drop i).map D.str)), .sl false true (.lst (hs.map D.str)), .sl false true (.lst (lt.map D.str)), own (alD as), dat (.int (0 + (i : Int))), .sl o false (.lst (so.map D.str)), s8, .un]) ?rest fun rest => ?here
    case here =>
      refine ⟨rfl, rfl, ?_⟩
      rw [eqD_int]
      have e1 : ∀ s ∈ hs ++ lt, s ∈ hs ++ lt := fun _ h => h
      by_cases h0 : (0 + (i : Int)) = 0
      · rw [decide_eq_true h0]
        cases b with
        | true => exact rest _ ⟨lt, false, hlt, by omega, fun s h => List.mem_append.mpr (.inr h), rfl⟩
        | false => exact rest _ ⟨hs ++ lt, true, by rw [List.length_append]; omega, by rw [List.length_append]; omega, e1, rfl⟩
      · rw [decide_eq_false h0]
        exact rest _ ⟨hs ++ lt, true, by rw [List.length_append]; omega, by rw [List.length_append]; omega, e1, rfl⟩
    rintro ρ ⟨so, o, so1, so9, hso, rfl⟩
    refine ⟨by show 5 ≤ _; omega, ?_⟩
    refine ⟨nd1 _, c + 1 + 10 * i, d2, 5, rfl, j2, by decide, by decide, by omega, fun r d3 t3 r0 r1 j3 => ?_⟩
    obtain ⟨n, en, n3⟩ : ∃ n : Nat, L2.atI [D.int 0, D.int 1, D.int 2, D.int 3, D.int 2] r = some (.int (n : Int)) ∧ n ≤ 3 := by
      have r4 : r = 0 ∨ r = 1 ∨ r = 2 ∨ r = 3 ∨ r = 4 := by omega
      rcases r4 with rfl | rfl | rfl | rfl | rfl
      · exact ⟨0, rfl, by decide⟩
      · exact ⟨1, rfl, by decide⟩
      · exact ⟨2, rfl, by decide⟩
      · exact ⟨3, rfl, by decide⟩
      · exact ⟨2, rfl, by decide⟩
    refine ⟨_, en, ?_⟩
    refine ⟨by show -2 ^ 62 ≤ (n : Int); omega, by show (n : Int) < 2 ^ 62; omega, ?_⟩
    refine ⟨fun t acc ρ => ∃ (d4 : D) (row : List Str), JarOk (c + 2 + 10 * i + t) d4 ∧ acc = row.map D.str ∧ row.length = t ∧ (∀ s ∈ row, s ∈ hs ++ lt) ∧ ρ = [.sl true true d4, .sl false true (.bl b), .sl true true (.lst ((ls.drop i).map D.str)), .sl false true (.lst (hs.map D.str)), .sl false true (.lst (lt.map D.str)), own (alD as), dat (.int (0 + (i : Int))), .sl o false (.lst (so.map D.str)), s8, .un], ⟨d3, [], j3.mono (by omega), rfl, rfl, (fun _ h => nomatch h), rfl⟩, ?_, ?_, ?_⟩
    · rintro t y acc ρ ht ⟨d4, row, j4, rfl, lr, hrow, rfl⟩
      obtain ⟨ltn, rfl⟩ := intsD_get ht
      have : t < 3 := by omega
      cases o <;>
      · refine ⟨nd1 _, c + 2 + 10 * i + t, d4, ((so.length : Nat) : Int), by rw [← List.length_map (f := D.str)]; rfl, j4, by omega, by omega, by omega, fun r2 d5 s5' r20 r21 j5 => ?_⟩
        obtain ⟨z, hz, ez⟩ := atI_in (l := so.map D.str) r20 (by rw [List.length_map]; exact r21)
        obtain ⟨s, hs2, rfl⟩ := List.mem_map.mp hz
        refine ⟨_, ez, ?_⟩
        refine ⟨by rw [List.length_map]; omega, d5, row ++ [s], j5, ?_, by rw [List.length_append, lr]; rfl, fun x hx => ?_, rfl⟩
        · rw [List.map_append]; rfl
        · rcases List.mem_append.mp hx with q1 | q1
          · exact hrow x q1
          · rw [List.mem_singleton.mp q1]; exact hso s hs2
    · rintro t acc ρ ⟨d4, row, _, _, _, _, rfl⟩
      exact ⟨_, (rfl : _ = YP.wipeS [.sl true true d4, .sl false true (.bl b), .sl true true (.lst ((ls.drop i).map D.str)), .sl false true (.lst (hs.map D.str)), .sl false true (.lst (lt.map D.str)), own (alD as), dat (.int (0 + (i : Int))), .sl o false (.lst (so.map D.str)), s8, .un] [9])⟩
    rintro acc ρ ⟨d4, row, j4, rfl, lr, hrow, rfl⟩
    have lD : (intsD 0 (n : Int).toNat).length = n := by rw [intsD_len, Int.toNat_natCast]
    rw [lD] at lr j4
    have hil : i < ls.length := by omega
    have ed : (ls.drop i).map D.str = .str ls[i] :: (ls.drop (i + 1)).map D.str := by rw [List.drop_eq_getElem_cons hil]; rfl
    refine ⟨0, .str ls[i], rfl, by decide, ?_, ?_⟩
    · rw [ed]; rfl
    rw [ed]
    refine ⟨by show 2 ≤ _; omega, ?_⟩
    refine ⟨by rw [List.length_map]; omega, d4, as ++ [⟨ls[i], row⟩], dat (.int (0 + (i : Int))), .sl o false (.lst (so.map D.str)), own (.lst (row.map D.str)), j4.mono (by omega), by rw [List.length_append, la]; rfl, ?_, fun a ha' => ?_, ?_⟩
    · rw [List.map_append, nm, List.take_succ, List.getElem?_eq_getElem hil]; rfl
    · rcases List.mem_append.mp ha' with z | z
      · exact ha a z
      · rw [List.mem_singleton.mp z]; exact ⟨by show row.length ≤ 3; omega, hrow⟩
    · have e2 : alD (as ++ [⟨ls[i], row⟩]) = .lst (as.map AL.d ++ [.tup [.str ls[i], .tup (row.map D.str)]]) := by unfold alD; rw [List.map_append]; rfl
      rw [e2]; cases o <;> rfl
  · rintro ρ ⟨d2, as, s6, s7, s8, j2, la, nm, ha, rfl⟩
    have lD : (intsD 0 (1 + (m : Int)).toNat).length = 1 + m := by rw [intsD_len]; omega
    rw [lD] at la nm j2
    rw [lD]
    have := q as d2 (dat (.bl b)) (dat (.lst (hs.map D.str))) (dat (.lst (lt.map D.str))) (by omega) (by omega) (by rw [la]; exact nm) ha (j2.mono (by omega))
    rw [la] at this
    exact this
end
end K10
set_option maxRecDepth 100000
set_option maxHeartbeats 2000000
namespace K10
open PySem PySem.Spec PyProof.Rows L2 Yard YP
theorem altF_none : ∀ (as : List AL) (ls : List Str), (∀ a ∈ as, gn a.label = true ∧ a.row.length ≤ 6) → (ls ++ as.map AL.label).Nodup → altF ls as = none
  | [], _, _, _ => rfl
  | a :: as, ls, h, nd => by
    have ha := h a List.mem_cons_self
    rw [List.map_cons] at nd
    have nm : a.label ∉ ls := fun z => (List.nodup_append.mp nd).2.2 a.label z a.label List.mem_cons_self rfl
    unfold altF
    rw [if_neg (by rw [ha.1]; decide), if_neg nm, if_neg (by omega)]
    refine altF_none as _ (fun z hz => h z (List.mem_cons_of_mem _ hz)) ?_
    rw [List.append_assoc]; exact nd
theorem rulF_none : ∀ (rs : List RU) (tk ls : List Str), (∀ r ∈ rs, gn r.head = true ∧ r.alts.length ≠ 0 ∧ ∀ a ∈ r.alts, gn a.label = true ∧ a.row.length ≤ 6) → (tk ++ rs.map RU.head).Nodup → (ls ++ labs rs).Nodup → rulF tk ls rs = none
  | [], _, _, _, _, _ => rfl
  | r :: rs, tk, ls, h, nd, nl => by
    have hr := h r List.mem_cons_self
    rw [List.map_cons] at nd
    have nm : r.head ∉ tk := fun z => (List.nodup_append.mp nd).2.2 r.head z r.head List.mem_cons_self rfl
    have el : labs (r :: rs) = r.alts.map AL.label ++ labs rs := rfl
    rw [el, ← List.append_assoc] at nl
    unfold rulF newF
    rw [if_neg (by rw [hr.1]; decide), if_neg nm]
    show (if r.alts.length = 0 then _ else _) = _
    rw [if_neg hr.2.1, altF_none r.alts ls hr.2.2 (List.nodup_append.mp nl).1]
    show rulF _ _ _ = _
    refine rulF_none rs _ _ (fun z hz => h z (List.mem_cons_of_mem _ hz)) ?_ nl
    rw [List.append_assoc]; exact nd
theorem symF_none {known skipped : List Str} : ∀ (ss : List Str), (∀ s ∈ ss, s ∈ known ∧ s ∉ skipped) → symF known skipped ss = none
  | [], _ => rfl
  | s :: ss, h => by
    have hs := h s List.mem_cons_self
    unfold symF
    rw [if_pos hs.1, if_neg hs.2]
    exact symF_none ss fun z hz => h z (List.mem_cons_of_mem _ hz)
structure GoodW (ks : List KD) (rs : List RU) : Prop where
  kok : KsOk ks
  rok : RsOk rs
  f0 : fault ks rs none [] = none
  lo : 1 ≤ rs.length
  hi : rs.length ≤ 4
  kl : ks.length ≤ 4
  al : ∀ r ∈ rs, r.alts.length ≤ 3 ∧ ∀ a ∈ r.alts, a.row.length ≤ 3
  kd : ∀ k ∈ ks, k.pat.dep ≤ 3
  kw : kwt ks ≤ 6000
  rw : rwt rs ≤ 6000
theorem good_w {ns ls : List Str} {w h : Nat} {ks : List KD} {rs : List RU} (hn : NsOk ns) (hl : NsOk ls) (gk : GoodK (ns.take w) ks) (hw3 : w ≤ 3) (h1 : 1 ≤ h) (h4 : h ≤ 4) (n7 : ns.length = 7)
    (hh : rs.map RU.head = (ns.drop 3).take h) (hlb : labs rs = ls.take (labs rs).length) (ha : ∀ r ∈ rs, 1 ≤ r.alts.length ∧ r.alts.length ≤ 3 ∧ ∀ a ∈ r.alts, a.row.length ≤ 3 ∧ ∀ s ∈ a.row, s ∈ ns.take w ∨ s ∈ (ns.drop 3).take h) : GoodW ks rs := by
  have lr : rs.length = h := by
    have := congrArg List.length hh
    rw [List.length_map, List.length_take, List.length_drop, n7] at this; omega
  have hd : ∀ x ∈ rs.map RU.head, x ∈ ns := fun x hx => by rw [hh] at hx; exact List.mem_of_mem_drop (List.mem_of_mem_take hx)
  have ll : ∀ x ∈ labs rs, x ∈ ls := fun x hx => by rw [hlb] at hx; exact List.mem_of_mem_take hx
  have lab_in : ∀ r ∈ rs, ∀ a ∈ r.alts, a.label ∈ labs rs := fun r hr a haa => List.mem_flatMap.mpr ⟨r, hr, List.mem_map.mpr ⟨a, haa, rfl⟩⟩
  have w_in : ∀ x ∈ ns.take w, x ∈ ns := fun x hx => List.mem_of_mem_take hx
  have tkns : ∀ r ∈ rs, ∀ a ∈ r.alts, ∀ s ∈ a.row, Tk s := fun r hr a haa s hs => by
    rcases ((ha r hr).2.2 a haa).2 s hs with z | z
    · exact (hn.gd _ (w_in _ z)).2.1
    · exact (hn.gd _ (List.mem_of_mem_drop (List.mem_of_mem_take z))).2.1
  have alsb : ∀ l : List RU, (∀ r ∈ l, r.alts.length ≤ 3) → (l.map fun r => r.alts.length).sum ≤ 3 * l.length := by
    intro l
    induction l with
    | nil => intro _; exact Nat.le_refl _
    | cons a l ih =>
      intro h
      have := ih fun k z => h k (List.mem_cons_of_mem _ z)
      have := h a List.mem_cons_self
      rw [List.map_cons, List.sum_cons, List.length_cons]; omega
  have al12 := alsb rs fun r hr => (ha r hr).2.1
  have rok : RsOk rs := ⟨fun r hr => ⟨(hn.gd _ (hd _ (List.mem_map.mpr ⟨r, hr, rfl⟩))).2.1, fun a haa => ⟨(hl.gd _ (ll _ (lab_in r hr a haa))).2.1, tkns r hr a haa, by have := ((ha r hr).2.2 a haa).1; omega⟩, by have := (ha r hr).2.1; omega⟩, by omega, by omega⟩
  have nn : (ks.map KD.name ++ rs.map RU.head).Nodup := by
    have kn : (ks.map KD.name).Nodup := by
      have : ∀ (ks : List KD) (met : List Str), kinF met ks = none → met.Nodup → (met ++ ks.map KD.name).Nodup := by
        intro ks
        induction ks with
        | nil => intro met _ h; rw [List.map_nil, List.append_nil]; exact h
        | cons k ks ih =>
          intro met e nd
          unfold kinF newF at e
          by_cases g1 : gn k.name = false
          · rw [if_pos g1] at e; cases e
          rw [if_neg g1] at e
          by_cases g2 : k.name ∈ met
          · rw [if_pos g2] at e; cases e
          rw [if_neg g2] at e
          have e : (if k.pat.bare = true then some (("empty" : Str), k.name) else kinF (met ++ [k.name]) ks) = none := e
          by_cases g3 : k.pat.bare = true
          · rw [if_pos g3] at e; cases e
          rw [if_neg g3] at e
          have := ih (met ++ [k.name]) e (List.nodup_append.mpr ⟨nd, by simp, fun a ha b hb => by rw [List.mem_singleton.mp hb]; exact fun z => g2 (z ▸ ha)⟩)
          rw [List.append_assoc] at this
          exact this
      have := this ks [] gk.ni List.nodup_nil
      rwa [List.nil_append] at this
    refine List.nodup_append.mpr ⟨kn, ?_, fun a haa b hb => ?_⟩
    · rw [hh]; exact (hn.nd.sublist (List.drop_sublist _ _)).sublist (List.take_sublist _ _)
    · rintro rfl
      rw [hh] at hb
      rcases gk.no _ haa with z | z
      · have e1 : ns.take w ++ ns.drop w = ns := List.take_append_drop w ns
        have nd := hn.nd
        rw [← e1] at nd
        have b2 : a ∈ ns.drop w := by
          have : a ∈ ns.drop 3 := List.mem_of_mem_take hb
          have e3 : ns.drop 3 = (ns.drop w).drop (3 - w) := by rw [List.drop_drop]; congr 1; omega
          rw [e3] at this; exact List.mem_of_mem_drop this
        exact (List.nodup_append.mp nd).2.2 a z a b2 rfl
      · subst z
        exact (hn.gd _ (List.mem_of_mem_drop (List.mem_of_mem_take hb))).2.2 (by decide +kernel)
  refine ⟨gk.ok, rok, ?_, by omega, by omega, gk.hi, fun r hr => ⟨(ha r hr).2.1, fun a haa => ((ha r hr).2.2 a haa).1⟩, gk.pd, ?_, ?_⟩
  case refine_2 =>
    have h1 := sumW_le KD.wt 900 ks gk.pw
    have h2 := Nat.mul_le_mul_right 900 gk.hi
    unfold kwt; omega
  case refine_3 =>
    have h1 := sumW_le RU.wt 1400 rs fun r hr => Nat.le_trans (RU.wt_le (m := 3) (k := 3) (rok.ok r hr) (ha r hr).2.1 fun a haa => ((ha r hr).2.2 a haa).1) (by decide)
    unfold rwt; omega
  have mf : many ks rs [] = false := by
    have := gk.sg; have := gk.lo; have := gk.hi
    unfold many
    have : als rs ≤ 12 := by unfold als; omega
    simp only [Bool.or_eq_false_iff, Bool.not_eq_false', decide_eq_true_eq, decide_eq_false_iff_not]
    refine ⟨by omega, by omega, by simp, by omega, by omega⟩
  have rf : rulF (ks.map KD.name) [] rs = none := by
    refine rulF_none rs _ _ (fun r hr => ⟨(hn.gd _ (hd _ (List.mem_map.mpr ⟨r, hr, rfl⟩))).1, by have := (ha r hr).1; omega, fun a haa => ⟨(hl.gd _ (ll _ (lab_in r hr a haa))).1, by have := ((ha r hr).2.2 a haa).1; omega⟩⟩) nn ?_
    rw [List.nil_append, hlb]
    exact hl.nd.sublist (List.take_sublist _ _)
  have sf : symF (knw ks rs) (skp ks) (syms rs) = none := by
    refine symF_none _ fun s hs => ?_
    obtain ⟨r, hr, hs⟩ := List.mem_flatMap.mp hs
    obtain ⟨a, haa, hs⟩ := List.mem_flatMap.mp hs
    have inn : s ∈ ns := by
      rcases ((ha r hr).2.2 a haa).2 s hs with z | z
      · exact w_in _ z
      · exact List.mem_of_mem_drop (List.mem_of_mem_take z)
    refine ⟨?_, fun z => ?_⟩
    · rcases ((ha r hr).2.2 a haa).2 s hs with z | z
      · exact List.mem_append.mpr (.inl (gk.nm _ z))
      · exact List.mem_append.mpr (.inr (by rw [hh]; exact z))
    · have := gk.sk _ z
      subst this
      exact (hn.gd _ inn).2.2 (by decide +kernel)
  unfold fault
  rw [mf, if_neg (by decide), gk.ni]
  show (match rulF _ _ _ with | some f => _ | none => _) = _
  rw [rf]
  show (match symF _ _ _ with | some f => _ | none => _) = _
  rw [sf]
  show (if begOf rs none ∉ rs.map RU.head then _ else _) = _
  rw [if_neg]
  · rfl
  · intro z
    apply z
    cases rs with
    | nil => rw [List.length_nil] at lr; omega
    | cons r rs => exact List.mem_cons_self
end K10
set_option maxRecDepth 100000
set_option maxHeartbeats 4000000
namespace K10
open PySem PySem.Spec PyProof.Rows L2 Yard YP
theorem ycut_both {α : Type} (xs : List α) (a b : Nat) (ha : a ≤ xs.length) (hb : a ≤ b) : YP.cut xs (some (a : Int)) (some (b : Int)) = (xs.drop a).take (b - a) := by
  unfold YP.cut
  rw [HT.sIx_nat, HT.sIx_nat, Nat.min_eq_left ha]
  rcases Nat.le_total b xs.length with h | h
  · rw [Nat.min_eq_left h]
  · rw [Nat.min_eq_right h, List.take_of_length_le (by rw [List.length_drop]; omega), List.take_of_length_le (by rw [List.length_drop]; omega)]
section
variable {P : Program} {w : World} {K : PySem.W.Frag} {mg : Str → Option Value} {base : Heap}
def uWld : UF := fun ρ R => ∃ (c : Nat) (d : D), ρ = [own d] ∧ JarOk c d ∧ c + 500 < 1000000 ∧ ∀ (ks : List KD) (rs : List RU) (a : Nat) d2, GoodW ks rs → a < rs.length → JarOk (c + 500) d2 → R (.own (.lst [ksD ks, rsD rs, .int (a : Nat)])) [own d2]
theorem sc__law_world : FnScope ["purse", "some", "labels", "solid", "words", "heads", "rules", "at"] ["purse"] (defScope s__law_world) := ⟨rfl, rfl, rfl, by decide +kernel, rfl, by decide +kernel, by decide +kernel⟩
theorem ok__law_world (T : Tx K w mg) : FnOk P w K mg base CX0 26 T.a__law_world T.f__law_world ["purse"] (PSp K 1 uWld) := by
  refine fn_mk T.d__law_world.fn sc__law_world (by decide) fun cdv A outer s H E hr => ?_
  refine ⟨_, (fb_cons (fs_set (ps_set (i := 1) sc__law_world.nd rfl (.inl rfl) pe_S) (fe_call (ok__law_named T) (hr.mono (by omega)) (by rfl) T.d__law_named.at_ T.d__law_named.kp T.d__law_named.bd (fr_ref (fv 0) (fr_val fe_int fr_nil))))
      (fb_cons (fs_set (ps_set (i := 2) sc__law_world.nd rfl (.inl rfl) pe_S) (fe_call (ok__law_named T) (hr.mono (by omega)) (by rfl) T.d__law_named.at_ T.d__law_named.kp T.d__law_named.bd (fr_ref (fv 0) (fr_val fe_int fr_nil))))
      (fb_cons (fs_set (ps_set (i := 3) sc__law_world.nd rfl (.inl rfl) pe_S) (fe_cmp os_gt (fe_call (ok__law_drawn T) (hr.mono (by omega)) (by rfl) T.d__law_drawn.at_ T.d__law_drawn.kp T.d__law_drawn.bd (fr_ref (fv 0) (fr_val fe_int fr_nil))) fe_int))
      (fb_cons (fs_set (ps_set (i := 4) sc__law_world.nd rfl (.inl rfl) pe_S) (fe_sl (fv 1) fo_no (fo_int (fe_op os_add fe_int (fe_call (ok__law_drawn T) (hr.mono (by omega)) (by rfl) T.d__law_drawn.at_ T.d__law_drawn.kp T.d__law_drawn.bd (fr_ref (fv 0) (fr_val fe_int fr_nil)))))))
      (fb_cons (fs_set (ps_set (i := 5) sc__law_world.nd rfl (.inl rfl) pe_S) (fe_sl (fv 1) (fo_int fe_int) (fo_int (fe_op os_add fe_int (fe_call (ok__law_drawn T) (hr.mono (by omega)) (by rfl) T.d__law_drawn.at_ T.d__law_drawn.kp T.d__law_drawn.bd (fr_ref (fv 0) (fr_val fe_int fr_nil)))))))
      (fb_cons (fs_set (ps_set (i := 6) sc__law_world.nd rfl (.inl rfl) pe_S) (fe_lst fa_nil))
      (fb_cons (fs_for PassesOwn.never rfl (fi_range1 (by rfl) T.z_range (fa_cons (fe_b cb_len (by rfl) T.z_len (by decide +kernel) (fr_ref (fv 5) fr_nil)) fa_nil)) (fg_name (pg_name (i := 7) sc__law_world.nd rfl (.inl rfl)))
      (fb_one (fs_expr (fe_mu mu_append PySem.F.slot_list_append PySem.F.type_list_append (fv 6) (fa_cons (fe_tup (fa_cons (fe_ix (fv 5) (fv 7)) (fa_cons (fe_call (ok__law_alternatives T) (hr.mono (by omega)) (by rfl) T.d__law_alternatives.at_ T.d__law_alternatives.kp T.d__law_alternatives.bd (fr_ref (fv 0) (fr_val (fv 3) (fr_ref (fv 2) (fr_val (fv 5) (fr_val (fe_op os_add (fv 4) (fe_sl (fv 5) (fo_int (fe_op os_add (fv 7) fe_int)) fo_no)) fr_nil)))))) fa_nil))) fa_nil)))))
      (fb_one (fs_ret (fe_lst (fa_cons (fe_call (ok__law_kinds T) (hr.mono (by omega)) (by rfl) T.d__law_kinds.at_ T.d__law_kinds.kp T.d__law_kinds.bd (fr_ref (fv 0) (fr_val (fv 4) fr_nil))) (fa_cons (fv 6) (fa_cons (fe_op os_mul (fe_call (ok__law_drawn T) (hr.mono (by omega)) (by rfl) T.d__law_drawn.at_ T.d__law_drawn.kp T.d__law_drawn.bd (fr_ref (fv 0) (fr_val (fe_b cb_len (by rfl) T.z_len (by decide +kernel) (fr_ref (fv 5) fr_nil)) fr_nil))) (fe_bt cb_int (by rfl) T.z_int (by decide +kernel) (fr_ref (fe_cmp (os_eq (ru hr)) (fe_call (ok__law_drawn T) (hr.mono (by omega)) (by rfl) T.d__law_drawn.at_ T.d__law_drawn.kp T.d__law_drawn.bd (fr_ref (fv 0) (fr_val fe_int fr_nil))) fe_int) fr_nil))) fa_nil))))))))))))), fun ρ R hl h => ?_⟩
  obtain ⟨c, d, rfl, hj, hc, q⟩ := h
  have sz := sz2
  refine ⟨nd1 _, c, d, 7, rfl, hj, by omega, by decide, fun ns d1 s1 hn j1 => ?_⟩
  refine ⟨nd1 _, c + 20, d1, 12, rfl, j1, by omega, by decide, fun ls d2 s2 hl j2 => ?_⟩
  refine ⟨nd1 _, c + 40, d2, 4, rfl, j2, by decide, by decide, by omega, fun r d3 t3 r0 r1 j3 => ?_⟩
  refine ⟨nd1 _, c + 41, d3, 3, rfl, j3, by decide, by decide, by omega, fun r2 d4 t4 r20 r21 j4 => ?_⟩
  obtain ⟨w, rfl⟩ : ∃ n : Nat, r2 = n := ⟨r2.toNat, by omega⟩
  refine ⟨nd1 _, c + 42, d4, 4, rfl, j4, by decide, by decide, by omega, fun r3 d5 t5 r30 r31 j5 => ?_⟩
  obtain ⟨h, rfl⟩ : ∃ n : Nat, r3 = n := ⟨r3.toNat, by omega⟩
  have n7 := hn.len
  have l12 := hl.len
  have ew : YP.cut (ns.map D.str) none (some (1 + (w : Int))) = (ns.take (1 + w)).map D.str := by
    have : (1 + (w : Int)) = ((1 + w : Nat) : Int) := by omega
    rw [this, ycut_to, List.map_take]
  have eh : YP.cut (ns.map D.str) (some 3) (some (4 + (h : Int))) = ((ns.drop 3).take (1 + h)).map D.str := by
    have e1 : (4 + (h : Int)) = ((4 + h : Nat) : Int) := by omega
    have e2 : (3 : Int) = ((3 : Nat) : Int) := rfl
    rw [e1, e2, ycut_both _ _ _ (by rw [List.length_map]; omega) (by omega), List.map_take, List.map_drop, show 4 + h - 3 = 1 + h from by omega]
  rw [ew]
  refine ⟨Nat.zero_le _, ?_⟩
  have lh : ((ns.drop 3).take (1 + h)).length = 1 + h := by rw [List.length_take, List.length_drop]; omega
  refine ⟨?_, ?_, ?_⟩
  · rw [eh, List.length_map, lh]; omega
  · rw [eh, List.length_map, lh]; omega
  rw [eh]
  refine ⟨fun i ρ => ∃ (d6 : D) (rs : List RU) (s5 s7 : Sl), (s5 = own (.lst ((((ns.drop 3).take (1 + h)).map D.str))) ∨ s5 = dat (.lst ((((ns.drop 3).take (1 + h)).map D.str)))) ∧ (s5 = dat (.lst ((((ns.drop 3).take (1 + h)).map D.str))) ∨ i = 0) ∧ JarOk (c + 43 + 45 * i) d6 ∧ rs.length = i ∧ rs.map RU.head = ((ns.drop 3).take (1 + h)).take i ∧ labs rs = ls.take (labs rs).length ∧ (labs rs).length ≤ 3 * i ∧
    (∀ r ∈ rs, 1 ≤ r.alts.length ∧ r.alts.length ≤ 3 ∧ ∀ a ∈ r.alts, a.row.length ≤ 3 ∧ ∀ s ∈ a.row, s ∈ ns.take (1 + w) ∨ s ∈ (ns.drop 3).take (1 + h)) ∧ ρ = [.sl true true d6, own (.lst (ns.map D.str)), own (.lst ((ls.drop (labs rs).length).map D.str)), dat (.bl (decide ((0 : Int) < r))), own (.lst ((ns.take (1 + w)).map D.str)), s5, own (rsD rs), s7], ?_, ?_, ?_⟩
  · exact ⟨d5, [], _, .un, .inl rfl, .inr rfl, j5, rfl, rfl, rfl, Nat.le_refl _, (fun _ h => nomatch h), rfl⟩
  · rintro i y ρ hi ⟨d6, rs, s5, s7, hs5, _, j6, lrs, hh, hlb, hlb3, hrs, rfl⟩
    obtain ⟨li, rfl⟩ := intsD_get hi
    have li4 : i < 1 + h := by rw [List.length_map, lh] at li; omega
    generalize hHL : (ns.drop 3).take (1 + h) = HL at *
    have hiL : i < HL.length := by omega
    have ex : L2.atI (HL.map D.str) (0 + (i : Int)) = some (.str HL[i]) := by
      have : (0 + (i : Int)) = ((i : Nat) : Int) := by omega
      rw [this]; exact atI_nat (by rw [List.getElem?_map, List.getElem?_eq_getElem hiL]; rfl)
    have et : YP.cut (HL.map D.str) (some (0 + (i : Int) + 1)) none = (HL.drop (i + 1)).map D.str := by
      have : (0 + (i : Int) + 1) = ((i + 1 : Nat) : Int) := by omega
      rw [this, ycut_from, List.map_drop]
    have lw : (ns.take (1 + w)).length = 1 + w := by rw [List.length_take]; omega
    have ld : (HL.drop (i + 1)).length ≤ 4 := by rw [List.length_drop]; omega
    have eAll : (ns.take (1 + w)).map D.str ++ (HL.drop (i + 1)).map D.str = (ns.take (1 + w) ++ HL.drop (i + 1)).map D.str := by rw [List.map_append]
    rcases hs5 with rfl | rfl <;>
    · refine ⟨_, ex, ?_⟩
      refine ⟨by rw [et, List.length_map, List.length_map]; omega, ?_⟩
      rw [et, eAll]
      refine ⟨(by show ([0, 2] : List Nat).Nodup; decide), c + 43 + 45 * i, d6, decide ((0 : Int) < r), ls.drop (labs rs).length, HL, ns.take (1 + w) ++ HL.drop (i + 1), rfl, j6, by omega, by rw [List.length_drop]; omega, by rw [List.length_drop]; omega, by omega, by rw [List.length_append]; omega, by rw [List.length_append]; omega, fun as d7 u1 u3 u4 a1 a3 hlab has j7 => ?_⟩
      refine ⟨by show 2 ≤ _; omega, ?_⟩
      have elb0 : labs (rs ++ [⟨HL[i], as⟩]) = labs rs ++ as.map AL.label := by unfold labs; rw [List.flatMap_append]; simp
      have el2 : (labs (rs ++ [⟨HL[i], as⟩])).length = (labs rs).length + as.length := by rw [elb0, List.length_append, List.length_map]
      refine ⟨by rw [List.length_map]; omega, d7, rs ++ [⟨HL[i], as⟩], dat (.lst (HL.map D.str)), dat (.int (0 + (i : Int))), .inr rfl, .inl rfl, j7.mono (by omega), by rw [List.length_append, lrs]; rfl, ?_, ?_, by rw [el2]; omega, fun z hz => ?_, ?_⟩
      · rw [List.map_append, hh, List.take_succ, List.getElem?_eq_getElem hiL]; rfl
      · rw [el2, elb0, List.take_add, ← hlb, hlab]
      · rcases List.mem_append.mp hz with z1 | z1
        · exact hrs z z1
        · rw [List.mem_singleton.mp z1]
          refine ⟨a1, a3, fun b hb => ⟨(has b hb).1, fun s hs => ?_⟩⟩
          rcases List.mem_append.mp ((has b hb).2 s hs) with z2 | z2
          · exact .inr z2
          · rcases List.mem_append.mp z2 with z3 | z3
            · exact .inl z3
            · exact .inr (List.mem_of_mem_drop z3)
      · have er : rsD (rs ++ [⟨HL[i], as⟩]) = .lst (rs.map RU.d ++ [.tup [.str HL[i], .lst (as.map AL.d)]]) := by unfold rsD; rw [List.map_append]; rfl
        have eD : ls.drop ((labs rs).length + as.length) = (ls.drop (labs rs).length).drop as.length := by rw [List.drop_drop]
        rw [er, el2, eD]; rfl
  · rintro ρ ⟨d6, rs, s5, s7, hs5, hs0, j6, lrs, hh, hlb, hlb3, hrs, rfl⟩
    have hcount : (intsD 0 ((((((ns.drop 3).take (1 + h)).map D.str).length : Nat) : Int)).toNat).length = 1 + h := by rw [intsD_len, List.length_map, lh]; omega
    rw [hcount] at lrs hh j6 hs0
    rcases hs0 with rfl | hs0
    case inr => omega
    have nw : NsOk (ns.take (1 + w)) := ⟨fun x hx => hn.gd x (List.mem_of_mem_take hx), hn.nd.sublist (List.take_sublist _ _)⟩
    have lw : (ns.take (1 + w)).length = 1 + w := by rw [List.length_take]; omega
    refine ⟨nd1 _, c + 43 + 45 * (1 + h), d6, ns.take (1 + w), rfl, j6, by omega, nw, by omega, by omega, fun ks d7 u1 gk j7 => ?_⟩
    refine ⟨nd1 _, c + 43 + 45 * (1 + h) + 200, d7, ((1 + h : Nat) : Int), (by show [own d7, dat (.int (((((ns.drop 3).take (1 + h)).map D.str).length : Nat) : Int))] = _; rw [List.length_map, lh]), j7, by omega, by omega, by omega, fun r5 d8 u2 r50 r51 j8 => ?_⟩
    obtain ⟨a, rfl⟩ : ∃ n : Nat, r5 = n := ⟨r5.toNat, by omega⟩
    refine ⟨nd1 _, c + 43 + 45 * (1 + h) + 201, d8, 2, rfl, j8, by decide, by decide, by omega, fun r6 d9 u3 r60 r61 j9 => ?_⟩
    have gw : GoodW ks rs := good_w ⟨hn.gd, hn.nd⟩ ⟨hl.gd, hl.nd⟩ gk (by omega) (by omega) (by omega) n7 (by rw [hh, List.take_of_length_le (by omega)]) hlb hrs
    refine ⟨rfl, rfl, ?_⟩
    rw [eqD_int]
    by_cases h6 : r6 = 0
    · rw [decide_eq_true h6]
      refine ⟨.inr ⟨by decide, by decide⟩, by show 3 ≤ _; omega, ?_⟩
      show R (.own (.lst [ksD ks, rsD rs, .int ((a : Int) * 1)])) _
      rw [Int.mul_one]
      exact q ks rs a _ gw (by omega) (j9.mono (by omega))
    · rw [decide_eq_false h6]
      refine ⟨.inr ⟨by decide, by decide⟩, by show 3 ≤ _; omega, ?_⟩
      show R (.own (.lst [ksD ks, rsD rs, .int ((a : Int) * 0)])) _
      rw [Int.mul_zero]
      exact q ks rs 0 _ gw (by omega) (j9.mono (by omega))
end
end K10
set_option maxRecDepth 100000
set_option maxHeartbeats 4000000
namespace K10
open PySem PySem.Spec PyProof.Rows L2 Yard YP
structure EdOk (rs : List RU) : Prop where
  ok : RsOk rs
  al : als rs ≤ 100
  sm : ∀ r ∈ rs, r.alts.length ≤ 10 ∧ ∀ a ∈ r.alts, a.row.length ≤ 6
section
variable {P : Program} {w : World} {K : PySem.W.Frag} {mg : Str → Option Value} {base : Heap}
def uEdg : UF := fun ρ R => ∃ rs, ρ = [dat (rsD rs)] ∧ EdOk rs ∧ ∀ (bs : List BA) s, (∀ b ∈ bs, BOk b) → bs.length ≤ 6000 → R (.own (.lst (bs.map BA.d))) [s]
theorem sc__law_edges : FnScope ["rules", "found", "head", "label", "row", "at", "sign", "other", "signs"] ["rules"] (defScope s__law_edges) := ⟨rfl, rfl, rfl, by decide +kernel, rfl, by decide +kernel, by decide +kernel⟩
theorem ok__law_edges (T : Tx K w mg) : FnOk P w K mg base CX0 3 T.a__law_edges T.f__law_edges ["rules"] (PSp K 1 uEdg) := by
  refine fn_mk T.d__law_edges.fn sc__law_edges (by decide) fun cdv A outer s H E hr => ?_
  refine ⟨_, (fb_cons (fs_set (ps_set (i := 1) sc__law_edges.nd rfl (.inl rfl) pe_S) (fe_lst fa_nil))
      (fb_cons (fs_for PassesOwn.never rfl (fi_list (fe_call (ok__law_all T) (hr.mono (by omega)) (by rfl) T.d__law_all.at_ T.d__law_all.kp T.d__law_all.bd (fr_val (fv 0) fr_nil))) (fg_tup (n := 3) rfl (fgs_cons (fg_name (pg_name (i := 2) sc__law_edges.nd rfl (.inl rfl))) (fgs_cons (fg_name (pg_name (i := 3) sc__law_edges.nd rfl (.inr rfl))) (fgs_cons (fg_name (pg_name (i := 4) sc__law_edges.nd rfl (.inl rfl))) fgs_nil))))
      (fb_one (fs_for PassesOwn.never rfl (fi_enumT (by rfl) T.z_enumerate (fa_cons (fv 4) fa_nil)) (fg_tup (n := 2) rfl (fgs_cons (fg_name (pg_name (i := 5) sc__law_edges.nd rfl (.inr rfl))) (fgs_cons (fg_name (pg_name (i := 6) sc__law_edges.nd rfl (.inl rfl))) fgs_nil)))
      (fb_one (fs_expr (fe_mu (mu_extend rfl) PySem.F.slot_list_extend PySem.F.type_list_extend (fv 1) (fa_cons (fe_lc rfl sc__law_edges.nd (fi_list (fe_dget2 (rk hr) (fe_bt (cb_dict rfl) (by rfl) T.z_dict (by decide +kernel) (fr_ref (fv 0) fr_nil)) (fv 6) (fe_lst fa_nil))) (blkOk_by (own := [("other", 7), ("signs", 8)]) (N := ["rules", "found", "head", "label", "row", "at", "sign", "other", "signs"]) (sc := defScope s__law_edges) (by decide +kernel)) (fun _ _ _ _ _ => (fg_tup (n := 2) rfl (fgs_cons (fg_name (pg_name (i := 7) sc__law_edges.nd rfl (.inl rfl)) (by intro l e; cases e; decide +kernel)) (fgs_cons (fg_name (pg_name (i := 8) sc__law_edges.nd rfl (.inl rfl)) (by intro l e; cases e; decide +kernel)) fgs_nil)))) (fun _ _ _ _ _ => fts_nil) (fun _ _ _ _ _ => (fe_tup (fa_cons (fv 3) (fa_cons (fe_op os_add (fv 5) fe_int) (fa_cons (fv 7) fa_nil)))))) fa_nil)))))))
      (fb_one (fs_ret (fv 1))))), fun ρ R hl h => ?_⟩
  obtain ⟨rs, rfl, hr', q⟩ := h
  have sz := sz2
  have ez : sizeLine = 16777216 := sizeLine_eq
  have la := allA_len rs
  have ta := hr'.al
  refine ⟨Nat.zero_le _, ?_⟩
  refine ⟨List.nodup_nil, rs, rfl, hr'.ok, fun s => ?_⟩
  refine ⟨fun i ρ => ∃ (bs : List BA) (s2 s3 s4 s5 s6 : Sl), (∀ b ∈ bs, BOk b) ∧ bs.length ≤ 60 * i ∧ ρ = [.sl false true (rsD rs), own (.lst (bs.map BA.d)), s2, s3, s4, s5, s6, .un, .un], ⟨[], .un, .un, .un, .un, .un, (fun _ h => nomatch h), Nat.le_refl _, rfl⟩, ?_, ?_⟩
  · rintro i y ρ hi ⟨bs, s2, s3, s4, s5, s6, hb, lb, rfl⟩
    rw [allA_D, List.getElem?_map] at hi
    obtain ⟨p, hi2, rfl⟩ := Option.map_eq_some_iff.mp hi
    have hil : i < (allA rs).length := (List.getElem?_eq_some_iff.mp hi2).1
    have pm := List.mem_of_getElem? hi2
    have aa := allA_ok hr'.ok pm
    have r6 : p.2.row.length ≤ 6 := by
      obtain ⟨r, hr, hp⟩ := List.mem_flatMap.mp pm
      obtain ⟨a, ha, rfl⟩ := List.mem_map.mp hp
      exact (hr'.sm r hr).2 a ha
    refine ⟨rfl, ?_⟩
    refine ⟨fun j ρ => ∃ (bs : List BA) (s5 s6 : Sl), (∀ b ∈ bs, BOk b) ∧ bs.length ≤ 60 * i + 10 * j ∧ ρ = [.sl false true (rsD rs), own (.lst (bs.map BA.d)), dat (.str p.1), dat (.str p.2.label), dat (.tup (p.2.row.map D.str)), s5, s6, .un, .un], ⟨bs, s5, s6, hb, lb, rfl⟩, ?_, ?_⟩
    · rintro j y ρ hj ⟨bs, s5, s6, hb, lb, rfl⟩
      obtain ⟨d, hd, rfl⟩ := nums_get hj
      rw [List.getElem?_map] at hd
      obtain ⟨x, hx, rfl⟩ := Option.map_eq_some_iff.mp hd
      have hjl : j < p.2.row.length := (List.getElem?_eq_some_iff.mp hx).1
      have tx := aa.row x (List.mem_of_getElem? hx)
      refine ⟨rfl, ?_⟩
      have ed : kmerge [] ((hdP rs).map fun p => ((.inr p.1 : Key), alD p.2)) = bld (ofP alD (hdP rs)) := by
        rw [← kmerge_bld]; unfold ofP; rw [List.map_map]; rfl
      have eg : (kget (bld (ofP alD (hdP rs))) (.inr x)).getD (.lst []) = alD ((lst? (hdP rs) x).getD []) := by
        rw [kget_bld, show lst? (ofP alD (hdP rs)) x = (lst? (hdP rs) x).map alD from lst?_map alD _ _]
        cases lst? (hdP rs) x <;> rfl
      have inn : ∀ a ∈ (lst? (hdP rs) x).getD [], AOk a := by
        intro a ha
        cases e : lst? (hdP rs) x with
        | none => rw [e] at ha; cases ha
        | some l =>
          rw [e] at ha
          obtain ⟨r, hr1, e2⟩ := List.mem_map.mp (lst?_mem e)
          cases e2
          exact (hr'.ok.ok r hr1).al a ha
      have in10 : ((lst? (hdP rs) x).getD []).length ≤ 10 := by
        cases e : lst? (hdP rs) x with
        | none => exact Nat.zero_le _
        | some l =>
          obtain ⟨r, hr1, e2⟩ := List.mem_map.mp (lst?_mem e)
          cases e2
          exact (hr'.sm r hr1).1
      generalize (lst? (hdP rs) x).getD [] = al at eg inn in10
      refine ⟨(hdP rs).map fun p => (.inr p.1, alD p.2), by unfold hdP; rw [List.map_map, List.map_map]; rfl, ?_⟩
      rw [ed]
      refine ⟨Nat.zero_le _, .inr x, rfl, ?_⟩
      rw [eg]
      refine ⟨fun t acc ρ => acc = (al.take t).map (fun a => D.tup [.str p.2.label, .int ((j : Int) + 1), .str a.label]) ∧ ρ = [.sl false true (rsD rs), own (.lst (bs.map BA.d)), dat (.str p.1), dat (.str p.2.label), dat (.tup (p.2.row.map D.str)), dat (.int (j : Int)), dat (.str x), .un, .un], ⟨rfl, rfl⟩, ?_, ?_, ?_⟩
      · rintro t y acc ρ ht ⟨rfl, rfl⟩
        rw [List.getElem?_map] at ht
        obtain ⟨a, ha, rfl⟩ := Option.map_eq_some_iff.mp ht
        have htl : t < al.length := (List.getElem?_eq_some_iff.mp ha).1
        refine ⟨rfl, ?_⟩
        refine ⟨by show 3 ≤ _; omega, ?_⟩
        refine ⟨by rw [List.length_map, List.length_take]; omega, ?_, rfl⟩
        rw [List.take_succ, ha, List.map_append]; rfl
      · rintro t acc ρ ⟨_, rfl⟩
        exact ⟨_, (rfl : _ = YP.wipeS [.sl false true (rsD rs), own (.lst (bs.map BA.d)), dat (.str p.1), dat (.str p.2.label), dat (.tup (p.2.row.map D.str)), dat (.int (j : Int)), dat (.str x), .un, .un] [7, 8])⟩
      rintro acc ρ ⟨rfl, rfl⟩
      rw [List.length_map, List.take_length]
      refine ⟨by rw [List.length_map, List.length_map]; omega, bs ++ al.map fun a => ⟨p.2.label, (j : Int) + 1, a.label⟩, dat (.int (j : Int)), dat (.str x), fun b hb' => ?_, by rw [List.length_append, List.length_map]; omega, ?_⟩
      · rcases List.mem_append.mp hb' with z | z
        · exact hb b z
        · obtain ⟨a, ha, rfl⟩ := List.mem_map.mp z
          exact ⟨aa.tk, (inn a ha).tk, by show -100 ≤ (j : Int) + 1; omega, by show (j : Int) + 1 ≤ 100; omega⟩
      · rw [List.map_append, List.map_map]; rfl
    · rintro ρ ⟨bs, s5, s6, hb, lb, rfl⟩
      rw [nums_len, List.length_map] at lb
      exact ⟨bs, _, _, _, s5, s6, hb, by omega, rfl⟩
  · rintro ρ ⟨bs, s2, s3, s4, s5, s6, hb, lb, rfl⟩
    rw [← allA_D_len rs] at lb
    exact q _ _ hb (by omega)
end
end K10
set_option maxRecDepth 100000
set_option maxHeartbeats 4000000
namespace K10
open PySem PySem.Spec PyProof.Rows L2 Yard YP
section
variable {P : Program} {w : World} {K : PySem.W.Frag} {mg : Str → Option Value} {base : Heap}
def uBrs : UF := fun ρ R => ∃ (c : Nat) (d : D) (rs : List RU), ρ = [own d, dat (rsD rs), dat (.int 4)] ∧ JarOk c d ∧ c + 20 < 1000000 ∧ EdOk rs ∧ ∀ (bs : List BA) d2 s1 s2, (∀ b ∈ bs, BOk b) → bs.length ≤ 4 → JarOk (c + 20) d2 → R (.own (.lst (bs.map BA.d))) [own d2, s1, s2]
theorem sc__law_bars : FnScope ["purse", "rules", "most", "found", "some", "k", "one"] ["purse", "rules", "most"] (defScope s__law_bars) := ⟨rfl, rfl, rfl, by decide +kernel, rfl, by decide +kernel, by decide +kernel⟩
theorem ok__law_bars (T : Tx K w mg) : FnOk P w K mg base CX0 4 T.a__law_bars T.f__law_bars ["purse", "rules", "most"] (PSp K 3 uBrs) := by
  refine fn_mk T.d__law_bars.fn sc__law_bars (by decide) fun cdv A outer s H E hr => ?_
  refine ⟨_, (fb_cons (fs_set (ps_set (i := 3) sc__law_bars.nd rfl (.inl rfl) pe_S) (fe_lst fa_nil))
      (fb_cons (fs_set (ps_set (i := 4) sc__law_bars.nd rfl (.inl rfl) pe_S) (fe_call (ok__law_edges T) (hr.mono (by omega)) (by rfl) T.d__law_edges.at_ T.d__law_edges.kp T.d__law_edges.bd (fr_val (fv 1) fr_nil)))
      (fb_cons (fs_for PassesOwn.never rfl (fi_range1 (by rfl) T.z_range (fa_cons (fe_op os_mul (fe_call (ok__law_drawn T) (hr.mono (by omega)) (by rfl) T.d__law_drawn.at_ T.d__law_drawn.kp T.d__law_drawn.bd (fr_ref (fv 0) (fr_val (fe_op os_add (fv 2) fe_int) fr_nil))) (fe_bt cb_int (by rfl) T.z_int (by decide +kernel) (fr_ref (fe_cmp (os_ne (ru hr)) (fv 4) (fe_lst fa_nil)) fr_nil))) fa_nil)) (fg_name (pg_name (i := 5) sc__law_bars.nd rfl (.inl rfl)))
      (fb_cons (fs_set (ps_set (i := 6) sc__law_bars.nd rfl (.inl rfl) pe_S) (fe_ix (fv 4) (fe_call (ok__law_drawn T) (hr.mono (by omega)) (by rfl) T.d__law_drawn.at_ T.d__law_drawn.kp T.d__law_drawn.bd (fr_ref (fv 0) (fr_val (fe_b cb_len (by rfl) T.z_len (by decide +kernel) (fr_ref (fv 4) fr_nil)) fr_nil)))))
      (fb_one (fs_if (ft_cmp (os_notin (rv hr)) (fv 6) (fv 3))
      (fb_one (fs_expr (fe_mu mu_append PySem.F.slot_list_append PySem.F.type_list_append (fv 3) (fa_cons (fv 6) fa_nil))))
      fb_nil))))
      (fb_one (fs_ret (fv 3)))))), fun ρ R hl h => ?_⟩
  obtain ⟨c, d, rs, rfl, hj, hc, hr', q⟩ := h
  have sz := sz2
  have okb : ∀ l : List BA, (∀ b ∈ l, BOk b) → okD (.lst (l.map BA.d)) = true := fun l h => (okN_lst (n := 1) fun d hd => by
    obtain ⟨t, h1, rfl⟩ := List.mem_map.mp hd
    exact okBA (h t h1)).ok
  refine ⟨Nat.zero_le _, ?_⟩
  refine ⟨List.nodup_nil, rs, rfl, hr', fun so s hso lso => ?_⟩
  refine ⟨nd1 _, c, d, 5, rfl, hj, by decide, by decide, by omega, fun r d1 t1 p0 p1 j1 => ?_⟩
  obtain ⟨m, rfl⟩ : ∃ m : Nat, r = m := ⟨r.toNat, by omega⟩
  refine ⟨Nat.zero_le _, okb so hso, by decide +kernel, ?_⟩
  rw [eqD_nil, List.length_map]
  refine ⟨.inl ⟨by omega, by omega⟩, ?_⟩
  have hn : ∃ n : Nat, (m : Int) * (if (!decide (so.length = 0)) = true then 1 else 0) = (n : Nat) ∧ n ≤ 4 ∧ (so.length = 0 → n = 0) := by
    by_cases h0 : so.length = 0
    · exact ⟨0, by rw [decide_eq_true h0]; simp, by omega, fun _ => rfl⟩
    · exact ⟨m, by rw [decide_eq_false h0]; simp, by omega, fun z => absurd z h0⟩
  obtain ⟨n, en, n4, n0⟩ := hn
  refine ⟨by show -2 ^ 62 ≤ (m : Int) * (if (!decide (so.length = 0)) = true then 1 else 0); rw [en]; omega, by show (m : Int) * (if (!decide (so.length = 0)) = true then 1 else 0) < 2 ^ 62; rw [en]; omega, ?_⟩
  refine ⟨fun i ρ => ∃ (d2 : D) (bs : List BA) (s5 s6 : Sl), JarOk (c + 1 + i) d2 ∧ (∀ b ∈ bs, BOk b) ∧ bs.length ≤ i ∧ ρ = [.sl true true d2, .sl false true (rsD rs), .sl false true (.int 4), own (.lst (bs.map BA.d)), own (.lst (so.map BA.d)), s5, s6], ⟨d1, [], .un, .un, j1, (fun _ h => nomatch h), Nat.le_refl _, rfl⟩, ?_, ?_⟩
  · rintro i y ρ hi ⟨d2, bs, s5, s6, j2, hb, lb, rfl⟩
    obtain ⟨li, rfl⟩ := intsD_get hi
    have li : i < ((m : Int) * (if (!decide (so.length = 0)) = true then 1 else 0)).toNat := li
    rw [en] at li
    have li4 : i < n := by omega
    have hso0 : 0 < so.length := by
      rcases Nat.eq_zero_or_pos so.length with z | z
      · have := n0 z; omega
      · exact z
    refine ⟨nd1 _, c + 1 + i, d2, ((so.length : Nat) : Int), (by show [own d2, dat (.int (((so.map BA.d).length : Nat) : Int))] = _; rw [List.length_map]), j2, by omega, by omega, by omega, fun r2 d3 t3 r20 r21 j3 => ?_⟩
    obtain ⟨x, hx, ex⟩ := atI_in (l := so.map BA.d) r20 (by rw [List.length_map]; exact r21)
    obtain ⟨b, hb2, rfl⟩ := List.mem_map.mp hx
    refine ⟨_, ex, ?_⟩
    refine ⟨(okBA (hso b hb2)).ok, okb bs hb, ?_⟩
    rw [any_BA]
    show (if (true ^^ decide (b ∈ bs)) = true then _ else _)
    by_cases hm : b ∈ bs
    · rw [decide_eq_true hm]
      exact ⟨d3, bs, _, _, j3, hb, by omega, rfl⟩
    · rw [decide_eq_false hm]
      refine ⟨by rw [List.length_map]; omega, d3, bs ++ [b], dat (.int (0 + (i : Int))), dat b.d, j3, fun z hz => ?_, by rw [List.length_append]; show bs.length + 1 ≤ _; omega, ?_⟩
      · rcases List.mem_append.mp hz with q1 | q1
        · exact hb z q1
        · rw [List.mem_singleton.mp q1]; exact hso b hb2
      · rw [List.map_append]; rfl
  · rintro ρ ⟨d2, bs, s5, s6, j2, hb, lb, rfl⟩
    have lD : (intsD 0 ((m : Int) * (if (!decide (so.length = 0)) = true then 1 else 0)).toNat).length = n := by rw [intsD_len, en, Int.toNat_natCast]
    have lb : bs.length ≤ (intsD 0 ((m : Int) * (if (!decide (so.length = 0)) = true then 1 else 0)).toNat).length := lb
    have j2 : JarOk (c + 1 + (intsD 0 ((m : Int) * (if (!decide (so.length = 0)) = true then 1 else 0)).toNat).length) d2 := j2
    rw [lD] at lb j2
    exact q bs d2 _ _ hb (by omega) (j2.mono (by omega))
end
end K10
set_option maxRecDepth 100000
set_option maxHeartbeats 4000000
namespace K10
open PySem PySem.Spec PyProof.Rows L2 Yard YP
structure WB (n : Nat) (ks : List KD) (rs : List RU) (bs : List BA) : Prop where
  kl : ks.length ≤ 15 * 8 ^ n
  kd : ∀ k ∈ ks, k.pat.dep ≤ 3 + 6 * n
  rl : rs.length ≤ 13 * 41 ^ n
  ra : ∀ r ∈ rs, r.alts.length ≤ 3 ∧ ∀ a ∈ r.alts, a.row.length ≤ 7 + n
  bl : bs.length ≤ 5 * 9 ^ n
  kw : kwt ks ≤ gW n
  rw : rwt rs ≤ fW n
theorem kwt_told (ks : List KD) (k : Int) : kwt (told ks k) = k.toNat * kwt ks := sumW_told KD.wt ks k
theorem told_map {α β : Type} (f : α → β) (l : List α) (k : Int) : told (l.map f) k = (told l k).map f := by
  unfold told; rw [List.map_flatten, List.map_replicate]
theorem told_len' {α : Type} (l : List α) (k : Int) : (told l k).length = k.toNat * l.length := by
  unfold told
  generalize k.toNat = n
  induction n with
  | zero => simp
  | succ n ih => rw [List.replicate_succ, List.flatten_cons, List.length_append, ih, Nat.succ_mul]; omega
theorem g3 {i j k : Nat} {a b c : D} {ρ : List Sl} {R : List Sl → Prop} (h : R (((ρ.set i (.sl false false a)).set j (.sl false false b)).set k (.sl false false c))) : uGCons (uName i) (uGCons (uName j) (uGCons (uName k) uGNil)) [a, b, c] ρ R := h
section
variable {P : Program} {w : World} {K : PySem.W.Frag} {mg : Str → Option Value} {base : Heap}
def uKBe : UF := fun ρ R => ∃ (c : Nat) (d : D) (n : Nat) (ks : List KD) (rs : List RU) (st : Str) (bs : List BA), ρ = [own d, dat (wD ks rs st bs)] ∧ JarOk c d ∧ c + 20 < 1000000 ∧ WOk ks rs st bs ∧ WB n ks rs bs ∧ n ≤ 1 ∧
  ∀ (ks' : List KD) (r : Rv) d2 s1, (r = .val (ksD ks') ∨ r = .own (ksD ks')) → (∀ k ∈ ks', KOk k ∧ k.pat.dep ≤ 3 + 6 * (n + 1)) → ks'.length ≤ 15 * 8 ^ (n + 1) → kwt ks' ≤ gW (n + 1) → JarOk (c + 20) d2 → R r [own d2, s1]
theorem sc__law_kinds_bent : FnScope ["purse", "world", "kinds", "way", "at", "one", "pattern", "skipped", "other"] ["purse", "world"] (defScope s__law_kinds_bent) := ⟨rfl, rfl, rfl, by decide +kernel, rfl, by decide +kernel, by decide +kernel⟩
theorem ok__law_kinds_bent (T : Tx K w mg) : FnOk P w K mg base CX0 4 T.a__law_kinds_bent T.f__law_kinds_bent ["purse", "world"] (PSp K 2 uKBe) := by
  refine fn_mk T.d__law_kinds_bent.fn sc__law_kinds_bent (by decide) fun cdv A outer s H E hr => ?_
  refine ⟨_, (fb_cons (fs_set (ps_set (i := 2) sc__law_kinds_bent.nd rfl (.inl rfl) pe_S) (fe_ix (fv 1) fe_int))
      (fb_cons (fs_set (ps_set (i := 3) sc__law_kinds_bent.nd rfl (.inl rfl) pe_S) (fe_call (ok__law_drawn T) (hr.mono (by omega)) (by rfl) T.d__law_drawn.at_ T.d__law_drawn.kp T.d__law_drawn.bd (fr_ref (fv 0) (fr_val fe_int fr_nil))))
      (fb_cons (fs_set (ps_set (i := 4) sc__law_kinds_bent.nd rfl (.inl rfl) pe_S) (fe_call (ok__law_drawn T) (hr.mono (by omega)) (by rfl) T.d__law_drawn.at_ T.d__law_drawn.kp T.d__law_drawn.bd (fr_ref (fv 0) (fr_val (fe_b (cb_max rfl) (by rfl) T.z_max (by decide +kernel) (fr_ref fe_int (fr_ref (fe_b cb_len (by rfl) T.z_len (by decide +kernel) (fr_ref (fv 2) fr_nil)) fr_nil))) fr_nil))))
      (fb_cons (fs_if (FW.ft (fw_or (ft_cmp (os_eq (ru hr)) (fv 3) fe_int) (fw_or1 (ft_cmp (os_eq (ru hr)) (fv 2) (fe_lst fa_nil)))))
      (fb_one (fs_ret (fe_ix (fe_lst (fa_cons (fe_lst fa_nil) (fa_cons (fe_op os_add (fv 2) (fv 2)) (fa_cons (fe_op os_mulX (fv 2) fe_int) fa_nil)))) (fe_call (ok__law_drawn T) (hr.mono (by omega)) (by rfl) T.d__law_drawn.at_ T.d__law_drawn.kp T.d__law_drawn.bd (fr_ref (fv 0) (fr_val fe_int fr_nil))))))
      fb_nil)
      (fb_cons (fs_asg (ps_asg pe_S pg_S) (fe_ix (fv 2) (fv 4)) (fg_tup (n := 3) rfl (fgs_cons (fg_name (pg_name (i := 5) sc__law_kinds_bent.nd rfl (.inl rfl))) (fgs_cons (fg_name (pg_name (i := 6) sc__law_kinds_bent.nd rfl (.inl rfl))) (fgs_cons (fg_name (pg_name (i := 7) sc__law_kinds_bent.nd rfl (.inl rfl))) fgs_nil)))))
      (fb_cons (fs_if (ft_cmp os_lt (fv 3) fe_int)
      (fb_one (fs_set (ps_set (i := 5) sc__law_kinds_bent.nd rfl (.inl rfl) pe_S) (fe_call (ok__law_strange T) (hr.mono (by omega)) (by rfl) T.d__law_strange.at_ T.d__law_strange.kp T.d__law_strange.bd (fr_ref (fv 0) (fr_val (fe_call (ok__law_all_names T) (hr.mono (by omega)) (by rfl) T.d__law_all_names.at_ T.d__law_all_names.kp T.d__law_all_names.bd (fr_val (fv 1) fr_nil)) fr_nil)))))
      fb_nil)
      (fb_cons (fs_if (ft_cmp (os_eq (ru hr)) (fv 3) fe_int)
      (fb_cons (fs_set (ps_set (i := 8) sc__law_kinds_bent.nd rfl (.inl rfl) pe_S) (fe_tup (fa_cons fe_str (fa_cons (fv 6) (fa_cons (fe_tup (fa_cons fe_str fa_nil)) fa_nil)))))
      (fb_one (fs_set (ps_set (i := 6) sc__law_kinds_bent.nd rfl (.inl rfl) pe_S) (fe_ix (fe_lst (fa_cons (fe_tup (fa_cons fe_str fa_nil)) (fa_cons (fe_tup (fa_cons fe_str (fa_cons (fv 6) fa_nil))) (fa_cons (fv 8) (fa_cons (fe_tup (fa_cons fe_str (fa_cons (fv 6) fa_nil))) fa_nil))))) (fe_call (ok__law_drawn T) (hr.mono (by omega)) (by rfl) T.d__law_drawn.at_ T.d__law_drawn.kp T.d__law_drawn.bd (fr_ref (fv 0) (fr_val fe_int fr_nil)))))))
      fb_nil)
      (fb_cons (fs_if (ft_cmp (os_eq (ru hr)) (fv 3) fe_int)
      (fb_one (fs_set (ps_set (i := 6) sc__law_kinds_bent.nd rfl (.inl rfl) pe_S) (fe_tup (fa_cons fe_str (fa_cons (fv 6) (fa_cons (fe_op os_add (fe_tup (fa_cons fe_str fa_nil)) (fe_op os_mulX (fe_tup (fa_cons (fe_op os_add (fe_tup (fa_cons fe_str fa_nil)) (fe_op os_mulX (fe_tup (fa_cons (fe_op os_add (fe_tup (fa_cons fe_str fa_nil)) (fe_op os_mulX (fe_tup (fa_cons (fv 6) fa_nil)) fe_int)) fa_nil)) fe_int)) fa_nil)) fe_int)) fa_nil))))))
      fb_nil)
      (fb_one (fs_ret (fe_op os_add (fe_op os_add (fe_sl (fv 2) fo_no (fo_int (fv 4))) (fe_lst (fa_cons (fe_tup (fa_cons (fv 5) (fa_cons (fv 6) (fa_cons (fv 7) fa_nil)))) fa_nil))) (fe_sl (fv 2) (fo_int (fe_op os_add (fv 4) fe_int)) fo_no)))))))))))), fun ρ R hl h => ?_⟩
  obtain ⟨c, d, n, ks, rs, st, bs, rfl, hj, hc, hw, hb, hn, q⟩ := h
  have sz := sz2
  have p8 : 8 ^ (n + 1) = 8 * 8 ^ n := by rw [Nat.pow_succ]; omega
  have p81 : 1 ≤ 8 ^ n := Nat.one_le_pow _ _ (by decide)
  have p88 : 8 ^ n ≤ 8 := by rcases (by omega : n = 0 ∨ n = 1) with h | h <;> subst h <;> decide
  have kl := hb.kl
  have kk : ∀ k ∈ ks, KOk k ∧ k.pat.dep ≤ 3 + 6 * (n + 1) := fun k hk => ⟨hw.ks.ok k hk, by have := hb.kd k hk; omega⟩
  refine ⟨ksD ks, rfl, ?_⟩
  refine ⟨nd1 _, c, d, 5, rfl, hj, by decide, by decide, by omega, fun r1 d1 t1 p0 p1 j1 => ?_⟩
  refine ⟨nd1 _, c + 1, d1, (if (((ks.length : Nat) : Int)) > 1 then ((ks.length : Nat) : Int) else 1), (by show [own d1, dat (.int (if (((ks.map KD.d).length : Nat) : Int) > 1 then (((ks.map KD.d).length : Nat) : Int) else 1))] = _; rw [List.length_map]), j1, by split <;> omega, by split <;> omega, by omega, fun a d2 t2 a0 a1 j2 => ?_⟩
  obtain ⟨a, rfl⟩ : ∃ m : Nat, a = m := ⟨a.toNat, by omega⟩
  refine ⟨rfl, rfl, ?_⟩
  rw [eqD_int]
  by_cases h0 : r1 = 0
  · rw [decide_eq_true h0]
    refine ⟨Nat.zero_le _, by rw [List.length_map]; omega, ⟨by decide, by decide⟩, by rw [List.length_map]; show ks.length * 8 ≤ _; omega, by show 3 ≤ _; omega, ?_⟩
    refine ⟨nd1 _, c + 2, d2, 3, rfl, j2, by decide, by decide, by omega, fun r3 d3 t3 r30 r31 j3 => ?_⟩
    rcases (by omega : r3 = 0 ∨ r3 = 1 ∨ r3 = 2) with h | h | h
    · subst h
      refine ⟨_, rfl, ?_⟩
      exact q [] _ _ _ (.inl rfl) (fun _ h => nomatch h) (Nat.zero_le _) (Nat.zero_le _) (j3.mono (by omega))
    · subst h
      refine ⟨_, rfl, ?_⟩
      rw [← List.map_append]
      exact q (ks ++ ks) _ _ _ (.inl rfl) (fun k hk => (List.mem_append.mp hk).elim (kk k) (kk k)) (by rw [List.length_append]; omega) (by have := hb.kw; have : kwt (ks ++ ks) = kwt ks + kwt ks := sumW_app KD.wt ks ks; show _ ≤ 10 * gW n + 2000; omega) (j3.mono (by omega))
    · subst h
      refine ⟨_, rfl, ?_⟩
      rw [told_map]
      exact q (told ks 8) _ _ _ (.inl rfl) (fun k hk => kk k (told_mem hk)) (by rw [told_len']; show 8 * ks.length ≤ _; omega) (by have := hb.kw; rw [kwt_told]; show 8 * kwt ks ≤ 10 * gW n + 2000; omega) (j3.mono (by omega))
  rw [decide_eq_false h0]
  refine ⟨Nat.zero_le _, (okKs hw.ks).ok, by decide +kernel, ?_⟩
  rw [show eqD (ksD ks) (.lst []) = decide ((ks.map KD.d).length = 0) from eqD_nil _, List.length_map]
  by_cases hk0 : ks.length = 0
  · rw [decide_eq_true hk0]
    refine ⟨Nat.zero_le _, by rw [List.length_map]; omega, ⟨by decide, by decide⟩, by rw [List.length_map]; show ks.length * 8 ≤ _; omega, by show 3 ≤ _; omega, ?_⟩
    refine ⟨nd1 _, c + 2, d2, 3, rfl, j2, by decide, by decide, by omega, fun r3 d3 t3 r30 r31 j3 => ?_⟩
    rcases (by omega : r3 = 0 ∨ r3 = 1 ∨ r3 = 2) with h | h | h
    · subst h
      refine ⟨_, rfl, ?_⟩
      exact q [] _ _ _ (.inl rfl) (fun _ h => nomatch h) (Nat.zero_le _) (Nat.zero_le _) (j3.mono (by omega))
    · subst h
      refine ⟨_, rfl, ?_⟩
      rw [← List.map_append]
      exact q (ks ++ ks) _ _ _ (.inl rfl) (fun k hk => (List.mem_append.mp hk).elim (kk k) (kk k)) (by rw [List.length_append]; omega) (by have := hb.kw; have : kwt (ks ++ ks) = kwt ks + kwt ks := sumW_app KD.wt ks ks; show _ ≤ 10 * gW n + 2000; omega) (j3.mono (by omega))
    · subst h
      refine ⟨_, rfl, ?_⟩
      rw [told_map]
      exact q (told ks 8) _ _ _ (.inl rfl) (fun k hk => kk k (told_mem hk)) (by rw [told_len']; show 8 * ks.length ≤ _; omega) (by have := hb.kw; rw [kwt_told]; show 8 * kwt ks ≤ 10 * gW n + 2000; omega) (j3.mono (by omega))
  rw [decide_eq_false hk0]
  have ha : a < ks.length := by
    have : ((a : Nat) : Int) < (if (((ks.length : Nat) : Int)) > 1 then ((ks.length : Nat) : Int) else 1) := a1
    split at this <;> omega
  obtain ⟨k, hk⟩ : ∃ k, ks[a]? = some k := ⟨ks[a], List.getElem?_eq_getElem ha⟩
  have km := kk k (List.mem_of_getElem? hk)
  have kd := hb.kd k (List.mem_of_getElem? hk)
  refine ⟨k.d, atI_nat (by rw [List.getElem?_map, hk]; rfl), rfl, ?_⟩
  refine g3 ?_
  dsimp only
  refine seq_cut (fun ρ => ∃ (d3 : D) (x : Str), Tk x ∧ JarOk (c + 3) d3 ∧ ρ = [.sl true true d3, .sl false true (wD ks rs st bs), dat (ksD ks), dat (.int r1), dat (.int (a : Nat)), dat (.str x), dat k.pat.d, dat (.bl k.skip), .un]) ?rest fun rest => ?here
  case here =>
    show (if decide (r1 < 3) = true then _ else _)
    by_cases h3 : r1 < 3
    · rw [decide_eq_true h3]
      refine ⟨List.nodup_nil, ks, rs, st, bs, rfl, hw, fun ns s hns lns => ?_⟩
      refine ⟨nd1 _, c + 2, d2, ns, rfl, j2, by omega, hns, by omega, fun x d3 s3 tx j3 => ?_⟩
      exact rest _ ⟨d3, x, tx, j3, rfl⟩
    · rw [decide_eq_false h3]
      exact rest _ ⟨d2, k.name, km.1.tk, j2.mono (by omega), rfl⟩
  rintro ρ ⟨d3, x, tx, j3, rfl⟩
  refine seq_cut (fun ρ => ∃ (d4 : D) (p : PT) (s8 : Sl), (p.dep ≤ k.pat.dep + 2 ∧ p.wt ≤ k.pat.wt + 126 ∧ (r1 = 4 → p = k.pat)) ∧ p.tk ∧ JarOk (c + 4) d4 ∧ ρ = [.sl true true d4, .sl false true (wD ks rs st bs), dat (ksD ks), dat (.int r1), dat (.int (a : Nat)), dat (.str x), dat p.d, dat (.bl k.skip), s8]) ?rest2 fun rest => ?here2
  case here2 =>
    refine ⟨rfl, rfl, ?_⟩
    rw [eqD_int]
    by_cases h3 : r1 = 3
    · rw [decide_eq_true h3]
      refine ⟨by show 1 ≤ _; omega, by show 3 ≤ _; omega, ?_⟩
      refine ⟨by show 1 ≤ _; omega, by show 2 ≤ _; omega, by show 2 ≤ _; omega, by show 4 ≤ _; omega, ?_⟩
      refine ⟨nd1 _, c + 3, d3, 4, rfl, j3, by decide, by decide, by omega, fun r4 d4 t4 r40 r41 j4 => ?_⟩
      rcases (by omega : r4 = 0 ∨ r4 = 1 ∨ r4 = 2 ∨ r4 = 3) with h | h | h | h
      · subst h
        refine ⟨_, rfl, ?_⟩
        exact rest _ ⟨d4, .em, _, ⟨Nat.zero_le _, by show 61 ≤ _; omega, fun z => absurd z (by omega)⟩, trivial, j4, rfl⟩
      · subst h
        refine ⟨_, rfl, ?_⟩
        exact rest _ ⟨d4, .mb k.pat, _, ⟨by simp only [PT.dep]; omega, by simp only [PT.wt]; omega, fun z => absurd z (by omega)⟩, km.1.pk, j4, rfl⟩
      · subst h
        refine ⟨_, rfl, ?_⟩
        exact rest _ ⟨d4, .or k.pat .em, _, ⟨by simp only [PT.dep]; omega, by simp only [PT.wt]; omega, fun z => absurd z (by omega)⟩, ⟨km.1.pk, trivial⟩, j4, rfl⟩
      · subst h
        refine ⟨_, rfl, ?_⟩
        exact rest _ ⟨d4, .ag k.pat, _, ⟨by simp only [PT.dep]; omega, by simp only [PT.wt]; omega, fun z => absurd z (by omega)⟩, km.1.pk, j4, rfl⟩
    · rw [decide_eq_false h3]
      exact rest _ ⟨d3, k.pat, .un, ⟨by omega, by omega, fun _ => rfl⟩, km.1.pk, j3.mono (by omega), rfl⟩
  rintro ρ ⟨d4, p, s8, ⟨hp, hpw, hp4⟩, htk, j4, rfl⟩
  refine seq_cut (fun ρ => ∃ (p' : PT), (p'.dep ≤ k.pat.dep + 6 ∧ p'.wt ≤ 9 * k.pat.wt + 600) ∧ p'.tk ∧ ρ = [.sl true true d4, .sl false true (wD ks rs st bs), dat (ksD ks), dat (.int r1), dat (.int (a : Nat)), dat (.str x), dat p'.d, dat (.bl k.skip), s8]) ?rest3 fun rest => ?here3
  case here3 =>
    refine ⟨rfl, rfl, ?_⟩
    rw [eqD_int]
    by_cases h4 : r1 = 4
    · rw [decide_eq_true h4]
      have s1' : (1 : Nat) ≤ sizeLine := by omega
      have s3' : (1 : Nat) + 2 ≤ sizeLine := by omega
      refine ⟨s1', s1', s1', s1', by decide, by decide, (by show 1 ≤ 1000; decide), s3', s1', by decide, by decide, (by show 1 ≤ 1000; decide), s3', s1', by decide, by decide, (by show 1 ≤ 1000; decide), s3', by show 3 ≤ _; omega, ?_⟩
      refine rest _ ⟨.th p (.or (.th (.or p p) (.or p p)) (.th (.or p p) (.or p p))), ⟨?_, by have e := hp4 h4; subst e; simp only [PT.wt]; omega⟩, ⟨htk, ⟨⟨htk, htk⟩, ⟨htk, htk⟩⟩, ⟨⟨htk, htk⟩, ⟨htk, htk⟩⟩⟩, rfl⟩
      simp only [PT.dep]; omega
    · rw [decide_eq_false h4]
      exact rest _ ⟨p, ⟨by omega, by omega⟩, htk, rfl⟩
  rintro ρ ⟨p', ⟨hp', hpw'⟩, htk', rfl⟩
  have c1 : YP.cut (ks.map KD.d) none (some (a : Int)) = (ks.take a).map KD.d := by rw [ycut_to, List.map_take]
  have c2 : YP.cut (ks.map KD.d) (some ((a : Int) + 1)) none = (ks.drop (a + 1)).map KD.d := by
    have : ((a : Int) + 1) = ((a + 1 : Nat) : Int) := by omega
    rw [this, ycut_from, List.map_drop]
  refine ⟨by show 3 ≤ _; omega, by show 1 ≤ _; omega, ?_⟩
  refine ⟨by rw [c1, List.length_map, List.length_take]; show _ + 1 ≤ _; omega, ?_⟩
  refine ⟨by rw [c1, c2, List.length_append, List.length_map, List.length_map, List.length_take, List.length_drop]; show _ + 1 + _ ≤ _; omega, ?_⟩
  rw [c1, c2]
  have e : (ks.take a).map KD.d ++ [D.tup [.str x, p'.d, .bl k.skip]] ++ (ks.drop (a + 1)).map KD.d = (ks.take a ++ [KD.mk x p' k.skip] ++ ks.drop (a + 1)).map KD.d := by rw [List.map_append, List.map_append]; rfl
  have hall : ∀ z ∈ ks.take a ++ [KD.mk x p' k.skip] ++ ks.drop (a + 1), KOk z ∧ z.pat.dep ≤ 3 + 6 * (n + 1) := fun z hz => by
    rcases List.mem_append.mp hz with hz | hz
    · rcases List.mem_append.mp hz with hz | hz
      · exact kk z (List.mem_of_mem_take hz)
      · rw [List.mem_singleton.mp hz]
        exact ⟨⟨tx, (by show p'.dep ≤ 20; omega), htk'⟩, by show p'.dep ≤ _; omega⟩
    · exact kk z (List.mem_of_mem_drop hz)
  have hlen : (ks.take a ++ [KD.mk x p' k.skip] ++ ks.drop (a + 1)).length ≤ 15 * 8 ^ (n + 1) := by
    rw [List.length_append, List.length_append, List.length_take, List.length_drop]; show _ + 1 + _ ≤ _; omega
  have hkw : kwt (ks.take a ++ [KD.mk x p' k.skip] ++ ks.drop (a + 1)) ≤ gW (n + 1) := by
    have h1 : kwt (ks.take a ++ [KD.mk x p' k.skip] ++ ks.drop (a + 1)) = kwt (ks.take a) + (KD.mk x p' k.skip).wt + kwt (ks.drop (a + 1)) := by
      unfold kwt; rw [sumW_app, sumW_app]; simp
    have h2 : kwt ks = kwt (ks.take a) + k.wt + kwt (ks.drop (a + 1)) := sumW_split KD.wt hk
    have h3 := hb.kw
    have h4 : (KD.mk x p' k.skip).wt = 20 + strW x + p'.wt := rfl
    have h5 : k.wt = 20 + strW k.name + k.pat.wt := rfl
    have h6 := strW_le tx
    show _ ≤ 10 * gW n + 2000
    omega
  have fin := fun r s1 e => q (ks.take a ++ [KD.mk x p' k.skip] ++ ks.drop (a + 1)) r d4 s1 e hall hlen hkw (j4.mono (by omega))
  rw [e]
  exact fin _ _ (.inr rfl)
end
end K10
set_option maxRecDepth 100000
set_option maxHeartbeats 4000000
namespace K10
open PySem PySem.Spec PyProof.Rows L2 Yard YP
theorem g2 {i j : Nat} {a b : D} {ρ : List Sl} {R : List Sl → Prop} (h : R ((ρ.set i (.sl false false a)).set j (.sl false false b))) : uGCons (uName i) (uGCons (uName j) uGNil) [a, b] ρ R := h
section
variable {P : Program} {w : World} {K : PySem.W.Frag} {mg : Str → Option Value} {base : Heap}
def uBBe : UF := fun ρ R => ∃ (c : Nat) (d : D) (n : Nat) (ks : List KD) (rs : List RU) (st : Str) (bs : List BA), ρ = [own d, dat (wD ks rs st bs)] ∧ JarOk c d ∧ c + 20 < 1000000 ∧ WOk ks rs st bs ∧ WB n ks rs bs ∧ n ≤ 1 ∧
  ∀ (bs' : List BA) d2 s1, (∀ b ∈ bs', BOk b) → bs'.length ≤ 5 * 9 ^ (n + 1) → JarOk (c + 20) d2 → R (.own (.lst (bs'.map BA.d))) [own d2, s1]
theorem sc__law_bars_bent : FnScope ["purse", "world", "barred", "labels", "way", "one", "other", "at", "head", "label", "row"] ["purse", "world"] (defScope s__law_bars_bent) := ⟨rfl, rfl, rfl, by decide +kernel, rfl, by decide +kernel, by decide +kernel⟩
theorem ok__law_bars_bent (T : Tx K w mg) : FnOk P w K mg base CX0 3 T.a__law_bars_bent T.f__law_bars_bent ["purse", "world"] (PSp K 2 uBBe) := by
  refine fn_mk T.d__law_bars_bent.fn sc__law_bars_bent (by decide) fun cdv A outer s H E hr => ?_
  refine ⟨_, (fb_cons (fs_set (ps_set (i := 2) sc__law_bars_bent.nd rfl (.inl rfl) pe_S) (fe_ix (fv 1) fe_int))
      (fb_cons (fs_set (ps_set (i := 3) sc__law_bars_bent.nd rfl (.inl rfl) pe_S) (fe_op os_add (fe_lc rfl sc__law_bars_bent.nd (fi_list (fe_call (ok__law_all T) (hr.mono (by omega)) (by rfl) T.d__law_all.at_ T.d__law_all.kp T.d__law_all.bd (fr_val (fe_ix (fv 1) fe_int) fr_nil))) (blkOk_by (own := [("head", 8), ("label", 9), ("row", 10)]) (N := ["purse", "world", "barred", "labels", "way", "one", "other", "at", "head", "label", "row"]) (sc := defScope s__law_bars_bent) (by decide +kernel)) (fun _ _ _ _ _ => (fg_tup (n := 3) rfl (fgs_cons (fg_name (pg_name (i := 8) sc__law_bars_bent.nd rfl (.inl rfl)) (by intro l e; cases e; decide +kernel)) (fgs_cons (fg_name (pg_name (i := 9) sc__law_bars_bent.nd rfl (.inl rfl)) (by intro l e; cases e; decide +kernel)) (fgs_cons (fg_name (pg_name (i := 10) sc__law_bars_bent.nd rfl (.inl rfl)) (by intro l e; cases e; decide +kernel)) fgs_nil))))) (fun _ _ _ _ _ => fts_nil) (fun _ _ _ _ _ => (fv 9))) (fe_lst (fa_cons fe_str fa_nil))))
      (fb_cons (fs_set (ps_set (i := 4) sc__law_bars_bent.nd rfl (.inl rfl) pe_S) (fe_call (ok__law_drawn T) (hr.mono (by omega)) (by rfl) T.d__law_drawn.at_ T.d__law_drawn.kp T.d__law_drawn.bd (fr_ref (fv 0) (fr_val fe_int fr_nil))))
      (fb_cons (fs_if (FW.ft (fw_and (ft_cmp (os_eq (ru hr)) (fv 4) fe_int) (fw_and1 (ft_cmp (os_ne (ru hr)) (fv 2) (fe_lst fa_nil)))))
      (fb_one (fs_ret (fe_op os_add (fv 2) (fe_lst (fa_cons (fe_ix (fv 2) (fe_call (ok__law_drawn T) (hr.mono (by omega)) (by rfl) T.d__law_drawn.at_ T.d__law_drawn.kp T.d__law_drawn.bd (fr_ref (fv 0) (fr_val (fe_b cb_len (by rfl) T.z_len (by decide +kernel) (fr_ref (fv 2) fr_nil)) fr_nil)))) fa_nil)))))
      fb_nil)
      (fb_cons (fs_if (FW.ft (fw_and (ft_cmp (os_eq (ru hr)) (fv 4) fe_int) (fw_and1 (ft_cmp (os_ne (ru hr)) (fv 2) (fe_lst fa_nil)))))
      (fb_one (fs_ret (fe_op os_mulX (fv 2) fe_int)))
      fb_nil)
      (fb_cons (fs_par (i := 5) (j := 6) rfl sc__law_bars_bent.nd rfl rfl (by decide) rfl rfl (fa_cons (fe_ix (fv 3) (fe_call (ok__law_drawn T) (hr.mono (by omega)) (by rfl) T.d__law_drawn.at_ T.d__law_drawn.kp T.d__law_drawn.bd (fr_ref (fv 0) (fr_val (fe_b cb_len (by rfl) T.z_len (by decide +kernel) (fr_ref (fv 3) fr_nil)) fr_nil)))) (fa_cons (fe_ix (fv 3) (fe_call (ok__law_drawn T) (hr.mono (by omega)) (by rfl) T.d__law_drawn.at_ T.d__law_drawn.kp T.d__law_drawn.bd (fr_ref (fv 0) (fr_val (fe_b cb_len (by rfl) T.z_len (by decide +kernel) (fr_ref (fv 3) fr_nil)) fr_nil)))) fa_nil)) (by rfl))
      (fb_cons (fs_set (ps_set (i := 7) sc__law_bars_bent.nd rfl (.inl rfl) pe_S) (fe_call (ok__law_drawn T) (hr.mono (by omega)) (by rfl) T.d__law_drawn.at_ T.d__law_drawn.kp T.d__law_drawn.bd (fr_ref (fv 0) (fr_val (fe_op os_add (fe_b cb_len (by rfl) T.z_len (by decide +kernel) (fr_ref (fv 2) fr_nil)) fe_int) fr_nil))))
      (fb_one (fs_ret (fe_op os_add (fe_op os_add (fe_sl (fv 2) fo_no (fo_int (fv 7))) (fe_lst (fa_cons (fe_tup (fa_cons (fv 5) (fa_cons (fe_op os_sub (fe_call (ok__law_drawn T) (hr.mono (by omega)) (by rfl) T.d__law_drawn.at_ T.d__law_drawn.kp T.d__law_drawn.bd (fr_ref (fv 0) (fr_val fe_int fr_nil))) fe_int) (fa_cons (fv 6) fa_nil)))) fa_nil))) (fe_sl (fv 2) (fo_int (fv 7)) fo_no))))))))))), fun ρ R hl h => ?_⟩
  obtain ⟨c, d, n, ks, rs, st, bs, rfl, hj, hc, hw, hb, hn, q⟩ := h
  have sz := sz2
  have p9 : 9 ^ (n + 1) = 9 * 9 ^ n := by rw [Nat.pow_succ]; omega
  have p91 : 1 ≤ 9 ^ n := Nat.one_le_pow _ _ (by decide)
  have p99 : 9 ^ n ≤ 9 := by rcases (by omega : n = 0 ∨ n = 1) with h | h <;> subst h <;> decide
  have bl := hb.bl
  have kk := hw.bs.ok
  have okb : okD (.lst (bs.map BA.d)) = true := (okN_lst (n := 1) fun d hd => by
    obtain ⟨t, h1, rfl⟩ := List.mem_map.mp hd
    exact okBA (kk t h1)).ok
  have la := allA_len rs
  have ta : als rs ≤ 1000000 := hw.rs.tot
  refine ⟨.lst (bs.map BA.d), rfl, ?_⟩
  refine ⟨rsD rs, rfl, List.nodup_nil, rs, rfl, hw.rs, fun s => ?_⟩
  refine ⟨fun i acc ρ => acc = (((allA rs).take i).map fun p => p.2.label).map D.str ∧ ρ = [.sl true true d, .sl false true (wD ks rs st bs), dat (.lst (bs.map BA.d)), .un, .un, .un, .un, .un, .un, .un, .un], ⟨rfl, rfl⟩, ?_, ?_, ?_⟩
  · rintro i y acc ρ hi ⟨rfl, rfl⟩
    rw [allA_D, List.getElem?_map] at hi
    obtain ⟨p, hi2, rfl⟩ := Option.map_eq_some_iff.mp hi
    have hil : i < (allA rs).length := (List.getElem?_eq_some_iff.mp hi2).1
    refine ⟨rfl, ?_⟩
    refine ⟨by rw [List.length_map, List.length_map, List.length_take]; omega, ?_, rfl⟩
    rw [List.take_succ, hi2, List.map_append, List.map_append]; rfl
  · rintro i acc ρ ⟨_, rfl⟩
    exact ⟨_, (rfl : _ = YP.wipeS [.sl true true d, .sl false true (wD ks rs st bs), dat (.lst (bs.map BA.d)), .un, .un, .un, .un, .un, .un, .un, .un] [8, 9, 10])⟩
  rintro acc ρ ⟨rfl, rfl⟩
  rw [← allA_D_len rs, List.take_length]
  have lls : ((((allA rs).map fun p => p.2.label) ++ [Str.ofString "zzz"]) : List Str).length = als rs + 1 := by rw [List.length_append, List.length_map, la]; rfl
  have tls : ∀ x ∈ ((((allA rs).map fun p => p.2.label) ++ [Str.ofString "zzz"]) : List Str), Tk x := fun x hx => by
    rcases List.mem_append.mp hx with z | z
    · obtain ⟨p, hp, rfl⟩ := List.mem_map.mp z
      exact (allA_ok hw.rs hp).tk
    · rw [List.mem_singleton.mp z]; exact tkW _
  refine ⟨by show 1 ≤ _; omega, by rw [List.length_map, List.length_map, la]; show _ + 1 ≤ _; omega, ?_⟩
  have eL : ((allA rs).map fun p => p.2.label).map D.str ++ [D.str (Str.ofString "zzz")] = ((((allA rs).map fun p => p.2.label) ++ [Str.ofString "zzz"]) : List Str).map D.str := by rw [List.map_append]; rfl
  rw [eL]
  generalize ((((allA rs).map fun p => p.2.label) ++ [Str.ofString "zzz"]) : List Str) = ls at tls lls ⊢
  refine ⟨nd1 _, c, d, 3, rfl, hj, by decide, by decide, by omega, fun r1 d1 t1 p0 p1 j1 => ?_⟩
  dsimp only [YP.put]
  show uSeq _ _ _ _
  refine seq_cut (fun ρ => ρ = [.sl true true d1, .sl false true (wD ks rs st bs), dat (.lst (bs.map BA.d)), own (.lst (ls.map D.str)), dat (.int r1), .un, .un, .un, .un, .un, .un]) ?rest fun rest => ?here
  case here =>
    refine ⟨rfl, rfl, ?_⟩
    rw [eqD_int]
    by_cases h0 : r1 = 0
    · rw [decide_eq_true h0]
      refine ⟨Nat.zero_le _, okb, by decide +kernel, ?_⟩
      show isB _ (.val (.bl (!(eqD (.lst (bs.map BA.d)) (.lst []))))) _
      rw [eqD_nil, List.length_map]
      show (if (!decide (bs.length = 0)) = true then _ else _)
      by_cases hz : bs.length = 0
      · rw [decide_eq_true hz]
        exact rest _ rfl
      · rw [decide_eq_false hz]
        refine ⟨nd1 _, c + 1, d1, ((bs.length : Nat) : Int), (by show [own d1, dat (.int (((bs.map BA.d).length : Nat) : Int))] = _; rw [List.length_map]), j1, by omega, by omega, by omega, fun r2 d2 t2 r20 r21 j2 => ?_⟩
        obtain ⟨x, hx, ex⟩ := atI_in (l := bs.map BA.d) r20 (by rw [List.length_map]; exact r21)
        obtain ⟨b, hb2, rfl⟩ := List.mem_map.mp hx
        refine ⟨_, ex, ?_⟩
        refine ⟨by show 1 ≤ _; omega, by rw [List.length_map]; show _ + 1 ≤ _; omega, ?_⟩
        have e : bs.map BA.d ++ [b.d] = (bs ++ [b]).map BA.d := by rw [List.map_append]; rfl
        rw [e]
        refine q (bs ++ [b]) _ _ (fun z hz => ?_) (by rw [List.length_append]; show _ + 1 ≤ _; omega) (j2.mono (by omega))
        rcases List.mem_append.mp hz with q1 | q1
        · exact kk z q1
        · rw [List.mem_singleton.mp q1]; exact kk b hb2
    · rw [decide_eq_false h0]
      exact rest _ rfl
  rintro ρ rfl
  refine seq_cut (fun ρ => ρ = [.sl true true d1, .sl false true (wD ks rs st bs), dat (.lst (bs.map BA.d)), own (.lst (ls.map D.str)), dat (.int r1), .un, .un, .un, .un, .un, .un]) ?rest2 fun rest => ?here2
  case here2 =>
    refine ⟨rfl, rfl, ?_⟩
    rw [eqD_int]
    by_cases h0 : r1 = 1
    · rw [decide_eq_true h0]
      refine ⟨Nat.zero_le _, okb, by decide +kernel, ?_⟩
      show isB _ (.val (.bl (!(eqD (.lst (bs.map BA.d)) (.lst []))))) _
      rw [eqD_nil, List.length_map]
      show (if (!decide (bs.length = 0)) = true then _ else _)
      by_cases hz : bs.length = 0
      · rw [decide_eq_true hz]
        exact rest _ rfl
      · rw [decide_eq_false hz]
        refine ⟨⟨by decide, by decide⟩, by rw [List.length_map]; show bs.length * 9 ≤ _; omega, ?_⟩
        rw [told_map]
        exact q (told bs 9) _ _ (fun k hk => kk k (told_mem hk)) (by rw [told_len']; show 9 * bs.length ≤ _; omega) (j1.mono (by omega))
    · rw [decide_eq_false h0]
      exact rest _ rfl
  rintro ρ rfl
  refine ⟨nd1 _, c + 1, d1, ((ls.length : Nat) : Int), (by show [own d1, dat (.int (((ls.map D.str).length : Nat) : Int))] = _; rw [List.length_map]), j1, by omega, by omega, by omega, fun r2 d2 t2 r20 r21 j2 => ?_⟩
  obtain ⟨x, hx, ex⟩ := atI_in (l := ls.map D.str) r20 (by rw [List.length_map]; exact r21)
  obtain ⟨one, h1, rfl⟩ := List.mem_map.mp hx
  refine ⟨_, ex, ?_⟩
  refine ⟨nd1 _, c + 2, d2, ((ls.length : Nat) : Int), (by show [own d2, dat (.int (((ls.map D.str).length : Nat) : Int))] = _; rw [List.length_map]), j2, by omega, by omega, by omega, fun r3 d3 t3 r30 r31 j3 => ?_⟩
  obtain ⟨x, hx, ex⟩ := atI_in (l := ls.map D.str) r30 (by rw [List.length_map]; exact r31)
  obtain ⟨other, h2, rfl⟩ := List.mem_map.mp hx
  refine ⟨_, ex, ?_⟩
  refine ⟨nd1 _, c + 3, d3, ((bs.length : Nat) : Int) + 1, (by show [own d3, dat (.int ((((bs.map BA.d).length : Nat) : Int) + 1))] = _; rw [List.length_map]), j3, by omega, by omega, by omega, fun r4 d4 t4 r40 r41 j4 => ?_⟩
  obtain ⟨a, rfl⟩ : ∃ a : Nat, r4 = a := ⟨r4.toNat, by omega⟩
  have ha : a ≤ bs.length := by omega
  refine ⟨nd1 _, c + 4, d4, 8, rfl, j4, by decide, by decide, by omega, fun r5 d5 t5 r50 r51 j5 => ?_⟩
  have c1 : YP.cut (bs.map BA.d) none (some (a : Int)) = (bs.take a).map BA.d := by rw [ycut_to, List.map_take]
  have c2 : YP.cut (bs.map BA.d) (some (a : Int)) none = (bs.drop a).map BA.d := by rw [ycut_from, List.map_drop]
  refine ⟨by show 3 ≤ _; omega, by show 1 ≤ _; omega, ?_⟩
  refine ⟨by rw [c1, List.length_map, List.length_take]; show _ + 1 ≤ _; omega, ?_⟩
  refine ⟨by rw [c1, c2, List.length_append, List.length_map, List.length_map, List.length_take, List.length_drop]; show _ + 1 + _ ≤ _; omega, ?_⟩
  rw [c1, c2]
  have e : (bs.take a).map BA.d ++ [D.tup [.str one, .int (r5 - 1), .str other]] ++ (bs.drop a).map BA.d = (bs.take a ++ [BA.mk one (r5 - 1) other] ++ bs.drop a).map BA.d := by rw [List.map_append, List.map_append]; rfl
  rw [e]
  refine q _ _ _ (fun z hz => ?_) (by rw [List.length_append, List.length_append, List.length_take, List.length_drop]; show _ + 1 + _ ≤ _; omega) (j5.mono (by omega))
  rcases List.mem_append.mp hz with hz | hz
  · rcases List.mem_append.mp hz with hz | hz
    · exact kk z (List.mem_of_mem_take hz)
    · rw [List.mem_singleton.mp hz]
      exact ⟨tls _ h1, tls _ h2, by show -100 ≤ r5 - 1; omega, by show r5 - 1 ≤ 100; omega⟩
  · exact kk z (List.mem_of_mem_drop hz)
end
end K10
set_option maxRecDepth 100000
set_option maxHeartbeats 600000
namespace K10
open PySem PySem.Spec PyProof.Rows L2 Yard YP
theorem rwt_told (ks : List RU) (k : Int) : rwt (told ks k) = k.toNat * rwt ks := sumW_told RU.wt ks k
theorem strOk_app {x y : Str} (h : PyData.strOk x = true) (k : PyData.strOk y = true) : PyData.strOk (x ++ y) = true := by
  show (x.cps ++ y.cps).all _ = true
  rw [Array.all_append]
  exact Bool.and_eq_true_iff.mpr ⟨h, k⟩
theorem cut1_ok {x : Str} (h : Tk x) : (cutS x none (some 1)).length ≤ 1 ∧ PyData.strOk (cutS x none (some 1)) = true := by
  have e : cutS x none (some 1) = toS (x.cps.toList.take 1) := by
    conv => lhs; rw [← toS_of x]
    exact cutS_to _ 1
  rw [e]
  refine ⟨by rw [toS_len, List.length_take]; omega, strOk_toS fun c hc => ?_⟩
  have h1 : x.cps.all (· < 0x110000) = true := h.ok
  rw [← Array.all_toList, List.all_eq_true] at h1
  exact of_decide_eq_true (h1 c (List.mem_of_mem_take hc))
theorem g2' {i j : Nat} {a b : D} {ρ : List Sl} {R : List Sl → Prop} (h : R ((ρ.set i (.sl false false a)).set j (.sl false false b))) : uGCons (uName i) (uGCons (uName j) uGNil) [a, b] ρ R := h
def RB (n : Nat) (r : RU) : Prop := ROk r ∧ r.alts.length ≤ 3 ∧ ∀ a ∈ r.alts, a.row.length ≤ 7 + n
section
variable {P : Program} {w : World} {K : PySem.W.Frag} {mg : Str → Option Value} {base : Heap}
def uRBe : UF := fun ρ R => ∃ (c : Nat) (d : D) (n : Nat) (ks : List KD) (rs : List RU) (st : Str) (bs : List BA), ρ = [own d, dat (wD ks rs st bs)] ∧ JarOk c d ∧ c + 20 < 1000000 ∧ WOk ks rs st bs ∧ WB n ks rs bs ∧ n ≤ 1 ∧
  ∀ (rs' : List RU) d2 s1, (∀ r ∈ rs', RB (n + 1) r) → rs'.length ≤ 13 * 41 ^ (n + 1) → rwt rs' ≤ fW (n + 1) → JarOk (c + 20) d2 → R (.own (rsD rs')) [own d2, s1]
theorem sc__law_rules_bent : FnScope ["purse", "world", "rules", "way", "at", "many", "head", "some", "spot", "label", "row", "place", "sign", "k"] ["purse", "world"] (defScope s__law_rules_bent) := ⟨rfl, rfl, rfl, by decide +kernel, rfl, by decide +kernel, by decide +kernel⟩
theorem ok__law_rules_bent (T : Tx K w mg) : FnOk P w K mg base CX0 4 T.a__law_rules_bent T.f__law_rules_bent ["purse", "world"] (PSp K 2 uRBe) := by
  refine fn_mk T.d__law_rules_bent.fn sc__law_rules_bent (by decide) fun cdv A outer s H E hr => ?_
  refine ⟨_, (fb_cons (fs_set (ps_set (i := 2) sc__law_rules_bent.nd rfl (.inr rfl) pe_S) (fe_ix (fv 1) fe_int))
      (fb_cons (fs_set (ps_set (i := 3) sc__law_rules_bent.nd rfl (.inl rfl) pe_S) (fe_call (ok__law_drawn T) (hr.mono (by omega)) (by rfl) T.d__law_drawn.at_ T.d__law_drawn.kp T.d__law_drawn.bd (fr_ref (fv 0) (fr_val fe_int fr_nil))))
      (fb_cons (fs_set (ps_set (i := 4) sc__law_rules_bent.nd rfl (.inl rfl) pe_S) (fe_call (ok__law_drawn T) (hr.mono (by omega)) (by rfl) T.d__law_drawn.at_ T.d__law_drawn.kp T.d__law_drawn.bd (fr_ref (fv 0) (fr_val (fe_b (cb_max rfl) (by rfl) T.z_max (by decide +kernel) (fr_ref fe_int (fr_ref (fe_b cb_len (by rfl) T.z_len (by decide +kernel) (fr_ref (fv 2) fr_nil)) fr_nil))) fr_nil))))
      (fb_cons (fs_if (FW.ft (fw_or (ft_cmp (os_eq (ru hr)) (fv 3) fe_int) (fw_or1 (ft_cmp (os_eq (ru hr)) (fv 2) (fe_lst fa_nil)))))
      (fb_cons (fs_set (ps_set (i := 5) sc__law_rules_bent.nd rfl (.inl rfl) pe_S) (fe_ix (fe_lst (fa_cons fe_int (fa_cons fe_int (fa_cons fe_int (fa_cons fe_int fa_nil))))) (fe_call (ok__law_drawn T) (hr.mono (by omega)) (by rfl) T.d__law_drawn.at_ T.d__law_drawn.kp T.d__law_drawn.bd (fr_ref (fv 0) (fr_val fe_int fr_nil)))))
      (fb_cons (fs_if (FW.ft (fw_or (ft_cmp (os_ne (ru hr)) (fv 5) fe_int) (fw_or1 (ft_cmp (os_eq (ru hr)) (fv 2) (fe_lst fa_nil)))))
      (fb_one (fs_ret (fe_op os_mulX (fv 2) (fv 5))))
      fb_nil)
      (fb_one (fs_ret (fe_op os_add (fv 2) (fe_lc rfl sc__law_rules_bent.nd (fi_range1 (by rfl) T.z_range (fa_cons (fv 5) fa_nil)) (blkOk_by (own := [("k", 13)]) (N := ["purse", "world", "rules", "way", "at", "many", "head", "some", "spot", "label", "row", "place", "sign", "k"]) (sc := defScope s__law_rules_bent) (by decide +kernel)) (fun _ _ _ _ _ => (fg_name (pg_name (i := 13) sc__law_rules_bent.nd rfl (.inl rfl)) (by intro l e; cases e; decide +kernel))) (fun _ _ _ _ _ => fts_nil) (fun _ _ _ _ _ => (fe_tup (fa_cons (fe_op os_add fe_str (fe_op os_mulS (fe_sl (fe_ix (fe_ix (fv 2) fe_int) fe_int) fo_no (fo_int fe_int)) (fv 13))) (fa_cons (fe_ix (fe_ix (fv 2) fe_int) fe_int) fa_nil))))))))))
      fb_nil)
      (fb_cons (fs_asg (ps_asg pe_S pg_S) (fe_ix (fv 2) (fv 4)) (fg_tup (n := 2) rfl (fgs_cons (fg_name (pg_name (i := 6) sc__law_rules_bent.nd rfl (.inl rfl))) (fgs_cons (fg_name (pg_name (i := 7) sc__law_rules_bent.nd rfl (.inl rfl))) fgs_nil))))
      (fb_cons (fs_set (ps_set (i := 8) sc__law_rules_bent.nd rfl (.inl rfl) pe_S) (fe_call (ok__law_drawn T) (hr.mono (by omega)) (by rfl) T.d__law_drawn.at_ T.d__law_drawn.kp T.d__law_drawn.bd (fr_ref (fv 0) (fr_val (fe_b (cb_max rfl) (by rfl) T.z_max (by decide +kernel) (fr_ref fe_int (fr_ref (fe_b cb_len (by rfl) T.z_len (by decide +kernel) (fr_ref (fv 7) fr_nil)) fr_nil))) fr_nil))))
      (fb_cons (fs_asg (ps_asg pe_S pg_S) (fe_ix (fe_op os_add (fv 7) (fe_lst (fa_cons (fe_tup (fa_cons fe_str (fa_cons (fe_tup fa_nil) fa_nil))) fa_nil))) (fv 8)) (fg_tup (n := 2) rfl (fgs_cons (fg_name (pg_name (i := 9) sc__law_rules_bent.nd rfl (.inl rfl))) (fgs_cons (fg_name (pg_name (i := 10) sc__law_rules_bent.nd rfl (.inl rfl))) fgs_nil))))
      (fb_cons (fs_set (ps_set (i := 11) sc__law_rules_bent.nd rfl (.inl rfl) pe_S) (fe_call (ok__law_drawn T) (hr.mono (by omega)) (by rfl) T.d__law_drawn.at_ T.d__law_drawn.kp T.d__law_drawn.bd (fr_ref (fv 0) (fr_val (fe_op os_add (fe_b cb_len (by rfl) T.z_len (by decide +kernel) (fr_ref (fv 10) fr_nil)) fe_int) fr_nil))))
      (fb_cons (fs_if (ft_cmp (os_eq (ru hr)) (fv 3) fe_int)
      (fb_one (fs_set (ps_set (i := 6) sc__law_rules_bent.nd rfl (.inl rfl) pe_S) (fe_call (ok__law_strange T) (hr.mono (by omega)) (by rfl) T.d__law_strange.at_ T.d__law_strange.kp T.d__law_strange.bd (fr_ref (fv 0) (fr_val (fe_call (ok__law_all_names T) (hr.mono (by omega)) (by rfl) T.d__law_all_names.at_ T.d__law_all_names.kp T.d__law_all_names.bd (fr_val (fv 1) fr_nil)) fr_nil)))))
      fb_nil)
      (fb_cons (fs_if (ft_cmp (os_eq (ru hr)) (fv 3) fe_int)
      (fb_one (fs_ret (fe_op os_add (fe_op os_add (fe_sl (fv 2) fo_no (fo_int (fv 4))) (fe_lst (fa_cons (fe_tup (fa_cons (fv 6) (fa_cons (fe_lst fa_nil) fa_nil))) fa_nil))) (fe_sl (fv 2) (fo_int (fe_op os_add (fv 4) fe_int)) fo_no))))
      fb_nil)
      (fb_cons (fs_if (FW.ft (fw_or (ft_cmp (os_eq (ru hr)) (fv 3) fe_int) (fw_or1 (ft_cmp (os_eq (ru hr)) (fv 3) fe_int))))
      (fb_one (fs_set (ps_set (i := 9) sc__law_rules_bent.nd rfl (.inl rfl) pe_S) (fe_call (ok__law_strange T) (hr.mono (by omega)) (by rfl) T.d__law_strange.at_ T.d__law_strange.kp T.d__law_strange.bd (fr_ref (fv 0) (fr_val (fe_call (ok__law_all_names T) (hr.mono (by omega)) (by rfl) T.d__law_all_names.at_ T.d__law_all_names.kp T.d__law_all_names.bd (fr_val (fv 1) fr_nil)) fr_nil)))))
      fb_nil)
      (fb_cons (fs_if (ft_cmp (os_eq (ru hr)) (fv 3) fe_int)
      (fb_one (fs_set (ps_set (i := 10) sc__law_rules_bent.nd rfl (.inl rfl) pe_S) (fe_sl (fe_op os_add (fe_op os_mulX (fv 10) fe_int) (fe_op os_mulX (fe_tup (fa_cons (fv 6) fa_nil)) fe_int)) fo_no (fo_int (fe_op os_add fe_int (fe_call (ok__law_drawn T) (hr.mono (by omega)) (by rfl) T.d__law_drawn.at_ T.d__law_drawn.kp T.d__law_drawn.bd (fr_ref (fv 0) (fr_val fe_int fr_nil))))))))
      fb_nil)
      (fb_cons (fs_if (ft_cmp os_gt (fv 3) fe_int)
      (fb_cons (fs_set (ps_set (i := 12) sc__law_rules_bent.nd rfl (.inl rfl) pe_S) (fe_ix (fe_lst (fa_cons (fe_call (ok__law_strange T) (hr.mono (by omega)) (by rfl) T.d__law_strange.at_ T.d__law_strange.kp T.d__law_strange.bd (fr_ref (fv 0) (fr_val (fe_call (ok__law_all_names T) (hr.mono (by omega)) (by rfl) T.d__law_all_names.at_ T.d__law_all_names.kp T.d__law_all_names.bd (fr_val (fv 1) fr_nil)) fr_nil))) (fa_cons fe_str fa_nil))) (fe_op os_sub (fv 3) fe_int)))
      (fb_one (fs_set (ps_set (i := 10) sc__law_rules_bent.nd rfl (.inl rfl) pe_S) (fe_op os_add (fe_op os_add (fe_sl (fv 10) fo_no (fo_int (fv 11))) (fe_tup (fa_cons (fv 12) fa_nil))) (fe_sl (fv 10) (fo_int (fe_op os_add (fv 11) fe_int)) fo_no)))))
      fb_nil)
      (fb_one (fs_ret (fe_op os_add (fe_op os_add (fe_sl (fv 2) fo_no (fo_int (fv 4))) (fe_lst (fa_cons (fe_tup (fa_cons (fv 6) (fa_cons (fe_op os_add (fe_op os_add (fe_sl (fv 7) fo_no (fo_int (fv 8))) (fe_lst (fa_cons (fe_tup (fa_cons (fv 9) (fa_cons (fv 10) fa_nil))) fa_nil))) (fe_sl (fv 7) (fo_int (fe_op os_add (fv 8) fe_int)) fo_no)) fa_nil))) fa_nil))) (fe_sl (fv 2) (fo_int (fe_op os_add (fv 4) fe_int)) fo_no))))))))))))))))), fun ρ R hl h => ?_⟩
  obtain ⟨c, d, n, ks, rs, st, bs, rfl, hj, hc, hw, hb, hn, q⟩ := h
  have sz := sz2
  have p9 : 41 ^ (n + 1) = 41 * 41 ^ n := by rw [Nat.pow_succ]; omega
  have p91 : 1 ≤ 41 ^ n := Nat.one_le_pow _ _ (by decide)
  have p99 : 41 ^ n ≤ 41 := by rcases (by omega : n = 0 ∨ n = 1) with h | h <;> subst h <;> decide
  have rl := hb.rl
  have kk : ∀ r ∈ rs, RB (n + 1) r := fun r hr => ⟨hw.rs.ok r hr, (hb.ra r hr).1, fun a ha => by have := (hb.ra r hr).2 a ha; omega⟩
  refine ⟨rsD rs, rfl, ?_⟩
  refine ⟨nd1 _, c, d, 8, rfl, hj, by decide, by decide, by omega, fun r1 d1 t1 p0 p1 j1 => ?_⟩
  refine ⟨nd1 _, c + 1, d1, (if (((rs.length : Nat) : Int)) > 1 then ((rs.length : Nat) : Int) else 1), (by show [own d1, dat (.int (if (((rs.map RU.d).length : Nat) : Int) > 1 then (((rs.map RU.d).length : Nat) : Int) else 1))] = _; rw [List.length_map]), j1, by split <;> omega, by split <;> omega, by omega, fun a d2 t2 a0 a1 j2 => ?_⟩
  obtain ⟨a, rfl⟩ : ∃ m : Nat, a = m := ⟨a.toNat, by omega⟩
  dsimp only [YP.put]
  show uSeq _ _ _ _
  refine seq_cut (fun ρ => rs.length ≠ 0 ∧ ρ = [.sl true true d2, .sl false true (wD ks rs st bs), dat (rsD rs), dat (.int r1), dat (.int (a : Nat)), .un, .un, .un, .un, .un, .un, .un, .un, .un]) ?rest fun rest => ?here
  case here =>
    refine ⟨rfl, rfl, ?_⟩
    rw [eqD_int]
    by_cases h0 : r1 = 0
    · rw [decide_eq_true h0]
      refine ⟨by show 4 ≤ _; omega, ?_⟩
      refine ⟨nd1 _, c + 2, d2, 4, rfl, j2, by decide, by decide, by omega, fun r3 d3 t3 r30 r31 j3 => ?_⟩
      rcases (by omega : r3 = 0 ∨ r3 = 1 ∨ r3 = 2 ∨ r3 = 3) with h | h | h | h
      · subst h
        refine ⟨_, rfl, ?_⟩
        refine ⟨rfl, rfl, ?_⟩
        refine ⟨⟨by decide, by decide⟩, by rw [List.length_map]; show rs.length * 0 ≤ _; omega, ?_⟩
        rw [told_map]
        exact q (told rs 0) _ _ (fun k hk => kk k (told_mem hk)) (by rw [told_len']; show 0 * rs.length ≤ _; omega) (by have := hb.rw; rw [rwt_told]; show 0 * rwt rs ≤ 41 * fW n + 2000; omega) (j3.mono (by omega))
      · subst h
        refine ⟨_, rfl, ?_⟩
        refine ⟨rfl, rfl, ?_⟩
        refine ⟨⟨by decide, by decide⟩, by rw [List.length_map]; show rs.length * 2 ≤ _; omega, ?_⟩
        rw [told_map]
        exact q (told rs 2) _ _ (fun k hk => kk k (told_mem hk)) (by rw [told_len']; show 2 * rs.length ≤ _; omega) (by have := hb.rw; rw [rwt_told]; show 2 * rwt rs ≤ 41 * fW n + 2000; omega) (j3.mono (by omega))
      · subst h
        refine ⟨_, rfl, ?_⟩
        refine ⟨rfl, rfl, ?_⟩
        refine ⟨⟨by decide, by decide⟩, by rw [List.length_map]; show rs.length * 41 ≤ _; omega, ?_⟩
        rw [told_map]
        exact q (told rs 41) _ _ (fun k hk => kk k (told_mem hk)) (by rw [told_len']; show 41 * rs.length ≤ _; omega) (by have := hb.rw; rw [rwt_told]; show 41 * rwt rs ≤ 41 * fW n + 2000; omega) (j3.mono (by omega))
      · subst h
        refine ⟨_, rfl, ?_⟩
        refine ⟨rfl, rfl, ?_⟩
        refine ⟨Nat.zero_le _, (okRs hw.rs).ok, by decide +kernel, ?_⟩
        show isB _ (.val (.bl (eqD (rsD rs) (.lst [])))) _
        rw [show eqD (rsD rs) (.lst []) = decide ((rs.map RU.d).length = 0) from eqD_nil _, List.length_map]
        by_cases hz : rs.length = 0
        · rw [decide_eq_true hz]
          refine ⟨⟨by decide, by decide⟩, by rw [List.length_map]; show rs.length * 9 ≤ _; omega, ?_⟩
          rw [told_map]
          exact q (told rs 9) _ _ (fun k hk => kk k (told_mem hk)) (by rw [told_len']; show 9 * rs.length ≤ _; omega) (by have := hb.rw; rw [rwt_told]; show 9 * rwt rs ≤ 41 * fW n + 2000; omega) (j3.mono (by omega))
        · rw [decide_eq_false hz]
          obtain ⟨r0, tl, rfl⟩ : ∃ r0 tl, rs = r0 :: tl := by
            cases rs with
            | nil => exact absurd rfl hz
            | cons x y => exact ⟨x, y, rfl⟩
          have k0 := kk r0 (List.mem_cons_self ..)
          refine ⟨by decide, by decide, ?_⟩
          refine ⟨fun i acc ρ => ∃ xs : List RU, acc = xs.map RU.d ∧ xs.length = i ∧ (∀ x ∈ xs, RB (n + 1) x ∧ x.wt ≤ r0.wt + 96) ∧ ρ = [.sl true true d3, .sl false true (wD ks (r0 :: tl) st bs), dat (rsD (r0 :: tl)), dat (.int r1), dat (.int (a : Nat)), dat (.int 9), .un, .un, .un, .un, .un, .un, .un, .un], ⟨[], rfl, rfl, (fun _ h => nomatch h), rfl⟩, ?_, ?_, ?_⟩
          · rintro i y acc ρ hi ⟨xs, rfl, lx, hx, rfl⟩
            obtain ⟨li, rfl⟩ := intsD_get hi
            have li : i < 9 := li
            refine ⟨r0.d, (show L2.atI _ ((0 : Nat) : Int) = _ from atI_nat rfl), ?_⟩
            refine ⟨.str r0.head, (show L2.atI _ ((0 : Nat) : Int) = _ from atI_nat rfl), ?_⟩
            refine ⟨k0.1.tk.sz, ?_⟩
            obtain ⟨c1, c2⟩ := cut1_ok k0.1.tk
            generalize cutS r0.head none (some 1) = hd at c1 c2 ⊢
            refine ⟨by omega, by omega, by omega, ?_⟩
            have ml := mulS_len hd (0 + (i : Int))
            have mo := mulS_ok (k := 0 + (i : Int)) c2
            have ml2 : (0 + (i : Int)).toNat * hd.length ≤ 8 * 1 := Nat.mul_le_mul (by omega) c1
            generalize mulS hd (0 + (i : Int)) = tl2 at ml mo ⊢
            refine ⟨by show 1 + tl2.length ≤ _; omega, ?_⟩
            refine ⟨r0.d, (show L2.atI _ ((0 : Nat) : Int) = _ from atI_nat rfl), ?_⟩
            refine ⟨.lst (r0.alts.map AL.d), (show L2.atI _ ((1 : Nat) : Int) = _ from atI_nat rfl), ?_⟩
            refine ⟨by show 2 ≤ _; omega, ?_⟩
            refine ⟨by rw [List.length_map]; omega, xs ++ [RU.mk (Str.ofString "q" ++ tl2) r0.alts], by rw [List.map_append]; rfl, by rw [List.length_append, lx]; rfl, fun z hz => ?_, rfl⟩
            rcases List.mem_append.mp hz with hz | hz
            · exact hx z hz
            · rw [List.mem_singleton.mp hz]
              have tq : Tk (Str.ofString "q" ++ tl2) := ⟨strOk_app (by decide +kernel) mo, by rw [Str.length_append]; show 1 + tl2.length ≤ _; omega⟩
              refine ⟨⟨⟨tq, k0.1.al, k0.1.few⟩, k0.2⟩, ?_⟩
              have := strW_le tq
              show 12 + strW (Str.ofString "q" ++ tl2) + altW r0.alts ≤ 12 + strW r0.head + altW r0.alts + 96
              omega
          · rintro i acc ρ ⟨xs, rfl, lx, hx, rfl⟩
            exact ⟨_, (rfl : _ = YP.wipeS [.sl true true d3, .sl false true (wD ks (r0 :: tl) st bs), dat (rsD (r0 :: tl)), dat (.int r1), dat (.int (a : Nat)), dat (.int 9), .un, .un, .un, .un, .un, .un, .un, .un] [13])⟩
          rintro acc ρ ⟨xs, rfl, lx, hx, rfl⟩
          have lx : xs.length = 9 := lx
          have le9 : ((r0 :: tl) ++ xs).length ≤ 13 * 41 ^ (n + 1) := by rw [List.length_append, lx]; omega
          refine ⟨by rw [List.length_map, List.length_map, lx]; omega, ?_⟩
          rw [← List.map_append]
          refine q ((r0 :: tl) ++ xs) _ _ (fun z hz => ?_) le9 ?_ (j3.mono (by omega))
          · exact (List.mem_append.mp hz).elim (kk z) fun w => (hx z w).1
          · have h1 : rwt ((r0 :: tl) ++ xs) = rwt (r0 :: tl) + rwt xs := sumW_app RU.wt _ _
            have h2 : rwt xs ≤ xs.length * (r0.wt + 96) := sumW_le RU.wt _ xs fun z hz => (hx z hz).2
            have h3 : rwt (r0 :: tl) = r0.wt + rwt tl := by unfold rwt; rw [List.map_cons, List.sum_cons]
            have h4 := hb.rw
            rw [lx] at h2
            show _ ≤ 41 * fW n + 2000
            omega
    · rw [decide_eq_false h0]
      refine ⟨Nat.zero_le _, (okRs hw.rs).ok, by decide +kernel, ?_⟩
      rw [show eqD (rsD rs) (.lst []) = decide ((rs.map RU.d).length = 0) from eqD_nil _, List.length_map]
      by_cases hz : rs.length = 0
      · rw [decide_eq_true hz]
        refine ⟨by show 4 ≤ _; omega, ?_⟩
        refine ⟨nd1 _, c + 2, d2, 4, rfl, j2, by decide, by decide, by omega, fun r3 d3 t3 r30 r31 j3 => ?_⟩
        rcases (by omega : r3 = 0 ∨ r3 = 1 ∨ r3 = 2 ∨ r3 = 3) with h | h | h | h
        · subst h
          refine ⟨_, rfl, ?_⟩
          refine ⟨rfl, rfl, ?_⟩
          refine ⟨⟨by decide, by decide⟩, by rw [List.length_map]; show rs.length * 0 ≤ _; omega, ?_⟩
          rw [told_map]
          exact q (told rs 0) _ _ (fun k hk => kk k (told_mem hk)) (by rw [told_len']; show 0 * rs.length ≤ _; omega) (by have := hb.rw; rw [rwt_told]; show 0 * rwt rs ≤ 41 * fW n + 2000; omega) (j3.mono (by omega))
        · subst h
          refine ⟨_, rfl, ?_⟩
          refine ⟨rfl, rfl, ?_⟩
          refine ⟨⟨by decide, by decide⟩, by rw [List.length_map]; show rs.length * 2 ≤ _; omega, ?_⟩
          rw [told_map]
          exact q (told rs 2) _ _ (fun k hk => kk k (told_mem hk)) (by rw [told_len']; show 2 * rs.length ≤ _; omega) (by have := hb.rw; rw [rwt_told]; show 2 * rwt rs ≤ 41 * fW n + 2000; omega) (j3.mono (by omega))
        · subst h
          refine ⟨_, rfl, ?_⟩
          refine ⟨rfl, rfl, ?_⟩
          refine ⟨⟨by decide, by decide⟩, by rw [List.length_map]; show rs.length * 41 ≤ _; omega, ?_⟩
          rw [told_map]
          exact q (told rs 41) _ _ (fun k hk => kk k (told_mem hk)) (by rw [told_len']; show 41 * rs.length ≤ _; omega) (by have := hb.rw; rw [rwt_told]; show 41 * rwt rs ≤ 41 * fW n + 2000; omega) (j3.mono (by omega))
        · subst h
          refine ⟨_, rfl, ?_⟩
          refine ⟨rfl, rfl, ?_⟩
          refine ⟨Nat.zero_le _, (okRs hw.rs).ok, by decide +kernel, ?_⟩
          show isB _ (.val (.bl (eqD (rsD rs) (.lst [])))) _
          rw [show eqD (rsD rs) (.lst []) = decide ((rs.map RU.d).length = 0) from eqD_nil _, List.length_map]
          rw [decide_eq_true hz]
          refine ⟨⟨by decide, by decide⟩, by rw [List.length_map]; show rs.length * 9 ≤ _; omega, ?_⟩
          rw [told_map]
          exact q (told rs 9) _ _ (fun k hk => kk k (told_mem hk)) (by rw [told_len']; show 9 * rs.length ≤ _; omega) (by have := hb.rw; rw [rwt_told]; show 9 * rwt rs ≤ 41 * fW n + 2000; omega) (j3.mono (by omega))

      · rw [decide_eq_false hz]
        exact rest _ ⟨hz, rfl⟩
  rintro ρ ⟨hz, rfl⟩
  have ha : a < rs.length := by
    have : ((a : Nat) : Int) < (if (((rs.length : Nat) : Int)) > 1 then ((rs.length : Nat) : Int) else 1) := a1
    split at this <;> omega
  obtain ⟨r, hr⟩ : ∃ r, rs[a]? = some r := ⟨rs[a], List.getElem?_eq_getElem ha⟩
  have rm := List.mem_of_getElem? hr
  have rk := hw.rs.ok r rm
  have ra := hb.ra r rm
  have al3 := ra.1
  have c1 : YP.cut (rs.map RU.d) none (some (a : Int)) = (rs.take a).map RU.d := by rw [ycut_to, List.map_take]
  have c2 : YP.cut (rs.map RU.d) (some ((a : Int) + 1)) none = (rs.drop (a + 1)).map RU.d := by
    have : ((a : Int) + 1) = ((a + 1 : Nat) : Int) := by omega
    rw [this, ycut_from, List.map_drop]
  have fin : ∀ r' : RU, RB (n + 1) r' → r'.wt ≤ r.wt + 1500 → (∀ z ∈ rs.take a ++ [r'] ++ rs.drop (a + 1), RB (n + 1) z) ∧ (rs.take a ++ [r'] ++ rs.drop (a + 1)).length ≤ 13 * 41 ^ (n + 1) ∧ rwt (rs.take a ++ [r'] ++ rs.drop (a + 1)) ≤ fW (n + 1) := fun r' h' w' => by
    refine ⟨fun z hz => ?_, by rw [List.length_append, List.length_append, List.length_take, List.length_drop]; show _ + 1 + _ ≤ _; omega, ?_⟩
    case refine_2 =>
      have h1 : rwt (rs.take a ++ [r'] ++ rs.drop (a + 1)) = rwt (rs.take a) + r'.wt + rwt (rs.drop (a + 1)) := by
        unfold rwt; rw [sumW_app, sumW_app]; simp
      have h2 : rwt rs = rwt (rs.take a) + r.wt + rwt (rs.drop (a + 1)) := sumW_split RU.wt hr
      have h3 := hb.rw
      show _ ≤ 41 * fW n + 2000
      omega
    rcases List.mem_append.mp hz with hz | hz
    · rcases List.mem_append.mp hz with hz | hz
      · exact kk z (List.mem_of_mem_take hz)
      · rw [List.mem_singleton.mp hz]; exact h'
    · exact kk z (List.mem_of_mem_drop hz)
  have fe : ∀ r' : RU, (rs.take a).map RU.d ++ [r'.d] ++ (rs.drop (a + 1)).map RU.d = (rs.take a ++ [r'] ++ rs.drop (a + 1)).map RU.d := fun r' => by rw [List.map_append, List.map_append]; rfl
  refine ⟨r.d, atI_nat (by rw [List.getElem?_map, hr]; rfl), rfl, ?_⟩
  refine g2' ?_
  dsimp only
  refine ⟨nd1 _, c + 2, d2, (if (((r.alts.length : Nat) : Int)) > 1 then ((r.alts.length : Nat) : Int) else 1), (by show [own d2, dat (.int (if (((r.alts.map AL.d).length : Nat) : Int) > 1 then (((r.alts.map AL.d).length : Nat) : Int) else 1))] = _; rw [List.length_map]), j2, by split <;> omega, by split <;> omega, by omega, fun b d3 t3 b0 b1 j3 => ?_⟩
  obtain ⟨b, rfl⟩ : ∃ m : Nat, b = m := ⟨b.toNat, by omega⟩
  have hbl : b ≤ r.alts.length ∧ b < r.alts.length + 1 ∧ (b < r.alts.length ∨ b = 0 ∧ r.alts.length = 0) := by
    have : ((b : Nat) : Int) < (if (((r.alts.length : Nat) : Int)) > 1 then ((r.alts.length : Nat) : Int) else 1) := b1
    split at this <;> omega
  refine ⟨Nat.zero_le _, by show 2 ≤ _; omega, by show 1 ≤ _; omega, ?_⟩
  refine ⟨by rw [List.length_map]; show _ + 1 ≤ _; omega, ?_⟩
  have eA : r.alts.map AL.d ++ [D.tup [.str (Str.ofString "a"), .tup []]] = (r.alts ++ [AL.mk (Str.ofString "a") []]).map AL.d := by rw [List.map_append]; rfl
  rw [eA]
  have lb : b < (r.alts ++ [AL.mk (Str.ofString "a") []]).length := by rw [List.length_append]; show b < _ + 1; omega
  obtain ⟨al, hal⟩ : ∃ al, (r.alts ++ [AL.mk (Str.ofString "a") []])[b]? = some al := ⟨_, List.getElem?_eq_getElem lb⟩
  have alk : AOk al ∧ al.row.length ≤ 7 + n := by
    rcases List.mem_append.mp (List.mem_of_getElem? hal) with hm | hm
    · exact ⟨rk.al al hm, ra.2 al hm⟩
    · rw [List.mem_singleton.mp hm]
      exact ⟨⟨tkW _, (fun _ h => nomatch h), Nat.zero_le _⟩, Nat.zero_le _⟩
  refine ⟨al.d, atI_nat (by rw [List.getElem?_map, hal]; rfl), rfl, ?_⟩
  refine g2' ?_
  dsimp only
  have alr := alk.2
  refine ⟨nd1 _, c + 3, d3, ((al.row.length : Nat) : Int) + 1, (by show [own d3, dat (.int ((((al.row.map D.str).length : Nat) : Int) + 1))] = _; rw [List.length_map]), j3, by omega, by omega, by omega, fun pl d4 t4 pl0 pl1 j4 => ?_⟩
  obtain ⟨pl, rfl⟩ : ∃ m : Nat, pl = m := ⟨pl.toNat, by omega⟩
  dsimp only [YP.put]
  show uSeq _ _ _ _
  refine seq_cut (fun ρ => ∃ (d5 : D) (x : Str), Tk x ∧ JarOk (c + 5) d5 ∧ ρ = [.sl true true d5, .sl false true (wD ks rs st bs), dat (rsD rs), dat (.int r1), dat (.int (a : Nat)), .un, dat (.str x), dat (.lst (r.alts.map AL.d)), dat (.int (b : Nat)), dat (.str al.label), dat (.tup (al.row.map D.str)), dat (.int (pl : Nat)), .un, .un]) ?rest2 fun rest => ?here2
  case here2 =>
    refine ⟨rfl, rfl, ?_⟩
    rw [eqD_int]
    by_cases h3 : r1 = 1
    · rw [decide_eq_true h3]
      refine ⟨List.nodup_nil, ks, rs, st, bs, rfl, hw, fun ns s hns lns => ?_⟩
      refine ⟨nd1 _, c + 4, d4, ns, rfl, j4, by omega, hns, by omega, fun y d9 s9 ty j9 => ?_⟩
      exact rest _ ⟨d9, y, ty, j9, rfl⟩
    · rw [decide_eq_false h3]
      exact rest _ ⟨d4, r.head, rk.tk, j4.mono (by omega), rfl⟩
  rintro ρ ⟨d5, x, tx, j5, rfl⟩
  refine seq_cut (fun ρ => ρ = [.sl true true d5, .sl false true (wD ks rs st bs), dat (rsD rs), dat (.int r1), dat (.int (a : Nat)), .un, dat (.str x), dat (.lst (r.alts.map AL.d)), dat (.int (b : Nat)), dat (.str al.label), dat (.tup (al.row.map D.str)), dat (.int (pl : Nat)), .un, .un]) ?rest3 fun rest => ?here3
  case here3 =>
    refine ⟨rfl, rfl, ?_⟩
    rw [eqD_int]
    by_cases h3 : r1 = 2
    · rw [decide_eq_true h3]
      refine ⟨Nat.zero_le _, by show 2 ≤ _; omega, by show 1 ≤ _; omega, ?_⟩
      refine ⟨by rw [c1, List.length_map, List.length_take]; show _ + 1 ≤ _; omega, ?_⟩
      refine ⟨by rw [c1, c2, List.length_append, List.length_map, List.length_map, List.length_take, List.length_drop]; show _ + 1 + _ ≤ _; omega, ?_⟩
      rw [c1, c2]
      obtain ⟨f1, f2, f3⟩ := fin (RU.mk x []) ⟨⟨tx, (fun _ h => nomatch h), Nat.zero_le _⟩, Nat.zero_le _, fun _ h => nomatch h⟩ (by have := strW_le tx; show 12 + strW x + 0 ≤ _; omega)
      have e := fe (RU.mk x [])
      rw [show (RU.mk x []).d = D.tup [.str x, .lst []] from rfl] at e
      rw [e]
      exact q _ _ _ f1 f2 f3 (j5.mono (by omega))
    · rw [decide_eq_false h3]
      exact rest _ rfl
  rintro ρ rfl
  refine seq_cut (fun ρ => ∃ (d6 : D) (y : Str), Tk y ∧ JarOk (c + 6) d6 ∧ ρ = [.sl true true d6, .sl false true (wD ks rs st bs), dat (rsD rs), dat (.int r1), dat (.int (a : Nat)), .un, dat (.str x), dat (.lst (r.alts.map AL.d)), dat (.int (b : Nat)), dat (.str y), dat (.tup (al.row.map D.str)), dat (.int (pl : Nat)), .un, .un]) ?rest4 fun rest => ?here4
  case here4 =>
    refine ⟨rfl, rfl, ?_⟩
    rw [eqD_int]
    by_cases h3 : r1 = 3
    · rw [decide_eq_true h3]
      refine ⟨List.nodup_nil, ks, rs, st, bs, rfl, hw, fun ns s hns lns => ?_⟩
      refine ⟨nd1 _, c + 5, d5, ns, rfl, j5, by omega, hns, by omega, fun y d9 s9 ty j9 => ?_⟩
      exact rest _ ⟨d9, y, ty, j9, rfl⟩
    rw [decide_eq_false h3]
    refine ⟨rfl, rfl, ?_⟩
    rw [eqD_int]
    by_cases h4 : r1 = 4
    · rw [decide_eq_true h4]
      refine ⟨List.nodup_nil, ks, rs, st, bs, rfl, hw, fun ns s hns lns => ?_⟩
      refine ⟨nd1 _, c + 5, d5, ns, rfl, j5, by omega, hns, by omega, fun y d9 s9 ty j9 => ?_⟩
      exact rest _ ⟨d9, y, ty, j9, rfl⟩
    · rw [decide_eq_false h4]
      exact rest _ ⟨d5, al.label, alk.1.tk, j5.mono (by omega), rfl⟩
  rintro ρ ⟨d6, y, ty, j6, rfl⟩
  refine seq_cut (fun ρ => ∃ (d7 : D) (row : List Str), (∀ s ∈ row, Tk s) ∧ row.length ≤ 7 + n ∧ (5 < r1 → row = al.row) ∧ JarOk (c + 7) d7 ∧ ρ = [.sl true true d7, .sl false true (wD ks rs st bs), dat (rsD rs), dat (.int r1), dat (.int (a : Nat)), .un, dat (.str x), dat (.lst (r.alts.map AL.d)), dat (.int (b : Nat)), dat (.str y), dat (.tup (row.map D.str)), dat (.int (pl : Nat)), .un, .un]) ?rest5 fun rest => ?here5
  case here5 =>
    refine ⟨rfl, rfl, ?_⟩
    rw [eqD_int]
    by_cases h3 : r1 = 5
    · rw [decide_eq_true h3]
      refine ⟨by decide, by decide, by rw [List.length_map]; omega, ?_⟩
      refine ⟨by show 1 ≤ _; omega, by decide, by decide, by show 1 ≤ _; omega, ?_⟩
      refine ⟨by rw [told_len', told_len', List.length_map]; show 7 * al.row.length + 7 * 1 ≤ _; omega, ?_⟩
      refine ⟨nd1 _, c + 6, d6, 2, rfl, j6, by decide, by decide, by omega, fun r9 d9 t9 r90 r91 j9 => ?_⟩
      obtain ⟨m, hm⟩ : ∃ m : Nat, 6 + r9 = m := ⟨(6 + r9).toNat, by omega⟩
      have ec : YP.cut (told (al.row.map D.str) 7 ++ told [D.str x] 7) none (some (6 + r9)) = ((told al.row 7 ++ told [x] 7).take m).map D.str := by
        rw [hm, ycut_to, told_map, show [D.str x] = [x].map D.str from rfl, told_map, ← List.map_append, List.map_take]
      refine rest [.sl true true d9, .sl false true (wD ks rs st bs), dat (rsD rs), dat (.int r1), dat (.int (a : Nat)), .un, dat (.str x), dat (.lst (r.alts.map AL.d)), dat (.int (b : Nat)), dat (.str y), dat (.tup (YP.cut (told (al.row.map D.str) 7 ++ told [D.str x] 7) none (some (6 + r9)))), dat (.int (pl : Nat)), .un, .un] ⟨d9, (told al.row 7 ++ told [x] 7).take m, fun z hz => ?_, by rw [List.length_take]; omega, fun z => absurd z (by omega), j9, by rw [ec]⟩
      rcases List.mem_append.mp (List.mem_of_mem_take hz) with hz | hz
      · exact alk.1.row z (told_mem hz)
      · rw [List.mem_singleton.mp (told_mem hz)]; exact tx
    · rw [decide_eq_false h3]
      exact rest _ ⟨d6, al.row, alk.1.row, alr, fun _ => rfl, j6.mono (by omega), rfl⟩
  rintro ρ ⟨d7, row, hrow, lrow, erow, j7, rfl⟩
  refine seq_cut (fun ρ => ∃ (d8 : D) (row : List Str) (s12 : Sl), (∀ s ∈ row, Tk s) ∧ row.length ≤ 7 + (n + 1) ∧ JarOk (c + 8) d8 ∧ ρ = [.sl true true d8, .sl false true (wD ks rs st bs), dat (rsD rs), dat (.int r1), dat (.int (a : Nat)), .un, dat (.str x), dat (.lst (r.alts.map AL.d)), dat (.int (b : Nat)), dat (.str y), dat (.tup (row.map D.str)), dat (.int (pl : Nat)), s12, .un]) ?rest6 fun rest => ?here6
  case here6 =>
    show (if decide (r1 > 5) = true then _ else _)
    by_cases h3 : r1 > 5
    · rw [decide_eq_true h3]
      have erow := erow h3
      have lr2 : row.length ≤ 7 + n := lrow
      have cr1 : YP.cut (row.map D.str) none (some (pl : Int)) = (row.take pl).map D.str := by rw [ycut_to, List.map_take]
      have cr2 : YP.cut (row.map D.str) (some ((pl : Int) + 1)) none = (row.drop (pl + 1)).map D.str := by
        have : ((pl : Int) + 1) = ((pl + 1 : Nat) : Int) := by omega
        rw [this, ycut_from, List.map_drop]
      refine ⟨List.nodup_nil, ks, rs, st, bs, rfl, hw, fun ns s hns lns => ?_⟩
      refine ⟨nd1 _, c + 7, d7, ns, rfl, j7, by omega, hns, by omega, fun g d9 s9 tg j9 => ?_⟩
      refine ⟨by show 2 ≤ _; omega, ?_⟩
      rcases (by omega : r1 = 6 ∨ r1 = 7) with h | h
      · refine ⟨.str g, by rw [h]; rfl, ?_⟩
        refine ⟨by show 1 ≤ _; omega, ?_⟩
        refine ⟨by rw [cr1, List.length_map, List.length_take]; show _ + 1 ≤ _; omega, ?_⟩
        refine ⟨by rw [cr1, cr2, List.length_append, List.length_map, List.length_map, List.length_take, List.length_drop]; show _ + 1 + _ ≤ _; omega, ?_⟩
        refine rest [.sl true true d9, .sl false true (wD ks rs st bs), dat (rsD rs), dat (.int r1), dat (.int (a : Nat)), .un, dat (.str x), dat (.lst (r.alts.map AL.d)), dat (.int (b : Nat)), dat (.str y), dat (.tup (YP.cut (row.map D.str) none (some (pl : Int)) ++ [D.str (g)] ++ YP.cut (row.map D.str) (some ((pl : Int) + 1)) none)), dat (.int (pl : Nat)), dat (.str (g)), .un] ⟨d9, row.take pl ++ [g] ++ row.drop (pl + 1), _, fun z hz => ?_, by rw [List.length_append, List.length_append, List.length_take, List.length_drop]; show _ + 1 + _ ≤ _; omega, j9, by rw [cr1, cr2, List.map_append, List.map_append]; rfl⟩
        rcases List.mem_append.mp hz with hz | hz
        · rcases List.mem_append.mp hz with hz | hz
          · exact hrow z (List.mem_of_mem_take hz)
          · rw [List.mem_singleton.mp hz]; exact tg
        · exact hrow z (List.mem_of_mem_drop hz)
      · refine ⟨.str (Str.ofString "gap"), by rw [h]; rfl, ?_⟩
        refine ⟨by show 1 ≤ _; omega, ?_⟩
        refine ⟨by rw [cr1, List.length_map, List.length_take]; show _ + 1 ≤ _; omega, ?_⟩
        refine ⟨by rw [cr1, cr2, List.length_append, List.length_map, List.length_map, List.length_take, List.length_drop]; show _ + 1 + _ ≤ _; omega, ?_⟩
        refine rest [.sl true true d9, .sl false true (wD ks rs st bs), dat (rsD rs), dat (.int r1), dat (.int (a : Nat)), .un, dat (.str x), dat (.lst (r.alts.map AL.d)), dat (.int (b : Nat)), dat (.str y), dat (.tup (YP.cut (row.map D.str) none (some (pl : Int)) ++ [D.str (Str.ofString "gap")] ++ YP.cut (row.map D.str) (some ((pl : Int) + 1)) none)), dat (.int (pl : Nat)), dat (.str (Str.ofString "gap")), .un] ⟨d9, row.take pl ++ [Str.ofString "gap"] ++ row.drop (pl + 1), _, fun z hz => ?_, by rw [List.length_append, List.length_append, List.length_take, List.length_drop]; show _ + 1 + _ ≤ _; omega, j9, by rw [cr1, cr2, List.map_append, List.map_append]; rfl⟩
        rcases List.mem_append.mp hz with hz | hz
        · rcases List.mem_append.mp hz with hz | hz
          · exact hrow z (List.mem_of_mem_take hz)
          · rw [List.mem_singleton.mp hz]; exact tkW _
        · exact hrow z (List.mem_of_mem_drop hz)
    · rw [decide_eq_false h3]
      exact rest _ ⟨d7, row, .un, hrow, by omega, j7.mono (by omega), rfl⟩
  rintro ρ ⟨d8, row, s12, hrow, lrow, j8, rfl⟩
  have a1' : YP.cut (r.alts.map AL.d) none (some (b : Int)) = (r.alts.take b).map AL.d := by rw [ycut_to, List.map_take]
  have a2' : YP.cut (r.alts.map AL.d) (some ((b : Int) + 1)) none = (r.alts.drop (b + 1)).map AL.d := by
    have : ((b : Int) + 1) = ((b + 1 : Nat) : Int) := by omega
    rw [this, ycut_from, List.map_drop]
  refine ⟨by show 2 ≤ _; omega, by show 1 ≤ _; omega, ?_⟩
  refine ⟨by rw [a1', List.length_map, List.length_take]; show _ + 1 ≤ _; omega, ?_⟩
  refine ⟨by rw [a1', a2', List.length_append, List.length_map, List.length_map, List.length_take, List.length_drop]; show _ + 1 + _ ≤ _; omega, ?_⟩
  refine ⟨by show 2 ≤ _; omega, by show 1 ≤ _; omega, ?_⟩
  refine ⟨by rw [c1, List.length_map, List.length_take]; show _ + 1 ≤ _; omega, ?_⟩
  refine ⟨by rw [c1, c2, List.length_append, List.length_map, List.length_map, List.length_take, List.length_drop]; show _ + 1 + _ ≤ _; omega, ?_⟩
  rw [c1, c2, a1', a2']
  have ae : (r.alts.take b).map AL.d ++ [D.tup [.str y, .tup (row.map D.str)]] ++ (r.alts.drop (b + 1)).map AL.d = (r.alts.take b ++ [AL.mk y row] ++ r.alts.drop (b + 1)).map AL.d := by rw [List.map_append, List.map_append]; rfl
  rw [ae]
  have hal2 : ∀ z ∈ r.alts.take b ++ [AL.mk y row] ++ r.alts.drop (b + 1), AOk z ∧ z.row.length ≤ 7 + (n + 1) := fun z hz => by
    rcases List.mem_append.mp hz with hz | hz
    · rcases List.mem_append.mp hz with hz | hz
      · have hm := List.mem_of_mem_take hz
        exact ⟨rk.al z hm, by have := ra.2 z hm; omega⟩
      · rw [List.mem_singleton.mp hz]
        exact ⟨⟨ty, hrow, by show row.length ≤ _; omega⟩, lrow⟩
    · have hm := List.mem_of_mem_drop hz
      exact ⟨rk.al z hm, by have := ra.2 z hm; omega⟩
  have hl2 : (r.alts.take b ++ [AL.mk y row] ++ r.alts.drop (b + 1)).length ≤ 3 := by
    rw [List.length_append, List.length_append, List.length_take, List.length_drop]; show _ + 1 + _ ≤ _; omega
  have hwa : altW (r.alts.take b ++ [AL.mk y row] ++ r.alts.drop (b + 1)) ≤ altW r.alts + 1100 := by
    have h1 : altW (r.alts.take b ++ [AL.mk y row] ++ r.alts.drop (b + 1)) = altW (r.alts.take b) + (AL.mk y row).wt + altW (r.alts.drop (b + 1)) := by
      unfold altW; rw [sumW_app, sumW_app]; simp
    have h2 : altW (r.alts.take b) + altW (r.alts.drop (b + 1)) ≤ altW r.alts := sumW_sub AL.wt r.alts b (b + 1) (by omega)
    have h3 : (AL.mk y row).wt ≤ 108 + 96 * 9 := AL.wt_le ⟨ty, hrow, by show row.length ≤ _; omega⟩ (by show row.length ≤ _; omega)
    omega
  generalize r.alts.take b ++ [AL.mk y row] ++ r.alts.drop (b + 1) = als2 at hal2 hl2 hwa ⊢
  obtain ⟨f1, f2, f3⟩ := fin (RU.mk x als2) ⟨⟨tx, fun z hz => (hal2 z hz).1, by show als2.length ≤ _; omega⟩, hl2, fun z hz => (hal2 z hz).2⟩ (by have := strW_le tx; show 12 + strW x + altW als2 ≤ 12 + strW r.head + altW r.alts + 1500; omega)
  have e := fe (RU.mk x als2)
  rw [show (RU.mk x als2).d = D.tup [.str x, .lst (als2.map AL.d)] from rfl] at e
  rw [e]
  exact q _ _ _ f1 f2 f3 (j8.mono (by omega))
end
end K10
set_option maxRecDepth 100000
set_option maxHeartbeats 600000
namespace K10
open PySem PySem.Spec PyProof.Rows L2 Yard YP
theorem seq_setR {i : Nat} {ue : UE} {u : US} {E : En} {ρ : List Sl} (ρ' : List Sl) (h : ∀ Z : List Sl → Prop, Z ρ' → ue ρ fun r ρ1 => YP.put ρ1 i r Z) (k : u E ρ') : uSeq (uSet i ue) u E ρ := h _ k
theorem sum_le3 {rs : List RU} (h : ∀ r ∈ rs, r.alts.length ≤ 3) : (rs.map fun r => r.alts.length).sum ≤ 3 * rs.length := by
  induction rs with
  | nil => exact Nat.zero_le _
  | cons r rs ih =>
    have h1 := h r (List.mem_cons_self ..)
    have h2 := ih fun z hz => h z (List.mem_cons_of_mem _ hz)
    rw [List.map_cons, List.sum_cons, List.length_cons]
    omega
section
variable {P : Program} {w : World} {K : PySem.W.Frag} {mg : Str → Option Value} {base : Heap}
def uBnt : UF := fun ρ R => ∃ (c : Nat) (d : D) (n : Nat) (ks : List KD) (rs : List RU) (st : Str) (bs : List BA), ρ = [own d, dat (wD ks rs st bs)] ∧ JarOk c d ∧ c + 30 < 1000000 ∧ WOk ks rs st bs ∧ WB n ks rs bs ∧ n ≤ 1 ∧
  ∀ (ks' : List KD) (rs' : List RU) (st' : Str) (bs' : List BA) d2 s1, WOk ks' rs' st' bs' → WB (n + 1) ks' rs' bs' → JarOk (c + 30) d2 → R (.own (wD ks' rs' st' bs')) [own d2, s1]
theorem sc__law_bent : FnScope ["purse", "world", "way", "found"] ["purse", "world"] (defScope s__law_bent) := ⟨rfl, rfl, rfl, by decide +kernel, rfl, by decide +kernel, by decide +kernel⟩
theorem ok__law_bent (T : Tx K w mg) : FnOk P w K mg base CX0 5 T.a__law_bent T.f__law_bent ["purse", "world"] (PSp K 2 uBnt) := by
  refine fn_mk T.d__law_bent.fn sc__law_bent (by decide) fun cdv A outer s H E hr => ?_
  refine ⟨_, (fb_cons (fs_set (ps_set (i := 2) sc__law_bent.nd rfl (.inl rfl) pe_S) (fe_call (ok__law_drawn T) (hr.mono (by omega)) (by rfl) T.d__law_drawn.at_ T.d__law_drawn.kp T.d__law_drawn.bd (fr_ref (fv 0) (fr_val fe_int fr_nil))))
      (fb_cons (fs_set (ps_set (i := 3) sc__law_bent.nd rfl (.inl rfl) pe_S) (fe_bt cb_list (by rfl) T.z_list (by decide +kernel) (fr_ref (fv 1) fr_nil)))
      (fb_cons (fs_if (ft_cmp os_lt (fv 2) fe_int)
      (fb_one (fs_putL (ps_asg pe_S (pg_sub pe_S pe_S set_list)) (fe_call (ok__law_kinds_bent T) (hr.mono (by omega)) (by rfl) T.d__law_kinds_bent.at_ T.d__law_kinds_bent.kp T.d__law_kinds_bent.bd (fr_ref (fv 0) (fr_val (fv 1) fr_nil))) (fv 3) fe_int))
      (fb_one (fs_if (ft_cmp os_lt (fv 2) fe_int)
      (fb_one (fs_putL (ps_asg pe_S (pg_sub pe_S pe_S set_list)) (fe_call (ok__law_rules_bent T) (hr.mono (by omega)) (by rfl) T.d__law_rules_bent.at_ T.d__law_rules_bent.kp T.d__law_rules_bent.bd (fr_ref (fv 0) (fr_val (fv 1) fr_nil))) (fv 3) fe_int))
      (fb_one (fs_if (ft_cmp (os_eq (ru hr)) (fv 2) fe_int)
      (fb_one (fs_putL (ps_asg pe_S (pg_sub pe_S pe_S set_list)) (fe_call (ok__law_strange T) (hr.mono (by omega)) (by rfl) T.d__law_strange.at_ T.d__law_strange.kp T.d__law_strange.bd (fr_ref (fv 0) (fr_val (fe_call (ok__law_all_names T) (hr.mono (by omega)) (by rfl) T.d__law_all_names.at_ T.d__law_all_names.kp T.d__law_all_names.bd (fr_val (fv 1) fr_nil)) fr_nil))) (fv 3) fe_int))
      (fb_one (fs_putL (ps_asg pe_S (pg_sub pe_S pe_S set_list)) (fe_call (ok__law_bars_bent T) (hr.mono (by omega)) (by rfl) T.d__law_bars_bent.at_ T.d__law_bars_bent.kp T.d__law_bars_bent.bd (fr_ref (fv 0) (fr_val (fv 1) fr_nil))) (fv 3) fe_int)))))))
      (fb_one (fs_ret (fv 3)))))), fun ρ R hl h => ?_⟩
  obtain ⟨c, d, n, ks, rs, st, bs, rfl, hj, hc, hw, hb, hn, q⟩ := h
  have sz := sz2
  have e8 : 8 ^ (n + 1) = 8 * 8 ^ n := by rw [Nat.pow_succ]; omega
  have e41 : 41 ^ (n + 1) = 41 * 41 ^ n := by rw [Nat.pow_succ]; omega
  have e9 : 9 ^ (n + 1) = 9 * 9 ^ n := by rw [Nat.pow_succ]; omega
  have m8 : 8 ^ (n + 1) ≤ 64 := by rcases (by omega : n = 0 ∨ n = 1) with h | h <;> subst h <;> decide
  have m41 : 41 ^ (n + 1) ≤ 1681 := by rcases (by omega : n = 0 ∨ n = 1) with h | h <;> subst h <;> decide
  have m9 : 9 ^ (n + 1) ≤ 81 := by rcases (by omega : n = 0 ∨ n = 1) with h | h <;> subst h <;> decide
  have b1 := hb.kl
  have b2 := hb.rl
  have b3 := hb.bl
  have up : WB (n + 1) ks rs bs := ⟨by omega, fun k hk => by have := hb.kd k hk; omega, by omega, fun r hr => ⟨(hb.ra r hr).1, fun a ha => by have := (hb.ra r hr).2 a ha; omega⟩, by omega, (by have := hb.kw; show _ ≤ 10 * gW n + 2000; omega), (by have := hb.rw; show _ ≤ 41 * fW n + 2000; omega)⟩
  refine ⟨nd1 _, c, d, 9, rfl, hj, by decide, by decide, by omega, fun r1 d1 t1 p0 p1 j1 => ?_⟩
  dsimp only [YP.put]
  show uSeq _ _ _ _
  refine seq_setR [.sl true true d1, .sl false true (wD ks rs st bs), dat (.int r1), own (wD ks rs st bs)] (fun Z z => z) ?_
  refine seq_cut (fun ρ => ∃ (ks' : List KD) (rs' : List RU) (st' : Str) (bs' : List BA) (d2 : D), WOk ks' rs' st' bs' ∧ WB (n + 1) ks' rs' bs' ∧ JarOk (c + 30) d2 ∧ ρ = [.sl true true d2, .sl false true (wD ks rs st bs), dat (.int r1), own (wD ks' rs' st' bs')]) ?rest fun rest => ?here
  case here =>
    show (if decide (r1 < 3) = true then _ else _)
    by_cases h3 : r1 < 3
    · rw [decide_eq_true h3]
      refine ⟨nd1 _, c + 1, d1, n, ks, rs, st, bs, rfl, j1, by omega, hw, hb, hn, fun ks' r d2 s2 hr hk lk kw' j2 => ?_⟩
      have wk : WOk ks' rs st bs := ⟨⟨fun k h => (hk k h).1, by omega⟩, hw.rs, hw.st, hw.bs⟩
      have wb' : WB (n + 1) ks' rs bs := ⟨lk, fun k h => (hk k h).2, up.rl, up.ra, up.bl, kw', up.rw⟩
      rcases hr with rfl | rfl
      · refine ⟨0, rfl, ?_⟩
        exact rest _ ⟨ks', rs, st, bs, d2, wk, wb', j2.mono (by omega), rfl⟩
      · refine ⟨0, rfl, ?_⟩
        exact rest _ ⟨ks', rs, st, bs, d2, wk, wb', j2.mono (by omega), rfl⟩
    rw [decide_eq_false h3]
    show (if decide (r1 < 6) = true then _ else _)
    by_cases h6 : r1 < 6
    · rw [decide_eq_true h6]
      refine ⟨nd1 _, c + 1, d1, n, ks, rs, st, bs, rfl, j1, by omega, hw, hb, hn, fun rs' d2 s2 hk lk rw' j2 => ?_⟩
      have sm := sum_le3 fun r hr => (hk r hr).2.1
      have wk : WOk ks rs' st bs := ⟨hw.ks, ⟨fun r h => (hk r h).1, by omega, by omega⟩, hw.st, hw.bs⟩
      have wb' : WB (n + 1) ks rs' bs := ⟨up.kl, up.kd, lk, fun r h => (hk r h).2, up.bl, up.kw, rw'⟩
      refine ⟨1, rfl, ?_⟩
      exact rest _ ⟨ks, rs', st, bs, d2, wk, wb', j2.mono (by omega), rfl⟩
    rw [decide_eq_false h6]
    refine ⟨rfl, rfl, ?_⟩
    rw [eqD_int]
    by_cases h7 : r1 = 6
    · rw [decide_eq_true h7]
      refine ⟨List.nodup_nil, ks, rs, st, bs, rfl, hw, fun ns s hns lns => ?_⟩
      refine ⟨nd1 _, c + 1, d1, ns, rfl, j1, by omega, hns, by omega, fun x d2 s2 tx j2 => ?_⟩
      refine ⟨2, rfl, ?_⟩
      exact rest _ ⟨ks, rs, x, bs, d2, ⟨hw.ks, hw.rs, tx, hw.bs⟩, up, j2.mono (by omega), rfl⟩
    rw [decide_eq_false h7]
    refine ⟨nd1 _, c + 1, d1, n, ks, rs, st, bs, rfl, j1, by omega, hw, hb, hn, fun bs' d2 s2 hk lk j2 => ?_⟩
    refine ⟨3, rfl, ?_⟩
    exact rest _ ⟨ks, rs, st, bs', d2, ⟨hw.ks, hw.rs, hw.st, ⟨hk, by omega⟩⟩, ⟨up.kl, up.kd, up.rl, up.ra, lk, up.kw, up.rw⟩, j2.mono (by omega), rfl⟩
  rintro ρ ⟨ks', rs', st', bs', d2, h1, h2, j2, rfl⟩
  exact q ks' rs' st' bs' d2 _ h1 h2 j2
end
end K10
set_option maxRecDepth 100000
set_option maxHeartbeats 2000000
namespace K10
open PySem PySem.Spec PyProof.Rows L2 Yard YP
/-! ### a world is shown within bounds -/
theorem tupleText_le (ts : List Str) : (tupleText ts).length ≤ piled ts + 3 := by
  unfold tupleText
  rw [strLen_append, strLen_append]
  have e1 : (("(" : Str)).length = 1 := rfl
  have e2 : ((if ts.length == 1 then ",)" else ")" : String) : Str).length ≤ 2 := by split <;> decide
  rw [e1]
  cases ts with
  | nil =>
    have : (Str.join ", " []).length = 0 := rfl
    omega
  | cons t r =>
    have := join_length_add (t :: r) (by simp)
    omega
theorem listText_le (ts : List Str) : (listText ts).length ≤ piled ts + 2 := by
  unfold listText
  rw [strLen_append]
  have e1 : (("]" : Str)).length = 1 := rfl
  rw [e1]
  cases ts with
  | nil => show 1 + 1 ≤ _; omega
  | cons t r =>
    show (textFrom 1 ("[" ++ (if 0 > 0 then ", " else "" : String) ++ t) r).length + 1 ≤ _
    rw [textFrom_length_pos r 1 _ (by decide), strLen_append, strLen_append, piled_cons]
    have e2 : (("[" : Str)).length = 1 := rfl
    have e3 : ((if 0 > 0 then ", " else "" : String) : Str).length = 0 := rfl
    rw [e2, e3]
    omega
def sh (d : D) : Nat := (toP d).shown.length
theorem shownAll_map : ∀ l : List PyData, PyData.shownAll l = l.map PyData.shown
  | [] => by simp only [PyData.shownAll, List.map_nil]
  | d :: l => by simp only [PyData.shownAll, List.map_cons, shownAll_map l]
theorem piled_sh (l : List D) : piled (PyData.shownAll (toPs l)) = (l.map fun d => sh d + 2).sum := by
  rw [shownAll_map, toPs_map, List.map_map]
  unfold piled
  rw [List.map_map]; rfl
theorem sh_tup (l : List D) : sh (.tup l) ≤ (l.map fun d => sh d + 2).sum + 3 := by
  rw [← piled_sh]
  show (PyData.shown (.tuple (toPs l))).length ≤ _
  rw [PyData.shown]
  exact tupleText_le _
theorem sh_lst (l : List D) : sh (.lst l) ≤ (l.map fun d => sh d + 2).sum + 2 := by
  rw [← piled_sh]
  show (PyData.shown (.list (toPs l))).length ≤ _
  rw [PyData.shown]
  exact listText_le _
theorem sh_str {s : Str} (h : PyData.strOk s = true) : sh (.str s) ≤ 10 * s.length + 2 := by
  show (PyData.shown (.str s)).length ≤ _
  rw [PyData.shown]
  exact StrLaws.reprText_len s fun c hc => Nat.lt_trans (ok_codes.mp h c hc) (by decide)
theorem sh_tk {s : Str} (h : Tk s) : sh (.str s) + 4 ≤ strW s := by
  have := sh_str h.ok
  unfold strW; omega
theorem sh_bl (b : Bool) : sh (.bl b) ≤ 5 := by
  show (PyData.shown (.bool b)).length ≤ 5
  rw [PyData.shown]
  cases b <;> decide
theorem sh_int {i : Int} (h0 : -100 ≤ i) (h1 : i ≤ 100) : sh (.int i) ≤ 10 := by
  have : ∀ n : Fin 201, sh (.int ((n.val : Int) - 100)) ≤ 10 := by decide +kernel
  have e := this ⟨(i + 100).toNat, by omega⟩
  have e2 : (((i + 100).toNat : Nat) : Int) - 100 = i := by omega
  show sh (.int i) ≤ 10
  have e3 : sh (.int ((((i + 100).toNat : Nat) : Int) - 100)) ≤ 10 := e
  rw [e2] at e3
  exact e3
theorem sh_w (p : PT) : sh (.str p.wrd) ≤ 52 := by
  have h : PyData.strOk p.wrd = true ∧ p.wrd.length ≤ 5 := by
    cases p with
    | sg s => exact (by decide +kernel : PyData.strOk ("signs" : Str) = true ∧ ("signs" : Str).length ≤ 5)
    | em => exact (by decide +kernel : PyData.strOk ("empty" : Str) = true ∧ ("empty" : Str).length ≤ 5)
    | th a b => exact (by decide +kernel : PyData.strOk ("then" : Str) = true ∧ ("then" : Str).length ≤ 5)
    | or a b => exact (by decide +kernel : PyData.strOk ("or" : Str) = true ∧ ("or" : Str).length ≤ 5)
    | ag a => exact (by decide +kernel : PyData.strOk ("again" : Str) = true ∧ ("again" : Str).length ≤ 5)
    | mo a => exact (by decide +kernel : PyData.strOk ("more" : Str) = true ∧ ("more" : Str).length ≤ 5)
    | mb a => exact (by decide +kernel : PyData.strOk ("maybe" : Str) = true ∧ ("maybe" : Str).length ≤ 5)
  have := sh_str h.1
  omega
theorem sum3 (a b c : Nat) : [a, b, c].sum = a + b + c := by simp; omega
theorem sum2 (a b : Nat) : [a, b].sum = a + b := by simp
theorem PT.sh : ∀ p : PT, p.tk → K10.sh p.d ≤ p.wt
  | .sg s, h => by
    have h1 := sh_tup [.str "signs", .str s]
    have h2 := sh_w (.sg s)
    have h3 := sh_tk (s := s) h
    simp only [List.map_cons, List.map_nil, sum2] at h1
    show K10.sh (.tup [.str "signs", .str s]) ≤ 61 + strW s
    have h2 : K10.sh (.str "signs") ≤ 52 := h2
    omega
  | .em, _ => by
    have h1 := sh_tup [.str "empty"]
    have h2 : K10.sh (.str "empty") ≤ 52 := sh_w .em
    simp only [List.map_cons, List.map_nil, List.sum_cons, List.sum_nil] at h1
    show K10.sh (.tup [.str "empty"]) ≤ 61
    omega
  | .th a b, h => by
    have h1 := sh_tup [.str "then", a.d, b.d]
    have h2 : K10.sh (.str "then") ≤ 52 := sh_w (.th a b)
    have h3 := a.sh h.1
    have h4 := b.sh h.2
    simp only [List.map_cons, List.map_nil, sum3] at h1
    show K10.sh (.tup [.str "then", a.d, b.d]) ≤ 65 + a.wt + b.wt
    omega
  | .or a b, h => by
    have h1 := sh_tup [.str "or", a.d, b.d]
    have h2 : K10.sh (.str "or") ≤ 52 := sh_w (.or a b)
    have h3 := a.sh h.1
    have h4 := b.sh h.2
    simp only [List.map_cons, List.map_nil, sum3] at h1
    show K10.sh (.tup [.str "or", a.d, b.d]) ≤ 65 + a.wt + b.wt
    omega
  | .ag a, h => by
    have h1 := sh_tup [.str "again", a.d]
    have h2 : K10.sh (.str "again") ≤ 52 := sh_w (.ag a)
    have h3 := a.sh h
    simp only [List.map_cons, List.map_nil, sum2] at h1
    show K10.sh (.tup [.str "again", a.d]) ≤ 65 + a.wt
    omega
  | .mo a, h => by
    have h1 := sh_tup [.str "more", a.d]
    have h2 : K10.sh (.str "more") ≤ 52 := sh_w (.mo a)
    have h3 := a.sh h
    simp only [List.map_cons, List.map_nil, sum2] at h1
    show K10.sh (.tup [.str "more", a.d]) ≤ 65 + a.wt
    omega
  | .mb a, h => by
    have h1 := sh_tup [.str "maybe", a.d]
    have h2 : K10.sh (.str "maybe") ≤ 52 := sh_w (.mb a)
    have h3 := a.sh h
    simp only [List.map_cons, List.map_nil, sum2] at h1
    show K10.sh (.tup [.str "maybe", a.d]) ≤ 65 + a.wt
    omega
theorem sum_map_le {α : Type} {f g : α → Nat} : ∀ {l : List α}, (∀ a ∈ l, f a ≤ g a) → (l.map f).sum ≤ (l.map g).sum
  | [], _ => Nat.le_refl _
  | a :: l, h => by
    have h1 := h a List.mem_cons_self
    have h2 := sum_map_le (f := f) (g := g) (l := l) fun z hz => h z (List.mem_cons_of_mem _ hz)
    rw [List.map_cons, List.map_cons, List.sum_cons, List.sum_cons]; omega
theorem shs {α : Type} {f : α → D} {g : α → Nat} {l : List α} (h : ∀ a ∈ l, sh (f a) + 2 ≤ g a) : ((l.map f).map fun d => sh d + 2).sum ≤ (l.map g).sum := by
  rw [List.map_map]
  exact sum_map_le h
theorem sh_KD {k : KD} (h : KOk k) : sh k.d + 2 ≤ k.wt := by
  have h1 := sh_tup [.str k.name, k.pat.d, .bl k.skip]
  have h2 := sh_tk h.tk
  have h3 := k.pat.sh h.pk
  have h4 := sh_bl k.skip
  simp only [List.map_cons, List.map_nil, sum3] at h1
  show sh (.tup [.str k.name, k.pat.d, .bl k.skip]) + 2 ≤ 20 + strW k.name + k.pat.wt
  omega
theorem sh_AL {a : AL} (h : AOk a) : sh a.d + 2 ≤ a.wt := by
  have h1 := sh_tup [.str a.label, .tup (a.row.map D.str)]
  have h2 := sh_tk h.tk
  have h3 := sh_tup (a.row.map D.str)
  have h4 : ((a.row.map D.str).map fun d => sh d + 2).sum ≤ rowW a.row := shs fun s hs => by have := sh_tk (h.row s hs); omega
  simp only [List.map_cons, List.map_nil, sum2] at h1
  show sh (.tup [.str a.label, .tup (a.row.map D.str)]) + 2 ≤ 12 + strW a.label + rowW a.row
  omega
theorem sh_RU {r : RU} (h : ROk r) : sh r.d + 2 ≤ r.wt := by
  have h1 := sh_tup [.str r.head, .lst (r.alts.map AL.d)]
  have h2 := sh_tk h.tk
  have h3 := sh_lst (r.alts.map AL.d)
  have h4 : ((r.alts.map AL.d).map fun d => sh d + 2).sum ≤ altW r.alts := shs fun a ha => sh_AL (h.al a ha)
  simp only [List.map_cons, List.map_nil, sum2] at h1
  show sh (.tup [.str r.head, .lst (r.alts.map AL.d)]) + 2 ≤ 12 + strW r.head + altW r.alts
  omega
theorem sh_BA {b : BA} (h : BOk b) : sh b.d + 2 ≤ b.wt := by
  have h1 := sh_tup [.str b.one, .int b.place, .str b.other]
  have h2 := sh_tk h.t1
  have h3 := sh_tk h.t2
  have h4 := sh_int h.lo h.hi
  simp only [List.map_cons, List.map_nil, sum3] at h1
  show sh (.tup [.str b.one, .int b.place, .str b.other]) + 2 ≤ 20 + strW b.one + strW b.other
  omega
theorem sh_W {ks : List KD} {rs : List RU} {st : Str} {bs : List BA} (h : WOk ks rs st bs) : sh (wD ks rs st bs) ≤ kwt ks + rwt rs + bwt bs + 200 := by
  have h1 := sh_lst [ksD ks, rsD rs, .str st, .lst (bs.map BA.d)]
  have h2 := sh_tk h.st
  have h2' := strW_le h.st
  have h3 := sh_lst (ks.map KD.d)
  have h4 : ((ks.map KD.d).map fun d => sh d + 2).sum ≤ kwt ks := shs fun a ha => sh_KD (h.ks.ok a ha)
  have h5 := sh_lst (rs.map RU.d)
  have h6 : ((rs.map RU.d).map fun d => sh d + 2).sum ≤ rwt rs := shs fun a ha => sh_RU (h.rs.ok a ha)
  have h7 := sh_lst (bs.map BA.d)
  have h8 : ((bs.map BA.d).map fun d => sh d + 2).sum ≤ bwt bs := shs fun a ha => sh_BA (h.bs.ok a ha)
  simp only [List.map_cons, List.map_nil, List.sum_cons, List.sum_nil] at h1
  show sh (.lst [ksD ks, rsD rs, .str st, .lst (bs.map BA.d)]) ≤ _
  have h3 : sh (ksD ks) ≤ _ := h3
  have h5 : sh (rsD rs) ≤ _ := h5
  omega
/-! what can be shown -/
def shw (d : D) : Bool := (toP d).showable
theorem shwAll : ∀ {l : List D}, (∀ d ∈ l, shw d = true) → PyData.showableAll (toPs l) = true
  | [], _ => by simp only [toPs, PyData.showableAll]
  | d :: l, h => by
    have h1 : (toP d).showable = true := h d List.mem_cons_self
    have h2 := shwAll (l := l) fun z hz => h z (List.mem_cons_of_mem _ hz)
    simp only [toPs, PyData.showableAll, h1, h2, Bool.and_self]
theorem shw_tup {l : List D} (h : ∀ d ∈ l, shw d = true) : shw (.tup l) = true := by
  show (PyData.tuple (toPs l)).showable = true
  rw [PyData.showable]; exact shwAll h
theorem shw_lst {l : List D} (h : ∀ d ∈ l, shw d = true) : shw (.lst l) = true := by
  show (PyData.list (toPs l)).showable = true
  rw [PyData.showable]; exact shwAll h
theorem shw_str (s : Str) : shw (.str s) = true := by show (PyData.str s).showable = true; rw [PyData.showable]
theorem shw_bl (s : Bool) : shw (.bl s) = true := by show (PyData.bool s).showable = true; rw [PyData.showable]
theorem shw_int {i : Int} (h0 : -100 ≤ i) (h1 : i ≤ 100) : shw (.int i) = true := by
  have : ∀ n : Fin 201, shw (.int ((n.val : Int) - 100)) = true := by decide +kernel
  have e := this ⟨(i + 100).toNat, by omega⟩
  have e2 : (((i + 100).toNat : Nat) : Int) - 100 = i := by omega
  have e3 : shw (.int ((((i + 100).toNat : Nat) : Int) - 100)) = true := e
  rw [e2] at e3
  exact e3
theorem mem2 {a b d : D} (h : d ∈ [a, b]) : d = a ∨ d = b := by simpa using h
theorem mem3 {a b c d : D} (h : d ∈ [a, b, c]) : d = a ∨ d = b ∨ d = c := by simpa using h
theorem mem4 {a b c e d : D} (h : d ∈ [a, b, c, e]) : d = a ∨ d = b ∨ d = c ∨ d = e := by simpa using h
theorem shw_tup2 {a b : D} (h1 : shw a = true) (h2 : shw b = true) : shw (.tup [a, b]) = true := shw_tup fun d hd => (mem2 hd).elim (fun e => e ▸ h1) fun e => e ▸ h2
theorem shw_tup3 {a b c : D} (h1 : shw a = true) (h2 : shw b = true) (h3 : shw c = true) : shw (.tup [a, b, c]) = true := shw_tup fun d hd => by
  rcases mem3 hd with rfl | rfl | rfl <;> assumption
theorem PT.shw : ∀ p : PT, K10.shw p.d = true
  | .sg s => shw_tup2 (shw_str _) (shw_str _)
  | .em => shw_tup fun d hd => by rw [List.mem_singleton.mp hd]; exact shw_str _
  | .th a b => shw_tup3 (shw_str _) a.shw b.shw
  | .or a b => shw_tup3 (shw_str _) a.shw b.shw
  | .ag a => shw_tup2 (shw_str _) a.shw
  | .mo a => shw_tup2 (shw_str _) a.shw
  | .mb a => shw_tup2 (shw_str _) a.shw
theorem shw_strs (l : List Str) : ∀ d ∈ l.map D.str, shw d = true := fun d hd => by
  obtain ⟨s, _, rfl⟩ := List.mem_map.mp hd; exact shw_str s
theorem shw_W {ks : List KD} {rs : List RU} {st : Str} {bs : List BA} (h : WOk ks rs st bs) : shw (wD ks rs st bs) = true := shw_lst fun d hd => by
  rcases mem4 hd with rfl | rfl | rfl | rfl
  · exact shw_lst fun d hd => by
      obtain ⟨k, _, rfl⟩ := List.mem_map.mp hd
      exact shw_tup3 (shw_str _) k.pat.shw (shw_bl _)
  · exact shw_lst fun d hd => by
      obtain ⟨r, _, rfl⟩ := List.mem_map.mp hd
      exact shw_tup2 (shw_str _) (shw_lst fun d hd => by
        obtain ⟨a, _, rfl⟩ := List.mem_map.mp hd
        exact shw_tup2 (shw_str _) (shw_tup (shw_strs _)))
  · exact shw_str _
  · exact shw_lst fun d hd => by
      obtain ⟨b, hb, rfl⟩ := List.mem_map.mp hd
      have := h.bs.ok b hb
      exact shw_tup3 (shw_str _) (shw_int this.lo this.hi) (shw_str _)
theorem okW_all {ks : List KD} {rs : List RU} {st : Str} {bs : List BA} (h : WOk ks rs st bs) : OkN 24 (wD ks rs st bs) := okN_lst fun d hd => by
  rcases mem4 hd with rfl | rfl | rfl | rfl
  · exact okKs h.ks
  · exact (okRs h.rs).mono (by decide)
  · exact (okTk h.st).mono (by decide)
  · exact (okN_lst (n := 1) fun d hd => by
      obtain ⟨b, hb, rfl⟩ := List.mem_map.mp hd
      exact okBA (h.bs.ok b hb)).mono (by decide)
structure WBd (ks : List KD) (rs : List RU) (bs : List BA) : Prop where
  kl : kwt ks + rwt rs + bwt bs ≤ 14000000
theorem bwt_le {bs : List BA} (h : BsOk bs) : bwt bs ≤ bs.length * 212 := sumW_le BA.wt 212 bs fun b hb => BA.wt_le (h.ok b hb)
theorem WB.bd {n : Nat} {ks : List KD} {rs : List RU} {bs : List BA} (h : WB n ks rs bs) (ho : BsOk bs) (hn : n ≤ 2) : WBd ks rs bs := by
  have h1 := h.kw
  have h2 := h.rw
  have h3 := bwt_le ho
  have h4 := h.bl
  have e1 : gW n ≤ 1000000 ∧ fW n ≤ 11000000 ∧ 9 ^ n ≤ 81 := by
    rcases (by omega : n = 0 ∨ n = 1 ∨ n = 2) with h | h | h <;> subst h <;> decide
  have h5 := Nat.mul_le_mul_right 212 h4
  exact ⟨by omega⟩
theorem okRepr_W {ks : List KD} {rs : List RU} {st : Str} {bs : List BA} (h : WOk ks rs st bs) (b : WBd ks rs bs) : okRepr (wD ks rs st bs) := by
  have h1 := okW_all h
  have h2 := sh_W h
  have h3 := b.kl
  have ez : sizeLine = 16777216 := sizeLine_eq
  exact ⟨h1.pl, shw_W h, Nat.le_trans h1.dp (by decide), by show sh _ ≤ _; omega⟩
end K10
set_option maxRecDepth 100000
set_option maxHeartbeats 2000000
namespace K10
open PySem PySem.Spec PyProof.Rows L2 Yard YP
theorem tk_pre {p : Str} {c : Nat} (hp : PyData.strOk p = true) (hl : p.length ≤ 2) (hc : c < 128) : Tk (p ++ ⟨#[c]⟩) :=
  ⟨strOk_app hp (by show ((#[c] : Array Nat).all _) = true; simp; omega), by rw [Str.length_append]; show _ + 1 ≤ 9; omega⟩
theorem tk_two {p : Str} {a b : Nat} (hp : PyData.strOk p = true) (hl : p.length ≤ 2) (ha : a < 128) (hb : b < 128) : Tk (p ++ ⟨#[a]⟩ ++ ⟨#[b]⟩) :=
  ⟨strOk_app (tk_pre hp hl ha).ok (by show ((#[b] : Array Nat).all _) = true; simp; omega), by rw [Str.length_append, Str.length_append]; show _ + 1 + 1 ≤ 9; omega⟩
theorem cut_low {l : List Nat} {k : Nat} (h : ∀ c ∈ l, c < 128) : ∃ m : List Nat, cutS (toS l) none (some (k : Int)) = toS m ∧ m.length ≤ k ∧ m.length ≤ l.length ∧ ∀ c ∈ m, c < 128 :=
  ⟨l.take k, cutS_to l k, by rw [List.length_take]; omega, by rw [List.length_take]; omega, fun c hc => h c (List.mem_of_mem_take hc)⟩
def aP : PT := .sg "a"
def twoP : PT := .or aP aP
def eightP : PT := .or (.or twoP twoP) (.or twoP twoP)
section
variable {P : Program} {w : World} {K : PySem.W.Frag} {mg : Str → Option Value} {base : Heap}
def uBd : UF := fun ρ R => ∃ (c : Nat) (d : D), ρ = [own d] ∧ JarOk c d ∧ c + 10 < 1000000 ∧ ∀ (ks : List KD) (rs : List RU) (st : Str) (bs : List BA) d2, WOk ks rs st bs → WBd ks rs bs → JarOk (c + 2) d2 → R (.own (wD ks rs st bs)) [own d2]
theorem sc__law_at_bound : FnScope ["purse", "way", "more", "two", "eight", "kinds", "rules", "barred", "one", "k", "other"] ["purse"] (defScope s__law_at_bound) := ⟨rfl, rfl, rfl, by decide +kernel, rfl, by decide +kernel, by decide +kernel⟩
theorem ok__law_at_bound (T : Tx K w mg) : FnOk P w K mg base CX0 5 T.a__law_at_bound T.f__law_at_bound ["purse"] (PSp K 1 uBd) := by
  refine fn_mk T.d__law_at_bound.fn sc__law_at_bound (by decide) fun cdv A outer s H E hr => ?_
  refine ⟨_, (fb_cons (fs_set (ps_set (i := 1) sc__law_at_bound.nd rfl (.inl rfl) pe_S) (fe_call (ok__law_drawn T) (hr.mono (by omega)) (by rfl) T.d__law_drawn.at_ T.d__law_drawn.kp T.d__law_drawn.bd (fr_ref (fv 0) (fr_val fe_int fr_nil))))
      (fb_cons (fs_set (ps_set (i := 2) sc__law_at_bound.nd rfl (.inl rfl) pe_S) (fe_call (ok__law_drawn T) (hr.mono (by omega)) (by rfl) T.d__law_drawn.at_ T.d__law_drawn.kp T.d__law_drawn.bd (fr_ref (fv 0) (fr_val fe_int fr_nil))))
      (fb_cons (fs_set (ps_set (i := 3) sc__law_at_bound.nd rfl (.inl rfl) pe_S) (fe_tup (fa_cons fe_str (fa_cons (fe_tup (fa_cons fe_str (fa_cons fe_str fa_nil))) (fa_cons (fe_tup (fa_cons fe_str (fa_cons fe_str fa_nil))) fa_nil)))))
      (fb_cons (fs_set (ps_set (i := 4) sc__law_at_bound.nd rfl (.inr rfl) pe_S) (fe_tup (fa_cons fe_str (fa_cons (fe_tup (fa_cons fe_str (fa_cons (fv 3) (fa_cons (fv 3) fa_nil)))) (fa_cons (fe_tup (fa_cons fe_str (fa_cons (fv 3) (fa_cons (fv 3) fa_nil)))) fa_nil)))))
      (fb_cons (fs_setLc (i := 5) rfl sc__law_at_bound.nd rfl rfl (sw_true rfl rfl rfl (by decide +kernel)) (fi_str (fe_sl fe_str fo_no (fo_int (fe_ix (fe_lst (fa_cons (fe_op os_add fe_int (fv 2)) (fa_cons fe_int fa_nil))) (fe_bt cb_int (by rfl) T.z_int (by decide +kernel) (fr_ref (fe_cmp os_gt (fv 1) fe_int) fr_nil)))))) (blkOk_by (own := [("one", 8)]) (N := ["purse", "way", "more", "two", "eight", "kinds", "rules", "barred", "one", "k", "other"]) (sc := defScope s__law_at_bound) (by decide +kernel)) (fun _ _ _ _ _ => (fg_name (pg_name (i := 8) sc__law_at_bound.nd rfl (.inl rfl)) (by intro l e; cases e; decide +kernel))) (fun _ _ _ _ _ => fts_nil) (fun _ _ _ _ _ => (fe_tup (fa_cons (fe_op os_add fe_str (fv 8)) (fa_cons (fe_tup (fa_cons fe_str (fa_cons fe_str fa_nil))) (fa_cons fe_bl fa_nil))))))
      (fb_cons (fs_if (ft_cmp (os_eq (ru hr)) (fv 1) fe_int)
      (fb_one (fs_set (ps_set (i := 5) sc__law_at_bound.nd rfl (.inl rfl) pe_S) (fe_op os_add (fe_sl (fv 5) fo_no (fo_int (fv 2))) (fe_lc rfl sc__law_at_bound.nd (fi_str fe_str) (blkOk_by (own := [("one", 8)]) (N := ["purse", "way", "more", "two", "eight", "kinds", "rules", "barred", "one", "k", "other"]) (sc := defScope s__law_at_bound) (by decide +kernel)) (fun _ _ _ _ _ => (fg_name (pg_name (i := 8) sc__law_at_bound.nd rfl (.inl rfl)) (by intro l e; cases e; decide +kernel))) (fun _ _ _ _ _ => fts_nil) (fun _ _ _ _ _ => (fe_tup (fa_cons (fe_op os_add fe_str (fv 8)) (fa_cons (fv 4) (fa_cons fe_bl fa_nil)))))))))
      fb_nil)
      (fb_cons (fs_set (ps_set (i := 6) sc__law_at_bound.nd rfl (.inl rfl) pe_S) (fe_lst (fa_cons (fe_tup (fa_cons fe_str (fa_cons (fe_lc rfl sc__law_at_bound.nd (fi_str fe_str) (blkOk_by (own := [("one", 8)]) (N := ["purse", "way", "more", "two", "eight", "kinds", "rules", "barred", "one", "k", "other"]) (sc := defScope s__law_at_bound) (by decide +kernel)) (fun _ _ _ _ _ => (fg_name (pg_name (i := 8) sc__law_at_bound.nd rfl (.inl rfl)) (by intro l e; cases e; decide +kernel))) (fun _ _ _ _ _ => fts_nil) (fun _ _ _ _ _ => (fe_tup (fa_cons (fe_op os_add fe_str (fv 8)) (fa_cons (fe_op os_mulX (fe_tup (fa_cons fe_str fa_nil)) fe_int) fa_nil))))) fa_nil))) fa_nil)))
      (fb_cons (fs_set (ps_set (i := 7) sc__law_at_bound.nd rfl (.inl rfl) pe_S) (fe_sl (fe_call (ok__law_edges T) (hr.mono (by omega)) (by rfl) T.d__law_edges.at_ T.d__law_edges.kp T.d__law_edges.bd (fr_val (fv 6) fr_nil)) fo_no (fo_int (fe_op os_mul (fe_op os_add fe_int (fv 2)) (fe_bt cb_int (by rfl) T.z_int (by decide +kernel) (fr_ref (fe_cmp (os_eq (ru hr)) (fv 1) fe_int) fr_nil))))))
      (fb_cons (fs_if (ft_cmp (os_eq (ru hr)) (fv 1) fe_int)
      (fb_one (fs_setLc (i := 6) rfl sc__law_at_bound.nd rfl rfl (sw_true rfl rfl rfl (by decide +kernel)) (fi_range1 (by rfl) T.z_range (fa_cons (fe_op os_add fe_int (fv 2)) fa_nil)) (blkOk_by (own := [("k", 9)]) (N := ["purse", "way", "more", "two", "eight", "kinds", "rules", "barred", "one", "k", "other"]) (sc := defScope s__law_at_bound) (by decide +kernel)) (fun _ _ _ _ _ => (fg_name (pg_name (i := 9) sc__law_at_bound.nd rfl (.inl rfl)) (by intro l e; cases e; decide +kernel))) (fun _ _ _ _ _ => fts_nil) (fun _ _ _ _ _ => (fe_tup (fa_cons (fe_op os_add (fe_op os_add fe_str (fe_ix fe_str (fe_op os_div (fv 9) fe_int))) (fe_ix fe_str (fe_op os_mod (fv 9) fe_int))) (fa_cons (fe_lst (fa_cons (fe_tup (fa_cons (fe_op os_add (fe_op os_add fe_str (fe_ix fe_str (fe_op os_div (fv 9) fe_int))) (fe_ix fe_str (fe_op os_mod (fv 9) fe_int))) (fa_cons (fe_tup fa_nil) fa_nil))) fa_nil)) fa_nil))))))
      fb_nil)
      (fb_cons (fs_if (ft_cmp (os_eq (ru hr)) (fv 1) fe_int)
      (fb_cons (fs_setLc (i := 6) rfl sc__law_at_bound.nd rfl rfl (sw_true rfl rfl rfl (by decide +kernel)) (fi_str fe_str) (blkOk_by (own := [("one", 8)]) (N := ["purse", "way", "more", "two", "eight", "kinds", "rules", "barred", "one", "k", "other"]) (sc := defScope s__law_at_bound) (by decide +kernel)) (fun _ _ _ _ _ => (fg_name (pg_name (i := 8) sc__law_at_bound.nd rfl (.inr rfl)) (by intro l e; cases e; decide +kernel))) (fun _ _ _ _ _ => fts_nil) (fun _ _ _ _ _ => (fe_tup (fa_cons (fe_op os_add fe_str (fv 8)) (fa_cons (fe_lc rfl sc__law_at_bound.nd (fi_str fe_str) (blkOk_by (own := [("other", 10)]) (N := ["purse", "way", "more", "two", "eight", "kinds", "rules", "barred", "one", "k", "other"]) (sc := { kind := .function, names := [(".0", .local), ("one", .cell)], isGenerator := false, isCoroutine := false }) (by decide +kernel)) (fun _ _ _ _ _ => (fg_name (pg_name (i := 10) sc__law_at_bound.nd rfl (.inl rfl)) (by intro l e; cases e; decide +kernel))) (fun _ _ _ _ _ => fts_nil) (fun _ _ _ _ _ => (fe_tup (fa_cons (fe_op os_add (fv 8) (fv 10)) (fa_cons (fe_tup fa_nil) fa_nil))))) fa_nil)))))
      (fb_one (fs_set (ps_set (i := 6) sc__law_at_bound.nd rfl (.inl rfl) pe_S) (fe_op os_add (fv 6) (fe_op os_mulX (fe_lst (fa_cons (fe_tup (fa_cons fe_str (fa_cons (fe_lst (fa_cons (fe_tup (fa_cons fe_str (fa_cons (fe_tup fa_nil) fa_nil))) fa_nil)) fa_nil))) fa_nil)) (fv 2))))))
      fb_nil)
      (fb_one (fs_ret (fe_lst (fa_cons (fv 5) (fa_cons (fv 6) (fa_cons (fe_ix (fe_ix (fv 6) fe_int) fe_int) (fa_cons (fv 7) fa_nil))))))))))))))))), fun ρ R hl h => ?_⟩
  obtain ⟨c, d, rfl, hj, hc, q⟩ := h
  have sz := sz2
  refine ⟨nd1 _, c, d, 5, rfl, hj, by decide, by decide, by omega, fun r1 d1 t1 p0 p1 j1 => ?_⟩
  refine ⟨nd1 _, c + 1, d1, 2, rfl, j1, by decide, by decide, by omega, fun r2 d2 t2 p20 p21 j2 => ?_⟩
  obtain ⟨m2, rfl⟩ : ∃ m : Nat, r2 = m := ⟨r2.toNat, by omega⟩
  refine ⟨by show 2 ≤ _; omega, by show 2 ≤ _; omega, by show 3 ≤ _; omega, ?_⟩
  refine ⟨by show 3 ≤ _; omega, by show 3 ≤ _; omega, by show 3 ≤ _; omega, ?_⟩
  dsimp only [YP.put]
  show uSeq _ _ _ _
  refine seq_cut (fun ρ => ∃ ks : List KD, (∀ k ∈ ks, KOk k ∧ k.wt ≤ 1600) ∧ ks.length ≤ 15 ∧ ρ = [.sl true true d2, dat (.int r1), dat (.int (m2 : Nat)), dat twoP.d, dat eightP.d, own (ksD ks), .un, .un, .un, .un, .un]) ?rest fun rest => ?here
  case here =>
    refine ⟨by show 2 ≤ _; omega, ?_⟩
    obtain ⟨n, hn, hidx⟩ : ∃ n : Nat, n ≤ 15 ∧ L2.atI [D.int (14 + (m2 : Nat)), D.int 1] (if decide ((0 : Int) < r1) = true then 1 else 0) = some (.int (n : Nat)) := by
      by_cases h : (0 : Int) < r1
      · exact ⟨1, by decide, by rw [decide_eq_true h]; rfl⟩
      · refine ⟨14 + m2, by omega, ?_⟩
        rw [decide_eq_false h]
        show some (D.int (14 + (m2 : Int))) = _
        have : (14 + (m2 : Int)) = ((14 + m2 : Nat) : Int) := by omega
        rw [this]
    refine ⟨.int (n : Nat), hidx, ?_⟩
    refine ⟨by have : ("abcdefghijklmno" : Str).length = 15 := by decide +kernel
               show ("abcdefghijklmno" : Str).length ≤ _; omega, ?_⟩
    have hl : (cutS ("abcdefghijklmno" : Str) none (some (n : Int))).cps.toList.length ≤ 15 ∧ ∀ c ∈ (cutS ("abcdefghijklmno" : Str) none (some (n : Int))).cps.toList, c < 128 := by
      obtain ⟨ml, em, l1, l2, low⟩ := cut_low (l := ("abcdefghijklmno" : Str).cps.toList) (k := n) (by decide +kernel)
      rw [toS_of] at em
      rw [em, toS_cps]
      exact ⟨by omega, low⟩
    refine ⟨fun i acc ρ => ∃ ks : List KD, acc = ks.map KD.d ∧ ks.length = i ∧ (∀ k ∈ ks, KOk k ∧ k.wt ≤ 1600) ∧ ρ = [.sl true true d2, dat (.int r1), dat (.int (m2 : Nat)), dat twoP.d, dat eightP.d, .un, .un, .un, .un, .un, .un], ⟨[], rfl, rfl, (fun _ h => nomatch h), rfl⟩, ?_, ?_, ?_⟩
    · rintro i y acc ρ hi ⟨ks, rfl, lk, hk, rfl⟩
      rw [List.getElem?_map] at hi
      obtain ⟨z, hz, rfl⟩ := Option.map_eq_some_iff.mp hi
      have hz2 := hl.2 z (List.mem_of_getElem? hz)
      have hil := (List.getElem?_eq_some_iff.mp hz).1
      refine ⟨by show 1 + 1 ≤ _; omega, by show 2 ≤ _; omega, by show 3 ≤ _; omega, ?_⟩
      refine ⟨by rw [List.length_map]; omega, ks ++ [⟨"k" ++ ⟨#[z]⟩, aP, false⟩], by rw [List.map_append]; rfl, by rw [List.length_append, lk]; rfl, fun q hq => ?_, rfl⟩
      rcases List.mem_append.mp hq with hq | hq
      · exact hk q hq
      · rw [List.mem_singleton.mp hq]
        have tk : Tk ("k" ++ ⟨#[z]⟩) := tk_pre (by decide +kernel) (by decide +kernel) hz2
        refine ⟨⟨tk, (by decide : aP.dep ≤ 20), tkW _⟩, ?_⟩
        have h1 := strW_le tk
        have h2 := strW_le (tkW "a")
        show 20 + strW ("k" ++ ⟨#[z]⟩) + (61 + strW "a") ≤ 1600
        omega
    · rintro i acc ρ ⟨ks, rfl, _, _, rfl⟩
      exact ⟨_, (rfl : _ = YP.wipeS [.sl true true d2, dat (.int r1), dat (.int (m2 : Nat)), dat twoP.d, dat eightP.d, .un, .un, .un, .un, .un, .un] [8])⟩
    rintro acc ρ ⟨ks, rfl, lk, hk, rfl⟩
    rw [List.length_map] at lk
    exact rest _ ⟨ks, hk, by omega, rfl⟩
  rintro ρ ⟨ks0, hk0, lk0, rfl⟩
  refine seq_cut (fun ρ => ∃ ks : List KD, (∀ k ∈ ks, KOk k ∧ k.wt ≤ 1600) ∧ ks.length ≤ 20 ∧ ρ = [.sl true true d2, dat (.int r1), dat (.int (m2 : Nat)), dat twoP.d, dat eightP.d, own (ksD ks), .un, .un, .un, .un, .un]) ?rest2 fun rest => ?here2
  case here2 =>
    refine ⟨rfl, rfl, ?_⟩
    rw [eqD_int]
    by_cases h1 : r1 = 1
    case neg =>
      rw [decide_eq_false h1]
      exact rest _ ⟨ks0, hk0, by omega, rfl⟩
    rw [decide_eq_true h1]
    have ec : YP.cut (ks0.map KD.d) none (some ((m2 : Nat) : Int)) = (ks0.take m2).map KD.d := by rw [ycut_to, List.map_take]
    refine ⟨fun i acc ρ => ∃ ks : List KD, acc = ks.map KD.d ∧ ks.length = i ∧ (∀ k ∈ ks, KOk k ∧ k.wt ≤ 1600) ∧ ρ = [.sl true true d2, dat (.int r1), dat (.int (m2 : Nat)), dat twoP.d, dat eightP.d, own (ksD ks0), .un, .un, .un, .un, .un], ⟨[], rfl, rfl, (fun _ h => nomatch h), rfl⟩, ?_, ?_, ?_⟩
    · rintro i y acc ρ hi ⟨ks, rfl, lk, hk, rfl⟩
      rw [List.getElem?_map] at hi
      obtain ⟨z, hz, rfl⟩ := Option.map_eq_some_iff.mp hi
      have hz2 : z < 128 := (by decide +kernel : ∀ c ∈ ("abcde" : Str).cps.toList, c < 128) z (List.mem_of_getElem? hz)
      have hil : i < 5 := (List.getElem?_eq_some_iff.mp hz).1
      refine ⟨by show 1 + 1 ≤ _; omega, by show 3 ≤ _; omega, ?_⟩
      refine ⟨by rw [List.length_map]; omega, ks ++ [⟨"s" ++ ⟨#[z]⟩, eightP, false⟩], by rw [List.map_append]; rfl, by rw [List.length_append, lk]; rfl, fun q hq => ?_, rfl⟩
      rcases List.mem_append.mp hq with hq | hq
      · exact hk q hq
      · rw [List.mem_singleton.mp hq]
        have tk : Tk ("s" ++ ⟨#[z]⟩) := tk_pre (by decide +kernel) (by decide +kernel) hz2
        have ta : Tk ("a" : Str) := tkW _
        refine ⟨⟨tk, (by decide : eightP.dep ≤ 20), ⟨⟨⟨ta, ta⟩, ⟨ta, ta⟩⟩, ⟨⟨ta, ta⟩, ⟨ta, ta⟩⟩⟩⟩, ?_⟩
        have h1 := strW_le tk
        have h2 : eightP.wt = 1071 := by decide +kernel
        show 20 + strW ("s" ++ ⟨#[z]⟩) + eightP.wt ≤ 1600
        omega
    · rintro i acc ρ ⟨ks, rfl, _, _, rfl⟩
      exact ⟨_, (rfl : _ = YP.wipeS [.sl true true d2, dat (.int r1), dat (.int (m2 : Nat)), dat twoP.d, dat eightP.d, own (ksD ks0), .un, .un, .un, .un, .un] [8])⟩
    rintro acc ρ ⟨ks, rfl, lk, hk, rfl⟩
    have lk : ks.length = 5 := lk
    refine ⟨by rw [ec, List.length_map, List.length_map, List.length_take]; omega, ?_⟩
    rw [ec, ← List.map_append]
    refine rest _ ⟨ks0.take m2 ++ ks, fun k h => ?_, by rw [List.length_append, List.length_take]; omega, rfl⟩
    exact (List.mem_append.mp h).elim (fun h => hk0 k (List.mem_of_mem_take h)) (hk k)
  rintro ρ ⟨ks, hk, lk, rfl⟩
  refine seq_cut (fun ρ => ∃ rs : List RU, EdOk rs ∧ rs.length = 1 ∧ rwt rs ≤ 20000 ∧ ρ = [.sl true true d2, dat (.int r1), dat (.int (m2 : Nat)), dat twoP.d, dat eightP.d, own (ksD ks), own (rsD rs), .un, .un, .un, .un]) ?rest3 fun rest => ?here3
  case here3 =>
    refine ⟨fun i acc ρ => ∃ as : List AL, acc = as.map AL.d ∧ as.length = i ∧ (∀ a ∈ as, AOk a ∧ a.row.length ≤ 6) ∧ ρ = [.sl true true d2, dat (.int r1), dat (.int (m2 : Nat)), dat twoP.d, dat eightP.d, own (ksD ks), .un, .un, .un, .un, .un], ⟨[], rfl, rfl, (fun _ h => nomatch h), rfl⟩, ?_, ?_, ?_⟩
    · rintro i y acc ρ hi ⟨as, rfl, la, ha, rfl⟩
      rw [List.getElem?_map] at hi
      obtain ⟨z, hz, rfl⟩ := Option.map_eq_some_iff.mp hi
      have hz2 : z < 128 := (by decide +kernel : ∀ c ∈ ("abcdef" : Str).cps.toList, c < 128) z (List.mem_of_getElem? hz)
      have hil : i < 6 := (List.getElem?_eq_some_iff.mp hz).1
      refine ⟨by show 1 + 1 ≤ _; omega, by show 1 ≤ _; omega, by decide, by decide, (by show 1 ≤ 1000; decide), by show 2 ≤ _; omega, ?_⟩
      refine ⟨by rw [List.length_map]; omega, as ++ [⟨"x" ++ ⟨#[z]⟩, ["ra", "ra", "ra", "ra", "ra", "ra"]⟩], by rw [List.map_append]; rfl, by rw [List.length_append, la]; rfl, fun q hq => ?_, rfl⟩
      rcases List.mem_append.mp hq with hq | hq
      · exact ha q hq
      · rw [List.mem_singleton.mp hq]
        have tk : Tk ("x" ++ ⟨#[z]⟩) := tk_pre (by decide +kernel) (by decide +kernel) hz2
        refine ⟨⟨tk, fun s hs => ?_, by show 6 ≤ 1000; decide⟩, by show 6 ≤ 6; decide⟩
        simp only [List.mem_cons, List.not_mem_nil, or_false, or_self] at hs
        rw [hs]; exact tkW _
    · rintro i acc ρ ⟨as, rfl, _, _, rfl⟩
      exact ⟨_, (rfl : _ = YP.wipeS [.sl true true d2, dat (.int r1), dat (.int (m2 : Nat)), dat twoP.d, dat eightP.d, own (ksD ks), .un, .un, .un, .un, .un] [8])⟩
    rintro acc ρ ⟨as, rfl, la, ha, rfl⟩
    have la : as.length = 6 := la
    refine ⟨by show 2 ≤ _; omega, by show 1 ≤ _; omega, ?_⟩
    have tra : Tk ("ra" : Str) := tkW _
    have ro : ROk ⟨"ra", as⟩ := ⟨tra, fun a h => (ha a h).1, by show as.length ≤ 1000; omega⟩
    have one : ∀ r ∈ [(⟨"ra", as⟩ : RU)], r = ⟨"ra", as⟩ := fun r h => List.mem_singleton.mp h
    have w1 : RU.wt ⟨"ra", as⟩ ≤ 108 + 6 * (108 + 96 * 6) := RU.wt_le ro (by show as.length ≤ 6; omega) fun a h => (ha a h).2
    refine rest _ ⟨[⟨"ra", as⟩], ⟨⟨fun r h => by rw [one r h]; exact ro, (by show 1 ≤ 100000; decide), by show as.length + 0 ≤ _; omega⟩, by show as.length + 0 ≤ _; omega, fun r h => by rw [one r h]; exact ⟨by show as.length ≤ _; omega, fun a h => (ha a h).2⟩⟩, rfl, by show RU.wt _ + 0 ≤ _; omega, rfl⟩
  rintro ρ ⟨rs1, he1, lr1, wr1, rfl⟩
  refine seq_cut (fun ρ => ∃ bs : List BA, (∀ b ∈ bs, BOk b) ∧ bs.length ≤ 31 ∧ ρ = [.sl true true d2, dat (.int r1), dat (.int (m2 : Nat)), dat twoP.d, dat eightP.d, own (ksD ks), dat (rsD rs1), own (.lst (bs.map BA.d)), .un, .un, .un]) ?rest4 fun rest => ?here4
  case here4 =>
    refine ⟨List.nodup_nil, rs1, rfl, he1, fun bs s hbs lbs => ?_⟩
    refine ⟨rfl, rfl, ?_⟩
    rw [eqD_int]
    by_cases h1 : r1 = 4
    · rw [decide_eq_true h1]
      refine ⟨.inr ⟨by decide, by decide⟩, ?_⟩
      have ec : YP.cut (bs.map BA.d) none (some ((30 + ((m2 : Nat) : Int)) * 1)) = (bs.take (30 + m2)).map BA.d := by
        have : (30 + ((m2 : Nat) : Int)) * 1 = ((30 + m2 : Nat) : Int) := by omega
        rw [this, ycut_to, List.map_take]
      have fin := rest [.sl true true d2, dat (.int r1), dat (.int (m2 : Nat)), dat twoP.d, dat eightP.d, own (ksD ks), dat (rsD rs1), own (.lst (YP.cut (bs.map BA.d) none (some ((30 + ((m2 : Nat) : Int)) * 1)))), .un, .un, .un] ⟨bs.take (30 + m2), fun b h => hbs b (List.mem_of_mem_take h), by rw [List.length_take]; omega, by rw [ec]⟩
      exact fin
    · rw [decide_eq_false h1]
      refine ⟨.inr ⟨by decide, by decide⟩, ?_⟩
      have ec : YP.cut (bs.map BA.d) none (some ((30 + ((m2 : Nat) : Int)) * 0)) = (([] : List BA)).map BA.d := by
        have : (30 + ((m2 : Nat) : Int)) * 0 = ((0 : Nat) : Int) := by omega
        rw [this, ycut_to]; rfl
      have fin := rest [.sl true true d2, dat (.int r1), dat (.int (m2 : Nat)), dat twoP.d, dat eightP.d, own (ksD ks), dat (rsD rs1), own (.lst (YP.cut (bs.map BA.d) none (some ((30 + ((m2 : Nat) : Int)) * 0)))), .un, .un, .un] ⟨[], (fun _ h => nomatch h), Nat.zero_le _, by rw [ec]⟩
      exact fin
  rintro ρ ⟨bs, hbs, lbs, rfl⟩
  refine seq_cut (fun ρ => ∃ (rs : List RU) (s6 : Sl), RsOk rs ∧ rs.length ≠ 0 ∧ rwt rs ≤ 20000 ∧ (s6 = dat (rsD rs) ∨ s6 = own (rsD rs)) ∧ ρ = [.sl true true d2, dat (.int r1), dat (.int (m2 : Nat)), dat twoP.d, dat eightP.d, own (ksD ks), s6, own (.lst (bs.map BA.d)), .un, .un, .un]) ?rest5 fun rest => ?here5
  case here5 =>
    refine ⟨rfl, rfl, ?_⟩
    rw [eqD_int]
    by_cases h1 : r1 = 2
    case neg =>
      rw [decide_eq_false h1]
      exact rest _ ⟨rs1, _, he1.ok, by omega, wr1, .inl rfl, rfl⟩
    rw [decide_eq_true h1]
    refine ⟨by show -2 ^ 62 ≤ (40 : Int) + (m2 : Int); omega, by show (40 : Int) + (m2 : Int) < 2 ^ 62; omega, ?_⟩
    refine ⟨fun i acc ρ => ∃ rs : List RU, acc = rs.map RU.d ∧ rs.length = i ∧ (∀ r ∈ rs, ROk r ∧ r.alts.length ≤ 1 ∧ r.wt ≤ 300) ∧ ρ = [.sl true true d2, dat (.int r1), dat (.int (m2 : Nat)), dat twoP.d, dat eightP.d, own (ksD ks), dat (rsD rs1), own (.lst (bs.map BA.d)), .un, .un, .un], ⟨[], rfl, rfl, (fun _ h => nomatch h), rfl⟩, ?_, ?_, ?_⟩
    · rintro i y acc ρ hi ⟨rs, rfl, lr, hr', rfl⟩
      obtain ⟨li, rfl⟩ := intsD_get hi
      have li : i < 41 := by omega
      have q5 : (("abcde" : Str).cps.toList).length = 5 := by decide +kernel
      have q10 : (("abcdefghij" : Str).cps.toList).length = 10 := by decide +kernel
      have s5 : ("abcde" : Str).length = 5 := by decide +kernel
      have s10 : ("abcdefghij" : Str).length = 10 := by decide +kernel
      obtain ⟨c1, hm1, e1⟩ := atI_in (l := ("abcde" : Str).cps.toList) (r := (0 + (i : Int)) / 10) (by omega) (by rw [q5]; omega)
      obtain ⟨c2, hm2, e2⟩ := atI_in (l := ("abcdefghij" : Str).cps.toList) (r := (0 + (i : Int)) % 10) (by omega) (by rw [q10]; omega)
      have l1 : c1 < 128 := (by decide +kernel : ∀ c ∈ ("abcde" : Str).cps.toList, c < 128) c1 hm1
      have l2 : c2 < 128 := (by decide +kernel : ∀ c ∈ ("abcdefghij" : Str).cps.toList, c < 128) c2 hm2
      have z5 : ("abcde" : Str).length ≤ sizeLine := by omega
      have z10 : ("abcdefghij" : Str).length ≤ sizeLine := by omega
      refine ⟨⟨by decide, by decide⟩, z5, c1, e1, by show 1 + 1 ≤ _; omega, (by decide : (0 : Int) < 10), z10, c2, e2, by show (1 + 1) + 1 ≤ _; omega, ?_⟩
      refine ⟨⟨by decide, by decide⟩, z5, c1, e1, by show 1 + 1 ≤ _; omega, (by decide : (0 : Int) < 10), z10, c2, e2, by show (1 + 1) + 1 ≤ _; omega, ?_⟩
      refine ⟨Nat.zero_le _, by show 2 ≤ _; omega, by show 1 ≤ _; omega, by show 2 ≤ _; omega, ?_⟩
      refine ⟨by rw [List.length_map]; omega, rs ++ [⟨"r" ++ ⟨#[c1]⟩ ++ ⟨#[c2]⟩, [⟨"x" ++ ⟨#[c1]⟩ ++ ⟨#[c2]⟩, []⟩]⟩], by rw [List.map_append]; rfl, by rw [List.length_append, lr]; rfl, fun q hq => ?_, rfl⟩
      rcases List.mem_append.mp hq with hq | hq
      · exact hr' q hq
      · rw [List.mem_singleton.mp hq]
        have t1 : Tk ("r" ++ ⟨#[c1]⟩ ++ ⟨#[c2]⟩) := tk_two (by decide +kernel) (by decide +kernel) l1 l2
        have t2 : Tk ("x" ++ ⟨#[c1]⟩ ++ ⟨#[c2]⟩) := tk_two (by decide +kernel) (by decide +kernel) l1 l2
        have h1 := strW_le t1
        have h2 := strW_le t2
        refine ⟨⟨t1, fun a ha => ?_, by show 1 ≤ 1000; decide⟩, by show 1 ≤ 1; decide, ?_⟩
        · rw [List.mem_singleton.mp ha]; exact ⟨t2, (fun _ h => nomatch h), Nat.zero_le _⟩
        · show 12 + strW ("r" ++ ⟨#[c1]⟩ ++ ⟨#[c2]⟩) + (12 + strW ("x" ++ ⟨#[c1]⟩ ++ ⟨#[c2]⟩) + 0 + 0) ≤ 300
          omega
    · rintro i acc ρ ⟨rs, rfl, _, _, rfl⟩
      exact ⟨_, (rfl : _ = YP.wipeS [.sl true true d2, dat (.int r1), dat (.int (m2 : Nat)), dat twoP.d, dat eightP.d, own (ksD ks), dat (rsD rs1), own (.lst (bs.map BA.d)), .un, .un, .un] [9])⟩
    rintro acc ρ ⟨rs, rfl, lr, hr', rfl⟩
    have lD : (intsD 0 (40 + (m2 : Int)).toNat).length = 40 + m2 := by rw [intsD_len]; omega
    rw [lD] at lr
    have h1 := sumW_le (fun r : RU => r.alts.length) 1 rs fun r h => (hr' r h).2.1
    have h2 := sumW_le RU.wt 300 rs fun r h => (hr' r h).2.2
    exact rest _ ⟨rs, _, ⟨fun r h => (hr' r h).1, by omega, by omega⟩, by omega, by unfold rwt; omega, .inr rfl, rfl⟩
  rintro ρ ⟨rs2, s6, ro2, ne2, wr2, hs6, rfl⟩
  refine seq_cut (fun ρ => ∃ (rs : List RU) (s6 : Sl), RsOk rs ∧ rs.length ≠ 0 ∧ rwt rs ≤ 20000 ∧ (s6 = dat (rsD rs) ∨ s6 = own (rsD rs)) ∧ ρ = [.sl true true d2, dat (.int r1), dat (.int (m2 : Nat)), dat twoP.d, dat eightP.d, own (ksD ks), s6, own (.lst (bs.map BA.d)), .un, .un, .un]) ?rest6 fun rest => ?here6
  case here6 =>
    refine ⟨rfl, rfl, ?_⟩
    rw [eqD_int]
    by_cases h1 : r1 = 3
    case neg =>
      rw [decide_eq_false h1]
      exact rest _ ⟨rs2, s6, ro2, ne2, wr2, hs6, rfl⟩
    rw [decide_eq_true h1]
    refine ⟨fun i acc ρ => ∃ rs : List RU, acc = rs.map RU.d ∧ rs.length = i ∧ (∀ r ∈ rs, ROk r ∧ r.alts.length ≤ 10 ∧ r.wt ≤ 1200) ∧ ρ = [.sl true true d2, dat (.int r1), dat (.int (m2 : Nat)), dat twoP.d, dat eightP.d, own (ksD ks), s6, own (.lst (bs.map BA.d)), .un, .un, .un], ⟨[], rfl, rfl, (fun _ h => nomatch h), rfl⟩, ?_, ?_, ?_⟩
    · rintro i y acc ρ hi ⟨rs, rfl, lr, hr', rfl⟩
      rw [List.getElem?_map] at hi
      obtain ⟨z, hz, rfl⟩ := Option.map_eq_some_iff.mp hi
      have lz : z < 128 := (by decide +kernel : ∀ c ∈ ("abcdefghij" : Str).cps.toList, c < 128) z (List.mem_of_getElem? hz)
      have hil : i < 10 := (List.getElem?_eq_some_iff.mp hz).1
      refine ⟨by show 1 + 1 ≤ _; omega, ?_⟩
      refine ⟨fun t acc ρ => ∃ as : List AL, acc = as.map AL.d ∧ as.length = t ∧ (∀ a ∈ as, AOk a ∧ a.row.length ≤ 0) ∧ ρ = [.sl true true d2, dat (.int r1), dat (.int (m2 : Nat)), dat twoP.d, dat eightP.d, own (ksD ks), s6, own (.lst (bs.map BA.d)), dat (.str ⟨#[z]⟩), .un, .un], ⟨[], rfl, rfl, (fun _ h => nomatch h), rfl⟩, ?_, ?_, ?_⟩
      · rintro t y acc ρ ht ⟨as, rfl, la, ha, rfl⟩
        rw [List.getElem?_map] at ht
        obtain ⟨u, hu, rfl⟩ := Option.map_eq_some_iff.mp ht
        have lu : u < 128 := (by decide +kernel : ∀ c ∈ ("abcdefghij" : Str).cps.toList, c < 128) u (List.mem_of_getElem? hu)
        have htl : t < 10 := (List.getElem?_eq_some_iff.mp hu).1
        refine ⟨by show 1 + 1 ≤ _; omega, Nat.zero_le _, by show 2 ≤ _; omega, ?_⟩
        refine ⟨by rw [List.length_map]; omega, as ++ [⟨(⟨#[z]⟩ : Str) ++ ⟨#[u]⟩, []⟩], by rw [List.map_append]; rfl, by rw [List.length_append, la]; rfl, fun q hq => ?_, rfl⟩
        rcases List.mem_append.mp hq with hq | hq
        · exact ha q hq
        · rw [List.mem_singleton.mp hq]
          exact ⟨⟨tk_pre (by show ((#[z] : Array Nat).all _) = true; simp; omega) (by show 1 ≤ 2; decide) lu, (fun _ h => nomatch h), Nat.zero_le _⟩, Nat.le_refl _⟩
      · rintro t acc ρ ⟨as, rfl, _, _, rfl⟩
        exact ⟨_, (rfl : _ = YP.wipeS [.sl true true d2, dat (.int r1), dat (.int (m2 : Nat)), dat twoP.d, dat eightP.d, own (ksD ks), s6, own (.lst (bs.map BA.d)), dat (.str ⟨#[z]⟩), .un, .un] [10])⟩
      rintro acc ρ ⟨as, rfl, la, ha, rfl⟩
      have la : as.length = 10 := la
      refine ⟨by show 2 ≤ _; omega, ?_⟩
      have t1 : Tk ("r" ++ ⟨#[z]⟩) := tk_pre (by decide +kernel) (by decide +kernel) lz
      have ro : ROk ⟨"r" ++ ⟨#[z]⟩, as⟩ := ⟨t1, fun a h => (ha a h).1, by show as.length ≤ 1000; omega⟩
      have w1 : RU.wt ⟨"r" ++ ⟨#[z]⟩, as⟩ ≤ 108 + 10 * (108 + 96 * 0) := RU.wt_le ro (by show as.length ≤ 10; omega) fun a h => (ha a h).2
      refine ⟨by rw [List.length_map]; omega, rs ++ [⟨"r" ++ ⟨#[z]⟩, as⟩], by rw [List.map_append]; rfl, by rw [List.length_append, lr]; rfl, fun q hq => ?_, rfl⟩
      rcases List.mem_append.mp hq with hq | hq
      · exact hr' q hq
      · rw [List.mem_singleton.mp hq]; exact ⟨ro, by show as.length ≤ 10; omega, by omega⟩
    · rintro i acc ρ ⟨rs, rfl, _, _, rfl⟩
      exact ⟨_, (rfl : _ = YP.wipeS [.sl true true d2, dat (.int r1), dat (.int (m2 : Nat)), dat twoP.d, dat eightP.d, own (ksD ks), s6, own (.lst (bs.map BA.d)), .un, .un, .un] [8])⟩
    rintro acc ρ ⟨rs, rfl, lr, hr', rfl⟩
    have lr : rs.length = 10 := lr
    refine ⟨Nat.zero_le _, by show 2 ≤ _; omega, by show 1 ≤ _; omega, by show 2 ≤ _; omega, by show 1 ≤ _; omega, ⟨by omega, by omega⟩, by show 1 * m2 ≤ _; omega, ?_⟩
    have ez : told [D.tup [.str "rz", .lst [.tup [.str "zz", .tup []]]]] ((m2 : Nat) : Int) = (told [(⟨"rz", [⟨"zz", []⟩]⟩ : RU)] ((m2 : Nat) : Int)).map RU.d := by rw [← told_map]; rfl
    have lt : (told [(⟨"rz", [⟨"zz", []⟩]⟩ : RU)] ((m2 : Nat) : Int)).length = m2 := by rw [told_len']; show m2 * 1 = _; omega
    refine ⟨by rw [ez, List.length_map, List.length_map, lt, lr]; omega, ?_⟩
    have tz : Tk ("rz" : Str) := tkW _
    have tz2 : Tk ("zz" : Str) := tkW _
    have rz : ROk (⟨"rz", [⟨"zz", []⟩]⟩ : RU) := ⟨tz, fun a ha => by rw [List.mem_singleton.mp ha]; exact ⟨tz2, (fun _ h => nomatch h), Nat.zero_le _⟩, by show 1 ≤ 1000; decide⟩
    have wz : RU.wt (⟨"rz", [⟨"zz", []⟩]⟩ : RU) ≤ 1200 := by decide +kernel
    have all : ∀ r ∈ rs ++ told [(⟨"rz", [⟨"zz", []⟩]⟩ : RU)] ((m2 : Nat) : Int), ROk r ∧ r.alts.length ≤ 10 ∧ r.wt ≤ 1200 := fun r h => by
      rcases List.mem_append.mp h with h | h
      · exact hr' r h
      · rw [List.mem_singleton.mp (told_mem h)]; exact ⟨rz, by decide, wz⟩
    have ll : (rs ++ told [(⟨"rz", [⟨"zz", []⟩]⟩ : RU)] ((m2 : Nat) : Int)).length = 10 + m2 := by rw [List.length_append, lt, lr]
    have h1 := sumW_le (fun r : RU => r.alts.length) 10 _ fun r h => (all r h).2.1
    have h2 := sumW_le RU.wt 1200 _ fun r h => (all r h).2.2
    rw [ll] at h1 h2
    have fin := rest [.sl true true d2, dat (.int r1), dat (.int (m2 : Nat)), dat twoP.d, dat eightP.d, own (ksD ks), own (.lst (rs.map RU.d ++ told [D.tup [.str "rz", .lst [.tup [.str "zz", .tup []]]]] ((m2 : Nat) : Int))), own (.lst (bs.map BA.d)), .un, .un, .un] ⟨_, _, ⟨fun r h => (all r h).1, by omega, by omega⟩, by omega, by unfold rwt; omega, .inr rfl, by rw [ez, ← List.map_append]; rfl⟩
    exact fin
  rintro ρ ⟨rs, s6', ro, nr, wr, hs, rfl⟩
  obtain ⟨r0, tl, rfl⟩ : ∃ r0 tl, rs = r0 :: tl := by
    cases rs with
    | nil => exact absurd rfl nr
    | cons x y => exact ⟨x, y, rfl⟩
  have wk : kwt ks ≤ 32000 := by
    have := sumW_le KD.wt 1600 ks fun k h => (hk k h).2
    unfold kwt; omega
  have wb := bwt_le (bs := bs) ⟨hbs, by omega⟩
  have fin := q ks (r0 :: tl) r0.head bs d2 ⟨⟨fun k h => (hk k h).1, by omega⟩, ro, (ro.ok r0 List.mem_cons_self).tk, ⟨hbs, by omega⟩⟩ ⟨by omega⟩ (j2.mono (by omega))
  rcases hs with rfl | rfl
  · refine ⟨r0.d, (show L2.atI _ ((0 : Nat) : Int) = _ from atI_nat rfl), .str r0.head, (show L2.atI _ ((0 : Nat) : Int) = _ from atI_nat rfl), by show 4 ≤ _; omega, ?_⟩
    exact fin
  · refine ⟨r0.d, (show L2.atI _ ((0 : Nat) : Int) = _ from atI_nat rfl), .str r0.head, (show L2.atI _ ((0 : Nat) : Int) = _ from atI_nat rfl), by show 4 ≤ _; omega, ?_⟩
    exact fin
end
end K10
set_option maxRecDepth 100000
set_option maxHeartbeats 4000000
namespace K10
open PySem PySem.Spec PyProof.Rows L2 Yard YP
/-! ### what a fault tells can be compared -/
def okF (f : Str × Str) : Prop := PyData.strOk f.1 = true ∧ PyData.strOk f.2 = true
theorem mkF {w x : Str} (k : PyData.strOk x = true) (h : PyData.strOk w = true := by decide +kernel) : okF (w, x) := ⟨h, k⟩
theorem newF_ok {x : Str} {tk : List Str} {f : Str × Str} (h : newF x tk = some f) (t : Tk x) : okF f := by
  unfold newF at h
  split at h
  · cases h; exact mkF t.ok
  · split at h
    · cases h; exact mkF t.ok
    · cases h
theorem kinF_ok : ∀ {ks : List KD} {met : List Str} {f : Str × Str}, kinF met ks = some f → (∀ k ∈ ks, KOk k) → okF f
  | [], _, _, h, _ => by cases h
  | k :: ks, met, f, h, hk => by
    have tk := (hk k List.mem_cons_self).tk
    unfold kinF at h
    cases e : newF k.name met with
    | some g => rw [e] at h; cases h; exact newF_ok e tk
    | none =>
      rw [e] at h
      dsimp only at h
      split at h
      · cases h; exact mkF tk.ok
      · exact kinF_ok h fun z hz => hk z (List.mem_cons_of_mem _ hz)
theorem altF_ok : ∀ {as : List AL} {ls : List Str} {f : Str × Str}, altF ls as = some f → (∀ a ∈ as, AOk a) → okF f
  | [], _, _, h, _ => by cases h
  | a :: as, ls, f, h, ha => by
    have tk := (ha a List.mem_cons_self).tk
    unfold altF at h
    split at h
    · cases h; exact mkF tk.ok
    · split at h
      · cases h; exact mkF tk.ok
      · split at h
        · cases h; exact mkF tk.ok
        · exact altF_ok h fun z hz => ha z (List.mem_cons_of_mem _ hz)
theorem rulF_ok : ∀ {rs : List RU} {tk ls : List Str} {f : Str × Str}, rulF tk ls rs = some f → (∀ r ∈ rs, ROk r) → okF f
  | [], _, _, _, h, _ => by cases h
  | r :: rs, tk, ls, f, h, hr => by
    have rr := hr r List.mem_cons_self
    unfold rulF at h
    cases e : newF r.head tk with
    | some g => rw [e] at h; cases h; exact newF_ok e rr.tk
    | none =>
      rw [e] at h
      dsimp only at h
      split at h
      · cases h; exact mkF rr.tk.ok
      · cases e2 : altF ls r.alts with
        | some g => rw [e2] at h; cases h; exact altF_ok e2 rr.al
        | none =>
          rw [e2] at h
          exact rulF_ok h fun z hz => hr z (List.mem_cons_of_mem _ hz)
theorem symF_ok {known skipped : List Str} : ∀ {ss : List Str} {f : Str × Str}, symF known skipped ss = some f → (∀ s ∈ ss, Tk s) → okF f
  | [], _, h, _ => by cases h
  | s :: ss, f, h, hs => by
    have tk := hs s List.mem_cons_self
    unfold symF at h
    split at h
    · split at h
      · cases h; exact mkF tk.ok
      · exact symF_ok h fun z hz => hs z (List.mem_cons_of_mem _ hz)
    · cases h; exact mkF tk.ok
theorem barF_ok {f g : Fnd} : ∀ {bs ah : List BA} {x : Str}, barF f g ah bs = some x → (∀ b ∈ bs, BOk b) → PyData.strOk x = true
  | [], _, _, h, _ => by cases h
  | b :: bs, ah, x, h, hb => by
    unfold barF at h
    split at h
    · exact barF_ok h fun z hz => hb z (List.mem_cons_of_mem _ hz)
    · cases h; exact (hb b List.mem_cons_self).t1.ok
def okP (f : Str × D) : Prop := OkN 1 (.lst [.str f.1, f.2])
theorem okP_of {f : Str × Str} (h : okF f) : okP (f.1, .str f.2) := okN_lst fun d hd => by
  rcases mem2 hd with rfl | rfl
  · exact okN_str h.1
  · exact okN_str h.2
theorem fault_ok {ks : List KD} {rs : List RU} {st : Str} {bs : List BA} {f : Str × D} (hw : WOk ks rs st bs) (h : fault ks rs (some st) bs = some f) : okP f := by
  unfold fault at h
  split at h
  · cases h
    exact okN_lst fun d hd => by
      rcases mem2 hd with rfl | rfl
      · exact okN_str (by decide +kernel)
      · exact okN_non
  cases e1 : kinF [] ks with
  | some g => rw [e1] at h; cases h; exact okP_of (kinF_ok e1 hw.ks.ok)
  | none =>
    rw [e1] at h
    dsimp only at h
    cases e2 : rulF (ks.map KD.name) [] rs with
    | some g => rw [e2] at h; cases h; exact okP_of (rulF_ok e2 hw.rs.ok)
    | none =>
      rw [e2] at h
      dsimp only at h
      cases e3 : symF (knw ks rs) (skp ks) (syms rs) with
      | some g =>
        rw [e3] at h; cases h
        refine okP_of (symF_ok e3 fun s hs => ?_)
        obtain ⟨r, hr, hs⟩ := List.mem_flatMap.mp hs
        obtain ⟨a, ha, hs⟩ := List.mem_flatMap.mp hs
        exact ((hw.rs.ok r hr).al a ha).row s hs
      | none =>
        rw [e3] at h
        dsimp only at h
        split at h
        · cases h; exact okP_of (mkF (w := "begin") (x := st) hw.st.ok)
        · cases e4 : barF (lst? (rowP rs)) (lst? (labP rs)) [] bs with
          | some x => rw [e4] at h; cases h; exact okP_of (mkF (w := "bar") (x := x) (barF_ok e4 hw.bs.ok))
          | none => rw [e4] at h; cases h
section
variable {P : Program} {w : World} {K : PySem.W.Frag} {mg : Str → Option Value} {base : Heap}
def uBeg (C : Addr) : UF := fun ρ R => ∃ (fs : List (Str × D)) (d : D), ρ = [dat (.obj C fs)] ∧ fs.lookup ("_begin" : Str) = some d ∧ ∀ s, R (.val d) [s]
theorem sc_Grammar_begin : FnScope ["self"] ["self"] (defScope s_Grammar_begin) := ⟨rfl, rfl, rfl, by decide +kernel, rfl, by decide +kernel, by decide +kernel⟩
theorem ok_Grammar_begin (T : Tx K w mg) : FnOk P w K mg base CX0 1 T.a_Grammar_begin T.f_Grammar_begin ["self"] (PSp K 1 (uBeg T.c_Grammar)) := by
  refine fn_mk T.d_Grammar_begin.fn sc_Grammar_begin (by decide) fun cdv A outer s H E hr => ?_
  refine ⟨_, fb_one (fs_ret (fe_fld T.cl_Grammar T.n_Grammar__begin (fv 0))), fun ρ R hl h => ?_⟩
  obtain ⟨fs, d, rfl, e, q⟩ := h
  refine ⟨fs, d, rfl, e, ?_⟩
  exact q _
theorem sc_law : FnScope ["script", "k", "purse", "kinds", "rules", "at", "world", "count", "kept"] ["script"] (defScope s_law) := ⟨rfl, rfl, rfl, by decide +kernel, rfl, by decide +kernel, by decide +kernel⟩
theorem ok_law {F : FuncData} {f : Addr} (L : L2.Fun K "law" "law" s_law f F) (T : Tx K w mg) (hs : ∃ m, base.Ns sysModules m) : FnG P w K mg base CX0 51 f F ["script"] (PSp K 1 uLaw) := by
  refine fn_mkG L sc_law (by decide) fun cdv A outer s H E hg hr => ?_
  have hu : A.units + 3 + 80 < cLine := by have := hr.un; have e : (A.deeper (envOfC "law" (defScope s_law) s.heap.objs.size f cdv)).units = A.units + 3 := rfl; omega
  obtain ⟨gN, kb⟩ := kb_none T
  refine ⟨_, (fb_cons (fs_for PassesOwn.never rfl (fi_range1 (by rfl) T.z_range (fa_cons (fe_b (cb_max rfl) (by rfl) T.z_max (by decide +kernel) (fr_ref fe_int (fr_ref (fe_b (cb_min rfl) (by rfl) T.z_min (by decide +kernel) (fr_ref fe_int (fr_ref (fe_b cb_len (by rfl) T.z_len (by decide +kernel) (fr_ref (fv 0) fr_nil)) fr_nil))) fr_nil))) fa_nil)) (fg_name (pg_name (i := 1) sc_law.nd rfl (.inl rfl)))
      (fb_cons (fs_set (ps_set (i := 2) sc_law.nd rfl (.inl rfl) pe_S) (fe_call (ok__law_purse T) (hr.mono (by omega)) (by rfl) T.d__law_purse.at_ T.d__law_purse.kp T.d__law_purse.bd (fr_val (fv 0) (fr_val (fv 1) fr_nil))))
      (fb_cons (fs_asg (ps_asg pe_S pg_S) (fe_call (ok__law_world T) (hr.mono (by omega)) (by rfl) T.d__law_world.at_ T.d__law_world.kp T.d__law_world.bd (fr_ref (fv 2) fr_nil)) (fg_lst (n := 3) rfl (fgs_cons (fg_name (pg_name (i := 3) sc_law.nd rfl (.inl rfl))) (fgs_cons (fg_name (pg_name (i := 4) sc_law.nd rfl (.inl rfl))) (fgs_cons (fg_name (pg_name (i := 5) sc_law.nd rfl (.inl rfl))) fgs_nil)))))
      (fb_cons (fs_set (ps_set (i := 6) sc_law.nd rfl (.inl rfl) pe_S) (fe_lst (fa_cons (fv 3) (fa_cons (fv 4) (fa_cons (fe_ix (fe_ix (fv 4) (fv 5)) fe_int) (fa_cons (fe_call (ok__law_bars T) (hr.mono (by omega)) (by rfl) T.d__law_bars.at_ T.d__law_bars.kp T.d__law_bars.bd (fr_ref (fv 2) (fr_val (fv 4) (fr_val fe_int fr_nil)))) fa_nil))))))
      (fb_cons (fs_for PassesOwn.never rfl (fi_range1 (by rfl) T.z_range (fa_cons (fe_call (ok__law_drawn T) (hr.mono (by omega)) (by rfl) T.d__law_drawn.at_ T.d__law_drawn.kp T.d__law_drawn.bd (fr_ref (fv 2) (fr_val fe_int fr_nil))) fa_nil)) (fg_name (pg_name (i := 7) sc_law.nd rfl (.inl rfl)))
      (fb_one (fs_set (ps_set (i := 6) sc_law.nd rfl (.inl rfl) pe_S) (fe_call (ok__law_bent T) (hr.mono (by omega)) (by rfl) T.d__law_bent.at_ T.d__law_bent.kp T.d__law_bent.bd (fr_ref (fv 2) (fr_val (fv 6) fr_nil))))))
      (fb_cons (fs_if (ft_cmp (os_eq (ru hr)) (fe_call (ok__law_drawn T) (hr.mono (by omega)) (by rfl) T.d__law_drawn.at_ T.d__law_drawn.kp T.d__law_drawn.bd (fr_ref (fv 2) (fr_val fe_int fr_nil))) fe_int)
      (fb_one (fs_set (ps_set (i := 6) sc_law.nd rfl (.inl rfl) pe_S) (fe_call (ok__law_at_bound T) (hr.mono (by omega)) (by rfl) T.d__law_at_bound.at_ T.d__law_at_bound.kp T.d__law_at_bound.bd (fr_ref (fv 2) fr_nil))))
      fb_nil)
      (fb_cons (fs_set (ps_set (i := 8) sc_law.nd rfl (.inl rfl) pe_S) (fe_b (cb_repr hg hs hu) (by rfl) T.z_repr (by decide +kernel) (fr_ref (fv 6) fr_nil)))
      (fb_cons (fs_if (FW.ft (fw_or (ft_cmp (os_ne (ru hr)) (fe_call (ok__law_told T) (hr.mono (by omega)) (by rfl) T.d__law_told.at_ T.d__law_told.kp T.d__law_told.bd (fr_val (fv 6) fr_nil)) (fe_call (ok__law_due T) (hr.mono (by omega)) (by rfl) T.d__law_due.at_ T.d__law_due.kp T.d__law_due.bd (fr_val (fv 6) fr_nil))) (fw_or1 (ft_cmp os_neS (fe_b (cb_repr hg hs hu) (by rfl) T.z_repr (by decide +kernel) (fr_ref (fv 6) fr_nil)) (fv 8)))))
      (fb_one (fs_ret fe_bl))
      fb_nil)
      (fb_one (fs_if (ft_cmp os_neS (fe_meth0 T.cl_Grammar T.d_Grammar_begin.mt (ok_Grammar_begin T) (hr.mono (by omega)) T.d_Grammar_begin.bd (fe_never (fex_make T.k_Grammar___init__ (ok_Grammar___init__ T) (hr.mono (by omega)) (by rfl) T.g_Grammar kb (gr_none T.e_Grammar_bars) (fr_val (fv 3) (fr_val (fv 4) fr_nil)) fk_nil))) (fe_ix (fe_ix (fv 4) fe_int) fe_int))
      (fb_one (fs_ret fe_bl))
      fb_nil))))))))))
      (fb_one (fs_ret fe_bl))), fun ρ R hl h => ?_⟩
  obtain ⟨ns, rfl, hns, q⟩ := h
  have sz := sz2
  have e62 : (2 : Int) ^ 62 = 4611686018427387904 := by decide
  refine ⟨?_, ?_, ?_⟩
  · split <;> split <;> omega
  · split <;> split <;> omega
  have hm8 : (if (if ((ns.length : Nat) : Int) < 8 then ((ns.length : Nat) : Int) else 8) > 1 then (if ((ns.length : Nat) : Int) < 8 then ((ns.length : Nat) : Int) else 8) else 1) ≤ 8 := by split <;> split <;> omega
  generalize (if (if ((ns.length : Nat) : Int) < 8 then ((ns.length : Nat) : Int) else 8) > 1 then (if ((ns.length : Nat) : Int) < 8 then ((ns.length : Nat) : Int) else 8) else 1) = m at hm8 ⊢
  refine ⟨fun _ ρ => ∃ s1 s2 s3 s4 s5 s6 s7 s8 : Sl, ρ = [.sl false true (.scr ns), s1, s2, s3, s4, s5, s6, s7, s8], ⟨_, _, _, _, _, _, _, _, rfl⟩, ?_, ?_⟩
  case refine_2 =>
    rintro ρ ⟨s1, s2, s3, s4, s5, s6, s7, s8, rfl⟩
    exact q _
  rintro i y ρ hi ⟨s1, s2, s3, s4, s5, s6, s7, s8, rfl⟩
  obtain ⟨li, rfl⟩ := intsD_get hi
  have li : i < 8 := by omega
  refine ⟨List.nodup_nil, ns, i, (by show [dat (.scr ns), dat (.int (0 + (i : Int)))] = _; rw [Int.zero_add]), by omega, fun d t0 t1 jd => ?_⟩
  dsimp only
  rw [wb_no (rs := [.val (.scr ns), .val (.int (0 + (i : Int)))]) [t0, t1] rfl]
  refine ⟨nd1 _, 0, d, rfl, jd, by omega, fun ks rs a d2 gw ha j2 => ?_⟩
  refine ⟨rfl, ?_⟩
  refine g3 ?_
  dsimp only
  obtain ⟨ra, hra⟩ : ∃ r, rs[a]? = some r := ⟨rs[a], List.getElem?_eq_getElem ha⟩
  have edk : EdOk rs := ⟨gw.rok, by
    have := sumW_le (fun r : RU => r.alts.length) 3 rs fun r h => (gw.al r h).1
    have := gw.hi
    unfold als; omega, fun r h => ⟨by have := (gw.al r h).1; omega, fun b hb => by have := (gw.al r h).2 b hb; omega⟩⟩
  refine ⟨ra.d, atI_nat (by rw [List.getElem?_map, hra]; rfl), .str ra.head, (show L2.atI _ ((0 : Nat) : Int) = _ from atI_nat rfl), ?_⟩
  refine ⟨nd1 _, 0 + 500, d2, rs, rfl, j2, by omega, edk, fun bs d3 t2 t3 hb lb j3 => ?_⟩
  refine ⟨by show 4 ≤ _; omega, ?_⟩
  dsimp only [YP.put]
  show uSeq _ _ _ [.sl false true (.scr ns), dat (.int (0 + (i : Int))), own d3, dat (ksD ks), dat (rsD rs), dat (.int (a : Nat)), own (wD ks rs ra.head bs), s7, s8]
  refine seq_cut (fun ρ => ∃ (d : D) (ks' : List KD) (rs' : List RU) (st : Str) (bs' : List BA) (s7 : Sl), WOk ks' rs' st bs' ∧ WBd ks' rs' bs' ∧ JarOk 700 d ∧ ρ = [.sl false true (.scr ns), dat (.int (0 + (i : Int))), own d, dat (ksD ks), dat (rsD rs), dat (.int (a : Nat)), own (wD ks' rs' st bs'), s7, s8]) ?rest fun rest => ?here
  case here =>
    have tra : Tk ra.head := (gw.rok.ok ra (List.mem_of_getElem? hra)).tk
    have w0 : WOk ks rs ra.head bs := ⟨gw.kok, gw.rok, tra, ⟨hb, by omega⟩⟩
    have b0 : WB 0 ks rs bs := ⟨by have := gw.kl; show ks.length ≤ 15; omega, fun k hk => gw.kd k hk, by have := gw.hi; show rs.length ≤ 13; omega, fun r hr => ⟨(gw.al r hr).1, fun b hb => by have := (gw.al r hr).2 b hb; omega⟩, by show bs.length ≤ 5; omega, gw.kw, gw.rw⟩
    refine ⟨nd1 _, 0 + 500 + 20, d3, 3, rfl, j3, by decide, by decide, by omega, fun r d4 t4 r0 r1 j4 => ?_⟩
    obtain ⟨r, rfl⟩ : ∃ m : Nat, r = m := ⟨r.toNat, by omega⟩
    refine ⟨by omega, by omega, ?_⟩
    refine ⟨fun n ρ => ∃ (d : D) (ks' : List KD) (rs' : List RU) (st : Str) (bs' : List BA) (s7 : Sl), WOk ks' rs' st bs' ∧ WB n ks' rs' bs' ∧ JarOk (521 + 30 * n) d ∧ ρ = [.sl false true (.scr ns), dat (.int (0 + (i : Int))), own d, dat (ksD ks), dat (rsD rs), dat (.int (a : Nat)), own (wD ks' rs' st bs'), s7, s8], ⟨d4, ks, rs, ra.head, bs, s7, w0, b0, j4.mono (by omega), rfl⟩, ?_, ?_⟩
    · rintro n y ρ hn ⟨d, ks', rs', st, bs', s7, hw, hb', j, rfl⟩
      obtain ⟨ln, rfl⟩ := intsD_get hn
      have ln : n < 2 := by omega
      refine ⟨nd1 _, 521 + 30 * n, d, n, ks', rs', st, bs', rfl, j, by omega, hw, hb', by omega, fun ks2 rs2 st2 bs2 d2 t1 h1 h2 j2 => ?_⟩
      exact ⟨d2, ks2, rs2, st2, bs2, _, h1, h2, j2.mono (by omega), rfl⟩
    · rintro ρ ⟨d, ks', rs', st, bs', s7, hw, hb', j, rfl⟩
      have lD : (intsD 0 ((r : Nat) : Int).toNat).length = r := by rw [intsD_len]; omega
      rw [lD] at hb' j
      exact rest _ ⟨d, ks', rs', st, bs', s7, hw, hb'.bd hw.bs (by omega), j.mono (by omega), rfl⟩
  rintro ρ ⟨d4, ks1, rs1, st1, bs1, s7, hw1, hb1, j4, rfl⟩
  refine seq_cut (fun ρ => ∃ (d : D) (ks' : List KD) (rs' : List RU) (st : Str) (bs' : List BA), WOk ks' rs' st bs' ∧ WBd ks' rs' bs' ∧ ρ = [.sl false true (.scr ns), dat (.int (0 + (i : Int))), own d, dat (ksD ks), dat (rsD rs), dat (.int (a : Nat)), own (wD ks' rs' st bs'), s7, s8]) ?rest2 fun rest => ?here2
  case here2 =>
    refine ⟨nd1 _, 700, d4, 6, rfl, j4, by decide, by decide, by omega, fun r d5 t5 r0 r1 j5 => ?_⟩
    refine ⟨rfl, rfl, ?_⟩
    rw [eqD_int]
    by_cases h0 : r = 0
    · rw [decide_eq_true h0]
      refine ⟨nd1 _, 701, d5, rfl, j5, by omega, fun ks2 rs2 st2 bs2 d6 h1 h2 j6 => ?_⟩
      exact rest _ ⟨d6, ks2, rs2, st2, bs2, h1, h2, rfl⟩
    · rw [decide_eq_false h0]
      exact rest _ ⟨d5, ks1, rs1, st1, bs1, hw1, hb1, rfl⟩
  rintro ρ ⟨d5, ks2, rs2, st2, bs2, hw, hb2, rfl⟩
  have ow := okRepr_W hw hb2
  refine ⟨ow, ?_⟩
  generalize hkept : (toP (wD ks2 rs2 st2 bs2)).shown = kept
  dsimp only [YP.put, List.set]
  refine seq_cut (fun ρ => ρ = [.sl false true (.scr ns), dat (.int (0 + (i : Int))), own d5, dat (ksD ks), dat (rsD rs), dat (.int (a : Nat)), dat (wD ks2 rs2 st2 bs2), s7, dat (.str kept)]) ?rest3 fun rest => ?here3
  case here3 =>
    refine ⟨List.nodup_nil, ks2, rs2, st2, bs2, rfl, hw, fun s => ⟨fun e => ?_, fun f e => ?_⟩⟩
    · dsimp only
      rw [wb_no (rs := [.val (wD ks2 rs2 st2 bs2)]) [s] rfl]
      refine ⟨List.nodup_nil, ks2, rs2, st2, bs2, rfl, hw, fun s => ⟨fun e2 => ?_, fun f e2 => ?_⟩⟩
      · dsimp only
        rw [wb_no (rs := [.val (wD ks2 rs2 st2 bs2)]) [s] rfl]
        refine ⟨rfl, rfl, ?_⟩
        refine ⟨ow, ?_⟩
        show (if (!decide ((toP (wD ks2 rs2 st2 bs2)).shown = kept)) = true then _ else _)
        rw [decide_eq_true hkept]
        exact rest _ rfl
      · rw [e] at e2; cases e2
    · dsimp only
      rw [wb_no (rs := [.val (wD ks2 rs2 st2 bs2)]) [s] rfl]
      refine ⟨List.nodup_nil, ks2, rs2, st2, bs2, rfl, hw, fun s => ⟨fun e2 => ?_, fun f2 e2 => ?_⟩⟩
      · rw [e] at e2; cases e2
      · rw [e] at e2; cases e2
        rw [wb_no (rs := [.val (wD ks2 rs2 st2 bs2)]) [s] rfl]
        have ok := fault_ok hw e
        refine ⟨ok.ok, ok.ok, ?_⟩
        rw [eqD_refl ok]
        refine ⟨ow, ?_⟩
        show (if (!decide ((toP (wD ks2 rs2 st2 bs2)).shown = kept)) = true then _ else _)
        rw [decide_eq_true hkept]
        exact rest _ rfl
  rintro ρ rfl
  obtain ⟨r0, tl, rfl⟩ : ∃ r0 tl, rs = r0 :: tl := by
    cases rs with
    | nil => have := gw.lo; cases this
    | cons x y => exact ⟨x, y, rfl⟩
  refine ⟨rfl, List.nodup_nil, ks, r0 :: tl, none, [], rfl, gw.kok, gw.rok, ⟨(fun _ h => nomatch h), Nat.zero_le _⟩, (fun _ h => nomatch h), fun e ss => ?_, fun f e ss => ?_⟩
  case refine_2 => rw [gw.f0] at e; cases e
  dsimp only
  rw [wb_no (rs := noneR [.val (ksD ks), .val (rsD (r0 :: tl))] []) ss rfl]
  refine ⟨_, rfl, rfl, List.nodup_nil, _, .str r0.head, rfl, rfl, fun s => ?_⟩
  dsimp only
  refine ⟨r0.d, (show L2.atI _ ((0 : Nat) : Int) = _ from atI_nat rfl), .str r0.head, (show L2.atI _ ((0 : Nat) : Int) = _ from atI_nat rfl), ?_⟩
  show (if (!decide (r0.head = r0.head)) = true then _ else _)
  rw [decide_eq_true rfl]
  exact ⟨_, _, _, _, _, _, _, _, rfl⟩
end
end K10
set_option maxRecDepth 100000
set_option maxHeartbeats 1000000
namespace K10
open PySem PySem.Spec PyProof.Rows L2 Yard YP
/-- a def of the text, as the top has left it -/
theorem df_mk {K : PySem.W.Frag} {h : Heap} {mg : Str → Option Value} {x : Str} {st : Stmt} {ps : List Str} {f : Addr} {od an : Option Addr} {sl : Array (Option Value)} {oc kV dc pm cd ct : Value} (X : K.In h) (G : h.Ns mainGlobals mg)
    (a : PySem.W.nsIn K mainGlobals x = some (some (.ref f))) (l : K.lookup f = some ⟨oc, od, .func (PySem.W.fnOf x x (defArgs st) (defBody st) (defScope st) .none kV dc pm an cd ct), sl⟩) (c : PySem.W.codeIn K cd x = true) (k : PySem.W.keepIn K (.ref f) = true)
    (b : ∀ (kV doc pm : Value) (an : Option Addr) (cdv ct : Value) (us : List Value), us.length = ps.length → bindArgs (PySem.W.fnOf x x (defArgs st) (defBody st) (defScope st) .none kV doc pm an cdv ct) ⟨us, []⟩ = pure (ps.zip us)) :
    Df K mg x st ps f (PySem.W.fnOf x x (defArgs st) (defBody st) (defScope st) .none kV dc pm an cd ct) :=
  have F := fun_mk (st := st) l c k
  ⟨F, F.binds b, PySem.W.mg_of X G a⟩
theorem exm_sub {K : PySem.W.Frag} {cls : Value} {S : Addr} {b : Bool} (h1 : PySem.W.subIn K (.ref S) (.type "BaseException") = some true) (h2 : PySem.W.isClsIn K S = true) (h3 : PySem.W.typeIn K (.ref S) = some (.type "type")) (h4 : PySem.W.subIn K cls (.ref S) = some b) :
    PySem.W.exmOne K cls (.ref S) = some b := by
  have e1 : (PySem.W.subIn K (.ref S) (.type "BaseException") == some true) = true := by rw [h1] <;> rfl
  have e2 : ((PySem.W.clsIn K S).isSome && PySem.W.typeIn K (.ref S) == some (.type "type")) = true := by
    have h2' : (PySem.W.clsIn K S).isSome = true := h2
    rw [h2', h3] <;> rfl
  show (if (PySem.W.subIn K (.ref S) (.type "BaseException") == some true) = true then (if ((PySem.W.clsIn K S).isSome && PySem.W.typeIn K (.ref S) == some (.type "type")) = true then PySem.W.subIn K cls (.ref S) else none) else none) = some b
  rw [if_pos e1, if_pos e2]
  exact h4
theorem kit_ve {K : PySem.W.Frag} {C : Addr} (h : PySem.W.subIn K (.ref C) (.type "ValueError") = some true) : PySem.W.kitOne K (.ref C) (.type "ValueError") = some true := by
  show (if (Value.ref C == Value.type "ValueError") = true then some true else (if PySem.W.kitMeta "ValueError" = true then PySem.W.subIn K (.ref C) (.type "ValueError") else none)) = some true
  rw [if_neg (by intro z; cases z), if_pos (by decide +kernel), h]
theorem all_mk {l : PySem.W.OpenLaw} {w : World} {K : PySem.W.Frag} {h : Heap} {mg : Str → Option Value} {fa : Addr} (X : K.In h) (G : h.Ns mainGlobals mg) (hfa : mg "law" = some (.ref fa))
    {f0 : Addr} {od0 an0 : Option Addr} {sl0 : Array (Option Value)} {oc0 kV0 dc0 pm0 cd0 ct0 : Value}
    {f1 : Addr} {od1 an1 : Option Addr} {sl1 : Array (Option Value)} {oc1 kV1 dc1 pm1 cd1 ct1 : Value}
    {f2 : Addr} {od2 an2 : Option Addr} {sl2 : Array (Option Value)} {oc2 kV2 dc2 pm2 cd2 ct2 : Value}
    {f3 : Addr} {od3 an3 : Option Addr} {sl3 : Array (Option Value)} {oc3 kV3 dc3 pm3 cd3 ct3 : Value}
    {f4 : Addr} {od4 an4 : Option Addr} {sl4 : Array (Option Value)} {oc4 kV4 dc4 pm4 cd4 ct4 : Value}
    {f5 : Addr} {od5 an5 : Option Addr} {sl5 : Array (Option Value)} {oc5 kV5 dc5 pm5 cd5 ct5 : Value}
    {f6 : Addr} {od6 an6 : Option Addr} {sl6 : Array (Option Value)} {oc6 kV6 dc6 pm6 cd6 ct6 : Value}
    {f7 : Addr} {od7 an7 : Option Addr} {sl7 : Array (Option Value)} {oc7 kV7 dc7 pm7 cd7 ct7 : Value}
    {f8 : Addr} {od8 an8 : Option Addr} {sl8 : Array (Option Value)} {oc8 kV8 dc8 pm8 cd8 ct8 : Value}
    {f9 : Addr} {od9 an9 : Option Addr} {sl9 : Array (Option Value)} {oc9 kV9 dc9 pm9 cd9 ct9 : Value}
    {f10 : Addr} {od10 an10 : Option Addr} {sl10 : Array (Option Value)} {oc10 kV10 dc10 pm10 cd10 ct10 : Value}
    {f11 : Addr} {od11 an11 : Option Addr} {sl11 : Array (Option Value)} {oc11 kV11 dc11 pm11 cd11 ct11 : Value}
    {f12 : Addr} {od12 an12 : Option Addr} {sl12 : Array (Option Value)} {oc12 kV12 dc12 pm12 cd12 ct12 : Value}
    {f13 : Addr} {od13 an13 : Option Addr} {sl13 : Array (Option Value)} {oc13 kV13 dc13 pm13 cd13 ct13 : Value}
    {f14 : Addr} {od14 an14 : Option Addr} {sl14 : Array (Option Value)} {oc14 kV14 dc14 pm14 cd14 ct14 : Value}
    {f15 : Addr} {od15 an15 : Option Addr} {sl15 : Array (Option Value)} {oc15 kV15 dc15 pm15 cd15 ct15 : Value}
    {f16 : Addr} {od16 an16 : Option Addr} {sl16 : Array (Option Value)} {oc16 kV16 dc16 pm16 cd16 ct16 : Value}
    {f17 : Addr} {od17 an17 : Option Addr} {sl17 : Array (Option Value)} {oc17 kV17 dc17 pm17 cd17 ct17 : Value}
    {f18 : Addr} {od18 an18 : Option Addr} {sl18 : Array (Option Value)} {oc18 kV18 dc18 pm18 cd18 ct18 : Value}
    {f19 : Addr} {od19 an19 : Option Addr} {sl19 : Array (Option Value)} {oc19 kV19 dc19 pm19 cd19 ct19 : Value}
    {f20 : Addr} {od20 an20 : Option Addr} {sl20 : Array (Option Value)} {oc20 kV20 dc20 pm20 cd20 ct20 : Value}
    {f21 : Addr} {od21 an21 : Option Addr} {sl21 : Array (Option Value)} {oc21 kV21 dc21 pm21 cd21 ct21 : Value}
    {f22 : Addr} {od22 an22 : Option Addr} {sl22 : Array (Option Value)} {oc22 kV22 dc22 pm22 cd22 ct22 : Value}
    {f23 : Addr} {od23 an23 : Option Addr} {sl23 : Array (Option Value)} {oc23 kV23 dc23 pm23 cd23 ct23 : Value}
    {f24 : Addr} {od24 an24 : Option Addr} {sl24 : Array (Option Value)} {oc24 kV24 dc24 pm24 cd24 ct24 : Value}
    {f25 : Addr} {od25 an25 : Option Addr} {sl25 : Array (Option Value)} {oc25 kV25 dc25 pm25 cd25 ct25 : Value}
    {f26 : Addr} {od26 an26 : Option Addr} {sl26 : Array (Option Value)} {oc26 kV26 dc26 pm26 cd26 ct26 : Value}
    {f27 : Addr} {od27 an27 : Option Addr} {sl27 : Array (Option Value)} {oc27 kV27 dc27 pm27 cd27 ct27 : Value}
    {f28 : Addr} {od28 an28 : Option Addr} {sl28 : Array (Option Value)} {oc28 kV28 dc28 pm28 cd28 ct28 : Value}
    {f29 : Addr} {od29 an29 : Option Addr} {sl29 : Array (Option Value)} {oc29 kV29 dc29 pm29 cd29 ct29 : Value}
    {f30 : Addr} {od30 an30 : Option Addr} {sl30 : Array (Option Value)} {oc30 kV30 dc30 pm30 cd30 ct30 : Value}
    {f31 : Addr} {od31 an31 : Option Addr} {sl31 : Array (Option Value)} {oc31 kV31 dc31 pm31 cd31 ct31 : Value}
    {f32 : Addr} {od32 an32 : Option Addr} {sl32 : Array (Option Value)} {oc32 kV32 dc32 pm32 cd32 ct32 : Value}
    {f33 : Addr} {od33 an33 : Option Addr} {sl33 : Array (Option Value)} {oc33 kV33 dc33 pm33 cd33 ct33 : Value}
    {c_YardError : Addr}
    {c_NoName : Addr}
    {c_NoGrammar : Addr}
    {c_NoLabel : Addr}
    {c_NoTree : Addr}
    {c_Barred : Addr}
    {c_TooMany : Addr}
    {c_NoText : Addr}
    {c_Grammar : Addr}
    {nm_NoGrammar qn_NoGrammar : Str} {N_NoGrammar : Addr} {bs_NoGrammar : List Value} {sn_NoGrammar : List Str} {su_NoGrammar : List Value} {ab_NoGrammar : Bool} {co_NoGrammar : Option Bool} {dd_NoGrammar : Option Addr} {m0_NoGrammar m1_NoGrammar m2_NoGrammar m3_NoGrammar m5_NoGrammar : Option Value}
    {fm0 : Addr} {odm0 anm0 : Option Addr} {slm0 : Array (Option Value)} {ocm0 kVm0 dcm0 pmm0 cdm0 ctm0 : Value}
    {fm1 : Addr} {odm1 anm1 : Option Addr} {slm1 : Array (Option Value)} {ocm1 dcm1 pmm1 cdm1 ctm1 : Value}
    {kDm1 : Addr}
    {T_Grammar_bars : Addr} {nT_Grammar_bars : Nat} {oT_Grammar_bars : Option Addr} {sT_Grammar_bars : Array (Option Value)}
    {fm2 : Addr} {odm2 anm2 : Option Addr} {slm2 : Array (Option Value)} {ocm2 kVm2 dcm2 pmm2 cdm2 ctm2 : Value}
    {t_LETTERS : Tok}
    {t_LONGEST : Tok}
    {a_KEPT_WORDS : Addr} {n_KEPT_WORDS : Nat} {t_KEPT_WORDS_0 t_KEPT_WORDS_1 t_KEPT_WORDS_2 t_KEPT_WORDS_3 t_KEPT_WORDS_4 : Tok} {sl_KEPT_WORDS : Array (Option Value)} {od_KEPT_WORDS : Option Addr}
    {t_MOST_KINDS : Tok}
    {t_MOST_SIGNS : Tok}
    {t_MOST_RULES : Tok}
    {t_MOST_ALTERNATIVES : Tok}
    {t_MOST_BARS : Tok}
    {t_MOST_SYMBOLS : Tok}
    (a0 : PySem.W.nsIn K mainGlobals "is_name" = some (some (.ref f0))) (l0 : K.lookup f0 = some ⟨oc0, od0, .func (PySem.W.fnOf "is_name" "is_name" (defArgs s_is_name) (defBody s_is_name) (defScope s_is_name) .none kV0 dc0 pm0 an0 cd0 ct0), sl0⟩) (c0 : PySem.W.codeIn K cd0 "is_name" = true) (k0 : PySem.W.keepIn K (.ref f0) = true)
    (a1 : PySem.W.nsIn K mainGlobals "how_many_signs" = some (some (.ref f1))) (l1 : K.lookup f1 = some ⟨oc1, od1, .func (PySem.W.fnOf "how_many_signs" "how_many_signs" (defArgs s_how_many_signs) (defBody s_how_many_signs) (defScope s_how_many_signs) .none kV1 dc1 pm1 an1 cd1 ct1), sl1⟩) (c1 : PySem.W.codeIn K cd1 "how_many_signs" = true) (k1 : PySem.W.keepIn K (.ref f1) = true)
    (a2 : PySem.W.nsIn K mainGlobals "spells_none" = some (some (.ref f2))) (l2 : K.lookup f2 = some ⟨oc2, od2, .func (PySem.W.fnOf "spells_none" "spells_none" (defArgs s_spells_none) (defBody s_spells_none) (defScope s_spells_none) .none kV2 dc2 pm2 an2 cd2 ct2), sl2⟩) (c2 : PySem.W.codeIn K cd2 "spells_none" = true) (k2 : PySem.W.keepIn K (.ref f2) = true)
    (a3 : PySem.W.nsIn K mainGlobals "need_few" = some (some (.ref f3))) (l3 : K.lookup f3 = some ⟨oc3, od3, .func (PySem.W.fnOf "need_few" "need_few" (defArgs s_need_few) (defBody s_need_few) (defScope s_need_few) .none kV3 dc3 pm3 an3 cd3 ct3), sl3⟩) (c3 : PySem.W.codeIn K cd3 "need_few" = true) (k3 : PySem.W.keepIn K (.ref f3) = true)
    (a4 : PySem.W.nsIn K mainGlobals "need_new_name" = some (some (.ref f4))) (l4 : K.lookup f4 = some ⟨oc4, od4, .func (PySem.W.fnOf "need_new_name" "need_new_name" (defArgs s_need_new_name) (defBody s_need_new_name) (defScope s_need_new_name) .none kV4 dc4 pm4 an4 cd4 ct4), sl4⟩) (c4 : PySem.W.codeIn K cd4 "need_new_name" = true) (k4 : PySem.W.keepIn K (.ref f4) = true)
    (a5 : PySem.W.nsIn K mainGlobals "need_kinds" = some (some (.ref f5))) (l5 : K.lookup f5 = some ⟨oc5, od5, .func (PySem.W.fnOf "need_kinds" "need_kinds" (defArgs s_need_kinds) (defBody s_need_kinds) (defScope s_need_kinds) .none kV5 dc5 pm5 an5 cd5 ct5), sl5⟩) (c5 : PySem.W.codeIn K cd5 "need_kinds" = true) (k5 : PySem.W.keepIn K (.ref f5) = true)
    (a6 : PySem.W.nsIn K mainGlobals "need_rules" = some (some (.ref f6))) (l6 : K.lookup f6 = some ⟨oc6, od6, .func (PySem.W.fnOf "need_rules" "need_rules" (defArgs s_need_rules) (defBody s_need_rules) (defScope s_need_rules) .none kV6 dc6 pm6 an6 cd6 ct6), sl6⟩) (c6 : PySem.W.codeIn K cd6 "need_rules" = true) (k6 : PySem.W.keepIn K (.ref f6) = true)
    (a7 : PySem.W.nsIn K mainGlobals "need_symbols" = some (some (.ref f7))) (l7 : K.lookup f7 = some ⟨oc7, od7, .func (PySem.W.fnOf "need_symbols" "need_symbols" (defArgs s_need_symbols) (defBody s_need_symbols) (defScope s_need_symbols) .none kV7 dc7 pm7 an7 cd7 ct7), sl7⟩) (c7 : PySem.W.codeIn K cd7 "need_symbols" = true) (k7 : PySem.W.keepIn K (.ref f7) = true)
    (a8 : PySem.W.nsIn K mainGlobals "need_bars" = some (some (.ref f8))) (l8 : K.lookup f8 = some ⟨oc8, od8, .func (PySem.W.fnOf "need_bars" "need_bars" (defArgs s_need_bars) (defBody s_need_bars) (defScope s_need_bars) .none kV8 dc8 pm8 an8 cd8 ct8), sl8⟩) (c8 : PySem.W.codeIn K cd8 "need_bars" = true) (k8 : PySem.W.keepIn K (.ref f8) = true)
    (a9 : PySem.W.nsIn K mainGlobals "_law_purse" = some (some (.ref f9))) (l9 : K.lookup f9 = some ⟨oc9, od9, .func (PySem.W.fnOf "_law_purse" "_law_purse" (defArgs s__law_purse) (defBody s__law_purse) (defScope s__law_purse) .none kV9 dc9 pm9 an9 cd9 ct9), sl9⟩) (c9 : PySem.W.codeIn K cd9 "_law_purse" = true) (k9 : PySem.W.keepIn K (.ref f9) = true)
    (a10 : PySem.W.nsIn K mainGlobals "_law_drawn" = some (some (.ref f10))) (l10 : K.lookup f10 = some ⟨oc10, od10, .func (PySem.W.fnOf "_law_drawn" "_law_drawn" (defArgs s__law_drawn) (defBody s__law_drawn) (defScope s__law_drawn) .none kV10 dc10 pm10 an10 cd10 ct10), sl10⟩) (c10 : PySem.W.codeIn K cd10 "_law_drawn" = true) (k10 : PySem.W.keepIn K (.ref f10) = true)
    (a11 : PySem.W.nsIn K mainGlobals "_law_all" = some (some (.ref f11))) (l11 : K.lookup f11 = some ⟨oc11, od11, .func (PySem.W.fnOf "_law_all" "_law_all" (defArgs s__law_all) (defBody s__law_all) (defScope s__law_all) .none kV11 dc11 pm11 an11 cd11 ct11), sl11⟩) (c11 : PySem.W.codeIn K cd11 "_law_all" = true) (k11 : PySem.W.keepIn K (.ref f11) = true)
    (a12 : PySem.W.nsIn K mainGlobals "_law_named" = some (some (.ref f12))) (l12 : K.lookup f12 = some ⟨oc12, od12, .func (PySem.W.fnOf "_law_named" "_law_named" (defArgs s__law_named) (defBody s__law_named) (defScope s__law_named) .none kV12 dc12 pm12 an12 cd12 ct12), sl12⟩) (c12 : PySem.W.codeIn K cd12 "_law_named" = true) (k12 : PySem.W.keepIn K (.ref f12) = true)
    (a13 : PySem.W.nsIn K mainGlobals "_law_pattern" = some (some (.ref f13))) (l13 : K.lookup f13 = some ⟨oc13, od13, .func (PySem.W.fnOf "_law_pattern" "_law_pattern" (defArgs s__law_pattern) (defBody s__law_pattern) (defScope s__law_pattern) .none kV13 dc13 pm13 an13 cd13 ct13), sl13⟩) (c13 : PySem.W.codeIn K cd13 "_law_pattern" = true) (k13 : PySem.W.keepIn K (.ref f13) = true)
    (a14 : PySem.W.nsIn K mainGlobals "_law_bare" = some (some (.ref f14))) (l14 : K.lookup f14 = some ⟨oc14, od14, .func (PySem.W.fnOf "_law_bare" "_law_bare" (defArgs s__law_bare) (defBody s__law_bare) (defScope s__law_bare) .none kV14 dc14 pm14 an14 cd14 ct14), sl14⟩) (c14 : PySem.W.codeIn K cd14 "_law_bare" = true) (k14 : PySem.W.keepIn K (.ref f14) = true)
    (a15 : PySem.W.nsIn K mainGlobals "_law_kinds" = some (some (.ref f15))) (l15 : K.lookup f15 = some ⟨oc15, od15, .func (PySem.W.fnOf "_law_kinds" "_law_kinds" (defArgs s__law_kinds) (defBody s__law_kinds) (defScope s__law_kinds) .none kV15 dc15 pm15 an15 cd15 ct15), sl15⟩) (c15 : PySem.W.codeIn K cd15 "_law_kinds" = true) (k15 : PySem.W.keepIn K (.ref f15) = true)
    (a16 : PySem.W.nsIn K mainGlobals "_law_alternatives" = some (some (.ref f16))) (l16 : K.lookup f16 = some ⟨oc16, od16, .func (PySem.W.fnOf "_law_alternatives" "_law_alternatives" (defArgs s__law_alternatives) (defBody s__law_alternatives) (defScope s__law_alternatives) .none kV16 dc16 pm16 an16 cd16 ct16), sl16⟩) (c16 : PySem.W.codeIn K cd16 "_law_alternatives" = true) (k16 : PySem.W.keepIn K (.ref f16) = true)
    (a17 : PySem.W.nsIn K mainGlobals "_law_world" = some (some (.ref f17))) (l17 : K.lookup f17 = some ⟨oc17, od17, .func (PySem.W.fnOf "_law_world" "_law_world" (defArgs s__law_world) (defBody s__law_world) (defScope s__law_world) .none kV17 dc17 pm17 an17 cd17 ct17), sl17⟩) (c17 : PySem.W.codeIn K cd17 "_law_world" = true) (k17 : PySem.W.keepIn K (.ref f17) = true)
    (a18 : PySem.W.nsIn K mainGlobals "_law_edges" = some (some (.ref f18))) (l18 : K.lookup f18 = some ⟨oc18, od18, .func (PySem.W.fnOf "_law_edges" "_law_edges" (defArgs s__law_edges) (defBody s__law_edges) (defScope s__law_edges) .none kV18 dc18 pm18 an18 cd18 ct18), sl18⟩) (c18 : PySem.W.codeIn K cd18 "_law_edges" = true) (k18 : PySem.W.keepIn K (.ref f18) = true)
    (a19 : PySem.W.nsIn K mainGlobals "_law_bars" = some (some (.ref f19))) (l19 : K.lookup f19 = some ⟨oc19, od19, .func (PySem.W.fnOf "_law_bars" "_law_bars" (defArgs s__law_bars) (defBody s__law_bars) (defScope s__law_bars) .none kV19 dc19 pm19 an19 cd19 ct19), sl19⟩) (c19 : PySem.W.codeIn K cd19 "_law_bars" = true) (k19 : PySem.W.keepIn K (.ref f19) = true)
    (a20 : PySem.W.nsIn K mainGlobals "_law_strange" = some (some (.ref f20))) (l20 : K.lookup f20 = some ⟨oc20, od20, .func (PySem.W.fnOf "_law_strange" "_law_strange" (defArgs s__law_strange) (defBody s__law_strange) (defScope s__law_strange) .none kV20 dc20 pm20 an20 cd20 ct20), sl20⟩) (c20 : PySem.W.codeIn K cd20 "_law_strange" = true) (k20 : PySem.W.keepIn K (.ref f20) = true)
    (a21 : PySem.W.nsIn K mainGlobals "_law_all_names" = some (some (.ref f21))) (l21 : K.lookup f21 = some ⟨oc21, od21, .func (PySem.W.fnOf "_law_all_names" "_law_all_names" (defArgs s__law_all_names) (defBody s__law_all_names) (defScope s__law_all_names) .none kV21 dc21 pm21 an21 cd21 ct21), sl21⟩) (c21 : PySem.W.codeIn K cd21 "_law_all_names" = true) (k21 : PySem.W.keepIn K (.ref f21) = true)
    (a22 : PySem.W.nsIn K mainGlobals "_law_kinds_bent" = some (some (.ref f22))) (l22 : K.lookup f22 = some ⟨oc22, od22, .func (PySem.W.fnOf "_law_kinds_bent" "_law_kinds_bent" (defArgs s__law_kinds_bent) (defBody s__law_kinds_bent) (defScope s__law_kinds_bent) .none kV22 dc22 pm22 an22 cd22 ct22), sl22⟩) (c22 : PySem.W.codeIn K cd22 "_law_kinds_bent" = true) (k22 : PySem.W.keepIn K (.ref f22) = true)
    (a23 : PySem.W.nsIn K mainGlobals "_law_rules_bent" = some (some (.ref f23))) (l23 : K.lookup f23 = some ⟨oc23, od23, .func (PySem.W.fnOf "_law_rules_bent" "_law_rules_bent" (defArgs s__law_rules_bent) (defBody s__law_rules_bent) (defScope s__law_rules_bent) .none kV23 dc23 pm23 an23 cd23 ct23), sl23⟩) (c23 : PySem.W.codeIn K cd23 "_law_rules_bent" = true) (k23 : PySem.W.keepIn K (.ref f23) = true)
    (a24 : PySem.W.nsIn K mainGlobals "_law_bars_bent" = some (some (.ref f24))) (l24 : K.lookup f24 = some ⟨oc24, od24, .func (PySem.W.fnOf "_law_bars_bent" "_law_bars_bent" (defArgs s__law_bars_bent) (defBody s__law_bars_bent) (defScope s__law_bars_bent) .none kV24 dc24 pm24 an24 cd24 ct24), sl24⟩) (c24 : PySem.W.codeIn K cd24 "_law_bars_bent" = true) (k24 : PySem.W.keepIn K (.ref f24) = true)
    (a25 : PySem.W.nsIn K mainGlobals "_law_bent" = some (some (.ref f25))) (l25 : K.lookup f25 = some ⟨oc25, od25, .func (PySem.W.fnOf "_law_bent" "_law_bent" (defArgs s__law_bent) (defBody s__law_bent) (defScope s__law_bent) .none kV25 dc25 pm25 an25 cd25 ct25), sl25⟩) (c25 : PySem.W.codeIn K cd25 "_law_bent" = true) (k25 : PySem.W.keepIn K (.ref f25) = true)
    (a26 : PySem.W.nsIn K mainGlobals "_law_at_bound" = some (some (.ref f26))) (l26 : K.lookup f26 = some ⟨oc26, od26, .func (PySem.W.fnOf "_law_at_bound" "_law_at_bound" (defArgs s__law_at_bound) (defBody s__law_at_bound) (defScope s__law_at_bound) .none kV26 dc26 pm26 an26 cd26 ct26), sl26⟩) (c26 : PySem.W.codeIn K cd26 "_law_at_bound" = true) (k26 : PySem.W.keepIn K (.ref f26) = true)
    (a27 : PySem.W.nsIn K mainGlobals "_law_signs" = some (some (.ref f27))) (l27 : K.lookup f27 = some ⟨oc27, od27, .func (PySem.W.fnOf "_law_signs" "_law_signs" (defArgs s__law_signs) (defBody s__law_signs) (defScope s__law_signs) .none kV27 dc27 pm27 an27 cd27 ct27), sl27⟩) (c27 : PySem.W.codeIn K cd27 "_law_signs" = true) (k27 : PySem.W.keepIn K (.ref f27) = true)
    (a28 : PySem.W.nsIn K mainGlobals "_law_none" = some (some (.ref f28))) (l28 : K.lookup f28 = some ⟨oc28, od28, .func (PySem.W.fnOf "_law_none" "_law_none" (defArgs s__law_none) (defBody s__law_none) (defScope s__law_none) .none kV28 dc28 pm28 an28 cd28 ct28), sl28⟩) (c28 : PySem.W.codeIn K cd28 "_law_none" = true) (k28 : PySem.W.keepIn K (.ref f28) = true)
    (a29 : PySem.W.nsIn K mainGlobals "_law_too_many" = some (some (.ref f29))) (l29 : K.lookup f29 = some ⟨oc29, od29, .func (PySem.W.fnOf "_law_too_many" "_law_too_many" (defArgs s__law_too_many) (defBody s__law_too_many) (defScope s__law_too_many) .none kV29 dc29 pm29 an29 cd29 ct29), sl29⟩) (c29 : PySem.W.codeIn K cd29 "_law_too_many" = true) (k29 : PySem.W.keepIn K (.ref f29) = true)
    (a30 : PySem.W.nsIn K mainGlobals "_law_name_due" = some (some (.ref f30))) (l30 : K.lookup f30 = some ⟨oc30, od30, .func (PySem.W.fnOf "_law_name_due" "_law_name_due" (defArgs s__law_name_due) (defBody s__law_name_due) (defScope s__law_name_due) .none kV30 dc30 pm30 an30 cd30 ct30), sl30⟩) (c30 : PySem.W.codeIn K cd30 "_law_name_due" = true) (k30 : PySem.W.keepIn K (.ref f30) = true)
    (a31 : PySem.W.nsIn K mainGlobals "_law_due" = some (some (.ref f31))) (l31 : K.lookup f31 = some ⟨oc31, od31, .func (PySem.W.fnOf "_law_due" "_law_due" (defArgs s__law_due) (defBody s__law_due) (defScope s__law_due) .none kV31 dc31 pm31 an31 cd31 ct31), sl31⟩) (c31 : PySem.W.codeIn K cd31 "_law_due" = true) (k31 : PySem.W.keepIn K (.ref f31) = true)
    (a32 : PySem.W.nsIn K mainGlobals "_law_told" = some (some (.ref f32))) (l32 : K.lookup f32 = some ⟨oc32, od32, .func (PySem.W.fnOf "_law_told" "_law_told" (defArgs s__law_told) (defBody s__law_told) (defScope s__law_told) .none kV32 dc32 pm32 an32 cd32 ct32), sl32⟩) (c32 : PySem.W.codeIn K cd32 "_law_told" = true) (k32 : PySem.W.keepIn K (.ref f32) = true)
    (a33 : PySem.W.nsIn K mainGlobals "law" = some (some (.ref f33))) (l33 : K.lookup f33 = some ⟨oc33, od33, .func (PySem.W.fnOf "law" "law" (defArgs s_law) (defBody s_law) (defScope s_law) .none kV33 dc33 pm33 an33 cd33 ct33), sl33⟩) (c33 : PySem.W.codeIn K cd33 "law" = true) (k33 : PySem.W.keepIn K (.ref f33) = true)
    (aC_YardError : PySem.W.nsIn K mainGlobals "YardError" = some (some (.ref c_YardError)))
    (aC_NoName : PySem.W.nsIn K mainGlobals "NoName" = some (some (.ref c_NoName)))
    (aC_NoGrammar : PySem.W.nsIn K mainGlobals "NoGrammar" = some (some (.ref c_NoGrammar)))
    (aC_NoLabel : PySem.W.nsIn K mainGlobals "NoLabel" = some (some (.ref c_NoLabel)))
    (aC_NoTree : PySem.W.nsIn K mainGlobals "NoTree" = some (some (.ref c_NoTree)))
    (aC_Barred : PySem.W.nsIn K mainGlobals "Barred" = some (some (.ref c_Barred)))
    (aC_TooMany : PySem.W.nsIn K mainGlobals "TooMany" = some (some (.ref c_TooMany)))
    (aC_NoText : PySem.W.nsIn K mainGlobals "NoText" = some (some (.ref c_NoText)))
    (aC_Grammar : PySem.W.nsIn K mainGlobals "Grammar" = some (some (.ref c_Grammar)))
    (ye_YardError : PySem.W.subIn K (.ref c_YardError) (.type "BaseException") = some true) (yc_YardError : PySem.W.isClsIn K c_YardError = true) (yt_YardError : PySem.W.typeIn K (.ref c_YardError) = some (.type "type"))
    (hn0 : PySem.W.specialIn K (.builtin "object.__class__") "__get__" = some (some (.builtin "getset_descriptor.__get__"))) (ht0 : PySem.W.takesIn K (.builtin "object.__class__") = some true)
    (xL_NoGrammar : K.lookup c_NoGrammar = some (excClassObj nm_NoGrammar qn_NoGrammar c_NoGrammar N_NoGrammar bs_NoGrammar [.ref c_YardError, .type "ValueError", .type "Exception", .type "BaseException", .type "object"] true sn_NoGrammar su_NoGrammar ab_NoGrammar co_NoGrammar dd_NoGrammar m0_NoGrammar m1_NoGrammar m2_NoGrammar m3_NoGrammar m5_NoGrammar "ValueError.__new__"))
    (sa_NoGrammar : PySem.W.findIn K (.ref c_NoGrammar) "__setattr__" = some (some (.builtin "object.__setattr__")))
    (ga_NoGrammar : PySem.W.findIn K (.ref c_NoGrammar) "__getattribute__" = some (some (.builtin "BaseException.__getattribute__")))
    (gg_NoGrammar : PySem.W.findIn K (.ref c_NoGrammar) "__getattr__" = some none)
    (xe_NoGrammar : PySem.W.subIn K (.ref c_NoGrammar) (.type "BaseException") = some true)
    (xt_NoGrammar : PySem.W.typeIn K (.ref c_NoGrammar) = some (.type "type"))
    (kC_NoGrammar : PySem.W.keepIn K (.ref c_NoGrammar) = true)
    (hd_NoGrammar : PySem.W.hasDictIn K c_NoGrammar = true)
    (cc_NoGrammar : PySem.W.findIn K (.ref c_NoGrammar) "__class__" = some (some (.builtin "object.__class__")))
    (mo_NoGrammar : PySem.W.mroIn K c_NoGrammar (.type "object") = some true)
    (sv_NoGrammar : PySem.W.subIn K (.ref c_NoGrammar) (.type "ValueError") = some true)
    (ss_NoGrammar : PySem.W.subIn K (.ref c_NoGrammar) (.ref c_YardError) = some true)
    (n_NoGrammar_what : PySem.W.findIn K (.ref c_NoGrammar) "what" = some none)
    (n_NoGrammar_name : PySem.W.findIn K (.ref c_NoGrammar) "name" = some none)
    (pg_Grammar : PySem.W.plainGet K c_Grammar Str.empty = true) (hd_Grammar : PySem.W.hasDictIn K c_Grammar = true) (po_Grammar : PySem.W.plainOver K c_Grammar = true) (sa_Grammar : PySem.W.findIn K (.ref c_Grammar) "__setattr__" = some (some (.builtin "object.__setattr__"))) (mk_Grammar : PySem.W.makesIn K c_Grammar = true) (kc_Grammar : PySem.W.keepIn K (.ref c_Grammar) = true)
    (n_Grammar__kinds : PySem.W.findIn K (.ref c_Grammar) "_kinds" = some none)
    (n_Grammar__rules : PySem.W.findIn K (.ref c_Grammar) "_rules" = some none)
    (n_Grammar__begin : PySem.W.findIn K (.ref c_Grammar) "_begin" = some none)
    (n_Grammar__bars : PySem.W.findIn K (.ref c_Grammar) "_bars" = some none)
    (n_Grammar__kind_names : PySem.W.findIn K (.ref c_Grammar) "_kind_names" = some none)
    (n_Grammar__labels : PySem.W.findIn K (.ref c_Grammar) "_labels" = some none)
    (n_Grammar__homes : PySem.W.findIn K (.ref c_Grammar) "_homes" = some none)
    (n_Grammar__rows : PySem.W.findIn K (.ref c_Grammar) "_rows" = some none)
    (yk_NoGrammar : PySem.W.isClsIn K c_NoGrammar = true) (yz_NoGrammar : PySem.W.subIn K (.ref c_NoGrammar) (.ref c_NoGrammar) = some true)
    (is_NoGrammar_Barred : PySem.W.kitOne K (.ref c_NoGrammar) (.ref c_Barred) = some false)
    (is_NoGrammar_NoLabel : PySem.W.kitOne K (.ref c_NoGrammar) (.ref c_NoLabel) = some false)
    (is_NoGrammar_NoName : PySem.W.kitOne K (.ref c_NoGrammar) (.ref c_NoName) = some false)
    (is_NoGrammar_NoText : PySem.W.kitOne K (.ref c_NoGrammar) (.ref c_NoText) = some false)
    (is_NoGrammar_NoTree : PySem.W.kitOne K (.ref c_NoGrammar) (.ref c_NoTree) = some false)
    (is_NoGrammar_TooMany : PySem.W.kitOne K (.ref c_NoGrammar) (.ref c_TooMany) = some false)
    (is_NoGrammar_YardError : PySem.W.kitOne K (.ref c_NoGrammar) (.ref c_YardError) = some true)
    (am0 : PySem.W.findIn K (.ref c_NoGrammar) "__init__" = some (some (.ref fm0))) (lm0 : K.lookup fm0 = some ⟨ocm0, odm0, .func (PySem.W.fnOf "__init__" "NoGrammar.__init__" (defArgs s_NoGrammar___init__) (defBody s_NoGrammar___init__) (defScope s_NoGrammar___init__) .none kVm0 dcm0 pmm0 anm0 cdm0 ctm0), slm0⟩) (cm0 : PySem.W.codeIn K cdm0 "NoGrammar.__init__" = true) (km0 : PySem.W.keepIn K (.ref fm0) = true)
    (im0 : PySem.W.typeIn K (.ref fm0) = some (.type "function"))
    (am1 : PySem.W.findIn K (.ref c_Grammar) "__init__" = some (some (.ref fm1))) (lm1 : K.lookup fm1 = some ⟨ocm1, odm1, .func (PySem.W.fnOf "__init__" "Grammar.__init__" (defArgs s_Grammar___init__) (defBody s_Grammar___init__) (defScope s_Grammar___init__) .none (.ref kDm1) dcm1 pmm1 anm1 cdm1 ctm1), slm1⟩) (cm1 : PySem.W.codeIn K cdm1 "Grammar.__init__" = true) (km1 : PySem.W.keepIn K (.ref fm1) = true)
    (kw_Grammar_begin : PySem.W.nsIn K kDm1 "begin" = some (some (.none)))
    (kw_Grammar_bars : PySem.W.nsIn K kDm1 "bars" = some (some (.ref T_Grammar_bars)))
    (lT_Grammar_bars : K.lookup T_Grammar_bars = some ⟨.type "tuple", oT_Grammar_bars, .seq #[] nT_Grammar_bars, sT_Grammar_bars⟩)
    (im1 : PySem.W.isFn K (.ref fm1) = true)
    (am2 : PySem.W.findIn K (.ref c_Grammar) "begin" = some (some (.ref fm2))) (lm2 : K.lookup fm2 = some ⟨ocm2, odm2, .func (PySem.W.fnOf "begin" "Grammar.begin" (defArgs s_Grammar_begin) (defBody s_Grammar_begin) (defScope s_Grammar_begin) .none kVm2 dcm2 pmm2 anm2 cdm2 ctm2), slm2⟩) (cm2 : PySem.W.codeIn K cdm2 "Grammar.begin" = true) (km2 : PySem.W.keepIn K (.ref fm2) = true)
    (im2 : PySem.W.isFn K (.ref fm2) = true)
    (g_LETTERS : PySem.W.nsIn K mainGlobals "LETTERS" = some (some (.str "abcdefghijklmnopqrstuvwxyz" t_LETTERS)))
    (g_LONGEST : PySem.W.nsIn K mainGlobals "LONGEST" = some (some (.int 8 t_LONGEST)))
    (g_KEPT_WORDS : PySem.W.nsIn K mainGlobals "KEPT_WORDS" = some (some (.ref a_KEPT_WORDS))) (lt_KEPT_WORDS : K.lookup a_KEPT_WORDS = some ⟨.type "tuple", od_KEPT_WORDS, .seq #[.str "word" t_KEPT_WORDS_0, .str "skip" t_KEPT_WORDS_1, .str "rule" t_KEPT_WORDS_2, .str "top" t_KEPT_WORDS_3, .str "bar" t_KEPT_WORDS_4] n_KEPT_WORDS, sl_KEPT_WORDS⟩)
    (g_MOST_KINDS : PySem.W.nsIn K mainGlobals "MOST_KINDS" = some (some (.int 14 t_MOST_KINDS)))
    (g_MOST_SIGNS : PySem.W.nsIn K mainGlobals "MOST_SIGNS" = some (some (.int 40 t_MOST_SIGNS)))
    (g_MOST_RULES : PySem.W.nsIn K mainGlobals "MOST_RULES" = some (some (.int 40 t_MOST_RULES)))
    (g_MOST_ALTERNATIVES : PySem.W.nsIn K mainGlobals "MOST_ALTERNATIVES" = some (some (.int 100 t_MOST_ALTERNATIVES)))
    (g_MOST_BARS : PySem.W.nsIn K mainGlobals "MOST_BARS" = some (some (.int 30 t_MOST_BARS)))
    (g_MOST_SYMBOLS : PySem.W.nsIn K mainGlobals "MOST_SYMBOLS" = some (some (.int 6 t_MOST_SYMBOLS)))
    (z_ValueError : PySem.W.nsIn K mainGlobals "ValueError" = some none)
    (z_all : PySem.W.nsIn K mainGlobals "all" = some none)
    (z_bool : PySem.W.nsIn K mainGlobals "bool" = some none)
    (z_dict : PySem.W.nsIn K mainGlobals "dict" = some none)
    (z_enumerate : PySem.W.nsIn K mainGlobals "enumerate" = some none)
    (z_int : PySem.W.nsIn K mainGlobals "int" = some none)
    (z_isinstance : PySem.W.nsIn K mainGlobals "isinstance" = some none)
    (z_len : PySem.W.nsIn K mainGlobals "len" = some none)
    (z_list : PySem.W.nsIn K mainGlobals "list" = some none)
    (z_max : PySem.W.nsIn K mainGlobals "max" = some none)
    (z_min : PySem.W.nsIn K mainGlobals "min" = some none)
    (z_range : PySem.W.nsIn K mainGlobals "range" = some none)
    (z_repr : PySem.W.nsIn K mainGlobals "repr" = some none)
    (z_set : PySem.W.nsIn K mainGlobals "set" = some none)
    (z_sorted : PySem.W.nsIn K mainGlobals "sorted" = some none)
    (z_str : PySem.W.nsIn K mainGlobals "str" = some none)
    (z_sum : PySem.W.nsIn K mainGlobals "sum" = some none)
    (z_tuple : PySem.W.nsIn K mainGlobals "tuple" = some none) :
    ∃ fd : FuncData, (∀ (s : Shared) (v : Value), BindsTo s fd ⟨[v], []⟩ [("script", v)]) ∧ ∀ base : Heap, K.In base → base.Ns mainGlobals mg → (∃ m, base.Ns sysModules m) → FnG l.prog w K mg base CX0 51 fa fd ["script"] (spLaw K) := by
  have e := hfa.symm.trans (PySem.W.mg_of X G a33)
  cases e
  have F := fun_mk (st := s_law) l33 c33 k33
  have D0 := df_mk (st := s_is_name) (ps := ["thing"]) X G a0 l0 c0 k0 fun _ _ _ _ _ _ us hl => match us, hl with | [_], _ => rfl
  have D1 := df_mk (st := s_how_many_signs) (ps := ["pattern"]) X G a1 l1 c1 k1 fun _ _ _ _ _ _ us hl => match us, hl with | [_], _ => rfl
  have D2 := df_mk (st := s_spells_none) (ps := ["pattern"]) X G a2 l2 c2 k2 fun _ _ _ _ _ _ us hl => match us, hl with | [_], _ => rfl
  have D3 := df_mk (st := s_need_few) (ps := ["kinds", "rules", "bars"]) X G a3 l3 c3 k3 fun _ _ _ _ _ _ us hl => match us, hl with | [_, _, _], _ => rfl
  have D4 := df_mk (st := s_need_new_name) (ps := ["name", "taken"]) X G a4 l4 c4 k4 fun _ _ _ _ _ _ us hl => match us, hl with | [_, _], _ => rfl
  have D5 := df_mk (st := s_need_kinds) (ps := ["kinds"]) X G a5 l5 c5 k5 fun _ _ _ _ _ _ us hl => match us, hl with | [_], _ => rfl
  have D6 := df_mk (st := s_need_rules) (ps := ["kinds", "rules"]) X G a6 l6 c6 k6 fun _ _ _ _ _ _ us hl => match us, hl with | [_, _], _ => rfl
  have D7 := df_mk (st := s_need_symbols) (ps := ["kinds", "rules"]) X G a7 l7 c7 k7 fun _ _ _ _ _ _ us hl => match us, hl with | [_, _], _ => rfl
  have D8 := df_mk (st := s_need_bars) (ps := ["bars", "rows", "labels"]) X G a8 l8 c8 k8 fun _ _ _ _ _ _ us hl => match us, hl with | [_, _, _], _ => rfl
  have D9 := df_mk (st := s__law_purse) (ps := ["script", "k"]) X G a9 l9 c9 k9 fun _ _ _ _ _ _ us hl => match us, hl with | [_, _], _ => rfl
  have D10 := df_mk (st := s__law_drawn) (ps := ["purse", "many"]) X G a10 l10 c10 k10 fun _ _ _ _ _ _ us hl => match us, hl with | [_, _], _ => rfl
  have D11 := df_mk (st := s__law_all) (ps := ["rules"]) X G a11 l11 c11 k11 fun _ _ _ _ _ _ us hl => match us, hl with | [_], _ => rfl
  have D12 := df_mk (st := s__law_named) (ps := ["purse", "many"]) X G a12 l12 c12 k12 fun _ _ _ _ _ _ us hl => match us, hl with | [_, _], _ => rfl
  have D13 := df_mk (st := s__law_pattern) (ps := ["purse", "deep"]) X G a13 l13 c13 k13 fun _ _ _ _ _ _ us hl => match us, hl with | [_, _], _ => rfl
  have D14 := df_mk (st := s__law_bare) (ps := ["pattern"]) X G a14 l14 c14 k14 fun _ _ _ _ _ _ us hl => match us, hl with | [_], _ => rfl
  have D15 := df_mk (st := s__law_kinds) (ps := ["purse", "some"]) X G a15 l15 c15 k15 fun _ _ _ _ _ _ us hl => match us, hl with | [_, _], _ => rfl
  have D16 := df_mk (st := s__law_alternatives) (ps := ["purse", "solid", "labels", "own", "later"]) X G a16 l16 c16 k16 fun _ _ _ _ _ _ us hl => match us, hl with | [_, _, _, _, _], _ => rfl
  have D17 := df_mk (st := s__law_world) (ps := ["purse"]) X G a17 l17 c17 k17 fun _ _ _ _ _ _ us hl => match us, hl with | [_], _ => rfl
  have D18 := df_mk (st := s__law_edges) (ps := ["rules"]) X G a18 l18 c18 k18 fun _ _ _ _ _ _ us hl => match us, hl with | [_], _ => rfl
  have D19 := df_mk (st := s__law_bars) (ps := ["purse", "rules", "most"]) X G a19 l19 c19 k19 fun _ _ _ _ _ _ us hl => match us, hl with | [_, _, _], _ => rfl
  have D20 := df_mk (st := s__law_strange) (ps := ["purse", "some"]) X G a20 l20 c20 k20 fun _ _ _ _ _ _ us hl => match us, hl with | [_, _], _ => rfl
  have D21 := df_mk (st := s__law_all_names) (ps := ["world"]) X G a21 l21 c21 k21 fun _ _ _ _ _ _ us hl => match us, hl with | [_], _ => rfl
  have D22 := df_mk (st := s__law_kinds_bent) (ps := ["purse", "world"]) X G a22 l22 c22 k22 fun _ _ _ _ _ _ us hl => match us, hl with | [_, _], _ => rfl
  have D23 := df_mk (st := s__law_rules_bent) (ps := ["purse", "world"]) X G a23 l23 c23 k23 fun _ _ _ _ _ _ us hl => match us, hl with | [_, _], _ => rfl
  have D24 := df_mk (st := s__law_bars_bent) (ps := ["purse", "world"]) X G a24 l24 c24 k24 fun _ _ _ _ _ _ us hl => match us, hl with | [_, _], _ => rfl
  have D25 := df_mk (st := s__law_bent) (ps := ["purse", "world"]) X G a25 l25 c25 k25 fun _ _ _ _ _ _ us hl => match us, hl with | [_, _], _ => rfl
  have D26 := df_mk (st := s__law_at_bound) (ps := ["purse"]) X G a26 l26 c26 k26 fun _ _ _ _ _ _ us hl => match us, hl with | [_], _ => rfl
  have D27 := df_mk (st := s__law_signs) (ps := ["pattern"]) X G a27 l27 c27 k27 fun _ _ _ _ _ _ us hl => match us, hl with | [_], _ => rfl
  have D28 := df_mk (st := s__law_none) (ps := ["text"]) X G a28 l28 c28 k28 fun _ _ _ _ _ _ us hl => match us, hl with | [_], _ => rfl
  have D29 := df_mk (st := s__law_too_many) (ps := ["world"]) X G a29 l29 c29 k29 fun _ _ _ _ _ _ us hl => match us, hl with | [_], _ => rfl
  have D30 := df_mk (st := s__law_name_due) (ps := ["kinds", "rules"]) X G a30 l30 c30 k30 fun _ _ _ _ _ _ us hl => match us, hl with | [_, _], _ => rfl
  have D31 := df_mk (st := s__law_due) (ps := ["world"]) X G a31 l31 c31 k31 fun _ _ _ _ _ _ us hl => match us, hl with | [_], _ => rfl
  have D32 := df_mk (st := s__law_told) (ps := ["world"]) X G a32 l32 c32 k32 fun _ _ _ _ _ _ us hl => match us, hl with | [_], _ => rfl
  have D33 := df_mk (st := s_law) (ps := ["script"]) X G a33 l33 c33 k33 fun _ _ _ _ _ _ us hl => match us, hl with | [_], _ => rfl
  have FM0 := fun_mk (st := s_NoGrammar___init__) lm0 cm0 km0
  have BM0 := FM0.binds (ps := ["self", "what", "name"]) fun _ _ _ _ _ _ us hl => match us, hl with | [_, _, _], _ => rfl
  have FM1 : FunD K "__init__" "Grammar.__init__" (defArgs s_Grammar___init__) (defBody s_Grammar___init__) (defScope s_Grammar___init__) [] [("begin", .non), ("bars", .ref T_Grammar_bars)] fm1 _ := ⟨⟨_, _, _, _, _, _, _, _, _, _, rfl, lm1, cm1, .inl ⟨rfl, rfl⟩, .inr ⟨_, rfl, fun q hq => by
    simp only [List.mem_cons, List.not_mem_nil, or_false] at hq
    rcases hq with rfl | rfl
    · exact ⟨_, kw_Grammar_begin, rfl⟩
    · exact ⟨_, kw_Grammar_bars, rfl⟩⟩⟩, km1⟩
  have FM2 := fun_mk (st := s_Grammar_begin) lm2 cm2 km2
  have BM2 := FM2.binds (ps := ["self"]) fun _ _ _ _ _ _ us hl => match us, hl with | [_], _ => rfl
  have T : Tx K w mg := {
    a_is_name := f0,
    f_is_name := _,
    d_is_name := D0,
    a_how_many_signs := f1,
    f_how_many_signs := _,
    d_how_many_signs := D1,
    a_spells_none := f2,
    f_spells_none := _,
    d_spells_none := D2,
    a_need_few := f3,
    f_need_few := _,
    d_need_few := D3,
    a_need_new_name := f4,
    f_need_new_name := _,
    d_need_new_name := D4,
    a_need_kinds := f5,
    f_need_kinds := _,
    d_need_kinds := D5,
    a_need_rules := f6,
    f_need_rules := _,
    d_need_rules := D6,
    a_need_symbols := f7,
    f_need_symbols := _,
    d_need_symbols := D7,
    a_need_bars := f8,
    f_need_bars := _,
    d_need_bars := D8,
    a__law_purse := f9,
    f__law_purse := _,
    d__law_purse := D9,
    a__law_drawn := f10,
    f__law_drawn := _,
    d__law_drawn := D10,
    a__law_all := f11,
    f__law_all := _,
    d__law_all := D11,
    a__law_named := f12,
    f__law_named := _,
    d__law_named := D12,
    a__law_pattern := f13,
    f__law_pattern := _,
    d__law_pattern := D13,
    a__law_bare := f14,
    f__law_bare := _,
    d__law_bare := D14,
    a__law_kinds := f15,
    f__law_kinds := _,
    d__law_kinds := D15,
    a__law_alternatives := f16,
    f__law_alternatives := _,
    d__law_alternatives := D16,
    a__law_world := f17,
    f__law_world := _,
    d__law_world := D17,
    a__law_edges := f18,
    f__law_edges := _,
    d__law_edges := D18,
    a__law_bars := f19,
    f__law_bars := _,
    d__law_bars := D19,
    a__law_strange := f20,
    f__law_strange := _,
    d__law_strange := D20,
    a__law_all_names := f21,
    f__law_all_names := _,
    d__law_all_names := D21,
    a__law_kinds_bent := f22,
    f__law_kinds_bent := _,
    d__law_kinds_bent := D22,
    a__law_rules_bent := f23,
    f__law_rules_bent := _,
    d__law_rules_bent := D23,
    a__law_bars_bent := f24,
    f__law_bars_bent := _,
    d__law_bars_bent := D24,
    a__law_bent := f25,
    f__law_bent := _,
    d__law_bent := D25,
    a__law_at_bound := f26,
    f__law_at_bound := _,
    d__law_at_bound := D26,
    a__law_signs := f27,
    f__law_signs := _,
    d__law_signs := D27,
    a__law_none := f28,
    f__law_none := _,
    d__law_none := D28,
    a__law_too_many := f29,
    f__law_too_many := _,
    d__law_too_many := D29,
    a__law_name_due := f30,
    f__law_name_due := _,
    d__law_name_due := D30,
    a__law_due := f31,
    f__law_due := _,
    d__law_due := D31,
    a__law_told := f32,
    f__law_told := _,
    d__law_told := D32,
    a_law := fa,
    f_law := _,
    d_law := D33,
    c_YardError := c_YardError,
    g_YardError := PySem.W.mg_of X G aC_YardError,
    c_NoName := c_NoName,
    g_NoName := PySem.W.mg_of X G aC_NoName,
    c_NoGrammar := c_NoGrammar,
    g_NoGrammar := PySem.W.mg_of X G aC_NoGrammar,
    c_NoLabel := c_NoLabel,
    g_NoLabel := PySem.W.mg_of X G aC_NoLabel,
    c_NoTree := c_NoTree,
    g_NoTree := PySem.W.mg_of X G aC_NoTree,
    c_Barred := c_Barred,
    g_Barred := PySem.W.mg_of X G aC_Barred,
    c_TooMany := c_TooMany,
    g_TooMany := PySem.W.mg_of X G aC_TooMany,
    c_NoText := c_NoText,
    g_NoText := PySem.W.mg_of X G aC_NoText,
    c_Grammar := c_Grammar,
    g_Grammar := PySem.W.mg_of X G aC_Grammar,
    x_NoGrammar := ⟨PySem.W.mg_of X G aC_NoGrammar, ⟨⟨nm_NoGrammar, qn_NoGrammar, N_NoGrammar, bs_NoGrammar, _, sn_NoGrammar, su_NoGrammar, ab_NoGrammar, co_NoGrammar, dd_NoGrammar, m0_NoGrammar, m1_NoGrammar, m2_NoGrammar, m3_NoGrammar, m5_NoGrammar, xL_NoGrammar, rfl⟩, sa_NoGrammar, xe_NoGrammar, xt_NoGrammar, kC_NoGrammar⟩, ⟨ga_NoGrammar, gg_NoGrammar, xe_NoGrammar, hd_NoGrammar⟩, ⟨ga_NoGrammar, gg_NoGrammar, xe_NoGrammar, hd_NoGrammar, cc_NoGrammar, hn0, ht0, mo_NoGrammar⟩⟩,
    s_NoGrammar := exm_sub ye_YardError yc_YardError yt_YardError ss_NoGrammar,
    v_NoGrammar := kit_ve sv_NoGrammar,
    n_NoGrammar_what := n_NoGrammar_what,
    n_NoGrammar_name := n_NoGrammar_name,
    m_NoGrammar := exm_sub xe_NoGrammar yk_NoGrammar xt_NoGrammar yz_NoGrammar,
    i_NoGrammar_Barred := is_NoGrammar_Barred,
    i_NoGrammar_NoLabel := is_NoGrammar_NoLabel,
    i_NoGrammar_NoName := is_NoGrammar_NoName,
    i_NoGrammar_NoText := is_NoGrammar_NoText,
    i_NoGrammar_NoTree := is_NoGrammar_NoTree,
    i_NoGrammar_TooMany := is_NoGrammar_TooMany,
    i_NoGrammar_YardError := is_NoGrammar_YardError,
    a_NoGrammar___init__ := fm0,
    f_NoGrammar___init__ := _,
    d_NoGrammar___init__ := FM0,
    b_NoGrammar___init__ := BM0,
    k_NoGrammar___init__ := am0,
    t_NoGrammar___init__ := im0,
    a_Grammar___init__ := fm1,
    f_Grammar___init__ := _,
    d_Grammar___init__ := FM1,
    k_Grammar___init__ := ⟨mk_Grammar, am1, im1, kc_Grammar⟩,
    T_Grammar_bars := T_Grammar_bars,
    e_Grammar_bars := fun H => .inr ⟨_, _, _, lT_Grammar_bars, rfl, rfl, by show 0 ≤ sizeLine; decide, .nil⟩,
    a_Grammar_begin := fm2,
    f_Grammar_begin := _,
    d_Grammar_begin := ⟨FM2, BM2, ⟨am2, im2, km2⟩⟩,
    cl_Grammar := ⟨pg_Grammar, hd_Grammar, po_Grammar, sa_Grammar⟩,
    n_Grammar__kinds := n_Grammar__kinds,
    n_Grammar__rules := n_Grammar__rules,
    n_Grammar__begin := n_Grammar__begin,
    n_Grammar__bars := n_Grammar__bars,
    n_Grammar__kind_names := n_Grammar__kind_names,
    n_Grammar__labels := n_Grammar__labels,
    n_Grammar__homes := n_Grammar__homes,
    n_Grammar__rows := n_Grammar__rows,
    t_LETTERS := t_LETTERS,
    g_LETTERS := PySem.W.mg_of X G g_LETTERS,
    t_LONGEST := t_LONGEST,
    g_LONGEST := PySem.W.mg_of X G g_LONGEST,
    a_KEPT_WORDS := a_KEPT_WORDS,
    g_KEPT_WORDS := PySem.W.mg_of X G g_KEPT_WORDS,
    k_KEPT_WORDS := fun H => .inr ⟨_, _, _, lt_KEPT_WORDS, rfl, rfl, by show 5 ≤ sizeLine; decide, (.cons ⟨_, rfl⟩ (.cons ⟨_, rfl⟩ (.cons ⟨_, rfl⟩ (.cons ⟨_, rfl⟩ (.cons ⟨_, rfl⟩ .nil)))))⟩,
    t_MOST_KINDS := t_MOST_KINDS,
    g_MOST_KINDS := PySem.W.mg_of X G g_MOST_KINDS,
    t_MOST_SIGNS := t_MOST_SIGNS,
    g_MOST_SIGNS := PySem.W.mg_of X G g_MOST_SIGNS,
    t_MOST_RULES := t_MOST_RULES,
    g_MOST_RULES := PySem.W.mg_of X G g_MOST_RULES,
    t_MOST_ALTERNATIVES := t_MOST_ALTERNATIVES,
    g_MOST_ALTERNATIVES := PySem.W.mg_of X G g_MOST_ALTERNATIVES,
    t_MOST_BARS := t_MOST_BARS,
    g_MOST_BARS := PySem.W.mg_of X G g_MOST_BARS,
    t_MOST_SYMBOLS := t_MOST_SYMBOLS,
    g_MOST_SYMBOLS := PySem.W.mg_of X G g_MOST_SYMBOLS,
    z_ValueError := PySem.W.mg_none_of X G z_ValueError,
    z_all := PySem.W.mg_none_of X G z_all,
    z_bool := PySem.W.mg_none_of X G z_bool,
    z_dict := PySem.W.mg_none_of X G z_dict,
    z_enumerate := PySem.W.mg_none_of X G z_enumerate,
    z_int := PySem.W.mg_none_of X G z_int,
    z_isinstance := PySem.W.mg_none_of X G z_isinstance,
    z_len := PySem.W.mg_none_of X G z_len,
    z_list := PySem.W.mg_none_of X G z_list,
    z_max := PySem.W.mg_none_of X G z_max,
    z_min := PySem.W.mg_none_of X G z_min,
    z_range := PySem.W.mg_none_of X G z_range,
    z_repr := PySem.W.mg_none_of X G z_repr,
    z_set := PySem.W.mg_none_of X G z_set,
    z_sorted := PySem.W.mg_none_of X G z_sorted,
    z_str := PySem.W.mg_none_of X G z_str,
    z_sum := PySem.W.mg_none_of X G z_sum,
    z_tuple := PySem.W.mg_none_of X G z_tuple }
  exact ⟨_, fun s v => .of_eq rfl, fun base _ _ hs => law_G (ok_law F T hs)⟩
end K10
open PySem PySem.W PyProof.Rows
set_option maxHeartbeats 0 in
theorem PySem.Challenge.cw_tongueyard_k10_grammars_refused_holds : PySem.Challenge.rw_tongueyard_k10_grammars_refused.Holds := by
  w_on; o_law; k_head; (case hw => w_witness2)
  k_fill
  refine Yard.walk_G (l := PySem.Challenge.rw_tongueyard_k10_grammars_refused) (n := 63) (k := 51) (x := "script") (sp := fun K => YP.spLaw K) rfl (by decide) rfl ⟨rfl, by decide, by decide⟩ rfl (fun w h Y => PySem.W.kIn_of Y) ?F (fun _ _ a ns hl _ hS => ⟨a, ns, rfl, hS, hl, fun _ => rfl⟩)
  case F =>
    intro w mg fa h KX G hmg
    refine' K10.all_mk KX G hmg ?a0 ?l0 ?c0 ?k0 ?a1 ?l1 ?c1 ?k1 ?a2 ?l2 ?c2 ?k2 ?a3 ?l3 ?c3 ?k3 ?a4 ?l4 ?c4 ?k4 ?a5 ?l5 ?c5 ?k5 ?a6 ?l6 ?c6 ?k6 ?a7 ?l7 ?c7 ?k7 ?a8 ?l8 ?c8 ?k8 ?a9 ?l9 ?c9 ?k9 ?a10 ?l10 ?c10 ?k10 ?a11 ?l11 ?c11 ?k11 ?a12 ?l12 ?c12 ?k12 ?a13 ?l13 ?c13 ?k13 ?a14 ?l14 ?c14 ?k14 ?a15 ?l15 ?c15 ?k15 ?a16 ?l16 ?c16 ?k16 ?a17 ?l17 ?c17 ?k17 ?a18 ?l18 ?c18 ?k18 ?a19 ?l19 ?c19 ?k19 ?a20 ?l20 ?c20 ?k20 ?a21 ?l21 ?c21 ?k21 ?a22 ?l22 ?c22 ?k22 ?a23 ?l23 ?c23 ?k23 ?a24 ?l24 ?c24 ?k24 ?a25 ?l25 ?c25 ?k25 ?a26 ?l26 ?c26 ?k26 ?a27 ?l27 ?c27 ?k27 ?a28 ?l28 ?c28 ?k28 ?a29 ?l29 ?c29 ?k29 ?a30 ?l30 ?c30 ?k30 ?a31 ?l31 ?c31 ?k31 ?a32 ?l32 ?c32 ?k32 ?a33 ?l33 ?c33 ?k33 ?aC_YardError ?aC_NoName ?aC_NoGrammar ?aC_NoLabel ?aC_NoTree ?aC_Barred ?aC_TooMany ?aC_NoText ?aC_Grammar ?ye_YardError ?yc_YardError ?yt_YardError ?hn0 ?ht0 ?xL_NoGrammar ?sa_NoGrammar ?ga_NoGrammar ?gg_NoGrammar ?xe_NoGrammar ?xt_NoGrammar ?kC_NoGrammar ?hd_NoGrammar ?cc_NoGrammar ?mo_NoGrammar ?sv_NoGrammar ?ss_NoGrammar ?n_NoGrammar_what ?n_NoGrammar_name ?pg_Grammar ?hd_Grammar ?po_Grammar ?sa_Grammar ?mk_Grammar ?kc_Grammar ?n_Grammar__kinds ?n_Grammar__rules ?n_Grammar__begin ?n_Grammar__bars ?n_Grammar__kind_names ?n_Grammar__labels ?n_Grammar__homes ?n_Grammar__rows ?yk_NoGrammar ?yz_NoGrammar ?is_NoGrammar_Barred ?is_NoGrammar_NoLabel ?is_NoGrammar_NoName ?is_NoGrammar_NoText ?is_NoGrammar_NoTree ?is_NoGrammar_TooMany ?is_NoGrammar_YardError ?am0 ?lm0 ?cm0 ?km0 ?im0 ?am1 ?lm1 ?cm1 ?km1 ?kw_Grammar_begin ?kw_Grammar_bars ?lT_Grammar_bars ?im1 ?am2 ?lm2 ?cm2 ?km2 ?im2 ?g_LETTERS ?g_LONGEST ?g_KEPT_WORDS ?lt_KEPT_WORDS ?g_MOST_KINDS ?g_MOST_SIGNS ?g_MOST_RULES ?g_MOST_ALTERNATIVES ?g_MOST_BARS ?g_MOST_SYMBOLS ?z_ValueError ?z_all ?z_bool ?z_dict ?z_enumerate ?z_int ?z_isinstance ?z_len ?z_list ?z_max ?z_min ?z_range ?z_repr ?z_set ?z_sorted ?z_str ?z_sum ?z_tuple
    (case a0 => first | k_is | rfl)
    (case l0 => first | k_is | rfl)
    (case c0 => first | k_is | rfl)
    (case k0 => first | k_is | rfl)
    (case a1 => first | k_is | rfl)
    (case l1 => first | k_is | rfl)
    (case c1 => first | k_is | rfl)
    (case k1 => first | k_is | rfl)
    (case a2 => first | k_is | rfl)
    (case l2 => first | k_is | rfl)
    (case c2 => first | k_is | rfl)
    (case k2 => first | k_is | rfl)
    (case a3 => first | k_is | rfl)
    (case l3 => first | k_is | rfl)
    (case c3 => first | k_is | rfl)
    (case k3 => first | k_is | rfl)
    (case a4 => first | k_is | rfl)
    (case l4 => first | k_is | rfl)
    (case c4 => first | k_is | rfl)
    (case k4 => first | k_is | rfl)
    (case a5 => first | k_is | rfl)
    (case l5 => first | k_is | rfl)
    (case c5 => first | k_is | rfl)
    (case k5 => first | k_is | rfl)
    (case a6 => first | k_is | rfl)
    (case l6 => first | k_is | rfl)
    (case c6 => first | k_is | rfl)
    (case k6 => first | k_is | rfl)
    (case a7 => first | k_is | rfl)
    (case l7 => first | k_is | rfl)
    (case c7 => first | k_is | rfl)
    (case k7 => first | k_is | rfl)
    (case a8 => first | k_is | rfl)
    (case l8 => first | k_is | rfl)
    (case c8 => first | k_is | rfl)
    (case k8 => first | k_is | rfl)
    (case a9 => first | k_is | rfl)
    (case l9 => first | k_is | rfl)
    (case c9 => first | k_is | rfl)
    (case k9 => first | k_is | rfl)
    (case a10 => first | k_is | rfl)
    (case l10 => first | k_is | rfl)
    (case c10 => first | k_is | rfl)
    (case k10 => first | k_is | rfl)
    (case a11 => first | k_is | rfl)
    (case l11 => first | k_is | rfl)
    (case c11 => first | k_is | rfl)
    (case k11 => first | k_is | rfl)
    (case a12 => first | k_is | rfl)
    (case l12 => first | k_is | rfl)
    (case c12 => first | k_is | rfl)
    (case k12 => first | k_is | rfl)
    (case a13 => first | k_is | rfl)
    (case l13 => first | k_is | rfl)
    (case c13 => first | k_is | rfl)
    (case k13 => first | k_is | rfl)
    (case a14 => first | k_is | rfl)
    (case l14 => first | k_is | rfl)
    (case c14 => first | k_is | rfl)
    (case k14 => first | k_is | rfl)
    (case a15 => first | k_is | rfl)
    (case l15 => first | k_is | rfl)
    (case c15 => first | k_is | rfl)
    (case k15 => first | k_is | rfl)
    (case a16 => first | k_is | rfl)
    (case l16 => first | k_is | rfl)
    (case c16 => first | k_is | rfl)
    (case k16 => first | k_is | rfl)
    (case a17 => first | k_is | rfl)
    (case l17 => first | k_is | rfl)
    (case c17 => first | k_is | rfl)
    (case k17 => first | k_is | rfl)
    (case a18 => first | k_is | rfl)
    (case l18 => first | k_is | rfl)
    (case c18 => first | k_is | rfl)
    (case k18 => first | k_is | rfl)
    (case a19 => first | k_is | rfl)
    (case l19 => first | k_is | rfl)
    (case c19 => first | k_is | rfl)
    (case k19 => first | k_is | rfl)
    (case a20 => first | k_is | rfl)
    (case l20 => first | k_is | rfl)
    (case c20 => first | k_is | rfl)
    (case k20 => first | k_is | rfl)
    (case a21 => first | k_is | rfl)
    (case l21 => first | k_is | rfl)
    (case c21 => first | k_is | rfl)
    (case k21 => first | k_is | rfl)
    (case a22 => first | k_is | rfl)
    (case l22 => first | k_is | rfl)
    (case c22 => first | k_is | rfl)
    (case k22 => first | k_is | rfl)
    (case a23 => first | k_is | rfl)
    (case l23 => first | k_is | rfl)
    (case c23 => first | k_is | rfl)
    (case k23 => first | k_is | rfl)
    (case a24 => first | k_is | rfl)
    (case l24 => first | k_is | rfl)
    (case c24 => first | k_is | rfl)
    (case k24 => first | k_is | rfl)
    (case a25 => first | k_is | rfl)
    (case l25 => first | k_is | rfl)
    (case c25 => first | k_is | rfl)
    (case k25 => first | k_is | rfl)
    (case a26 => first | k_is | rfl)
    (case l26 => first | k_is | rfl)
    (case c26 => first | k_is | rfl)
    (case k26 => first | k_is | rfl)
    (case a27 => first | k_is | rfl)
    (case l27 => first | k_is | rfl)
    (case c27 => first | k_is | rfl)
    (case k27 => first | k_is | rfl)
    (case a28 => first | k_is | rfl)
    (case l28 => first | k_is | rfl)
    (case c28 => first | k_is | rfl)
    (case k28 => first | k_is | rfl)
    (case a29 => first | k_is | rfl)
    (case l29 => first | k_is | rfl)
    (case c29 => first | k_is | rfl)
    (case k29 => first | k_is | rfl)
    (case a30 => first | k_is | rfl)
    (case l30 => first | k_is | rfl)
    (case c30 => first | k_is | rfl)
    (case k30 => first | k_is | rfl)
    (case a31 => first | k_is | rfl)
    (case l31 => first | k_is | rfl)
    (case c31 => first | k_is | rfl)
    (case k31 => first | k_is | rfl)
    (case a32 => first | k_is | rfl)
    (case l32 => first | k_is | rfl)
    (case c32 => first | k_is | rfl)
    (case k32 => first | k_is | rfl)
    (case a33 => first | k_is | rfl)
    (case l33 => first | k_is | rfl)
    (case c33 => first | k_is | rfl)
    (case k33 => first | k_is | rfl)
    (case aC_YardError => first | k_is | rfl)
    (case aC_NoName => first | k_is | rfl)
    (case aC_NoGrammar => first | k_is | rfl)
    (case aC_NoLabel => first | k_is | rfl)
    (case aC_NoTree => first | k_is | rfl)
    (case aC_Barred => first | k_is | rfl)
    (case aC_TooMany => first | k_is | rfl)
    (case aC_NoText => first | k_is | rfl)
    (case aC_Grammar => first | k_is | rfl)
    (case ye_YardError => first | k_is | rfl)
    (case yc_YardError => first | k_is | rfl)
    (case yt_YardError => first | k_is | rfl)
    (case hn0 => first | k_is | rfl)
    (case ht0 => first | k_is | rfl)
    (case xL_NoGrammar => first | k_is | rfl)
    (case sa_NoGrammar => first | k_is | rfl)
    (case ga_NoGrammar => first | k_is | rfl)
    (case gg_NoGrammar => first | k_is | rfl)
    (case xe_NoGrammar => first | k_is | rfl)
    (case xt_NoGrammar => first | k_is | rfl)
    (case kC_NoGrammar => first | k_is | rfl)
    (case hd_NoGrammar => first | k_is | rfl)
    (case cc_NoGrammar => first | k_is | rfl)
    (case mo_NoGrammar => first | k_is | rfl)
    (case sv_NoGrammar => first | k_is | rfl)
    (case ss_NoGrammar => first | k_is | rfl)
    (case n_NoGrammar_what => first | k_is | rfl)
    (case n_NoGrammar_name => first | k_is | rfl)
    (case pg_Grammar => first | k_is | rfl)
    (case hd_Grammar => first | k_is | rfl)
    (case po_Grammar => first | k_is | rfl)
    (case sa_Grammar => first | k_is | rfl)
    (case mk_Grammar => first | k_is | rfl)
    (case kc_Grammar => first | k_is | rfl)
    (case n_Grammar__kinds => first | k_is | rfl)
    (case n_Grammar__rules => first | k_is | rfl)
    (case n_Grammar__begin => first | k_is | rfl)
    (case n_Grammar__bars => first | k_is | rfl)
    (case n_Grammar__kind_names => first | k_is | rfl)
    (case n_Grammar__labels => first | k_is | rfl)
    (case n_Grammar__homes => first | k_is | rfl)
    (case n_Grammar__rows => first | k_is | rfl)
    (case yk_NoGrammar => first | k_is | rfl)
    (case yz_NoGrammar => first | k_is | rfl)
    (case is_NoGrammar_Barred => first | k_is | rfl)
    (case is_NoGrammar_NoLabel => first | k_is | rfl)
    (case is_NoGrammar_NoName => first | k_is | rfl)
    (case is_NoGrammar_NoText => first | k_is | rfl)
    (case is_NoGrammar_NoTree => first | k_is | rfl)
    (case is_NoGrammar_TooMany => first | k_is | rfl)
    (case is_NoGrammar_YardError => first | k_is | rfl)
    (case am0 => first | k_is | rfl)
    (case lm0 => first | k_is | rfl)
    (case cm0 => first | k_is | rfl)
    (case km0 => first | k_is | rfl)
    (case im0 => first | k_is | rfl)
    (case am1 => first | k_is | rfl)
    (case lm1 => first | k_is | rfl)
    (case cm1 => first | k_is | rfl)
    (case km1 => first | k_is | rfl)
    (case kw_Grammar_begin => first | k_is | rfl)
    (case kw_Grammar_bars => first | k_is | rfl)
    (case lT_Grammar_bars => first | k_is | rfl)
    (case im1 => first | k_is | rfl)
    (case am2 => first | k_is | rfl)
    (case lm2 => first | k_is | rfl)
    (case cm2 => first | k_is | rfl)
    (case km2 => first | k_is | rfl)
    (case im2 => first | k_is | rfl)
    (case g_LETTERS => first | k_is | rfl)
    (case g_LONGEST => first | k_is | rfl)
    (case g_KEPT_WORDS => first | k_is | rfl)
    (case lt_KEPT_WORDS => first | k_is | rfl)
    (case g_MOST_KINDS => first | k_is | rfl)
    (case g_MOST_SIGNS => first | k_is | rfl)
    (case g_MOST_RULES => first | k_is | rfl)
    (case g_MOST_ALTERNATIVES => first | k_is | rfl)
    (case g_MOST_BARS => first | k_is | rfl)
    (case g_MOST_SYMBOLS => first | k_is | rfl)
    (case z_ValueError => first | k_is | rfl)
    (case z_all => first | k_is | rfl)
    (case z_bool => first | k_is | rfl)
    (case z_dict => first | k_is | rfl)
    (case z_enumerate => first | k_is | rfl)
    (case z_int => first | k_is | rfl)
    (case z_isinstance => first | k_is | rfl)
    (case z_len => first | k_is | rfl)
    (case z_list => first | k_is | rfl)
    (case z_max => first | k_is | rfl)
    (case z_min => first | k_is | rfl)
    (case z_range => first | k_is | rfl)
    (case z_repr => first | k_is | rfl)
    (case z_set => first | k_is | rfl)
    (case z_sorted => first | k_is | rfl)
    (case z_str => first | k_is | rfl)
    (case z_sum => first | k_is | rfl)
    (case z_tuple => first | k_is | rfl)
