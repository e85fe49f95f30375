import PyProof.Rows.All
import Wide.All
import OpenK.AllK
import Wide.FinOn
import HandS.Base
import HandS.Call
import HandS.List
import HandS.Ends
import HandS.Words
import PyProof.ReprRoads
import HandS.Dict
import HandS.Comp
import HandS.Text
import HandS.Iter
import PyProof.ReprLen
import PyProof.CallStr
import PyProof.CallFns
import HandS.Set
import HandS.SetFor
import HandS.SetTxt0
import HandS.Strs
import HandS.TupSets
import HandS.Style
import HandS.TupAny
import HandS.IsInst
import HandS.More
import HandS.Wide
import PyProof.Rows.RuleB_pow
import PyProof.NeKinds
import HandS.ForMost
import HandS.Walk
import PySem.PyData
import PyProof.Claim2
import PySem.Challenge.RW_tongueyard_k00_which_are_patterns
set_option Elab.async false
set_option linter.all false
set_option maxRecDepth 100000
/-! The yard's own layer, part 1: promises of defs at places where nothing is being shown (no repr under way). -/
namespace Yard
open PySem PySem.Spec PyProof.Rows L2

/-- as the layer's promise, but only where no repr is under way -/
structure FnG (P : Program) (w : World) (K : PySem.W.Frag)
    (mg : Str → Option Value) (base : Heap) (CX : CXT) (k : Nat) (f : Addr)
    (fd : FuncData) (ps : List Str) (sp : Sp) : Prop where
  cnt : ∀ vs H Q E, sp vs H Q E → vs.length = ps.length
  go : ∀ (A : Around) (fr : List Env) (s : Shared) (H : Hp) (ar : Args)
    (us : List Value) (vs : List V) (Q : VK) (E : XK),
    A.guards = some [] → Room k A → Env0 P w K mg base A fr s H →
    BindsTo s fd ar (ps.zip us) → Vals vs us → sp vs H Q E →
    codeAny (model P w) A (.call (.ref f) ar) (CR CX fr P w H s Q E) s

variable {P : Program} {w : World} {K : PySem.W.Frag}
  {mg : Str → Option Value} {base : Heap}

theorem Fun.okG {x qual : Str} {st : Stmt} {f : Addr} {fd : FuncData}
    {N ps : List Str} {k : Nat} {sp : Sp} (F : Fun K x qual st f fd)
    (S : FnScope N ps (defScope st))
    (cnt : ∀ vs H Q E, sp vs H Q E → vs.length = ps.length)
    (bod : ∀ (cdv : Value) (A : Around) (fr : List Env) (s : Shared) (H : Hp)
      (vs : List V) (Q : VK) (E : XK), A.guards = some [] →
      Room k (A.deeper (envOfC qual (defScope st) s.heap.objs.size f cdv)) →
      sp vs H Q E → ∃ t,
        PSs (cxOf CX0 P w K mg base N qual (defScope st) f cdv A fr s H E).nox
          (defBody st) t ∧
        t { nx := fun _ H' => Q .non H', rt := Q } (start N vs) H) :
    FnG P w K mg base CX0 (k + 1) f fd ps sp := by
  obtain ⟨oc, od, kV, doc, pm, an, cdv, ct, osl, rfl, lk, hcd⟩ := F.ex
  refine ⟨cnt, fun A fr s H ar us vs Q E hg hr e0 hb r hsp => ?_⟩
  have inK : K.In s.heap := e0.mod.kin.keeps fun b o e => (e0.bs b o e).1
  have nol := e0.mod.nolimit.keeps fun b o e => (e0.bs b o e).1
  refine codeAny_call_function hr.depth (inK _ _ lk) rfl S.co S.gen rfl
    (PySem.W.codeRec_of inK hcd) (hb _ _ _ _ ?_)
  refine wpAny_newFunctionEnv_cells S.kind (fun ⟨n, v⟩ hy => ?_)
    fun env he s1 x => ?_
  · exact (S.par n (List.of_mem_zip hy).1).imp id
      fun q => ⟨q, PySem.W.cellsFrom_some _ _ _ (.inl q)⟩
  · subst he
    refine ⟨nol.keeps x.toInCall.keep, codeAny_func ?_⟩
    obtain ⟨t, ht, hq⟩ := bod cdv A fr s H vs Q E hg (hr.deeper _) hsp
    have I := inv_start (CX := CX0) (E := E) S hr.hd e0 (cnt _ _ _ _ hsp) r x
    refine wpAny_mono (ht.nox.run [] s1 (start N vs) H _ I hq)
      (fun fl s' hs => ?_) fun e s' hs => hs
    cases fl with
    | ret u =>
      obtain ⟨v, _, H', J, rv, q⟩ := hs
      exact ⟨v, H', J.os, J.bare, J.base, J.hok, rv, q⟩
    | next =>
      obtain ⟨_, H', J, q⟩ := hs
      exact ⟨.non, H', J.os, J.bare, J.base, J.hok, rfl, q⟩
    | brk => exact hs.elim fun _ h => h.elim fun _ h => h.2.elim
    | cont => exact hs.elim fun _ h => h.elim fun _ h => h.2.elim

/-! ### the law's own call -/
/-- a heap of one tracked thing -/
def lone (a : Addr) (o : HO) : Hp := fun b => if b = a then some o else none
/-- at the claim's own place nothing is being shown -/
theorem caller_guards : callerA.guards = some [] := rfl

theorem law_run {CX : CXT} {k : Nat} {fa a : Addr} {fd : FuncData} {x : Str}
    {sp : Sp} {s₁ : Shared} {vs : List Value} {ns : List Int} {mb : Str → Option Value}
    (KX : K.In s₁.heap) (g1 : s₁.heap.Ns mainGlobals mg) (g2 : s₁.heap.Ns builtinsNs mb)
    (g3 : ∀ x : Str, x ≠ "__name__" → mb x = bootBuiltins x) (g4 : s₁.heap.NoLimit)
    (g5 : s₁.gens = #[])
    (ha : s₁.heap.get? a = some { cls := .type "list", data := .seq vs.toArray })
    (hi : IntsAre vs ns) (hl : ns.length ≤ sizeLine) (hr : Room k callerA)
    (g6 : ∃ m, s₁.heap.Ns sysModules m)
    (F : ∀ base : Heap, K.In base → base.Ns mainGlobals mg →
      (∃ m, base.Ns sysModules m) → FnG P w K mg base CX k fa fd [x] sp)
    (hb : ∀ (s : Shared) (u : Value), BindsTo s fd ⟨[u], []⟩ [(x, u)])
    (hsp : ∀ H : Hp, Only H → SqL K H a (ns.map V.int) →
      sp [.ref a] H (fun v _ => v = .bl true) fun _ _ _ => False)
    (hX : ∀ H e s', CX [] H s₁ (fun _ _ _ => False) e s' → False) :
    codeAny (model P w) callerA (.call (.ref fa) ⟨[.ref a], []⟩)
      (fun r s' => r = .ok (.ret (.bool true)) ∧ OldK s₁.heap s'.heap ∧
        s'.os = s₁.os ∧ AllBare s'.gens) s₁ := by
  have rv := vals_ints hi
  -- H: nothing but the script may be tracked
  have main : ∀ H : Hp, Only H → SqL K H a (ns.map V.int) → HOk P w H s₁.heap →
      (∀ b, H b ≠ none → b = a) → (H a ≠ none → K.lookup a = none) →
      codeAny (model P w) callerA (.call (.ref fa) ⟨[.ref a], []⟩)
        (fun r s' => r = .ok (.ret (.bool true)) ∧ OldK s₁.heap s'.heap ∧
          s'.os = s₁.os ∧ AllBare s'.gens) s₁ := by
    intro H hO hS ok onlyA notK
    have freeOf : ∀ {b : Addr}, b ≠ a → H b = none := fun {b} ne =>
      Classical.byContradiction fun z => ne (onlyA b z)
    have dictFree : ∀ {b : Addr} {o : Obj} {es : Array DictEntry} {ep : Nat},
        s₁.heap.get? b = some o → o.data = .dict es ep → H b = none :=
      fun {b o es ep} e d => freeOf fun z => by
        subst z
        have q : some o = some _ := e.symm.trans ha
        cases q
        exact nomatch d
    have nsKeep : ∀ {b : Addr} {m : Str → Option Value}, s₁.heap.Ns b m →
        (hidT s₁.heap H).Ns b m := fun ⟨o, es, ep, e, d, r⟩ =>
      ⟨o, es, ep, hidT_get e (dictFree e d), d, r⟩
    have kKeep : K.In (hidT s₁.heap H) := fun b o e => hidT_get (KX b o e)
      (Classical.byContradiction fun z => by
        have z2 := onlyA b z
        subst z2
        have n := notK z
        rw [e] at n
        cases n)
    have md : Mod K mg (hidT s₁.heap H) := ⟨kKeep, nsKeep g1, ⟨mb, nsKeep g2, g3⟩,
      g4.elim fun mc h => ⟨mc, nsKeep h.1, h.2⟩⟩
    have env : Env0 P w K mg (hidT s₁.heap H) callerA [] s₁ H :=
      ⟨rfl, md, fun _ _ e => of_hidT e, Nat.le_of_eq (hidT_size _ _), trivial,
        fun _ z => (List.not_mem_nil z).elim, ok, .of_eq g5⟩
    refine codeAny_mono ((F _ kKeep (nsKeep g1) (g6.imp fun _ => nsKeep)).go callerA [] s₁ H _ [.ref a]
      [.ref a] _ _ caller_guards hr env (hb s₁ _) (.cons rfl .nil) (hsp H hO hS))
      fun r s' h => ?_
    cases r with
    | error e => exact (hX H e s' h).elim
    | ok fl =>
      cases fl with
      | ret u =>
        obtain ⟨v, H', os, bare, un, ok', r', q⟩ := h
        cases (show v = .bl true from q)
        cases (show u = Value.bool true from r')
        refine ⟨rfl, OldK.of_keep fun b o e => ?_, os, bare⟩
        rcases hO b with z | ⟨ob, xs, z⟩
        · exact un.keep b o e z (fun q => (List.not_mem_nil q).elim)
            fun q => (List.not_mem_nil q).elim
        · have e1 := (ok b _ z).1
          have e2 := (ok' b _ (un.frzs b ob _ z)).1
          rw [e2, ← e1, e]
      | _ => exact False.elim h
  cases hk : K.lookup a with
  | some o =>
    cases (KX a o hk).symm.trans ha
    exact main (fun _ => none) (fun _ => .inl rfl)
      (.inr ⟨_, vs.toArray, _, hk, rfl, rfl, rfl,
        by rw [List.size_toArray, hi.length]; exact hl, by simpa using rv⟩)
      (fun b u z => nomatch (show (none : Option HO) = some u from z))
      (fun _ z => (z rfl).elim) fun z => (z rfl).elim
  | none =>
    have at_ : ∀ {o : HO} {b : Addr} {u : HO}, lone a o b = some u → b = a ∧ u = o :=
      fun {o b u} z => by
      by_cases hb : b = a
      · exact ⟨hb, (Option.some.inj ((if_pos hb).symm.trans z)).symm⟩
      · exact nomatch (if_neg hb).symm.trans z
    refine main (lone a (HO.frz { cls := .type "list", data := .seq vs.toArray }
      (.lst (ns.map V.int)))) (fun b => ?_) (.inl (.inr ⟨_, if_pos rfl⟩))
      (fun b u z => ?_) (fun b z => ?_) fun _ => hk
    · by_cases hb : b = a
      · exact .inr ⟨_, _, if_pos hb⟩
      · exact .inl (if_neg hb)
    · obtain ⟨rfl, rfl⟩ := at_ z
      exact ⟨ha, by rw [List.length_map]; exact hl, vs, _, rv, ha⟩
    · exact Classical.byContradiction fun hb => z (if_neg hb)

/-- the row's end, from the law's promise -/
theorem walk_G {l : PySem.W.OpenLaw} {n k : Nat} {q : Program} {loose : List Str}
    {XP : (Str → Option Value) → Heap → Prop} {YP : World → Heap → Prop} {d : DefRec}
    {K : Params → PySem.W.Frag} {sp : PySem.W.Frag → Sp} {x : Str}
    (hn : l.most = some n) (hn2 : n ≤ sizeLine) (hdf : d.params.defaults = [])
    (hr : Room k callerA) (him : importsNone q = true)
    (hY : ∀ (w : World) (h : Heap), YP w h → (K w.params).In h)
    (F : ∀ (w : World) (mg : Str → Option Value) (fa : Addr) (h : Heap),
      (K w.params).In h → h.Ns mainGlobals mg → mg d.name = some (.ref fa) →
      ∃ fd : FuncData, (∀ (s : Shared) (u : Value), BindsTo s fd ⟨[u], []⟩ [(x, u)]) ∧
        ∀ base : Heap, (K w.params).In base → base.Ns mainGlobals mg →
          (∃ m, base.Ns sysModules m) → FnG l.prog w (K w.params) mg base CX0 k fa fd [x] (sp (K w.params)))
    (hsp : ∀ (K : PySem.W.Frag) (H : Hp) (a : Addr) (ns : List Int), ns.length ≤ n →
      Only H → SqL K H a (ns.map V.int) →
      sp K [.ref a] H (fun v _ => v = .bl true) fun _ _ _ => False) :
    PySem.W.WalkO q loose XP YP l.row.toRowW d [] (fun f vs => PySem.call f vs) := by
  refine Att.attach_call hn hdf fun w s₀ s₁ mg mb fa o pm cd doc a vs ns G Y ho hd hcd
    hmg hobj hints hlen hg => ?_
  obtain ⟨fd, hb, hF⟩ := F w mg fa _ (hY w _ Y) G.T.g hmg
  exact law_run (hY w _ Y) G.T.g G.T.b G.T.builtins G.T.nolimit hg hobj hints
    (Nat.le_trans hlen hn2) hr ((G.T.seer him).mods.imp fun _ h => h.1) hF hb (fun H hO hS => hsp _ H a ns hlen hO hS)
    fun _ _ _ z => z
end Yard
set_option maxRecDepth 100000
/-! The yard's own layer, part 2: data that the calls have made, at any depth; what they are shown as. -/
namespace Yard
open PySem PySem.Spec PyProof.Rows L2

mutual
/-- at the value stands the datum; all its parts are tracked -/
inductive Dq (H : Hp) : V → PyData → Prop
  | non : Dq H .non .none
  | bl (b : Bool) : Dq H (.bl b) (.bool b)
  | int (i : Int) : Dq H (.int i) (.int i)
  | str (x : Str) : Dq H (.str x) (.str x)
  | lst {a : Addr} {xs : List V} {ds : List PyData} : H a = some (.lst xs) → DqL H xs ds → Dq H (.ref a) (.list ds)
  | tup {a : Addr} {xs : List V} {ds : List PyData} : H a = some (.tup xs) → DqL H xs ds → Dq H (.ref a) (.tuple ds)
  | dic {a : Addr} : H a = some (.dK []) → Dq H (.ref a) (.dict [])
inductive DqL (H : Hp) : List V → List PyData → Prop
  | nil : DqL H [] []
  | cons {v : V} {vs : List V} {d : PyData} {ds : List PyData} : Dq H v d → DqL H vs ds → DqL H (v :: vs) (d :: ds)
end

mutual
theorem Dq.mono {H H' : Hp} (s : Same H H') : ∀ {v : V} {d : PyData}, Dq H v d → Dq H' v d
  | _, _, .non => .non
  | _, _, .bl b => .bl b
  | _, _, .int i => .int i
  | _, _, .str x => .str x
  | _, _, .lst h t => .lst (s _ _ h) (t.mono s)
  | _, _, .tup h t => .tup (s _ _ h) (t.mono s)
  | _, _, .dic h => .dic (s _ _ h)
theorem DqL.mono {H H' : Hp} (s : Same H H') : ∀ {vs : List V} {ds : List PyData}, DqL H vs ds → DqL H' vs ds
  | _, _, .nil => .nil
  | _, _, .cons h t => .cons (h.mono s) (t.mono s)
end
theorem DqL.len {H : Hp} : ∀ {vs : List V} {ds : List PyData}, DqL H vs ds → vs.length = ds.length
  | _, _, .nil => rfl
  | _, _, .cons _ t => congrArg (· + 1) t.len
theorem DqL.get {H : Hp} : ∀ {vs : List V} {ds : List PyData} {i : Nat} {v : V}, DqL H vs ds → vs[i]? = some v → ∃ d, ds[i]? = some d ∧ Dq H v d
  | _, _, 0, _, .cons h _, e => by cases e; exact ⟨_, rfl, h⟩
  | _, _, i + 1, _, .cons _ t, e => DqL.get (i := i) t e
theorem DqL.take {H : Hp} : ∀ {vs : List V} {ds : List PyData} (n : Nat), DqL H vs ds → DqL H (vs.take n) (ds.take n)
  | _, _, 0, _ => .nil
  | _, _, _ + 1, .nil => .nil
  | _, _, n + 1, .cons h t => .cons h (t.take n)
theorem DqL.drop {H : Hp} : ∀ {vs : List V} {ds : List PyData} (n : Nat), DqL H vs ds → DqL H (vs.drop n) (ds.drop n)
  | _, _, 0, h => h
  | _, _, _ + 1, .nil => .nil
  | _, _, n + 1, .cons _ t => t.drop n
theorem DqL.app {H : Hp} : ∀ {vs ws : List V} {ds es : List PyData}, DqL H vs ds → DqL H ws es → DqL H (vs ++ ws) (ds ++ es)
  | _, _, _, _, .nil, k => k
  | _, _, _, _, .cons h t, k => .cons h (t.app k)
theorem DqL.rev {H : Hp} : ∀ {vs : List V} {ds : List PyData}, DqL H vs ds → DqL H vs.reverse ds.reverse
  | _, _, .nil => .nil
  | _, _, .cons h t => by
    rw [List.reverse_cons, List.reverse_cons]
    exact t.rev.app (.cons h .nil)

section
variable {X : Cx} {pins : List (Addr × Obj)} {σ : L2.St} {H : Hp} {s : Shared}
mutual
theorem Dq.reads (I : Inv X pins σ H s) : ∀ {v : V} {d : PyData} {u : Value}, Dq H v d → RelV v u → ∃ as, Reads s.heap u d as ∧ ∀ b ∈ as, H b ≠ none
  | _, _, _, .non, r => by cases r; exact ⟨_, .none, fun _ h => nomatch h⟩
  | _, _, _, .bl b, r => by cases r; exact ⟨_, .bool b, fun _ h => nomatch h⟩
  | _, _, _, .int i, r => by obtain ⟨t, rfl⟩ := r; exact ⟨_, .int i t, fun _ h => nomatch h⟩
  | _, _, _, .str x, r => by obtain ⟨t, rfl⟩ := r; exact ⟨_, .str x t, fun _ h => nomatch h⟩
  | _, _, _, .lst h t, r => by
    cases r
    obtain ⟨_, its, n, rv, ho⟩ := I.hok _ _ h
    obtain ⟨as, k, q⟩ := DqL.reads I t rv
    refine ⟨_, .list (vs := its.toArray) ho rfl rfl (by simpa using k), fun b hb => ?_⟩
    rcases List.mem_cons.mp hb with z | z
    · rw [z, h]; exact fun y => nomatch y
    · exact q b z
  | _, _, _, .tup h t, r => by
    cases r
    obtain ⟨_, its, rv, o, ho, hc, n, hd⟩ := I.hok _ _ h
    obtain ⟨as, k, q⟩ := DqL.reads I t rv
    exact ⟨_, .tuple ho hc hd (by simpa using k), q⟩
  | _, _, _, .dic h, r => by
    cases r
    obtain ⟨_, _, vs, rv, o, es, ep, ho, hx, hd, _, hp, _⟩ := I.hok _ _ h
    cases rv
    have e0 : es.toList = [] := by
      generalize es.toList = l at hp
      cases hp
      rfl
    refine ⟨_, .dict (kvs := []) ho hx.1 hd (by rw [e0]; exact .nil) (by rw [e0]; exact .nil), fun b hb => ?_⟩
    have hb' : b ∈ [_] := hb
    rw [List.mem_singleton.mp hb', h]; exact fun y => nomatch y
theorem DqL.reads (I : Inv X pins σ H s) : ∀ {vs : List V} {ds : List PyData} {us : List Value}, DqL H vs ds → Vals vs us → ∃ as, ReadsAll s.heap us ds as ∧ ∀ b ∈ as, H b ≠ none
  | _, _, _, .nil, r => by cases r; exact ⟨_, .nil, fun _ h => nomatch h⟩
  | _, _, _, .cons h t, r => by
    cases r with
    | cons r1 r2 =>
      obtain ⟨as, k, q⟩ := Dq.reads I h r1
      obtain ⟨bs, k2, q2⟩ := DqL.reads I t r2
      exact ⟨_, .cons k k2, fun b hb => (List.mem_append.mp hb).elim (q b) (q2 b)⟩
end
end
end Yard
set_option maxRecDepth 100000
/-! The yard's own layer, part 3: str(x), repr(x) of data. -/
namespace Yard
open PySem PySem.Spec PyProof.Rows L2

/-- what str says of a datum -/
def strText : PyData → Str
  | .str x => x
  | d => d.shown

/-- str or repr of a datum, f the text -/
def rShow (f : PyData → Str) : List V → Hp → VK → Prop := fun xs H Q =>
  ∃ v d, xs = [v] ∧ Dq H v d ∧ d.showable = true ∧ d.depth ≤ 64 ∧
    d.shown.length ≤ sizeLine ∧ Q (.str (f d)) H

section
variable {X : Cx} {pins : List (Addr × Obj)} {σ : L2.St} {H : Hp} {s : Shared}
/-- no tracked thing is the table of modules -/
theorem no_sys (I : Inv X pins σ H s) (hs : ∃ m, X.base.Ns sysModules m)
    {as : List Addr} (h : ∀ b ∈ as, H b ≠ none) : sysModules ∉ as := fun hm => by
  obtain ⟨m, o, es, ep, e, _⟩ := hs
  exact h _ hm (I.bs _ _ e).2

theorem call_strQ (hg : X.A.guards = some []) (hs : ∃ m, X.base.Ns sysModules m)
    (hu : X.A.units + 80 < cLine) : CallR X (.type "str") (rShow strText) := by
  intro pins s σ H xs us Q I r h
  obtain ⟨v, d, rfl, hd, sh, dp, sz, q⟩ := h
  obtain ⟨u, rfl, rv⟩ := vals1 r
  have fin : ∀ (h' : Heap) (t : Nat) (x : Str) (tk : Tok), x = strText d →
      (∀ b o, s.heap.get? b = some o → h'.get? b = some o) →
      EP X pins σ Q (.str x tk) { s with heap := h', toks := t } :=
    fun h' t x tk e k => ⟨.str x, H, I.kept (t' := t) k, ⟨_, rfl⟩, by rw [e]; exact q⟩
  obtain ⟨as, rd, ha⟩ := hd.reads I rv
  have ref_ : ∀ a, u = .ref a → strText d = d.shown →
      wpAny (model X.prog X.w) X.A (PySem.call (.type "str") [u]) (EP X pins σ Q) X.xe s := by
    intro a e e2
    subst e
    refine str_of_reads rd sh (fun _ => no_sys I hs ha) hg (by omega)
      (fun _ _ z => z) (fun h' u tk k => fin h' tk _ u e2.symm k) sz
  cases hd with
  | non =>
    cases rv
    exact P.str_of_none (fin s.heap _ _ _ (by simp only [strText, PyData.shown]) fun _ _ z => z)
  | bl b =>
    cases rv
    refine P.str_of_bool (fin s.heap _ _ _ ?_ fun _ _ z => z)
    cases b <;> simp only [strText, PyData.shown] <;> rfl
  | int i =>
    obtain ⟨t, rfl⟩ := rv
    refine P.str_of_int (by simpa [PyData.showable] using sh)
      (fin s.heap _ _ _ ?_ fun _ _ z => z)
    simp only [strText, PyData.shown]
  | str x =>
    obtain ⟨t, rfl⟩ := rv
    exact P.str_of_str (fin s.heap _ _ _ rfl fun _ _ z => z)
  | lst h t => exact ref_ _ rv rfl
  | tup h t => exact ref_ _ rv rfl
  | dic h => exact ref_ _ rv rfl

theorem call_reprQ (hg : X.A.guards = some []) (hs : ∃ m, X.base.Ns sysModules m)
    (hu : X.A.units + 80 < cLine) : CallR X (.builtin "repr") (rShow PyData.shown) := by
  intro pins s σ H xs us Q I r h
  obtain ⟨v, d, rfl, hd, sh, dp, sz, q⟩ := h
  obtain ⟨u, rfl, rv⟩ := vals1 r
  have fin : ∀ (h' : Heap) (t : Nat) (x : Str) (tk : Tok), x = d.shown →
      (∀ b o, s.heap.get? b = some o → h'.get? b = some o) →
      EP X pins σ Q (.str x tk) { s with heap := h', toks := t } :=
    fun h' t x tk e k => ⟨.str x, H, I.kept (t' := t) k, ⟨_, rfl⟩, by rw [e]; exact q⟩
  obtain ⟨as, rd, ha⟩ := hd.reads I rv
  have ref_ : ∀ a, u = .ref a →
      wpAny (model X.prog X.w) X.A (PySem.call (.builtin "repr") [u]) (EP X pins σ Q) X.xe s := by
    intro a e
    subst e
    exact repr_of_reads' rd sh (fun _ => no_sys I hs ha) hg (by omega)
      (fun _ _ z => z) (fun h' u tk k => fin h' tk _ u rfl k) sz
  cases hd with
  | non =>
    cases rv
    exact P.repr_of_none (fin s.heap _ _ _ (by simp only [PyData.shown]) fun _ _ z => z)
  | bl b =>
    cases rv
    refine P.repr_of_bool (fin s.heap _ _ _ ?_ fun _ _ z => z)
    cases b <;> simp only [PyData.shown] <;> rfl
  | int i =>
    obtain ⟨t, rfl⟩ := rv
    refine P.repr_of_int (by simpa [PyData.showable] using sh)
      (fin s.heap _ _ _ ?_ fun _ _ z => z)
    simp only [PyData.shown]
  | str x =>
    obtain ⟨t, rfl⟩ := rv
    refine P.repr_of_str (fin s.heap _ _ _ ?_ fun _ _ z => z)
      (by simpa only [PyData.shown] using sz)
    simp only [PyData.shown]
  | lst h t => exact ref_ _ rv
  | tup h t => exact ref_ _ rv
  | dic h => exact ref_ _ rv
end
end Yard
set_option maxRecDepth 100000
/-! The yard's own layer, part 4: sorted(set(texts)). -/
namespace Yard
open PySem PySem.Spec PyProof.Rows L2 PySem.Froz

/-- a set's payload of texts that can be walked in any way of the world's -/
structure Walky (P : Program) (w : World) (D : SD) (l : List Str) : Prop where
  tx : TxOk P w D l
  ris : Ris D.2.2.place.toList
  led : w.params.followText "set-order" = true ∨ D.2.2.led = true
  nd : l.Nodup

theorem walky_new (P : Program) (w : World) :
    Walky P w (#[], 0, .fresh 0 0 (!w.params.followText "set-order")) [] where
  tx := TxOk.nil rfl
  ris := List.Pairwise.nil
  led := by
    cases h : w.params.followText "set-order"
    · exact .inr rfl
    · exact .inl rfl
  nd := List.nodup_nil

/-- what a new member makes of the table -/
theorem add_table (h : Int) (v : Value) (D : SD) (r : Ris D.2.2.place.toList) :
    Ris (addTx h v D).2.2.place.toList ∧ (addTx h v D).2.2.led = D.2.2.led := by
  obtain ⟨es, ep, t⟩ := D
  have r1 := layNew_ris t es h v r
  have l1 := layNew_led t es h v
  have tail : ∀ (t2 : SetTable) (b : Bool) (es1 : Array (Int × Value)),
      Ris t2.place.toList → t2.led = t.led →
      Ris (tailTx ep es1 t2 b).2.2.place.toList ∧ (tailTx ep es1 t2 b).2.2.led = t.led := by
    intro t2 b es1 a c
    unfold tailTx
    split
    · exact ⟨relayAll_ris _ _ _, (relayAll_led _ _ _).trans c⟩
    · exact ⟨a, c⟩
  unfold addTx
  refine tail _ _ _ ?_ ?_
  · split
    · exact r1
    · exact r1
  · split
    · exact l1
    · exact l1

theorem walky_add {P : Program} {w : World} {D : SD} {l : List Str} {k : Str} (u : Tok)
    (W : Walky P w D l) (hk : k ∉ l) : Walky P w (addTx (hashStr w k) (.str k u) D) (k :: l) where
  tx := add_ok u W.tx
  ris := (add_table _ _ D W.ris).1
  led := W.led.imp id fun h => (add_table _ _ D W.ris).2.trans h
  nd := List.nodup_cons.mpr ⟨hk, W.nd⟩

section
variable {P : Program} {w : World} {A : Around} {E : Value → Shared → Prop} {s : Shared}

/-- s.add(k) of a member that is there -/
theorem add_same {a : Addr} {T : String} {D : SD} {l : List Str} {k : Str} {u : Tok}
    {Q : Bool → Shared → Prop} (ho : s.heap.get? a = some (sObj T D)) (F : TxOk P w D l)
    (hk : k ∈ l) (hb : l.length < scanBound) (h : Q false s) :
    wpAny (model P w) A (setAddHashed a (.str k u) (hashStr w k)) Q E s := by
  obtain ⟨es, ep, t⟩ := D
  have fd : (sObj T (es, ep, t)).data = .set es ep t := rfl
  have key := is_str (P := P) (w := w) k u
  unfold setAddHashed setAddHashedIn
  refine wpAny_holding (wpAny_bind (wpAny_setState_of ho fd F.fit ?_))
  dsimp only
  rw [byScan_of (knd := strKind P w) rfl (by rw [show es.size = _ from F.sz]; exact hb) F.el]
  simp only [↓reduceIte]
  unfold setAddByScan
  refine wpAny_bind (wpAny_bind (wpAny_rule (wpAny_bind
    (wpAny_setScan_of (knd := strKind P w) (k := k) key ho fd F.fit F.el ?_))))
  cases hr : List.findIdx? (fun e => (strKind P w).is k e.2) es.toList with
  | some j => exact wpAny_pure (wpAny_pure h)
  | none =>
    obtain ⟨e, he, q⟩ := (F.mem k).mp hk
    have z := List.findIdx?_eq_none_iff.mp hr e he
    rw [q] at z
    cases z

/-- what stands at a set of texts -/
def TSet (P : Program) (w : World) (h : Heap) (a : Addr) (l : List Str) : Prop :=
  ∃ D, h.get? a = some (sObj "set" D) ∧ Walky P w D l

theorem tset_keep {h h' : Heap} {a : Addr} {l : List Str} (T : TSet P w h a l)
    (k : ∀ o, h.get? a = some o → h'.get? a = some o) : TSet P w h' a l :=
  let ⟨D, e, W⟩ := T; ⟨D, k _ e, W⟩

/-- s.add(k): what is in then -/
theorem add_text {a : Addr} {l : List Str} {k : Str} {u : Tok} {Q : Bool → Shared → Prop}
    (T : TSet P w s.heap a l) (hb : l.length + 1 < scanBound)
    (h : ∀ (b : Bool) (h' : Heap) (l' : List Str), Heap.SameBut a s.heap h' → TSet P w h' a l' →
      l'.length ≤ l.length + 1 → (∀ x, x ∈ l' ↔ x = k ∨ x ∈ l) → Q b { s with heap := h' }) :
    wpAny (model P w) A (setAddHashed a (.str k u) (hashStr w k)) Q E s := by
  obtain ⟨D, ho, W⟩ := T
  by_cases hk : k ∈ l
  · refine add_same ho W.tx hk (by omega) ?_
    exact h false s.heap l (Heap.SameBut.refl a s.heap) ⟨D, ho, W⟩ (Nat.le_succ _) fun x =>
      ⟨.inr, fun z => z.elim (fun e => e ▸ hk) id⟩
  · refine add_x ho W.tx hk hb ?_
    exact h true _ (k :: l) (Heap.SameBut.update s.heap a _) ⟨_, get_upd _ ho rfl, walky_add u W hk⟩
      (Nat.le_refl _) fun x => List.mem_cons

/-- the loop of set(..): all texts of a walk -/
theorem fill_texts {I : Addr} {fp wr : List Addr} {G : Array GenState → Array GenState → Prop}
    {n : Nat} {Pv : Nat → Value → Prop} {St : Nat → Shared → Prop} {R : Result → Shared → Prop}
    (W : WalksS P w A.in1 I fp wr G n Pv St) (S : Addr) (apart : S ∉ fp) (xs : List Str)
    (hn : n = xs.length) (small : xs.length + 1 < scanBound)
    (val : ∀ i v, Pv i v → ∃ x t, xs[i]? = some x ∧ v = .str x t)
    (fin : ∀ s0 s' l, Moved (S :: wr) G s0 s' → TSet P w s'.heap S l → l.length ≤ n →
      (∀ x, x ∈ l ↔ x ∈ xs) → s0 = s → R (.ok (.ret .none)) s') :
    ∀ (k i : Nat) (s1 : Shared), n - i = k → i ≤ n → St i s1 →
      (i = 0 ∧ s1 = s ∨ Moved (S :: wr) G s s1) →
      (∃ l, TSet P w s1.heap S l ∧ l.length ≤ i ∧ ∀ x, x ∈ l ↔ x ∈ xs.take i) →
      codeAny (model P w) A (.builtin "set.update.loop" ⟨[.ref S, .ref I], []⟩) R s1 := by
  have offW : S ∉ wr := fun z => apart (W.sub _ z)
  have wide : ∀ b ∈ wr, b ∈ S :: wr := fun b hb => List.mem_cons_of_mem _ hb
  have on : ∀ {s1 s2 : Shared} {i : Nat}, (i = 0 ∧ s1 = s ∨ Moved (S :: wr) G s s1) →
      Moved (S :: wr) G s1 s2 → Moved (S :: wr) G s s2 := fun {s1 s2 i} a b => by
    rcases a with ⟨_, e⟩ | a
    · rw [← e]; exact b
    · exact Moved.trans W.gtrans a b
  intro k
  induction k with
  | zero =>
    intro i s1 hk hi hst way ⟨l, hT, hl, hm⟩
    obtain rfl : i = n := by omega
    refine codeAny_builtin F.entry_set_update_loop ?_
    rw [Around.under_plainId F.plain_set_update_loop _]
    show wpAny _ A.in1 (pyNext (.ref I) >>= _) _ _ s1
    refine wpAny_bind (W.done s1 _ _ hst fun s' mv => ?_)
    have e : xs.take i = xs := List.take_of_length_le (by omega)
    rw [e] at hm
    exact wpAny_pure (fin s s' l (on way (mv.mono wide))
      (tset_keep hT fun o q => mv.heap S o offW q) hl hm rfl)
  | succ k ih =>
    intro i s1 hk hi hst way ⟨l, hT, hl, hm⟩
    have lt : i < n := by omega
    refine codeAny_builtin F.entry_set_update_loop ?_
    rw [Around.under_plainId F.plain_set_update_loop _]
    show wpAny _ A.in1 (pyNext (.ref I) >>= _) _ _ s1
    refine wpAny_bind (W.item i s1 _ _ lt hst fun v s' hP st2 mv => ?_)
    obtain ⟨x, t, hx, rfl⟩ := val i v hP
    show wpAny _ A.in1 (holding [Value.str x t] (setAdd S (.str x t)) >>= _) _ _ s'
    refine wpAny_bind (wpAny_holding ?_)
    unfold setAdd
    refine wpAny_holding (wpAny_bind ((strKind P w).pyHash (is_str x t) ?_))
    refine add_text (s := { s' with toks := s'.toks + 1 })
      (tset_keep hT fun o q => mv.heap S o offW q) (by omega) fun b h' l' sb hT' hl' hm' => ?_
    have here : ∀ b o, b ∉ S :: wr → s'.heap.get? b = some o → h'.get? b = some o :=
      fun b o nb e => (sb.2 b fun z => nb (by rw [z]; exact List.mem_cons_self)).trans e
    refine wpAny_pure ⟨plainId_quiet F.plain_set_update_loop _, ?_⟩
    refine ih (i + 1) _ (by omega) lt (W.frame _ s' _ _ st2 (Nat.le_succ _) fun b hb o e => ?_)
      (.inr (on way ((mv.mono wide).then_heap (Nat.le_succ _) fun b o nb e => here b o nb e)))
      ⟨l', hT', by omega, fun y => ?_⟩
    · exact (sb.2 b fun z => apart (by rw [← z]; exact hb)).trans e
    · rw [hm', List.take_add_one, hx, List.mem_append, hm]
      simp only [Option.toList_some, List.mem_singleton]
      exact or_comm
end
end Yard
set_option maxRecDepth 100000
namespace Yard
open PySem PySem.Spec PyProof.Rows L2 PySem.Froz

/-- the object that set(..) begins with -/
abbrev set0 (w : World) : Obj :=
  { cls := .type "set", dict := none, data := .set #[] 0 (.fresh 0 0 (!w.params.followText "set-order")) }

/-- how the set stands behind set(xs) -/
structure SetMade (P : Program) (w : World) (s s2 : Shared) (xs : List Str) : Prop where
  ex : ∃ h' tk m, s2 = { s with heap := h', toks := tk } ∧
    TSet P w h' s.heap.objs.size m ∧ m.length ≤ xs.length ∧ (∀ x, x ∈ m ↔ x ∈ xs) ∧
    ∀ b o, s.heap.get? b = some o → h'.get? b = some o

section
variable {P : Program} {w : World} {A : Around} {E : Value → Shared → Prop} {s : Shared}

set_option maxHeartbeats 3200000 in
/-- set(xs) of a list of texts -/
theorem call_set_texts {l : Addr} {items : Array Value} {xs : List Str} {Q : Value → Shared → Prop}
    (calm : A.handled = none) (hl : s.heap.IsList l items) (hit : StrsAre items.toList xs)
    (small : xs.length + 1 < scanBound)
    (hQ : ∀ s2, SetMade P w s s2 xs → Q (.ref s.heap.objs.size) s2) :
    wpAny (model P w) A (call (.type "set") [.ref l]) Q E s := by
  have len : items.size = xs.length := by
    have q := hit.length
    rwa [Array.length_toList] at q
  obtain ⟨_, _, mro⟩ := F.called_set.mro
  have a1 := F.called_set.made
  have a2 := F.called_set.sub
  have a3 := F.called_set.notType
  have a4 := F.called_set.canCreate
  have a5 := F.typeCall_set_1 (.ref l)
  refine wpAny_call (codeAny_of_tree ?_)
  show wpAny _ _ (callAny (.type "set") _) _ _ _
  refine wpAny_pure ⟨Code.quiet_builtin _ (by decide +kernel), ?_⟩
  refine codeAny_builtin F.entry_type_call ?_
  rw [Around.under_plain (weight_type_call_type "set" [.ref l] []) rfl]
  repeat (any_goals (first | assumption | wp_step))
  refine codeAny_mono (L2.code_set_led1 (.ref l) (E := E)
    (Q₁ := fun o s1 => o = .ref s.heap.objs.size ∧ s1 = { s with heap := s.heap.push (set0 w) })
    ⟨rfl, rfl⟩) fun r s1 hr => ?_
  match r, hr with
  | .error e, hr => exact hr
  | .ok (.ret _), hr =>
    obtain ⟨rfl, rfl⟩ := hr
    have new : (s.heap.push (set0 w)).get? s.heap.objs.size = some (set0 w) :=
      Heap.get?_push_size _ rfl
    have isSet : Shared.TypeIs { s with heap := s.heap.push (set0 w) }
      (.ref s.heap.objs.size) "set" := ⟨_, new, rfl⟩
    have b1 := F.called_set.init.lookup
    have b2 := F.called_set.init.bind (.ref s.heap.objs.size)
    repeat (any_goals (first | assumption | wp_step))
    refine codeAny_mono (codeAny_call_builtin
      (R := wants (fun r s2 => r = .none ∧ SetMade P w s s2 xs) E) F.called_set.init.plain
      F.entry_set_init (check_set_init_1 isSet ?_)) fun r2 s2 hr2 => ?_
    · obtain ⟨⟨c, od, da, sl⟩, ol, e1, nl, e2⟩ := id hl
      simp only at e1 e2
      subst e1 e2
      have ol2 : (s.heap.push (set0 w)).get? l = some ⟨.type "list", od, .seq items nl, sl⟩ :=
        Heap.get?_push_of_some _ ol
      have isl : (s.heap.push (set0 w)).IsList l items := ⟨_, ol2, rfl, nl, rfl⟩
      have q1 := F.sub_list_set
      have q2 := F.sub_list_frozenset
      have q3 : (Value.type "list" == Value.type "dict") = false := by decide
      unfold Builtin.«set.__init__» noKeywords Builtin.Frozenset.updateFrom
      generalize hPI : pyIter = PI
      wp_walk
      subst hPI
      refine wpAny_pyIter_list isl (wpAny_bind (wpAny_runValue ?_))
      have lS : l < s.heap.objs.size := Heap.lt_size ol
      have z1 : (s.heap.push (set0 w)).objs.size = s.heap.objs.size + 1 := Heap.size_push ..
      have lI : l ≠ (s.heap.push (set0 w)).objs.size := by
        rw [z1]; exact Nat.ne_of_lt (Nat.lt_succ_of_lt lS)
      have apart : s.heap.objs.size ∉ [(s.heap.push (set0 w)).objs.size, l] := by
        rw [z1]
        intro z
        rcases List.mem_cons.mp z with z | z
        · exact Nat.ne_of_lt (Nat.lt_succ_self _) z
        · exact Nat.ne_of_gt lS (List.mem_singleton.mp z)
      have val : ∀ (i : Nat) (v : Value), items[i]? = some v →
          ∃ x t, xs[i]? = some x ∧ v = .str x t := fun i v hv => by
        have hi : i < xs.length := by rw [← len]; exact (Array.getElem?_eq_some_iff.mp hv).1
        obtain ⟨t, e⟩ := SS.strs_at hit i v (by rw [Array.getElem?_toList]; exact hv)
        refine ⟨xs[i], t, List.getElem?_eq_getElem hi, ?_⟩
        rw [e, List.getD_eq_getElem?_getD, List.getElem?_eq_getElem hi] <;> rfl
      refine fill_texts (P := P) (w := w) ((Walks.list (by simp [calm]) _ l lI items).toS)
        s.heap.objs.size apart xs len small val ?fin (items.size - 0) 0 _ (by omega)
        (Nat.zero_le _) ⟨⟨_, Heap.get?_push_size _ rfl, rfl, rfl⟩, isl.push _⟩ (.inl ⟨rfl, rfl⟩)
        ⟨[], ⟨(#[], 0, .fresh 0 0 (!w.params.followText "set-order")),
          Heap.get?_push_of_some _ new, walky_new P w⟩, Nat.le_refl _, fun x => by simp⟩
      intro s0 s' m mv hT hm hx e0
      subst e0
      obtain ⟨h', g2, d2, t2, o2⟩ := s'
      obtain rfl : g2 = s.gens := mv.gens
      obtain rfl : d2 = s.drawn := mv.drawn
      obtain rfl : o2 = s.os := mv.os
      show wpAny _ _ _ _ _ _
      refine wpAny_pure ?_
      show wpAny _ _ (ret Value.none) _ _ _
      refine wpAny_pure ⟨rfl, h', t2, m, rfl, hT, by rw [← len]; exact hm, hx, fun b o e => ?_⟩
      have b0 : b < s.heap.objs.size := Heap.lt_size e
      refine mv.heap b o (fun z => ?_) (Heap.get?_push_of_some _ (Heap.get?_push_of_some _ e))
      rcases List.mem_cons.mp z with z | z
      · exact Nat.ne_of_lt b0 z
      · have z' := List.mem_singleton.mp z
        rw [z1] at z'
        exact Nat.ne_of_lt (Nat.lt_succ_of_lt b0) z'
    · match r2, hr2 with
      | .error e, hr2 => exact hr2
      | .ok (.ret _), hr2 =>
        obtain ⟨rfl, M⟩ := hr2
        obtain ⟨h', tk, m, rfl, k⟩ := id M.ex
        repeat (any_goals (first | assumption | wp_step))
        exact hQ _ M
      | .ok .next, hr2 => exact hr2.elim
      | .ok .brk, hr2 => exact hr2.elim
      | .ok .cont, hr2 => exact hr2.elim
  | .ok .next, hr => exact hr.elim
  | .ok .brk, hr => exact hr.elim
  | .ok .cont, hr => exact hr.elim
end
end Yard
set_option maxRecDepth 100000
set_option maxHeartbeats 4000000
namespace Yard
open PySem PySem.Spec PyProof.Rows L2 PySem.Froz
section
variable {P : Program} {w : World} {A : Around} {E : Value → Shared → Prop} {s : Shared}

theorem perm_of_sub {α : Type} [BEq α] [LawfulBEq α] : ∀ (l m : List α), l.Nodup →
    (∀ x ∈ l, x ∈ m) → m.length ≤ l.length → m.Perm l
  | [], m, _, _, h => by
    have : m = [] := List.eq_nil_of_length_eq_zero (by simpa using h)
    rw [this]
  | x :: l, m, nd, sub, h => by
    obtain ⟨n1, n2⟩ := List.nodup_cons.mp nd
    have hx : x ∈ m := sub x List.mem_cons_self
    have len := List.length_erase_of_mem hx
    have h' : m.length ≤ l.length + 1 := h
    refine (List.perm_cons_erase hx).trans (List.Perm.cons x (perm_of_sub l (m.erase x) n2 (fun y hy => ?_) ?_))
    · have ne : y ≠ x := fun e => n1 (e ▸ hy)
      exact (List.mem_erase_of_ne ne).mpr (sub y (List.mem_cons_of_mem _ hy))
    · rw [len]; omega

/-- members of a payload are texts, and they are just the listed ones -/
theorem walky_texts {D : SD} {l : List Str} (W : Walky P w D l) (vs : List Value)
    (pm : vs.Perm (D.1.toList.map (·.2))) : ∃ ys, StrsAre vs ys ∧ ys.Perm l := by
  have tx : ∀ v ∈ vs, ∃ x t, v = Value.str x t := fun v hv => by
    obtain ⟨e, he, q⟩ := List.mem_map.mp (pm.mem_iff.mp hv)
    obtain ⟨⟨k, hk, _⟩, _⟩ := W.tx.el e he
    obtain ⟨t, z⟩ := Value.isStrOf_shape (x := k) (v := e.2) hk
    exact ⟨k, t, q.symm.trans z⟩
  have sa := strsAre_map vs tx
  refine ⟨_, sa, ?_⟩
  have cnt : (vs.map strOf).length = l.length := by
    rw [List.length_map, pm.length_eq, List.length_map, Array.length_toList]
    exact W.tx.sz
  have sub : ∀ x ∈ l, x ∈ vs.map strOf := fun x hx => by
    obtain ⟨e, he, q⟩ := (W.tx.mem x).mp hx
    obtain ⟨t, z⟩ := Value.isStrOf_shape (x := x) (v := e.2) q
    exact List.mem_map.mpr ⟨e.2, pm.mem_iff.mpr (List.mem_map.mpr ⟨e, he, rfl⟩), by rw [z]; rfl⟩
  exact perm_of_sub l _ W.nd sub (Nat.le_of_eq cnt)

/-- sorted(s), s a set of fewer than 64 texts -/
theorem sorted_texts {a : Addr} {l : List Str} {Q : Value → Shared → Prop} (T : TSet P w s.heap a l)
    (calm : A.handled = none) (few : l.length < 64)
    (hQ : ∀ s' p (out : Array Value) (c : Nat) (ys : List Str),
      (∀ b o, s.heap.get? b = some o → s'.heap.get? b = some o) → s'.gens = s.gens →
      s'.os = s.os → s.heap.objs.size ≤ p → s'.heap.get? p = some (seqObj "list" out c) →
      StrsAre out.toList ys → ys.Perm l → sortedS ys = true → Q (.ref p) s') :
    wpAny (model P w) A (call (.builtin "sorted") [.ref a]) Q E s := by
  obtain ⟨D, ho, W⟩ := T
  have sz : D.1.size = l.length := W.tx.sz
  refine Calls.call_function_entry kind_sorted plain_sorted entry_sorted (args_sorted1 _) ?_
  unfold Builtin.«sorted»
  refine wpAny_bind (m := checkCount "sorted" 1 1 _) (wpAny_pure ?_)
  refine wpAny_bind (collect_set (es := D.1) (ep := D.2.1) (t := D.2.2) (A := A.in1) calm
    ⟨_, ho, rfl, rfl⟩ W.tx.fit (by unfold scanBound; omega) W.ris W.led
    fun s1 vs k1 hz g1 o1 pm => ?_)
  obtain ⟨ys, sa, py⟩ := walky_texts W vs pm
  have n : vs.length = l.length := by rw [sa.length, py.length_eq]
  refine wpAny_bind (wpAny_newList ?_ (by rw [n, sizeLine_eq]; omega))
  have new : (s1.heap.push (seqObj "list" vs.toArray 0)).get? s1.heap.objs.size =
    some (seqObj "list" vs.toArray 0) := Heap.get?_push_size _ rfl
  refine wpAny_bind (wpAny_holding (wpAny_call_entry slot_list_sort ⟨_, new, rfl⟩ entry_list_sort
    (list_sort_treeK (κ := PyProof.Rows.strKind) strKind_oneLt new sa.keysOf
      (fun _ _ _ e => keyKind_strs (by rw [← e]; exact sa)) (by rw [n]; exact few)
      fun st hp hs => ⟨_, rfl, ?_⟩) (args_list_sort _)))
  obtain ⟨zs, b1, b2, b3⟩ := sorted_out_str sa hp hs
  generalize (arrOf st).map (·.2) = out at b1
  obtain ⟨c, hc⟩ := sortedHeap_at (vs := vs) (out := out) new
  refine wpAny_pure ⟨_, rfl, hQ _ s1.heap.objs.size out c zs (fun b u e => ?_) g1 o1 hz hc b1
    (b2.trans py) b3⟩
  have lt := Heap.lt_size (k1 b u e)
  refine (sortedHeap_old (Nat.ne_of_lt lt) ?_).trans (Heap.get?_push_of_some _ (k1 b u e))
  rw [size_push']
  exact Nat.lt_succ_of_lt lt
end

/-- the set of texts at a, in the layer's heap -/
def TxO (P : Program) (w : World) (a : Addr) (l : List Str) : HO := .ext fun h => TSet P w h a l
theorem txO_ok {P : Program} {w : World} {H : Hp} {h : Heap} {a : Addr} {l : List Str}
    (T : TSet P w h a l) : ObjOk P w H h a (TxO P w a l) :=
  ⟨T, T.elim fun _ q => ⟨_, q.1⟩, fun _ _ p k => tset_keep p k⟩

section
variable {X : Cx}
def rSetTx (K : PySem.W.Frag) (P : Program) (w : World) : List V → Hp → VK → Prop := fun xs H Q =>
  ∃ (l : Addr) (ts : List Str), xs = [.ref l] ∧ SqL K H l (ts.map V.str) ∧ ts.length ≤ 1000 ∧
    ∀ a m, H a = none → m.length ≤ ts.length → (∀ x, x ∈ m ↔ x ∈ ts) →
      Q (.ref a) (upd H a (TxO P w a m))
theorem cr_setTx (hc : X.calm = true) : CallR X (.type "set") (rSetTx X.K X.prog X.w) := by
  intro pins s σ H xs us Q I r h
  obtain ⟨l, ts, rfl, hl, few, q⟩ := h
  rw [Vals.ref1 r]
  obtain ⟨its, rv, pl, hz⟩ := I.list hl
  refine call_set_texts (P := X.prog) (w := X.w) (I.ok.hd hc) pl.isList (by simpa using rv.strs)
    (by unfold scanBound; omega) fun s2 M => ?_
  obtain ⟨h', tk, m, rfl, T, n, mem, k⟩ := M.ex
  exact ⟨.ref s.heap.objs.size, _, I.laid (t' := tk) k (Nat.le_refl _) (txO_ok T), rfl,
    q _ m (I.hok.fresh (Nat.le_refl _)) n mem⟩
def rSortedTx (P : Program) (w : World) : List V → Hp → VK → Prop := fun xs H Q =>
  ∃ (a : Addr) (m : List Str), xs = [.ref a] ∧ H a = some (TxO P w a m) ∧ m.length < 64 ∧
    ∀ ys p, ys.Perm m → sortedS ys = true → H p = none → Q (.ref p) (upd H p (.lst (ys.map V.str)))
theorem cr_sortedTx (hc : X.calm = true) : CallR X (.builtin "sorted") (rSortedTx X.prog X.w) := by
  intro pins s σ H xs us Q I r h
  obtain ⟨a, m, rfl, ha, few, q⟩ := h
  have T : TSet X.prog X.w s.heap a m := (I.hok a _ ha).1
  rw [Vals.ref1 r]
  refine sorted_texts T (I.ok.hd hc) few fun s' p out c ys k g o hp hg sa pm so => ?_
  have fr : H p = none := I.hok.fresh hp
  have ln : (ys.map V.str).length ≤ sizeLine := by
    rw [List.length_map, pm.length_eq, sizeLine_eq]; omega
  have J : Inv X pins σ (upd H p (.lst (ys.map V.str)))
      { s with heap := s'.heap, gens := s'.gens, drawn := s'.drawn, toks := s'.toks } :=
    I.call (ch := []) (Un.laid k hp fr)
      (I.hok.laid k hp ⟨ln, out.toList, c, vals_of_strs sa, hg⟩) (by rw [g]; exact I.bare)
      fun _ z => nomatch z
  have same : s' = { s with heap := s'.heap, gens := s'.gens, drawn := s'.drawn, toks := s'.toks } := by
    cases s'; cases s; cases o; rfl
  rw [same]
  exact ⟨.ref p, _, J, rfl, q ys p pm so fr⟩
end
end Yard
set_option maxRecDepth 100000
set_option maxHeartbeats 2000000
/-! The yard's own layer, part 5: powers of great numbers, texts and tuples turned round, a tuple held against (). -/
namespace Yard
open PySem PySem.Spec PyProof.Rows L2

/-! ### i ** j, of any size that fits -/
def CPowW (i j : Int) : Prop := 0 ≤ j ∧ ∃ b : Nat, i.natAbs < 2 ^ b ∧ 0 < b ∧ (b : Int) * j ≤ 2 ^ 27
theorem bits_le {i : Int} {b : Nat} (h : i.natAbs < 2 ^ b) (h0 : 0 < b) : Builtin.Int.intBits i ≤ b := by
  have h1 := PySem.Flt.log2_lt_of h0 h
  unfold Builtin.Int.intBits
  split <;> omega
theorem op_powW {X : Cx} : OpR X (binaryOp .Pow) (rI CPowW fun i j => .int (i ^ j.toNat)) :=
  opI fun i j _ _ _ _ _ hc q => by
    obtain ⟨h0, b, h1, h2, h3⟩ := hc
    refine pow_int h0 (Int.le_trans (Int.mul_le_mul_of_nonneg_right ?_ h0) h3) q
    exact Int.ofNat_le.mpr (bits_le h1 h2)

/-! ### s[::-1], t[::-1] -/
/-- the slice of all, backwards -/
abbrev backE (e : Expr) (k : Nat) (p1 p2 p3 pos : Pos) : Expr :=
  .Subscript e (.Slice none none (some (.UnaryOp .USub (.Constant (.int 1) k p1) p2)) p3) pos
def tBackS (te : TE) : TE := fun σ H Q => te σ H fun x H1 => ∃ z : Str, x = .str z ∧ z.length ≤ sizeLine ∧
  ∀ y : Str, y.length ≤ z.length → (∀ c ∈ y.cps.toList, c ∈ z.cps.toList) → Q (.str y) H1
def tBackT (K : PySem.W.Frag) (te : TE) : TE := fun σ H Q => te σ H fun x H1 => ∃ a xs, x = .ref a ∧
  SqT K H1 a xs ∧ ∀ p, H1 p = none → Q (.ref p) (upd H1 p (.tup xs.reverse))

theorem picked_le {α : Type} (f : Nat → Option α) : ∀ l : List Nat, (l.filterMap f).length ≤ l.length
  | [] => Nat.le_refl _
  | x :: l => by
    have h := picked_le f l
    cases e : f x <;> simp [e] <;> omega

section
variable {X : Cx} {e : Expr} {te : TE} {k : Nat} {p1 p2 p3 pos : Pos}
/-- behind the value, the slice's object -/
theorem back_of {R : V → Hp → VK → Prop} (he : PE X e te)
    (step : ∀ (pins : List (Addr × Obj)) (σ : L2.St) (H : Hp) (Q : VK) (s : Shared) (v : Value) (x : V) (vl vu vs : Value),
      Inv X pins σ H { s with heap := s.heap.push { cls := .type "slice", data := .fields #[vl, vu, vs] } } →
      RelV x v → IsPart vl none → IsPart vu none → IsPart vs (some (-1)) → R x H Q →
      ∃ T id, (∃ name, True ∧ name = ()) ∧ ({ s with heap := s.heap.push { cls := .type "slice", data := .fields #[vl, vu, vs] } } : Shared).TypeIs v T ∧
        Slot T "__getitem__" id ∧
        wpAny (model X.prog X.w) X.A (getItem v (.ref s.heap.objs.size)) (EP X pins σ Q) X.xe
          { s with heap := s.heap.push { cls := .type "slice", data := .fields #[vl, vu, vs] } }) :
    PE X (backE e k p1 p2 p3 pos) (fun σ H Q => te σ H fun x H1 => R x H1 Q) := by
  refine ⟨fun pins s σ H Q I h => Subscript_ (thn (he.run pins s σ H _ I h) fun v s1 ⟨x, H1, I1, r1, q1⟩ => ?_)⟩
  have neg1 : PO X (some (.UnaryOp .USub (.Constant (.int 1) k p1) p2))
    (tPart (tUn (rU fun i => .int (-i)) (tC (.int 1)))) := po_some (pe_un un_neg pe_int)
  refine wpAny_Slice (thn (po_none.run pins s1 σ H1 (fun o H' => o = none ∧ H' = H1) I1 ⟨rfl, rfl⟩)
    fun vl s2 ⟨_, _, I2, pl, el, e2⟩ => ?_)
  subst el e2
  refine thn (po_none.run pins s2 σ _ (fun o H' => o = none ∧ H' = _) I2 ⟨rfl, rfl⟩)
    fun vu s3 ⟨_, _, I3, pu, eu, e3⟩ => ?_
  subst eu e3
  refine thn (neg1.run pins s3 σ _ (fun o H' => o = some (-1) ∧ H' = _) I3 ⟨1, rfl, -1, rfl, rfl, rfl⟩)
    fun vs s4 ⟨_, _, I4, ps, eo, e4⟩ => ?_
  subst eo e4
  have J := I4.kept (t' := s4.toks) (h' := s4.heap.push { cls := .type "slice", data := .fields #[vl, vu, vs] })
    fun b o q => Heap.get?_push_of_some _ q
  obtain ⟨T, id, _, ht, sl, g⟩ := step pins σ _ Q s4 v x vl vu vs J r1 pl pu ps q1
  show wpAny (model X.prog X.w) X.A (subscriptTail e _ v (.ref s4.heap.objs.size)) _ _
    { s4 with heap := s4.heap.push { cls := .type "slice", data := .fields #[vl, vu, vs] } }
  exact tail_any (ops := [v, .ref s4.heap.objs.size]) ht sl.lookup g (by with_unfolding_all rfl)
end
end Yard
namespace Yard
open PySem PySem.Spec PyProof.Rows L2
section
variable {X : Cx} {e : Expr} {te : TE} {k : Nat} {p1 p2 p3 pos : Pos}
theorem strIdx_le (n : Nat) : (Builtin.Str.strSliceIndices none none (-1) n).length ≤ n := by
  show (sliceRange ((n : Int) - 1) (-1) (-1)).length ≤ n
  rw [PySem.W.krv_sliceRange, List.length_map, List.length_range]
  exact Nat.le_refl _
/-- s[::-1]: some text of its signs, no longer -/
theorem pe_revS (he : PE X e te) : PE X (backE e k p1 p2 p3 pos) (tBackS te) := by
  refine back_of (R := fun x H Q => ∃ z : Str, x = .str z ∧ z.length ≤ sizeLine ∧
    ∀ y : Str, y.length ≤ z.length → (∀ c ∈ y.cps.toList, c ∈ z.cps.toList) → Q (.str y) H) he ?_
  intro pins σ H Q s v x vl vu vs J rx pl pu ps h
  obtain ⟨z, rfl, hz, q⟩ := h
  obtain ⟨t, rfl⟩ := rx
  obtain ⟨l, rfl, hl⟩ := IsPart.raw pl
  obtain ⟨u, rfl, hu⟩ := IsPart.raw pu
  obtain ⟨m, rfl, hm⟩ := IsPart.raw ps
  obtain rfl : l = none := by cases l <;> first | rfl | cases hl
  obtain rfl : u = none := by cases u <;> first | rfl | cases hu
  obtain ⟨tk, rfl⟩ : ∃ tk, m = some (-1, tk) := by
    match m, hm with
    | some (i, tk), hm =>
      have e : i = -1 := Option.some.inj hm
      exact ⟨tk, by rw [e]⟩
  refine ⟨"str", _, ⟨(), trivial, rfl⟩, typeIs_str _ _ _, F.slot_str_getitem, ?_⟩
  refine wpAny_getItem_str_slice (l := none) (u := none) (st := some (-1, tk))
    ⟨_, Heap.get?_push_size _ rfl, rfl, rfl⟩ (by show ((-1 : Int) == 0) = false; decide) ?_
  have pick : ∀ l : List Nat, ∀ c ∈ l.filterMap (z.cps[·]?), c ∈ z.cps.toList := fun l c hc => by
    obtain ⟨i, _, hi⟩ := List.mem_filterMap.mp hc
    exact Array.mem_toList_iff.mpr (Array.mem_of_getElem? hi)
  have len : ((⟨((Builtin.Str.strSliceIndices none none (-1) z.length).filterMap (z.cps[·]?)).toArray⟩ : Str)).length ≤ z.length := by
    show (List.toArray _).size ≤ _
    rw [List.size_toArray]
    exact Nat.le_trans (picked_le _ _) (strIdx_le _)
  show Made.post (if ((-1 : Int) == 1 && (Builtin.Str.strSliceIndices none none (-1) z.length).length == z.length) = true then Made.val (.str z t)
    else Made.str ⟨((Builtin.Str.strSliceIndices none none (-1) z.length).filterMap (z.cps[·]?)).toArray⟩) _ _
  rw [if_neg (by simp)]
  exact ⟨Nat.le_trans len hz, .str _, H, J.tok _, ⟨_, rfl⟩, q _ len (fun c hc => pick _ c (by simpa using hc))⟩
end
end Yard

namespace Yard
open PySem PySem.Spec PyProof.Rows L2
theorem adjust_back (n : Nat) : Builtin.Slice.sliceAdjust none none (-1) (n : Int) = ((n : Int) - 1, -1) := by
  unfold Builtin.Slice.sliceAdjust
  simp
theorem places_back (n : Nat) : Builtin.Slice.slicePlaces ((n : Int) - 1) (-1) (-1) = n := by
  unfold Builtin.Slice.slicePlaces
  rw [if_neg (by decide)]
  split
  all_goals first | omega | (simp; done) | (simp; omega)
theorem congr_filterMap {α β : Type} {f g : α → Option β} : ∀ {l : List α}, (∀ x ∈ l, f x = g x) →
    l.filterMap f = l.filterMap g
  | [], _ => rfl
  | x :: l, h => by
    rw [List.filterMap_cons, List.filterMap_cons, h x List.mem_cons_self,
      congr_filterMap fun y hy => h y (List.mem_cons_of_mem _ hy)]
theorem pick_back (xs : Array Value) : ((List.range xs.size).filterMap fun (m : Nat) =>
    xs[(((xs.size : Int) - 1) + (m : Int) * (-1)).toNat]?).toArray = xs.toList.reverse.toArray := by
  have e : ∀ m ∈ List.range xs.size, xs[(((xs.size : Int) - 1) + (m : Int) * (-1)).toNat]? =
      xs.toList.reverse[m]? := fun m hm => by
    have hm' := List.mem_range.mp hm
    have q : (((xs.size : Int) - 1) + (m : Int) * (-1)).toNat = xs.size - 1 - m := by omega
    rw [q, List.getElem?_reverse (by simpa using hm'), ← Array.getElem?_toList]
    simp
  rw [congr_filterMap e]
  have z := PySem.W.krv_all xs.toList.reverse.toArray
  have n : xs.toList.reverse.toArray.size = xs.size := by simp
  rw [n] at z
  have z2 : ((List.range xs.size).filterMap fun m => xs.toList.reverse[m]?) = xs.toList.reverse := by
    simpa using z
  rw [z2]
section
variable {P : Program} {w : World} {A : Around} {E : Value → Shared → Prop} {s : Shared}
/-- t[::-1] -/
theorem getItem_back {t sl : Addr} {items : Array Value} {vl vu vs : Value} {Q : Value → Shared → Prop}
    (ht : IsTup s.heap t items) (hs : s.heap.IsSliceOf sl vl vu vs) (pl : IsPart vl none)
    (pu : IsPart vu none) (ps : IsPart vs (some (-1))) (hz : items.size ≤ sizeLine)
    (h : Q (.ref s.heap.objs.size) { s with heap := (s.heap.push
      ({ cls := .type "tuple", data := .seq items.toList.reverse.toArray } : Obj)) }) :
    wpAny (model P w) A (getItem (.ref t) (.ref sl)) Q E s := by
  have small : sizeOk (.seq items.toList.reverse.toArray) := by
    show items.toList.reverse.toArray.size ≤ sizeLine
    simpa using hz
  obtain ⟨so, at_, sc, sd⟩ := id hs
  have isSl : s.TypeIs (.ref sl) "slice" := ⟨so, at_, sc⟩
  unfold getItem
  try with_reducible refine wpAny_holding ?_
  try refine wpAny_bind (wpAny_pure ?_)
  refine wpAny_bind (wpAny_sequenceKey ht.typeIs (by decide) ?_)
  refine wpAny_bind (wpAny_callSpecial?_slot (name := Str.ofString "__getitem__") ht.typeIs
    PyProof.Rows.slot_tuple_getitem (wpAny_call_entry PyProof.Rows.slot_tuple_getitem ht.typeIs
      entry_tuple_getitem ?_ (args_tuple_getitem _ _)))
  show wpAny _ _ (Builtin.Tuple.tupleItemsOf (.ref t) >>= _) _ _ s
  refine wpAny_bind (PyProof.Rows.tupleItemsOf_ ht (wpAny_bind (wpAny_typeOf isSl ?_)))
  rw [if_pos (by decide)]
  have applied : ∀ {R : Int × Int × Nat → Shared → Prop}, R ((items.size : Int) - 1, -1, items.size) s →
      wpAny (model P w) A.in1 (Builtin.Slice.sliceApplied (.ref sl) (pure (items.size : Int))) R
        (fun e s' => E e s') s := by
    intro R hR
    unfold Builtin.Slice.sliceApplied Builtin.Slice.sliceFields
    refine wpAny_bind (wpAny_bind (wpAny_field at_ sd (x := vl) rfl (wpAny_bind (wpAny_field at_ sd
      (x := vu) rfl (wpAny_bind (wpAny_field at_ sd (x := vs) rfl (wpAny_pure ?_)))))))
    refine wpAny_bind (HT.slicePart_ ps ?_)
    show wpAny _ _ (if ((-1 : Int) == 0) = true then _ else _) _ _ s
    rw [if_neg (by decide)]
    refine wpAny_bind (HT.slicePart_ pl (wpAny_bind (HT.slicePart_ pu (wpAny_bind (wpAny_pure ?_)))))
    show wpAny _ _ (match Builtin.Slice.sliceAdjust none none (-1) (items.size : Int) with
      | (lo, hi) => pure (lo, (-1 : Int), Builtin.Slice.slicePlaces lo hi (-1))) _ _ s
    rw [adjust_back]
    show wpAny _ _ (pure ((items.size : Int) - 1, (-1 : Int),
      Builtin.Slice.slicePlaces ((items.size : Int) - 1) (-1) (-1))) _ _ s
    rw [places_back]
    exact wpAny_pure hR
  refine wpAny_bind (applied ?_)
  show wpAny _ _ (if (((items.size : Int) - 1) == 0 && (-1 : Int) == 1 && items.size == items.size) = true
    then _ else _) _ _ s
  rw [if_neg (by simp), pick_back]
  first
    | exact wpAny_bind (m := Builtin.Tuple.tupleExact _)
        (wpAny_newObj_type (wpAny_pure ⟨_, rfl, wpAny_pure h⟩) small)
    | exact wpAny_bind (m := Builtin.Tuple.tupleExact _)
        (wpAny_newObj_type (wpAny_bind (wpAny_pure (wpAny_pure ⟨_, rfl, wpAny_pure h⟩))) small)
    | exact wpAny_bind (wpAny_bind (m := Builtin.Tuple.tupleExact _)
        (wpAny_newObj_type (wpAny_pure (wpAny_pure ⟨_, rfl, wpAny_pure h⟩)) small))
    | exact wpAny_bind (wpAny_bind (m := Builtin.Tuple.tupleExact _)
        (wpAny_newObj_type (wpAny_pure ⟨_, rfl, wpAny_pure h⟩) small))
end
section
variable {X : Cx} {e : Expr} {te : TE} {k : Nat} {p1 p2 p3 pos : Pos}
theorem pe_revT (he : PE X e te) : PE X (backE e k p1 p2 p3 pos) (tBackT X.K te) := by
  refine back_of (R := fun x H Q => ∃ a xs, x = .ref a ∧ SqT X.K H a xs ∧
    ∀ p, H p = none → Q (.ref p) (upd H p (.tup xs.reverse))) he ?_
  intro pins σ H Q s v x vl vu vs J rx pl pu ps h
  obtain ⟨a, xs, rfl, hx, q⟩ := h
  cases rx
  obtain ⟨its, r, ht, hz⟩ := J.tuple hx
  refine ⟨"tuple", _, ⟨(), trivial, rfl⟩, ht.typeIs, PyProof.Rows.slot_tuple_getitem, ?_⟩
  refine getItem_back ht (Heap.IsSliceOf.new _ vl vu vs) pl pu ps
    (by rw [List.size_toArray, ← r.length]; exact hz) ?_
  have fr := J.hok.fresh (Nat.le_refl _)
  refine ⟨.ref _, _, J.laid (t' := s.toks) (o := .tup xs.reverse)
    (fun b o q => Heap.get?_push_of_some _ q) (Nat.le_refl _) ?_, rfl, q _ fr⟩
  exact ⟨by rw [List.length_reverse]; exact hz, its.reverse, r.reverse,
    ⟨_, Heap.get?_push_size _ rfl, rfl, _, rfl⟩⟩
end
end Yard
set_option maxRecDepth 100000
/-! The yard's own layer, part 6: a tuple held against (). -/
namespace Yard
open PySem PySem.Spec PyProof.Rows L2
def rEqE (K : PySem.W.Frag) (neg : Bool) : R2 := fun x y H Q => ∃ a b xs, x = .ref a ∧ y = .ref b ∧
  SqT K H a xs ∧ SqT K H b [] ∧ Q (.bl (if neg then !xs.isEmpty else xs.isEmpty)) H
section
variable {X : Cx}
theorem size_empty {xs : List V} {us : List Value} (r : Vals xs us) :
    ((List.range (min us.toArray.size (#[] : Array Value).size)).all (fun _ => true) &&
      us.toArray.size == (#[] : Array Value).size) = xs.isEmpty := by
  cases r <;> simp
theorem op_eqE {k : Nat} (hr : Room k X.A) : OpR X (compareOp .Eq) (rEqE X.K false) := by
  intro pins s σ H x y v u Q I rx ry h
  obtain ⟨a, b, xs, rfl, rfl, ha, hb, q⟩ := h
  cases rx
  cases ry
  obtain ⟨us, r, ⟨o1, p1, p2, p3⟩, _⟩ := I.tuple ha
  obtain ⟨ws, r2, ⟨o2, q1, q2, q3⟩, _⟩ := I.tuple hb
  cases r2
  refine SeqAt.eq_tupleAt (e := fun _ => true) ⟨o1, p1, p2, p3⟩ ⟨o2, q1, q2, q3⟩ hr.units0
    (fun j _ h2 => absurd h2 (by simp)) ?_
  rw [size_empty r]
  exact ⟨.bl xs.isEmpty, H, I, rfl, q⟩
theorem op_neE {k : Nat} (hr : Room k X.A) : OpR X (compareOp .NotEq) (rEqE X.K true) := by
  intro pins s σ H x y v u Q I rx ry h
  obtain ⟨a, b, xs, rfl, rfl, ha, hb, q⟩ := h
  cases rx
  cases ry
  obtain ⟨us, r, ⟨o1, p1, p2, p3⟩, _⟩ := I.tuple ha
  obtain ⟨ws, r2, ⟨o2, q1, q2, q3⟩, _⟩ := I.tuple hb
  cases r2
  refine SeqAt.RcNeAt.tuples (e := fun _ => true) ⟨o1, p1, p2, p3⟩ ⟨o2, q1, q2, q3⟩ hr.units0
    (fun j _ h2 => absurd h2 (by simp)) _ _ _ _ ?_
  rw [size_empty r]
  exact ⟨.bl (!xs.isEmpty), H, I, rfl, q⟩
end
end Yard
set_option maxRecDepth 100000
/-! The yard's own layer, part 7: defs of the text, the jar of draws. -/
namespace Yard
open PySem PySem.Spec PyProof.Rows L2

/-- a def of the text as the top has left it -/
structure Df (K : PySem.W.Frag) (mg : Str → Option Value) (x : Str) (st : Stmt) (ps : List Str) (f : Addr) (fd : FuncData) : Prop where
  fn : Fun K x x st f fd
  bd : Binds K fd ps []
  at_ : mg x = some (.ref f)
theorem Df.kp {K : PySem.W.Frag} {mg : Str → Option Value} {x : Str} {st : Stmt} {ps : List Str} {f : Addr} {fd : FuncData} (D : Df K mg x st ps f fd) : PySem.W.keepIn K (.ref f) = true := D.fn.kp

/-- all but what stands at a is as before -/
def Off (a : Addr) (H H' : Hp) : Prop := ∀ b o, b ≠ a → H b = some o → H' b = some o
theorem Off.refl (a : Addr) (H : Hp) : Off a H H := fun _ _ _ h => h
theorem Off.trans {a : Addr} {H H1 H2 : Hp} (h : Off a H H1) (k : Off a H1 H2) : Off a H H2 := fun b o n e => k b o n (h b o n e)
theorem Off.of_same {a : Addr} {H H' : Hp} (h : Same H H') : Off a H H' := fun b o _ e => h b o e
theorem Off.new {a p : Addr} {H : Hp} {o : HO} (h : H p = none) : Off a H (upd H p o) := fun b u _ e => by rw [upd_ne (ne_of_none e h)]; exact e
theorem Off.at_ {a : Addr} {H : Hp} {o : HO} : Off a H (upd H a o) := fun b u n e => by rw [upd_ne n]; exact e
theorem same_new {H : Hp} {p : Addr} {o : HO} (h : H p = none) : Same H (upd H p o) := fun b u e => by rw [upd_ne (ne_of_none e h)]; exact e
/-- the heap but for a -/
def wo (a : Addr) (H : Hp) : Hp := fun b => if b = a then none else H b
theorem wo_le (a : Addr) (H : Hp) : Same (wo a H) H := fun b o e => by
  unfold wo at e
  split at e
  · cases e
  · exact e
theorem wo_off {a : Addr} {H H' : Hp} (h : Off a H H') : Same (wo a H) (wo a H') := fun b o e => by
  unfold wo at e ⊢
  by_cases n : b = a
  · rw [if_pos n] at e; cases e
  · rw [if_neg n] at e ⊢; exact h b o n e
theorem wo_get {a b : Addr} {H : Hp} {o : HO} (n : b ≠ a) (h : H b = some o) : wo a H b = some o := by
  unfold wo; rw [if_neg n]; exact h

/-! ### the jar: what is left of a cell's digits, the cell mixed, how many draws were mixed -/
def JarAt (H : Hp) (a : Addr) (c : Nat) : Prop := ∃ x y z : Int, H a = some (.lst [.int x, .int y, .int z]) ∧ 0 ≤ x ∧ 0 ≤ y ∧ y < 2 ^ 100 ∧ 0 ≤ z ∧ z ≤ c
theorem JarAt.same {H H' : Hp} {a : Addr} {c : Nat} (h : JarAt H a c) (s : Same H H') : JarAt H' a c :=
  let ⟨x, y, z, e, r⟩ := h; ⟨x, y, z, s _ _ e, r⟩
theorem JarAt.ne {H : Hp} {a p : Addr} {c : Nat} (h : JarAt H a c) (n : H p = none) : p ≠ a := fun e => by
  obtain ⟨x, y, z, q, _⟩ := h
  rw [e, q] at n; cases n
theorem JarAt.mono {H : Hp} {a : Addr} {c c' : Nat} (h : JarAt H a c) (n : c ≤ c') : JarAt H a c' :=
  let ⟨x, y, z, e, r1, r2, r3, r4, r5⟩ := h; ⟨x, y, z, e, r1, r2, r3, r4, by omega⟩
end Yard
set_option maxRecDepth 100000
/-! The yard's own layer, part 8: comprehensions whose turns keep what stands; types of data. -/
namespace Yard
open PySem PySem.Spec PyProof.Rows L2

theorem same_mut {H H4 : Hp} {D : Addr} {o : HO} (s : Same H H4) (n : H D = none) : Same H (upd H4 D o) := fun b u e => by
  rw [upd_ne (ne_of_none e n)]; exact s b u e
theorem range_snoc {α : Type} (f : Nat → α) (i : Nat) : (List.range (i + 1)).map f = (List.range i).map f ++ [f i] := by
  rw [List.range_succ, List.map_append]; rfl

section
variable {J : It} {n : Nat} {G : Hp → Prop} {Y : Nat → Hp → V → Hp → Prop}
/-- [e for x in ..], e keeps the heap: the list of the values ys -/
theorem lc_pure (w : Walk J n G Y) (ys : Nat → V) {g : TG} {te : TE} {vs : List Nat} {σ : L2.St} {H1 : Hp} {D : Addr} {Qd : Hp → Prop} (hD : H1 D = none) (hn : n ≤ sizeLine)
    (hG : ∀ H, Same H1 H → G H)
    (hs : ∀ i x H H' (N : VK), i < n → Same H1 H → Y i H x H' → (∀ H4, Same H H4 → N (ys i) H4) → g x (wipe σ vs) H' fun σ2 H2 => wipe σ2 vs = wipe σ vs ∧ te σ2 H2 N)
    (hd : ∀ H, Same H1 H → H D = some (.lst ((List.range n).map ys)) → Qd H)
    (mono : ∀ x σ H (N N' : L2.St → Hp → Prop), (∀ σ2 H2, N σ2 H2 → N' σ2 H2) → g x σ H N → g x σ H N' := by exact fun _ _ _ _ _ h q => h _ _ q) :
    ∃ W : Nat → Nat → Hp → Prop, (∃ m, W 0 m (upd H1 D (.lst []))) ∧ ∀ i m H, W i m H →
      (J.stop i H ∧ Qd H) ∨ (J.go i H ∧ ∃ Nx : Hp → Prop, (∀ H', Nx H' → ∃ m', m' < m ∧ W (i + 1) m' H') ∧ ∀ x H', J.yld i H x H' → g x (wipe σ vs) H' fun σ2 H2 => wipe σ2 vs = wipe σ vs ∧ tYes σ2 H2 fun b H3 =>
        if b = true then te σ2 H3 fun y H4 => ∃ acc, H4 D = some (.lst acc) ∧ acc.length < sizeLine ∧ Nx (upd H4 D (.lst (acc ++ [y]))) else Nx H3) := by
  refine lc_it w (fun i H => Same H1 H ∧ H D = some (.lst ((List.range i).map ys))) ⟨same_new hD, upd_same⟩ (fun i H _ p => hG H p.1) ?_ (fun H p => hd H p.1 p.2)
  rintro i x H H' hi ⟨sm, e⟩ y
  refine mono _ _ _ _ _ ?_ (hs i x H H' (fun y H4 => ∃ acc, H4 D = some (.lst acc) ∧ acc.length < sizeLine ∧ Same H1 (upd H4 D (.lst (acc ++ [y]))) ∧
    upd H4 D (.lst (acc ++ [y])) D = some (.lst ((List.range (i + 1)).map ys))) hi sm y fun H4 s4 =>
      ⟨_, s4 _ _ e, by rw [List.length_map, List.length_range]; omega, same_mut (fun b o q => s4 b o (sm b o q)) hD, by rw [upd_same, range_snoc]⟩)
  rintro σ2 H2 ⟨z1, z2⟩
  exact ⟨z1, z2⟩

/-- [x for x in .. if t], the test keeps the heap: those of the values ys whose test bs is true -/
theorem lc_filt (w : Walk J n G Y) (ys : Nat → V) (bs : Nat → Bool) {g : TG} {tt : TT} {te : TE} {vs : List Nat} {σ : L2.St} {H1 : Hp} {D : Addr} {Qd : Hp → Prop} (hD : H1 D = none) (hn : n ≤ sizeLine)
    (hG : ∀ H, Same H1 H → G H)
    (hs : ∀ i x H H' (N : Bool → Hp → Prop), i < n → Same H1 H → Y i H x H' → (∀ H3, Same H H3 → N (bs i) H3) → g x (wipe σ vs) H' fun σ2 H2 => wipe σ2 vs = wipe σ vs ∧ tt σ2 H2 N ∧ ∀ H3 (M : VK), M (ys i) H3 → te σ2 H3 M)
    (hd : ∀ H, Same H1 H → H D = some (.lst (((List.range n).filter bs).map ys)) → Qd H)
    (mono : ∀ x σ H (N N' : L2.St → Hp → Prop), (∀ σ2 H2, N σ2 H2 → N' σ2 H2) → g x σ H N → g x σ H N' := by exact fun _ _ _ _ _ h q => h _ _ q)
    (mono2 : ∀ σ H (N N' : Bool → Hp → Prop), (∀ b H2, N b H2 → N' b H2) → tt σ H N → tt σ H N') :
    ∃ W : Nat → Nat → Hp → Prop, (∃ m, W 0 m (upd H1 D (.lst []))) ∧ ∀ i m H, W i m H →
      (J.stop i H ∧ Qd H) ∨ (J.go i H ∧ ∃ Nx : Hp → Prop, (∀ H', Nx H' → ∃ m', m' < m ∧ W (i + 1) m' H') ∧ ∀ x H', J.yld i H x H' → g x (wipe σ vs) H' fun σ2 H2 => wipe σ2 vs = wipe σ vs ∧ tt σ2 H2 fun b H3 =>
        if b = true then te σ2 H3 fun y H4 => ∃ acc, H4 D = some (.lst acc) ∧ acc.length < sizeLine ∧ Nx (upd H4 D (.lst (acc ++ [y]))) else Nx H3) := by
  refine lc_it w (fun i H => Same H1 H ∧ H D = some (.lst (((List.range i).filter bs).map ys))) ⟨same_new hD, upd_same⟩ (fun i H _ p => hG H p.1) ?_ (fun H p => hd H p.1 p.2)
  rintro i x H H' hi ⟨sm, e⟩ y
  have snoc : (List.range (i + 1)).filter bs = (List.range i).filter bs ++ (if bs i = true then [i] else []) := by
    rw [List.range_succ, List.filter_append]
    cases q : bs i <;> simp [q]
  refine mono _ _ _ _ _ ?_ (hs i x H H' (fun b H3 => b = bs i ∧ Same H H3) hi sm y fun H3 s3 => ⟨rfl, s3⟩)
  rintro σ2 H2 ⟨z1, z2, z3⟩
  refine ⟨z1, mono2 _ _ _ _ ?_ z2⟩
  rintro b H3 ⟨rfl, s3⟩
  have s1 : Same H1 H3 := fun c o q => s3 c o (sm c o q)
  have e3 := s3 _ _ e
  by_cases hb : bs i = true
  · rw [if_pos hb]
    refine z3 H3 _ ⟨_, e3, ?_, same_mut s1 hD, ?_⟩
    · rw [List.length_map]
      exact Nat.lt_of_le_of_lt (List.length_filter_le _ _) (by rw [List.length_range]; omega)
    · rw [upd_same, snoc, if_pos hb, List.map_append]; rfl
  · rw [if_neg hb]
    refine ⟨s1, ?_⟩
    rw [e3, snoc, if_neg hb, List.append_nil]

/-- [e for x in ..]: any turns, by a word over the list made so far -/
theorem lc_acc (w : Walk J n G Y) (Pv : Nat → List V → Hp → Prop) {g : TG} {te : TE} {vs : List Nat} {σ : L2.St} {H1 : Hp} {D : Addr} {Qd : Hp → Prop} (hn : n ≤ sizeLine)
    (h0 : Pv 0 [] (upd H1 D (.lst []))) (hG : ∀ i acc H, i ≤ n → Pv i acc H → G H)
    (hs : ∀ i x H H' acc (N : VK), i < n → Pv i acc H → H D = some (.lst acc) → acc.length = i → Y i H x H' →
      (∀ y H4, H4 D = some (.lst acc) → Pv (i + 1) (acc ++ [y]) (upd H4 D (.lst (acc ++ [y]))) → N y H4) → g x (wipe σ vs) H' fun σ2 H2 => wipe σ2 vs = wipe σ vs ∧ te σ2 H2 N)
    (hd : ∀ H acc, Pv n acc H → H D = some (.lst acc) → acc.length = n → Qd H)
    (mono : ∀ x σ H (N N' : L2.St → Hp → Prop), (∀ σ2 H2, N σ2 H2 → N' σ2 H2) → g x σ H N → g x σ H N' := by exact fun _ _ _ _ _ h q => h _ _ q) :
    ∃ W : Nat → Nat → Hp → Prop, (∃ m, W 0 m (upd H1 D (.lst []))) ∧ ∀ i m H, W i m H →
      (J.stop i H ∧ Qd H) ∨ (J.go i H ∧ ∃ Nx : Hp → Prop, (∀ H', Nx H' → ∃ m', m' < m ∧ W (i + 1) m' H') ∧ ∀ x H', J.yld i H x H' → g x (wipe σ vs) H' fun σ2 H2 => wipe σ2 vs = wipe σ vs ∧ tYes σ2 H2 fun b H3 =>
        if b = true then te σ2 H3 fun y H4 => ∃ acc, H4 D = some (.lst acc) ∧ acc.length < sizeLine ∧ Nx (upd H4 D (.lst (acc ++ [y]))) else Nx H3) := by
  refine lc_it w (fun i H => ∃ acc, Pv i acc H ∧ H D = some (.lst acc) ∧ acc.length = i) ⟨[], h0, upd_same, rfl⟩ (fun i H hi ⟨acc, p, _⟩ => hG i acc H hi p) ?_ (fun H ⟨acc, p, e, l⟩ => hd H acc p e l)
  rintro i x H H' hi ⟨acc, p, e, l⟩ y
  refine mono _ _ _ _ _ ?_ (hs i x H H' acc (fun y H4 => ∃ acc, H4 D = some (.lst acc) ∧ acc.length < sizeLine ∧ ∃ acc', Pv (i + 1) acc' (upd H4 D (.lst (acc ++ [y]))) ∧
    upd H4 D (.lst (acc ++ [y])) D = some (.lst acc') ∧ acc'.length = i + 1) hi p e l y fun y H4 e4 p4 =>
      ⟨acc, e4, by omega, acc ++ [y], p4, upd_same, by rw [List.length_append, l]; rfl⟩)
  rintro σ2 H2 ⟨z1, z2⟩
  exact ⟨z1, z2⟩
end

/-! ### isinstance of data -/
def tyName : PyData → String
  | .none => "NoneType"
  | .bool _ => "bool"
  | .int _ => "int"
  | .str _ => "str"
  | .list _ => "list"
  | .tuple _ => "tuple"
  | .dict _ => "dict"
theorem Dq.ty {K : PySem.W.Frag} {H : Hp} {v : V} {d : PyData} (h : Dq H v d) : TyX K H v (.type (tyName d)) := by
  cases h with
  | non => exact .base .non
  | bl b => exact .base (.bl b)
  | int i => exact .base (.int i)
  | str x => exact .base (.str x)
  | lst e _ => exact .base (.lst e)
  | tup e _ => exact .base (.tup e)
  | dic e => exact .base (.dK e)
theorem isi_data {K : PySem.W.Frag} {H : Hp} {v : V} {d : PyData} {c : String} {b : Bool} {Q : VK} (h : Dq H v d) (hb : kitB (tyName d) c = some b) (q : Q (.bl b) H) : rIsi K [v, .ty c] H Q :=
  ⟨v, .ty c, _, _, b, rfl, .ty c, h.ty, kit_ty hb, q⟩
def isTup : PyData → Bool
  | .tuple _ => true
  | _ => false
def isStr : PyData → Bool
  | .str _ => true
  | _ => false
theorem kit_tup (d : PyData) : kitB (tyName d) "tuple" = some (isTup d) := by
  have k0 : kitB "NoneType" "tuple" = some false := by decide +kernel
  have k1 : kitB "bool" "tuple" = some false := by decide +kernel
  have k2 : kitB "int" "tuple" = some false := by decide +kernel
  have k3 : kitB "str" "tuple" = some false := by decide +kernel
  have k4 : kitB "list" "tuple" = some false := by decide +kernel
  have k5 : kitB "tuple" "tuple" = some true := by decide +kernel
  have k6 : kitB "dict" "tuple" = some false := by decide +kernel
  cases d <;> first | exact k0 | exact k1 | exact k2 | exact k3 | exact k4 | exact k5 | exact k6
theorem kit_str (d : PyData) : kitB (tyName d) "str" = some (isStr d) := by
  have k0 : kitB "NoneType" "str" = some false := by decide +kernel
  have k1 : kitB "bool" "str" = some false := by decide +kernel
  have k2 : kitB "int" "str" = some false := by decide +kernel
  have k3 : kitB "str" "str" = some true := by decide +kernel
  have k4 : kitB "list" "str" = some false := by decide +kernel
  have k5 : kitB "tuple" "str" = some false := by decide +kernel
  have k6 : kitB "dict" "str" = some false := by decide +kernel
  cases d <;> first | exact k0 | exact k1 | exact k2 | exact k3 | exact k4 | exact k5 | exact k6
end Yard
set_option maxRecDepth 100000
/-! The yard's own layer, part 9: readings that make data beside the jar. -/
namespace Yard
open PySem PySem.Spec PyProof.Rows L2

theorem atI_at {α : Type} {l : List α} {r : Int} (h0 : 0 ≤ r) (h : r.toNat < l.length) : atI l r = some l[r.toNat] := by
  have e : r = ((r.toNat : Nat) : Int) := by omega
  have g : atI l ((r.toNat : Nat) : Int) = some l[r.toNat] := atI_nat (List.getElem?_eq_getElem h)
  rw [← e] at g
  exact g
theorem JarAt.upd {H : Hp} {a p : Addr} {c : Nat} {o : HO} (j : JarAt H a c) (n : p ≠ a) : JarAt (L2.upd H p o) a c :=
  let ⟨x, y, z, e, r⟩ := j
  ⟨x, y, z, by rw [upd_ne (Ne.symm n)]; exact e, r⟩
theorem Off.upd {H H' : Hp} {a p : Addr} {o : HO} (h : Off a H H') (n : H p = none) : Off a H (L2.upd H' p o) := fun b u nb e => by
  rw [upd_ne (ne_of_none e n)]; exact h b u nb e
/-- a[lo:hi] of any list -/
def cutL {α : Type} (xs : List α) (lo hi : Option Int) : List α := (xs.drop (HT.sIx xs.length 0 lo)).take (HT.sIx xs.length xs.length hi - HT.sIx xs.length 0 lo)
theorem DqL.cut {H : Hp} {vs : List V} {ds : List PyData} (h : DqL H vs ds) (lo hi : Option Int) : DqL H (cutV vs lo hi) (cutL ds lo hi) := by
  unfold cutV cutL
  rw [h.len]
  exact (h.drop _).take _
theorem cutL_whole {α : Type} {xs : List α} {lo hi : Option Int} (h : HT.sIx xs.length 0 lo = 0 ∧ HT.sIx xs.length xs.length hi = xs.length) : cutL xs lo hi = xs := by
  unfold cutL
  rw [h.1, h.2]
  show List.take (xs.length - 0) xs = xs
  rw [Nat.sub_zero]
  exact List.take_length
theorem DqL.nil_of {H : Hp} {ds : List PyData} (h : DqL H [] ds) : ds = [] := by
  cases h; rfl

/-- what is known of data in a heap -/
def Knows (a : Addr) (H : Hp) (G : List (V × PyData)) : Prop := ∀ x ∈ G, Dq (wo a H) x.1 x.2
theorem Knows.mono {a : Addr} {H H' : Hp} {G : List (V × PyData)} (k : Knows a H G) (o : Off a H H') : Knows a H' G := fun x hx => (k x hx).mono (wo_off o)
theorem Knows.cons {a : Addr} {H : Hp} {G : List (V × PyData)} {v : V} {d : PyData} (k : Knows a H G) (h : Dq (wo a H) v d) : Knows a H ((v, d) :: G) := fun x hx => by
  rcases List.mem_cons.mp hx with e | e
  · rw [e]; exact h
  · exact k x e
/-- the reading makes a datum of the kind; c, c': draws before and behind -/
def Made (a : Addr) (c c' : Nat) (σ : L2.St) (G : List (V × PyData)) (t : TE) (Pd : PyData → Prop) : Prop :=
  ∀ H Q, JarAt H a c → Knows a H G → (∀ v d H', Off a H H' → JarAt H' a c' → Dq (wo a H') v d → Pd d → Q v H') → t σ H Q
def MadeL (a : Addr) (c c' : Nat) (σ : L2.St) (G : List (V × PyData)) (t : TA) (Pd : List PyData → Prop) : Prop :=
  ∀ H Q, JarAt H a c → Knows a H G → (∀ vs ds H', Off a H H' → JarAt H' a c' → DqL (wo a H') vs ds → Pd ds → Q vs H') → t σ H Q
/-- a part of a slice, known -/
def MadeO (σ : L2.St) (t : TO) (o : Option Int) : Prop := ∀ H Q, Q o H → t σ H Q
section
variable {a : Addr} {c c' c'' : Nat} {σ : L2.St} {G : List (V × PyData)} {t t1 t2 : TE} {ta : TA}
theorem Made.imp {P P' : PyData → Prop} (h : Made a c c' σ G t P) (i : ∀ d, P d → P' d) : Made a c c' σ G t P' := fun H Q j k q =>
  h H Q j k fun v d H' o j' dq p => q v d H' o j' dq (i d p)
theorem MadeL.imp {P P' : List PyData → Prop} (h : MadeL a c c' σ G ta P) (i : ∀ d, P d → P' d) : MadeL a c c' σ G ta P' := fun H Q j k q =>
  h H Q j k fun v d H' o j' dq p => q v d H' o j' dq (i d p)
theorem made_c {v : V} {d : PyData} (h : ∀ H, Dq H v d) : Made a c c σ G (tC v) (· = d) := fun H Q j _ q => q v d H (Off.refl _ _) j (h _) rfl
theorem made_non : Made a c c σ G (tC .non) (· = .none) := made_c fun _ => .non
theorem made_bl (b : Bool) : Made a c c σ G (tC (.bl b)) (· = .bool b) := made_c fun _ => .bl b
theorem made_int (i : Int) : Made a c c σ G (tC (.int i)) (· = .int i) := made_c fun _ => .int i
theorem made_str (x : Str) : Made a c c σ G (tC (.str x)) (· = .str x) := made_c fun _ => .str x
theorem made_var {i : Nat} {v : V} {d : PyData} (hs : σ[i]? = some (some v)) (hg : (v, d) ∈ G) : Made a c c σ G (tVar i) (· = d) := fun H Q j k q =>
  ⟨v, hs, q v d H (Off.refl _ _) j (k _ hg) rfl⟩
theorem madeL_nil : MadeL a c c σ G tNil (· = []) := fun H Q j _ q => q [] [] H (Off.refl _ _) j .nil rfl
theorem madeL_cons {Pd : PyData → Prop} {Ps Pn : List PyData → Prop} (h : Made a c c' σ G t Pd) (h2 : MadeL a c' c'' σ G ta Ps) (i : ∀ d ds, Pd d → Ps ds → Pn (d :: ds)) : MadeL a c c'' σ G (tCons t ta) Pn := fun H Q j k q =>
  h H _ j k fun v d H1 o1 j1 dq1 p1 => h2 H1 _ j1 (k.mono o1) fun vs ds H2 o2 j2 dq2 p2 => q _ (d :: ds) H2 (o1.trans o2) j2 (.cons (dq1.mono (wo_off o2)) dq2) (i d ds p1 p2)
theorem madeL_e {d : PyData} {ds : List PyData} (h : Made a c c' σ G t (· = d)) (h2 : MadeL a c' c'' σ G ta (· = ds)) : MadeL a c c'' σ G (tCons t ta) (· = d :: ds) :=
  madeL_cons h h2 fun _ _ e1 e2 => by rw [e1, e2]
/-- n data of one kind -/
def Alls (Pd : PyData → Prop) (n : Nat) (ds : List PyData) : Prop := ds.length = n ∧ ∀ d ∈ ds, Pd d
theorem madeL_a {Pd : PyData → Prop} {n : Nat} (h : Made a c c' σ G t Pd) (h2 : MadeL a c' c'' σ G ta (Alls Pd n)) : MadeL a c c'' σ G (tCons t ta) (Alls Pd (n + 1)) :=
  madeL_cons h h2 fun d ds e1 e2 => ⟨congrArg (· + 1) e2.1, fun x hx => by
    rcases List.mem_cons.mp hx with e | e
    · rw [e]; exact e1
    · exact e2.2 x e⟩
theorem madeL_0 {Pd : PyData → Prop} : MadeL a c c σ G tNil (Alls Pd 0) := madeL_nil.imp fun _ e => by rw [e]; exact ⟨rfl, fun _ h => nomatch h⟩
theorem made_tup {Ps : List PyData → Prop} {Pd : PyData → Prop} (h : MadeL a c c' σ G ta Ps) (l : ∀ ds, Ps ds → ds.length ≤ sizeLine) (i : ∀ ds, Ps ds → Pd (.tuple ds)) : Made a c c' σ G (tTup ta) Pd := fun H Q j k q =>
  h H _ j k fun vs ds H1 o1 j1 dq p => ⟨by rw [dq.len]; exact l ds p, fun r nr => by
    have nra := j1.ne nr
    have w1 : Same (wo a H1) (wo a (L2.upd H1 r (.tup vs))) := wo_off (Off.new nr)
    exact q _ (.tuple ds) _ (o1.trans (Off.new nr)) (j1.upd nra) (.tup (wo_get nra upd_same) (dq.mono w1)) (i ds p)⟩
theorem made_tupE {ds : List PyData} (h : MadeL a c c' σ G ta (· = ds)) (l : ds.length ≤ 100) : Made a c c' σ G (tTup ta) (· = .tuple ds) :=
  made_tup h (fun _ e => by rw [e, sizeLine_eq]; omega) fun _ e => by rw [e]
theorem made_lst {Ps : List PyData → Prop} {Pd : PyData → Prop} (h : MadeL a c c' σ G ta Ps) (l : ∀ ds, Ps ds → ds.length ≤ sizeLine) (i : ∀ ds, Ps ds → Pd (.list ds)) : Made a c c' σ G (tLst ta) Pd := fun H Q j k q =>
  h H _ j k fun vs ds H1 o1 j1 dq p => ⟨by rw [dq.len]; exact l ds p, fun r nr => by
    have nra := j1.ne nr
    have w1 : Same (wo a H1) (wo a (L2.upd H1 r (.lst vs))) := wo_off (Off.new nr)
    exact q _ (.list ds) _ (o1.trans (Off.new nr)) (j1.upd nra) (.lst (wo_get nra upd_same) (dq.mono w1)) (i ds p)⟩
theorem made_lstE {ds : List PyData} (h : MadeL a c c' σ G ta (· = ds)) (l : ds.length ≤ 100) : Made a c c' σ G (tLst ta) (· = .list ds) :=
  made_lst h (fun _ e => by rw [e, sizeLine_eq]; omega) fun _ e => by rw [e]
/-- a list of n data of one kind -/
def ListOf (Pd : PyData → Prop) (n : Nat) (d : PyData) : Prop := ∃ ds, d = .list ds ∧ Alls Pd n ds
theorem made_lstA {Pd : PyData → Prop} {n : Nat} (h : MadeL a c c' σ G ta (Alls Pd n)) (l : n ≤ 100) : Made a c c' σ G (tLst ta) (ListOf Pd n) :=
  made_lst h (fun _ e => by rw [e.1, sizeLine_eq]; omega) fun ds e => ⟨ds, rfl, e⟩
theorem made_dic : Made a c c σ G tDNewK (· = .dict []) := fun H Q j k q r nr => by
  have nra := j.ne nr
  exact q _ (.dict []) _ (Off.new nr) (j.upd nra) (.dic (wo_get nra upd_same)) rfl
theorem made_set {i : Nat} {u : TS} {D : Ends} {H : Hp} {Pd : PyData → Prop} (h : Made a c c' σ G t Pd) (j : JarAt H a c) (k : Knows a H G)
    (q : ∀ v d H', Off a H H' → JarAt H' a c' → Dq (wo a H') v d → Pd d → u D (σ.set i (some v)) H') : tSeq (tAsg t (gName i)) u D σ H := h H _ j k q
theorem madeL_alls {Pd : PyData → Prop} {ds : List PyData} (h : MadeL a c c' σ G ta (· = ds)) (p : ∀ d ∈ ds, Pd d) : MadeL a c c' σ G ta (Alls Pd ds.length) := h.imp fun _ e => by rw [e]; exact ⟨rfl, p⟩
/-- two lists, one behind the other -/
theorem made_cat {Pd : PyData → Prop} {n m : Nat} (h : Made a c c' σ G t1 (ListOf Pd n)) (h2 : Made a c' c'' σ G t2 (ListOf Pd m)) (l : n + m ≤ 100) : Made a c c'' σ G (tOp rCat t1 t2) (ListOf Pd (n + m)) := fun H Q j k q =>
  h H _ j k fun v d H1 o1 j1 dq1 ⟨ds, e1, p1⟩ => h2 H1 _ j1 (k.mono o1) fun u e H2 o2 j2 dq2 ⟨es, e2, p2⟩ => by
    subst e1 e2
    have dq1' := dq1.mono (wo_off o2)
    cases dq1' with
    | @lst p xs _ ep hl1 =>
    cases dq2 with
    | @lst r ys _ er hl2 =>
      refine ⟨p, r, xs, ys, rfl, rfl, wo_le _ _ _ _ ep, wo_le _ _ _ _ er, by rw [hl1.len, hl2.len, p1.1, p2.1, sizeLine_eq]; omega, fun z nz => ?_⟩
      have nza := j2.ne nz
      have w1 : Same (wo a H2) (wo a (L2.upd H2 z (.lst (xs ++ ys)))) := wo_off (Off.new nz)
      refine q _ (.list (ds ++ es)) _ (o1.trans (o2.trans (Off.new nz))) (j2.upd nza) (.lst (wo_get nza upd_same) ((hl1.mono w1).app (hl2.mono w1))) ⟨_, rfl, by rw [List.length_append, p1.1, p2.1], fun x hx => ?_⟩
      rcases List.mem_append.mp hx with e | e
      · exact p1.2 x e
      · exact p2.2 x e
/-- two tuples, one behind the other -/
theorem made_catT {K : PySem.W.Frag} {Ps Qs : List PyData → Prop} {Pd : PyData → Prop} (h : Made a c c' σ G t1 (fun d => ∃ ds, d = .tuple ds ∧ Ps ds)) (h2 : Made a c' c'' σ G t2 (fun d => ∃ ds, d = .tuple ds ∧ Qs ds))
    (l : ∀ ds es, Ps ds → Qs es → ds.length + es.length ≤ sizeLine) (i : ∀ ds es, Ps ds → Qs es → Pd (.tuple (ds ++ es))) : Made a c c'' σ G (tOp (rCatA K) t1 t2) Pd := fun H Q j k q =>
  h H _ j k fun v d H1 o1 j1 dq1 ⟨ds, e1, p1⟩ => h2 H1 _ j1 (k.mono o1) fun u e H2 o2 j2 dq2 ⟨es, e2, p2⟩ => by
    subst e1 e2
    have dq1' := dq1.mono (wo_off o2)
    cases dq1' with
    | @tup p xs _ ep hl1 =>
    cases dq2 with
    | @tup r ys _ er hl2 =>
      have gp := i ds es p1 p2
      refine ⟨p, r, xs, ys, rfl, rfl, SqT.of (wo_le _ _ _ _ ep), SqT.of (wo_le _ _ _ _ er), by rw [hl1.len, hl2.len]; exact l _ _ p1 p2, fun e => ?_, fun _ e => ?_, fun _ _ z nz => ?_⟩
      · subst e
        have := hl1.nil_of
        subst this
        exact q _ (.tuple es) H2 (o1.trans o2) j2 (.tup er hl2) gp
      · subst e
        have := hl2.nil_of
        subst this
        rw [List.append_nil] at gp
        exact q _ (.tuple ds) H2 (o1.trans o2) j2 (.tup ep hl1) gp
      · have nza := j2.ne nz
        have w1 : Same (wo a H2) (wo a (L2.upd H2 z (.tup (xs ++ ys)))) := wo_off (Off.new nz)
        exact q _ (.tuple (ds ++ es)) _ (o1.trans (o2.trans (Off.new nz))) (j2.upd nza) (.tup (wo_get nza upd_same) ((hl1.mono w1).app (hl2.mono w1))) gp
theorem made_sl {K : PySem.W.Frag} {ds : List PyData} {tl th : TO} {lo hi : Option Int} (h : Made a c c' σ G t (· = .tuple ds)) (hl : MadeO σ tl lo) (hh : MadeO σ th hi) : Made a c c' σ G (tSl (rSlA K) t tl th) (· = .tuple (cutL ds lo hi)) := fun H Q j k q =>
  h H _ j k fun v d H1 o1 j1 dq1 e1 => hl _ _ (hh _ _ (by
    subst e1
    have q' := fun v d H' o j' dq e => q v d H' (o1.trans o) j' dq e
    cases dq1 with
    | @tup p xs _ ep hl1 =>
      refine ⟨p, xs, rfl, SqT.of (wo_le _ _ _ _ ep), fun e => ?_, fun _ z nz => ?_⟩
      · refine q' _ _ H1 (Off.refl _ _) j1 (.tup ep hl1) ?_
        rw [cutL_whole (by rw [← hl1.len]; exact e)]
      · have nza := j1.ne nz
        have w1 : Same (wo a H1) (wo a (L2.upd H1 z (.tup (cutV xs lo hi)))) := wo_off (Off.new nz)
        exact q' _ _ _ (Off.new nz) (j1.upd nza) (.tup (wo_get nza upd_same) ((hl1.cut lo hi).mono w1)) rfl))
theorem madeO_none : MadeO σ tNoPart none := fun _ _ q => q
theorem madeO_int {i : Int} : MadeO σ (tPart (tC (.int i))) (some i) := fun _ _ q => ⟨i, rfl, q⟩
theorem madeO_var {n : Nat} {i : Int} (h : σ[n]? = some (some (.int i))) : MadeO σ (tPart (tVar n)) (some i) := fun _ _ q => ⟨_, h, i, rfl, q⟩
theorem madeO_add {n : Nat} {i j : Int} (h : σ[n]? = some (some (.int i))) : MadeO σ (tPart (tOp (rI0 fun i j => .int (i + j)) (tVar n) (tC (.int j)))) (some (i + j)) := fun _ _ q => ⟨_, h, i, j, rfl, rfl, _, rfl, q⟩
end
end Yard
/-! Law k00: which things are patterns: the mathematics. -/
namespace K00
open PySem

/-- a thing that is a pattern but for what its texts of signs must be (sg) -/
def parts (w : Str) : Option Nat :=
  if w = "empty" then some 0 else if w = "then" then some 2 else if w = "or" then some 2
  else if w = "again" then some 1 else if w = "more" then some 1 else if w = "maybe" then some 1
  else none
def signed (sg : Str → Bool) : List PyData → Bool
  | [.str x] => sg x
  | _ => false
def pat (sg : Str → Bool) : Nat → PyData → Bool
  | n + 1, .tuple (.str w :: r) =>
    if w = "signs" then signed sg r
    else match parts w with
      | none => false
      | some k => decide (r.length = k) && r.all (pat sg n)
  | _, _ => false

/-- what is known of such a look, and no more -/
structure PatEq (sg : Str → Bool) (pt : Nat → PyData → Bool) : Prop where
  zero : ∀ d, pt 0 d = false
  no : ∀ n d, (∀ ds, d ≠ .tuple ds) → pt n d = false
  nil : ∀ n, pt n (.tuple []) = false
  nostr : ∀ n d ds, (∀ x, d ≠ .str x) → pt n (.tuple (d :: ds)) = false
  signs : ∀ n ds, pt (n + 1) (.tuple (.str "signs" :: ds)) = signed sg ds
  none : ∀ n (w : Str) ds, w ≠ "signs" → parts w = none → pt (n + 1) (.tuple (.str w :: ds)) = false
  some : ∀ n (w : Str) ds k, w ≠ "signs" → parts w = some k → pt (n + 1) (.tuple (.str w :: ds)) = (decide (ds.length = k) && ds.all (pt n))
theorem pat_eq (sg : Str → Bool) : PatEq sg (pat sg) where
  zero := fun d => by cases d <;> rfl
  no := fun n d h => by
    cases n with
    | zero => cases d <;> rfl
    | succ n =>
      cases d with
      | tuple ds => exact absurd rfl (h ds)
      | _ => rfl
  nil := fun n => by cases n <;> rfl
  nostr := fun n d ds h => by
    cases n with
    | zero => rfl
    | succ n =>
      cases d with
      | str x => exact absurd rfl (h x)
      | _ => rfl
  signs := fun n ds => by
    show (if ("signs" : Str) = "signs" then signed sg ds else _) = _
    rw [if_pos rfl]
  none := fun n w ds h p => by
    show (if w = "signs" then _ else match parts w with
      | none => false
      | some k => _) = _
    rw [if_neg h, p]
  some := fun n w ds k h p => by
    show (if w = "signs" then _ else match parts w with
      | none => false
      | some k => decide (ds.length = k) && ds.all (pat sg n)) = _
    rw [if_neg h, p]

/-! ### two looks at texts of signs -/
def rise (l : List Nat) : List Bool := (List.range (l.length - 1)).map fun i => decide ([l.getD i 0] < [l.getD (i + 1) 0])
def sgA (all : List Nat) (x : Str) : Bool :=
  !x.cps.toList.isEmpty && ((rise x.cps.toList).all id && (x.cps.toList.map fun c => decide (c ∈ all)).all id)
def sgB (all : List Nat) (x : Str) : Bool :=
  !x.cps.toList.isEmpty && decide (all.filter (fun c => decide (c ∈ x.cps.toList)) = x.cps.toList)

theorem sorted_eq : ∀ {l m : List Nat}, l.Pairwise (· < ·) → m.Pairwise (· < ·) → (∀ x, x ∈ l ↔ x ∈ m) → l = m
  | [], [], _, _, _ => rfl
  | [], y :: m, _, _, h => absurd ((h y).mpr List.mem_cons_self) List.not_mem_nil
  | x :: l, [], _, _, h => absurd ((h x).mp List.mem_cons_self) List.not_mem_nil
  | x :: l, y :: m, hl, hm, h => by
    obtain ⟨l1, l2⟩ := List.pairwise_cons.mp hl
    obtain ⟨m1, m2⟩ := List.pairwise_cons.mp hm
    have e : x = y := by
      rcases List.mem_cons.mp ((h x).mp List.mem_cons_self) with e | e
      · exact e
      · rcases List.mem_cons.mp ((h y).mpr List.mem_cons_self) with f | f
        · exact f.symm
        · have a := m1 x e
          have b := l1 y f
          omega
    subst e
    have t : l = m := sorted_eq l2 m2 fun z => by
      constructor
      · intro hz
        rcases List.mem_cons.mp ((h z).mp (List.mem_cons_of_mem _ hz)) with e | e
        · have := l1 z hz; omega
        · exact e
      · intro hz
        rcases List.mem_cons.mp ((h z).mpr (List.mem_cons_of_mem _ hz)) with e | e
        · have := m1 z hz; omega
        · exact e
    rw [t]

theorem single_lt {a b : Nat} : ([a] < [b]) ↔ a < b := by
  constructor
  · intro h
    rcases List.cons_lt_cons_iff.mp h with h | h
    · exact h
    · exact absurd h.2 (List.not_lt_nil _)
  · exact fun h => List.cons_lt_cons_iff.mpr (.inl h)
theorem rise_iff (l : List Nat) : (rise l).all id = true ↔ l.Pairwise (· < ·) := by
  rw [List.all_eq_true]
  constructor
  · intro h
    have step : ∀ i, i + 1 < l.length → l.getD i 0 < l.getD (i + 1) 0 := fun i hi => by
      have q := h (decide ([l.getD i 0] < [l.getD (i + 1) 0])) (List.mem_map.mpr ⟨i, List.mem_range.mpr (by omega), rfl⟩)
      exact single_lt.mp (of_decide_eq_true q)
    have far : ∀ k i, i + k + 1 < l.length → l.getD i 0 < l.getD (i + k + 1) 0 := fun k => by
      induction k with
      | zero => exact fun i hi => step i hi
      | succ k ih => exact fun i hi => Nat.lt_trans (ih i (by omega)) (step (i + k + 1) hi)
    rw [List.pairwise_iff_getElem]
    intro i j hi hj hij
    have q := far (j - i - 1) i (by omega)
    rw [show i + (j - i - 1) + 1 = j by omega] at q
    simpa [List.getD_eq_getElem?_getD, List.getElem?_eq_getElem hi, List.getElem?_eq_getElem hj] using q
  · intro h b hb
    obtain ⟨i, hi, e⟩ := List.mem_map.mp hb
    have hi' := List.mem_range.mp hi
    rw [← e]
    refine decide_eq_true (single_lt.mpr ?_)
    have q := List.pairwise_iff_getElem.mp h i (i + 1) (by omega) (by omega) (by omega)
    simpa [List.getD_eq_getElem?_getD, List.getElem?_eq_getElem (show i < l.length by omega), List.getElem?_eq_getElem (show i + 1 < l.length by omega)] using q
theorem sg_eq {all : List Nat} (ha : all.Pairwise (· < ·)) : sgA all = sgB all := by
  funext x
  unfold sgA sgB
  congr 1
  rw [Bool.eq_iff_iff, Bool.and_eq_true, rise_iff, decide_eq_true_eq]
  generalize x.cps.toList = l
  have fs : (all.filter fun c => decide (c ∈ l)).Pairwise (· < ·) := List.Pairwise.filter _ ha
  constructor
  · rintro ⟨h1, h2⟩
    refine sorted_eq fs h1 fun c => ?_
    rw [List.mem_filter, decide_eq_true_eq]
    refine ⟨fun h => h.2, fun h => ⟨?_, h⟩⟩
    have q := List.all_eq_true.mp h2 (decide (c ∈ all)) (List.mem_map.mpr ⟨c, h, rfl⟩)
    exact of_decide_eq_true q
  · intro h
    refine ⟨h ▸ fs, List.all_eq_true.mpr fun b hb => ?_⟩
    obtain ⟨c, hc, rfl⟩ := List.mem_map.mp hb
    rw [← h] at hc
    exact decide_eq_true (List.mem_filter.mp hc).1

/-! ### what the draws make: plain small data -/
mutual
def plain : PyData → Bool
  | .none | .bool _ => true
  | .int i => decide (i.natAbs < 10 ^ 6)
  | .str x => x.cps.toList.all fun c => decide (c < 128)
  | .list xs | .tuple xs => plainL xs
  | .dict kvs => kvs.isEmpty
def plainL : List PyData → Bool
  | [] => true
  | x :: xs => plain x && plainL xs
end
theorem plainL_iff : ∀ {ds : List PyData}, plainL ds = true ↔ ∀ d ∈ ds, plain d = true
  | [] => by simp [plainL]
  | d :: ds => by simp [plainL, plainL_iff (ds := ds)]
mutual
theorem plain_short : ∀ d : PyData, plain d = true → d.leavesShort 13 = true ∧ d.showable = true
  | .none, _ => ⟨rfl, rfl⟩
  | .bool _, _ => ⟨rfl, rfl⟩
  | .int i, h => by
    have hi : i.natAbs < 10 ^ 6 := by simpa [plain] using h
    refine ⟨?_, ?_⟩
    · have := PyData.shown_int_le (i := i) (by omega)
      simpa [PyData.leavesShort] using this
    · have : i.natAbs.log2 < 1920 := by
        rcases Nat.eq_zero_or_pos i.natAbs with e | e
        · rw [e]; decide
        · exact (Nat.log2_lt (by omega)).mpr (Nat.lt_of_lt_of_le hi (by decide +kernel))
      simpa [PyData.showable] using this
  | .str x, h => by
    have hx : ∀ c ∈ x.cps.toList, c < 128 := by
      simp only [plain, List.all_eq_true, decide_eq_true_eq] at h
      exact h
    refine ⟨?_, rfl⟩
    simp only [PyData.leavesShort, List.all_eq_true, decide_eq_true_eq]
    intro c hc
    have := hx c hc
    omega
  | .list xs, h => by
    have := plainL_short xs (by simpa [plain] using h)
    simpa [PyData.leavesShort, PyData.showable] using this
  | .tuple xs, h => by
    have := plainL_short xs (by simpa [plain] using h)
    simpa [PyData.leavesShort, PyData.showable] using this
  | .dict [], _ => ⟨rfl, rfl⟩
  | .dict (_ :: _), h => by simp [plain] at h
theorem plainL_short : ∀ ds : List PyData, plainL ds = true → PyData.leavesShortAll 13 ds = true ∧ PyData.showableAll ds = true
  | [], _ => ⟨rfl, rfl⟩
  | d :: ds, h => by
    have h' : plain d = true ∧ plainL ds = true := by simpa [plainL] using h
    have a := plain_short d h'.1
    have b := plainL_short ds h'.2
    simp [PyData.leavesShortAll, PyData.showableAll, a, b]
end

/-- plain, of a weight and a depth -/
structure Fine (d : PyData) (w p : Nat) : Prop where
  pl : plain d = true
  wt : d.weight ≤ w
  dp : d.depth ≤ p
structure FineL (ds : List PyData) (w p : Nat) : Prop where
  pl : plainL ds = true
  wt : PyData.weightAll ds ≤ w
  dp : PyData.depthAll ds ≤ p
theorem Fine.mono {d : PyData} {w p w' p' : Nat} (h : Fine d w p) (a : w ≤ w') (b : p ≤ p') : Fine d w' p' :=
  ⟨h.pl, Nat.le_trans h.wt a, Nat.le_trans h.dp b⟩
theorem FineL.mono {d : List PyData} {w p w' p' : Nat} (h : FineL d w p) (a : w ≤ w') (b : p ≤ p') : FineL d w' p' :=
  ⟨h.pl, Nat.le_trans h.wt a, Nat.le_trans h.dp b⟩
theorem FineL.nil : FineL [] 0 0 := ⟨rfl, Nat.le_refl _, Nat.le_refl _⟩
theorem FineL.cons {d : PyData} {ds : List PyData} {w p v : Nat} (h : Fine d w p) (t : FineL ds v p) : FineL (d :: ds) (w + 1 + v) p := by
  refine ⟨by simp [plainL, h.pl, t.pl], ?_, ?_⟩
  · have a := h.wt; have b := t.wt; simp only [PyData.weightAll]; omega
  · have a := h.dp; have b := t.dp; simp only [PyData.depthAll]; omega
theorem weight_app : ∀ (a b : List PyData), PyData.weightAll (a ++ b) = PyData.weightAll a + PyData.weightAll b
  | [], b => by simp [PyData.weightAll]
  | x :: a, b => by simp only [List.cons_append, PyData.weightAll, weight_app a b]; omega
theorem depth_app : ∀ (a b : List PyData), PyData.depthAll (a ++ b) = max (PyData.depthAll a) (PyData.depthAll b)
  | [], b => by simp [PyData.depthAll]
  | x :: a, b => by simp only [List.cons_append, PyData.depthAll, depth_app a b]; omega
theorem plain_app : ∀ (a b : List PyData), plainL (a ++ b) = (plainL a && plainL b)
  | [], b => by simp [plainL]
  | x :: a, b => by simp [List.cons_append, plainL, plain_app a b, Bool.and_assoc]
theorem FineL.app {a b : List PyData} {w v p : Nat} (h : FineL a w p) (t : FineL b v p) : FineL (a ++ b) (w + v) p := by
  refine ⟨by rw [plain_app, h.pl, t.pl] <;> rfl, ?_, ?_⟩
  · have := h.wt; have := t.wt; rw [weight_app]; omega
  · have := h.dp; have := t.dp; rw [depth_app]; omega
theorem FineL.mem {ds : List PyData} {w p : Nat} (h : FineL ds w p) {d : PyData} (hd : d ∈ ds) : Fine d w p := by
  obtain ⟨a, b, rfl⟩ := List.append_of_mem hd
  have h1 := h.pl; have h2 := h.wt; have h3 := h.dp
  rw [plain_app] at h1; rw [weight_app] at h2; rw [depth_app] at h3
  simp only [plainL, PyData.weightAll, PyData.depthAll, Bool.and_eq_true] at h1 h2 h3
  exact ⟨h1.2.1, by omega, by omega⟩
theorem FineL.sub {ds : List PyData} {w p : Nat} (h : FineL ds w p) (i : Nat) : FineL (ds.take i) w p ∧ FineL (ds.drop i) w p := by
  have e : ds = ds.take i ++ ds.drop i := (List.take_append_drop i ds).symm
  have h1 := h.pl; have h2 := h.wt; have h3 := h.dp
  rw [e] at h1 h2 h3
  rw [plain_app] at h1; rw [weight_app] at h2; rw [depth_app] at h3
  rw [Bool.and_eq_true] at h1
  exact ⟨⟨h1.1, by omega, by omega⟩, ⟨h1.2, by omega, by omega⟩⟩
/-- both ends around a part -/
theorem FineL.around {ds : List PyData} {w p : Nat} (h : FineL ds w p) {i : Nat} {d : PyData} (hd : ds[i]? = some d) :
    ∃ a b, FineL (ds.take i) a p ∧ FineL (ds.drop (i + 1)) b p ∧ Fine d d.weight p ∧ a + d.weight + 1 + b ≤ w := by
  obtain ⟨hi, rfl⟩ := List.getElem?_eq_some_iff.mp hd
  have e : ds = ds.take i ++ ds[i] :: ds.drop (i + 1) := by
    rw [← List.drop_eq_getElem_cons hi, List.take_append_drop]
  have h1 := h.pl; have h2 := h.wt; have h3 := h.dp
  rw [e] at h1 h2 h3
  rw [plain_app] at h1; rw [weight_app] at h2; rw [depth_app] at h3
  simp only [plainL, PyData.weightAll, PyData.depthAll, Bool.and_eq_true] at h1 h2 h3
  exact ⟨_, _, ⟨h1.1, Nat.le_refl _, by omega⟩, ⟨h1.2.2, Nat.le_refl _, by omega⟩, ⟨h1.2.1, Nat.le_refl _, by omega⟩, by omega⟩
theorem weight_rev : ∀ ds : List PyData, PyData.weightAll ds.reverse = PyData.weightAll ds
  | [] => rfl
  | d :: ds => by rw [List.reverse_cons, weight_app, weight_rev ds]; simp only [PyData.weightAll]; omega
theorem depth_rev : ∀ ds : List PyData, PyData.depthAll ds.reverse = PyData.depthAll ds
  | [] => rfl
  | d :: ds => by rw [List.reverse_cons, depth_app, depth_rev ds]; simp only [PyData.depthAll]; omega
theorem FineL.rev {ds : List PyData} {w p : Nat} (h : FineL ds w p) : FineL ds.reverse w p := by
  refine ⟨plainL_iff.mpr fun d hd => plainL_iff.mp h.pl d (List.mem_reverse.mp hd), ?_, ?_⟩
  · rw [weight_rev]; exact h.wt
  · rw [depth_rev]; exact h.dp
theorem Fine.tup {ds : List PyData} {w p : Nat} (h : FineL ds w p) : Fine (.tuple ds) w (p + 1) := by
  refine ⟨by simpa [plain] using h.pl, ?_, ?_⟩
  · have := h.wt; simpa only [PyData.weight] using this
  · have := h.dp; simp only [PyData.depth]; omega
theorem Fine.lst {ds : List PyData} {w p : Nat} (h : FineL ds w p) : Fine (.list ds) w (p + 1) := by
  refine ⟨by simpa [plain] using h.pl, ?_, ?_⟩
  · have := h.wt; simpa only [PyData.weight] using this
  · have := h.dp; simp only [PyData.depth]; omega
theorem Fine.of_tup {ds : List PyData} {w p : Nat} (h : Fine (.tuple ds) w p) : ∃ p', p = p' + 1 ∧ FineL ds w p' := by
  have h1 := h.pl; have h2 := h.wt; have h3 := h.dp
  simp only [PyData.depth] at h3
  refine ⟨p - 1, by omega, by simpa [plain] using h1, by simpa only [PyData.weight] using h2, by omega⟩
theorem Fine.text {x : Str} {w : Nat} (h : ∀ c ∈ x.cps.toList, c < 128) (hw : x.length ≤ w) : Fine (.str x) w 0 :=
  ⟨by simp only [plain, List.all_eq_true, decide_eq_true_eq]; exact h, by simp only [PyData.weight]; exact hw, by simp [PyData.depth]⟩
theorem Fine.of_text {x : Str} {w p : Nat} (h : Fine (.str x) w p) : (∀ c ∈ x.cps.toList, c < 128) ∧ x.length ≤ w :=
  have h1 := h.pl
  have h2 := h.wt
  by
    simp only [plain, List.all_eq_true, decide_eq_true_eq, PyData.weight] at h1 h2
    exact ⟨h1, h2⟩
/-! ### how wide tuples are -/
mutual
def arOk (n : Nat) : PyData → Bool
  | .tuple xs => decide (xs.length ≤ n) && arOkL n xs
  | .list xs => arOkL n xs
  | _ => true
def arOkL (n : Nat) : List PyData → Bool
  | [] => true
  | x :: xs => arOk n x && arOkL n xs
end
theorem arOkL_iff {n : Nat} : ∀ {ds : List PyData}, arOkL n ds = true ↔ ∀ d ∈ ds, arOk n d = true
  | [] => by simp [arOkL]
  | d :: ds => by simp [arOkL, arOkL_iff (ds := ds)]
theorem arOk_tup {n : Nat} {ds : List PyData} : arOk n (.tuple ds) = true ↔ ds.length ≤ n ∧ ∀ d ∈ ds, arOk n d = true := by
  show (decide (ds.length ≤ n) && arOkL n ds) = true ↔ _
  rw [Bool.and_eq_true, decide_eq_true_eq, arOkL_iff]
theorem arOk_lst {n : Nat} {ds : List PyData} : arOk n (.list ds) = true ↔ ∀ d ∈ ds, arOk n d = true := by
  show arOkL n ds = true ↔ _
  rw [arOkL_iff]
mutual
theorem arOk_mono {n m : Nat} (h : n ≤ m) : ∀ d : PyData, arOk n d = true → arOk m d = true
  | .tuple xs, a => by
    unfold arOk at a ⊢
    rw [Bool.and_eq_true, decide_eq_true_eq] at a ⊢
    exact ⟨by omega, arOkL_mono h xs a.2⟩
  | .list xs, a => by
    unfold arOk at a ⊢
    exact arOkL_mono h xs a
  | .none, _ => rfl
  | .bool _, _ => rfl
  | .int _, _ => rfl
  | .str _, _ => rfl
  | .dict _, _ => rfl
theorem arOkL_mono {n m : Nat} (h : n ≤ m) : ∀ ds : List PyData, arOkL n ds = true → arOkL m ds = true
  | [], _ => rfl
  | d :: ds, a => by
    unfold arOkL at a ⊢
    rw [Bool.and_eq_true] at a ⊢
    exact ⟨arOk_mono h d a.1, arOkL_mono h ds a.2⟩
end
/-- it can be shown -/
theorem Fine.shows {d : PyData} {w p : Nat} (h : Fine d w p) (hw : w ≤ 2 ^ 20) : d.showable = true ∧ d.shown.length ≤ sizeLine :=
  ⟨(plain_short d h.pl).2, PyData.shown_fits (B := 13) (by decide) (by decide) (plain_short d h.pl).1 (Nat.le_trans h.wt hw)⟩
end K00
set_option maxRecDepth 100000
namespace K00
open PySem PySem.Spec PyProof.Rows L2 Yard
/-! ### the text -/
def topS (i : Nat) : Stmt := PySem.Challenge.pw_tongueyard_k00_which_are_patterns.main.body.getD i (.Pass ⟨0, 0, 0, 0⟩)
abbrev sIsP : Stmt := topS 4
abbrev sWithin : Stmt := topS 5
abbrev sSigns : Stmt := topS 6
abbrev sJar : Stmt := topS 8
abbrev sDip : Stmt := topS 9
abbrev sAll : Stmt := topS 10
abbrev sOf : Stmt := topS 11
abbrev sMould : Stmt := topS 12
abbrev sIsM : Stmt := topS 13
abbrev sOdd : Stmt := topS 14
abbrev sPut : Stmt := topS 15
abbrev sSame : Stmt := topS 16
abbrev sLaw : Stmt := topS 17
/-- all signs, as the program writes them -/
def sigS : Str := "\n !\"#$&'()*+,-./0123456789:;<=>?@ABCDEFGHIJKLMNOPQRSTUVWXYZ[\\]^_`abcdefghijklmnopqrstuvwxyz{|}~"
/-- what the top has left -/
structure Tx (K : PySem.W.Frag) (w : World) (mg : Str → Option Value) where
  (aIsP aWithin aSigns aJar aDip aAll aOf aMould aIsM aOdd aPut aSame : Addr)
  (fIsP fWithin fSigns fJar fDip fAll fOf fMould fIsM fOdd fPut fSame : FuncData)
  isP : Df K mg "is_pattern" sIsP ["thing"] aIsP fIsP
  within : Df K mg "is_pattern_within" sWithin ["thing", "deepest"] aWithin fWithin
  signs : Df K mg "are_signs" sSigns ["thing"] aSigns fSigns
  jar : Df K mg "_law_jar" sJar ["script", "k"] aJar fJar
  dip : Df K mg "_law_dip" sDip ["jar", "many"] aDip fDip
  all : Df K mg "_law_all_signs" sAll [] aAll fAll
  of : Df K mg "_law_signs_of" sOf ["jar", "plain"] aOf fOf
  mould : Df K mg "_law_mould" sMould ["jar", "plain", "deep"] aMould fMould
  isM : Df K mg "_law_is_mould" sIsM ["item", "most"] aIsM fIsM
  odd : Df K mg "_law_odd" sOdd ["jar"] aOdd fOdd
  put : Df K mg "_law_put_otherwise" sPut ["jar", "item", "deep"] aPut fPut
  same : Df K mg "_law_same" sSame ["found", "owed"] aSame fSame
  (aParts : Addr) (es : Array DictEntry) (en : Nat)
  kd : KDict K w aParts es en
  inParts : ∀ z : Str, (parts z = none ∧ PySem.W.nsIn K aParts z = some none) ∨ ∃ (k : Nat) (t : Tok), parts z = some k ∧ PySem.W.nsIn K aParts z = some (some (.int k t))
  (tS tD : Tok)
  cSIGNS : mg "SIGNS" = some (.str sigS tS)
  cDEEPEST : mg "DEEPEST" = some (.int 12 tD)
  cPARTS : mg "PARTS" = some (.ref aParts)
  len : mg "len" = none
  bRange : mg "range" = none
  bMax : mg "max" = none
  bMin : mg "min" = none
  bInt : mg "int" = none
  bStr : mg "str" = none
  bTuple : mg "tuple" = none
  bList : mg "list" = none
  bBool : mg "bool" = none
  bSet : mg "set" = none
  bSorted : mg "sorted" = none
  bAll : mg "all" = none
  bIsinstance : mg "isinstance" = none
section
variable {P : Program} {w : World} {K : PySem.W.Frag} {mg : Str → Option Value} {base : Heap}

/-! ### _law_all_signs -/
def lowS : Str := "\n !\"#$&'()*+,-./0123456789:;<=>?@ABCDEFGHIJKLMNOPQRSTUVWXYZ[\\]^_`"
def allS : Str := lowS ++ ("abcdefghijklmnopqrstuvwxyz{|}~" : Str)
def spAll : Sp := fun vs H Q _ => vs = [] ∧ Q (.str allS) H
theorem scAll : FnScope ["low"] [] (defScope sAll) := ⟨rfl, rfl, rfl, by decide +kernel, rfl, by decide +kernel, by decide +kernel⟩
theorem ok_all (T : Tx K w mg) : FnOk P w K mg base CX0 1 T.aAll T.fAll [] spAll := by
  refine T.all.fn.ok scAll (fun vs H Q E h => ?_) (fun cdv A outer s H vs Q E hr h => ?_)
  · rw [h.1]; rfl
  · obtain ⟨rfl, q⟩ := h
    refine ⟨_, (pss_cons (ps_set (i := 0) scAll.nd rfl (.inl rfl) pe_str) (pss_one (ps_ret (pe_op op_add_str (pv 0) pe_str)))), ?_⟩
    refine ⟨_, rfl, _, _, rfl, rfl, by rw [sizeLine_eq]; decide +kernel, ?_⟩
    exact q

/-! ### _law_jar -/
def spJar (K : PySem.W.Frag) : Sp := fun vs H Q _ => ∃ (a : Addr) (ns : List Int) (k : Nat), vs = [.ref a, .int k] ∧ SqL K H a (ns.map V.int) ∧ ns.length ≤ 63 ∧ k ≤ 30 ∧
  ∀ p H', H p = none → Same H H' → JarAt H' p 0 → Q (.ref p) H'
theorem scJar : FnScope ["script", "k", "cell"] ["script", "k"] (defScope sJar) := ⟨rfl, rfl, rfl, by decide +kernel, rfl, by decide +kernel, by decide +kernel⟩
theorem ok_jar (T : Tx K w mg) : FnOk P w K mg base CX0 1 T.aJar T.fJar ["script", "k"] (spJar K) := by
  refine T.jar.fn.ok scJar (fun vs H Q E h => ?_) (fun cdv A outer s H vs Q E hr h => ?_)
  · obtain ⟨a, ns, k, rfl, _⟩ := h
    rfl
  · obtain ⟨a, ns, k, rfl, hS, hlen, hk, q⟩ := h
    refine ⟨_, (pss_cons (ps_set (i := 2) scJar.nd rfl (.inl rfl) pe_int)
      (pss_cons (ps_if (pt_cmpR op_lt (pv 1) (pe_callB call_len_seq (by rfl) T.len PySem.boot_len (pa_cons (pv 0) pa_nil)) (nomark _))
        (pss_one (ps_set (i := 2) scJar.nd rfl (.inl rfl) (pe_ix ix_list (pv 0) (pv 1) (fun _ _ => rfl)))) pss_nil)
      (pss_one (ps_ret (pe_lst (pa_cons (pe_callB (call_max2 rfl) (by rfl) T.bMax (by decide +kernel) (pa_cons pe_int (pa_cons (pe_op op_sub (pv 2) (pe_op op_powW pe_int pe_int)) pa_nil))) (pa_cons (pe_op op_add (pe_op op_mod (pv 2) pe_int) (pe_op op_mul pe_int (pv 1))) (pa_cons pe_int pa_nil)))))))), ?_⟩
    -- behind the cell's reading
    have rest : ∀ c : Int, tRet (tLst (tCons (tCB (fun xs H Q => ∃ i j, xs = [.int i, .int j] ∧ Q (.int (if j > i then j else i)) H) (tCons (tC (.int 0)) (tCons (tOp (rI0 fun i j => .int (i - j)) (tVar 2) (tOp (rI CPowW fun i j => .int (i ^ j.toNat)) (tC (.int 10)) (tC (.int 18)))) tNil)))
        (tCons (tOp (rI0 fun i j => .int (i + j)) (tOp (rI (fun _ j => 0 < j) fun i j => .int (i % j)) (tVar 2) (tC (.int 618970019642690137449562111))) (tOp (rI CMul fun i j => .int (i * j)) (tC (.int 7919)) (tVar 1))) (tCons (tC (.int 0)) tNil))))
        { nx := fun _ H' => Q .non H', rt := Q } [some (.ref a), some (.int k), some (.int c)] H := by
      intro c
      refine ⟨_, rfl, 10, 18, rfl, rfl, ⟨by decide, 4, by decide, by decide, by decide⟩, _, _, rfl, rfl, _, _, rfl, ?_⟩
      refine ⟨_, rfl, _, _, rfl, rfl, by show (0 : Int) < _; decide, _, rfl, _, _, rfl, rfl, .inl ⟨by decide, by decide⟩, _, _, rfl, rfl, by show 3 ≤ sizeLine; decide, fun p hp => ?_⟩
      refine q p _ hp (same_new hp) ⟨_, _, _, upd_same, ?_, ?_, ?_, Int.le_refl _, Int.le_refl _⟩
      · split <;> omega
      · have h1 : 0 ≤ c % 618970019642690137449562111 := Int.emod_nonneg _ (by decide)
        omega
      · have h1 : c % 618970019642690137449562111 < 618970019642690137449562111 := Int.emod_lt_of_pos _ (by decide)
        have e : (2 : Int) ^ 100 = 1267650600228229401496703205376 := by decide +kernel
        omega
    refine ⟨_, rfl, .ref a, rfl, a, _, rfl, .inl hS, _, _, rfl, rfl, _, rfl, ite2 (fun e => ?_) (fun e => rest 0)⟩
    have e' : (k : Int) < ((ns.map V.int).length : Nat) := of_decide_eq_true e
    rw [List.length_map] at e'
    have hk : k < ns.length := by omega
    have g : (ns.map V.int)[k]? = some (.int ns[k]) := by rw [List.getElem?_map, List.getElem?_eq_getElem hk] <;> rfl
    refine ⟨_, rfl, _, rfl, a, _, _, _, rfl, rfl, hS, atI_nat g, ?_⟩
    exact rest _

/-! ### _law_dip -/
def spDip : Sp := fun vs H Q _ => ∃ (a : Addr) (m : Int) (c : Nat), vs = [.ref a, .int m] ∧ JarAt H a c ∧ 0 < m ∧ m < 1073741824 ∧ c < 1000000 ∧
  ∀ r H', 0 ≤ r → r < m → Off a H H' → JarAt H' a (c + 1) → Q (.int r) H'
theorem scDip : FnScope ["jar", "many", "digit", "mixed"] ["jar", "many"] (defScope sDip) := ⟨rfl, rfl, rfl, by decide +kernel, rfl, by decide +kernel, by decide +kernel⟩
theorem ok_dip (T : Tx K w mg) : FnOk P w K mg base CX0 1 T.aDip T.fDip ["jar", "many"] spDip := by
  refine T.dip.fn.ok scDip (fun vs H Q E h => ?_) (fun cdv A outer s H vs Q E hr h => ?_)
  · obtain ⟨a, m, c, rfl, _⟩ := h
    rfl
  · obtain ⟨a, m, c, rfl, ⟨x, y, z, e, hx, hy, hy2, hz, hz2⟩, m0, m1, hc, q⟩ := h
    refine ⟨_, (pss_cons (ps_if (pt_cmpR op_gt (pe_ix ix_list (pv 0) pe_int (fun _ _ => rfl)) pe_int (nomark _))
      (pss_cons (ps_set (i := 2) scDip.nd rfl (.inl rfl) (pe_op op_mod (pe_ix ix_list (pv 0) pe_int (fun _ _ => rfl)) (pv 1)))
      (pss_cons (ps_asg (pe_op op_fdiv (pe_ix ix_list (pv 0) pe_int (fun _ _ => rfl)) (pv 1)) (pg_sub (pv 0) pe_int set_list))
      (pss_one (ps_ret (pv 2)))))
      pss_nil)
      (pss_cons (ps_asg (pe_op op_add (pe_ix ix_list (pv 0) pe_int (fun _ _ => rfl)) pe_int) (pg_sub (pv 0) pe_int set_list))
      (pss_cons (ps_set (i := 3) scDip.nd rfl (.inl rfl) (pe_op op_mod (pe_op op_powW (pe_op op_add (pe_ix ix_list (pv 0) pe_int (fun _ _ => rfl)) (pe_op op_mul pe_int (pe_ix ix_list (pv 0) pe_int (fun _ _ => rfl)))) pe_int) pe_int))
      (pss_cons (ps_set (i := 3) scDip.nd rfl (.inl rfl) (pe_op op_mod (pe_op op_powW (pe_op op_add (pv 3) (pe_op op_mul pe_int (pe_ix ix_list (pv 0) pe_int (fun _ _ => rfl)))) pe_int) pe_int))
      (pss_one (ps_ret (pe_op op_mod (pe_op op_fdiv (pv 3) pe_int) (pv 1)))))))), ?_⟩
    have g0 : atI [V.int x, V.int y, V.int z] 0 = some (.int x) := rfl
    have g2 : atI [V.int x, V.int y, V.int z] 2 = some (.int z) := rfl
    have k1 : atI [V.int x, V.int y, V.int (z + 1)] 1 = some (.int y) := rfl
    have k2 : atI [V.int x, V.int y, V.int (z + 1)] 2 = some (.int (z + 1)) := rfl
    have eS : SqL K H a [.int x, .int y, .int z] := SqL.of e
    refine ⟨_, rfl, a, _, 0, _, rfl, rfl, eS, g0, _, _, rfl, rfl, _, rfl, ite2 (fun _ => ?_) (fun _ => ?_)⟩
    · refine ⟨_, rfl, a, _, 0, _, rfl, rfl, eS, g0, _, rfl, _, _, rfl, rfl, by show (0 : Int) < m; exact m0, ?_⟩
      refine ⟨_, rfl, a, _, 0, _, rfl, rfl, eS, g0, _, rfl, _, _, rfl, rfl, ⟨m0, m1⟩, _, rfl, a, _, 0, 0, rfl, rfl, e, rfl, ?_⟩
      refine ⟨_, rfl, q _ _ (Int.emod_nonneg _ (by omega)) (Int.emod_lt_of_pos _ m0) Off.at_ ⟨_, _, _, upd_same, Int.ediv_nonneg hx (by omega), hy, hy2, hz, by omega⟩⟩
    · have e2 : (upd H a (.lst [.int x, .int y, .int (z + 1)])) a = some (.lst [.int x, .int y, .int (z + 1)]) := upd_same
      have fS : SqL K (upd H a (.lst [.int x, .int y, .int (z + 1)])) a [.int x, .int y, .int (z + 1)] := SqL.of e2
      have b1 : (2 : Int) ^ 100 = 1267650600228229401496703205376 := by decide +kernel
      have b2 : (2 : Nat) ^ 101 = 2535301200456458802993406410752 := by decide +kernel
      refine ⟨_, rfl, a, _, 2, _, rfl, rfl, eS, g2, _, _, rfl, rfl, _, rfl, a, _, 2, 2, rfl, rfl, e, rfl, ?_⟩
      refine ⟨_, rfl, a, _, 1, _, rfl, rfl, fS, k1, _, rfl, a, _, 2, _, rfl, rfl, fS, k2, _, _, rfl, rfl, .inl ⟨by decide, by decide⟩, _, _, rfl, rfl, _, _, rfl, rfl,
        ⟨by decide, 101, ?_, by decide, by decide⟩, _, _, rfl, rfl, by show (0 : Int) < _; decide, ?_⟩
      · omega
      have n1 : 0 ≤ (y + 104729 * (z + 1)) ^ (3 : Int).toNat % 618970019642690137449562111 := Int.emod_nonneg _ (by decide)
      have n2 : (y + 104729 * (z + 1)) ^ (3 : Int).toNat % 618970019642690137449562111 < 618970019642690137449562111 := Int.emod_lt_of_pos _ (by decide)
      generalize (y + 104729 * (z + 1)) ^ (3 : Int).toNat % 618970019642690137449562111 = u at n1 n2 ⊢
      refine ⟨_, rfl, _, rfl, a, _, 2, _, rfl, rfl, fS, k2, _, _, rfl, rfl, .inl ⟨by decide, by decide⟩, _, _, rfl, rfl, _, _, rfl, rfl,
        ⟨by decide, 101, ?_, by decide, by decide⟩, _, _, rfl, rfl, by show (0 : Int) < _; decide, ?_⟩
      · omega
      refine ⟨_, rfl, _, _, rfl, rfl, ⟨by decide, by decide⟩, _, rfl, _, _, rfl, rfl, m0, ?_⟩
      exact q _ _ (Int.emod_nonneg _ (by omega)) (Int.emod_lt_of_pos _ m0) Off.at_ ⟨_, _, _, upd_same, hx, hy, hy2, by omega, by omega⟩
end
end K00
set_option maxRecDepth 100000
set_option maxHeartbeats 1000000
namespace K00
open PySem PySem.Spec PyProof.Rows L2 Yard
section
variable {P : Program} {w : World} {K : PySem.W.Frag} {mg : Str → Option Value} {base : Heap}

/-! ### are_signs -/
abbrev sgL : List Nat := sigS.cps.toList
def isSg : PyData → Bool
  | .str x => sgA sgL x
  | _ => false
def spSigns : Sp := fun vs H Q _ => ∃ (v : V) (d : PyData), vs = [v] ∧ Dq H v d ∧ (∀ x, d = .str x → x.length ≤ 2000000) ∧ ∀ H', Same H H' → Q (.bl (isSg d)) H'
theorem scSigns : FnScope ["thing", "rising", "at", "sign"] ["thing"] (defScope sSigns) := ⟨rfl, rfl, rfl, by decide +kernel, rfl, by decide +kernel, by decide +kernel⟩
theorem ok_signs (T : Tx K w mg) : FnOk P w K mg base CX0 1 T.aSigns T.fSigns ["thing"] spSigns := by
  refine T.signs.fn.ok scSigns (fun vs H Q E h => ?_) (fun cdv A outer s H vs Q E hr h => ?_)
  · obtain ⟨v, d, rfl, _⟩ := h
    rfl
  · obtain ⟨v, d, rfl, hd, hx, q⟩ := h
    refine ⟨_, (pss_cons (ps_if (PW.pt (pw_or (pt_not (pt_val (pe_callB call_isi (by rfl) T.bIsinstance (by decide +kernel) (pa_cons (pv 0) (pa_cons (pe_bltn (v := .ty "str") (u := .type "str") (by rfl) T.bStr (by decide +kernel) rfl) pa_nil))))) (pw_or1 (pt_cmpR op_eq (pv 0) pe_str (nomark _)))))
      (pss_one (ps_ret pe_bl)) pss_nil)
      (pss_cons (ps_setLc (i := 1) (own := [("at", 2)]) (g := gName 2) (tt := tYes) rfl scSigns.nd rfl rfl (sw_true rfl rfl rfl (by decide +kernel)) (pi_range2 rfl T.bRange (pa_cons pe_int (pa_cons (pe_callB call_len_str (by rfl) T.len PySem.boot_len (pa_cons (pv 0) pa_nil)) pa_nil))) (blkOk_by (own := [("at", 2)]) (N := ["thing", "rising", "at", "sign"]) (sc := defScope sSigns) (by decide +kernel)) (fun _ _ _ _ _ => pg_name (i := 2) scSigns.nd rfl (.inl rfl)) (fun _ _ _ _ _ => pts_nil) (fun _ _ _ _ _ => (pe_cmpR op_lt_str (pe_ix ix_str (pv 0) (pe_op op_sub (pv 2) pe_int) (fun _ _ => rfl)) (pe_ix ix_str (pv 0) (pv 2) (fun _ _ => rfl)) (nomark _))))
      (pss_one (ps_ret (pe_and (pe_callB (cr_all rfl) (by rfl) T.bAll (by decide +kernel) (pa_cons (pv 1) pa_nil)) (pe_one (pe_callB (cr_all rfl) (by rfl) T.bAll (by decide +kernel) (pa_cons (pe_lc (own := [("sign", 3)]) (g := gName 3) (tt := tYes) rfl scSigns.nd (pi_str (pv 0)) (blkOk_by (own := [("sign", 3)]) (N := ["thing", "rising", "at", "sign"]) (sc := defScope sSigns) (by decide +kernel)) (fun _ _ _ _ _ => pg_name (i := 3) scSigns.nd rfl (.inl rfl)) (fun _ _ _ _ _ => pts_nil) (fun _ _ _ _ _ => (pe_cmpR op_in_sign (pv 3) (pe_glob (v := .str sigS) rfl T.cSIGNS ⟨_, rfl⟩) (by rfl)))) pa_nil)))))))), ?_⟩
    refine ⟨_, rfl, v, .ty "str", _, _, _, rfl, .ty "str", hd.ty, kit_ty (kit_str d), _, rfl, ?_⟩
    cases hd with
    | str x =>
      -- a text: is it empty
      have hz := hx x rfl
      have hs : x.length ≤ sizeLine := by rw [sizeLine_eq]; omega
      refine ⟨_, rfl, rfl, _, rfl, ite2 (fun e => ?_) (fun e => ?_)⟩
      · have e' : V.str x = V.str "" := of_decide_eq_true e
        cases e'
        exact q H (fun _ _ z => z)
      · have ne : x ≠ "" := fun z => e (by rw [z]; exact decide_eq_true rfl)
        have nl : x.cps.toList ≠ [] := fun z => ne (by
          obtain ⟨⟨l⟩⟩ := x
          cases (show l = [] from z)
          rfl)
        have len : x.cps.toList.length = x.length := Array.length_toList
        refine ⟨_, rfl, _, rfl, hs, 1, (x.length : Int), rfl, ⟨by decide, by decide, by omega, by omega⟩, fun D hD => ?_⟩
        refine lc_pure walk_range (fun i => .bl (decide ([x.cps.toList.getD i 0] < [x.cps.toList.getD (i + 1) 0]))) hD (by rw [sizeLine_eq]; omega) (fun _ _ => trivial) ?_ ?_
        · -- thing[at - 1] < thing[at]
          rintro i y H2 H3 N hi sm ⟨rfl, rfl⟩ fin
          have hi' : i + 1 < x.cps.toList.length := by omega
          have g1 : atI x.cps.toList (1 + (i : Int) - 1) = some (x.cps.toList.getD i 0) := by
            rw [show 1 + (i : Int) - 1 = ((i : Nat) : Int) by omega]
            refine atI_nat ?_
            rw [List.getElem?_eq_getElem (by omega), List.getD_eq_getElem?_getD, List.getElem?_eq_getElem (by omega)]; rfl
          have g2 : atI x.cps.toList (1 + (i : Int)) = some (x.cps.toList.getD (i + 1) 0) := by
            rw [show 1 + (i : Int) = ((i + 1 : Nat) : Int) by omega]
            refine atI_nat ?_
            rw [List.getElem?_eq_getElem hi', List.getD_eq_getElem?_getD, List.getElem?_eq_getElem hi']; rfl
          refine ⟨rfl, _, rfl, _, rfl, _, _, rfl, rfl, x, _, _, rfl, rfl, hs, g1, _, rfl, _, rfl, x, _, _, rfl, rfl, hs, g2, _, _, rfl, rfl, ?_⟩
          exact fin _ fun _ _ z => z
        · intro H2 s2 e2
          have er : ((List.range ((x.length : Int) - 1).toNat).map fun i => V.bl (decide ([x.cps.toList.getD i 0] < [x.cps.toList.getD (i + 1) 0]))) = (rise x.cps.toList).map V.bl := by
            unfold rise
            rw [List.map_map, len, show ((x.length : Int) - 1).toNat = x.length - 1 by omega]; rfl
          rw [er] at e2
          refine ⟨_, rfl, D, _, rfl, SqL.of e2, _, rfl, ite2 (fun c => ?_) (fun c => ?_)⟩
          · -- all(sign in SIGNS)
            refine ⟨_, rfl, x, rfl, fun D2 hD2 => ?_⟩
            refine lc_pure walk_str (fun i => .bl (decide (x.cps.toList.getD i 0 ∈ sgL))) hD2 (by have : x.cps.size = x.length := rfl; rw [sizeLine_eq]; omega) (fun _ _ => trivial) ?_ ?_
            · rintro i y H4 H5 N hi sm ⟨rfl, k, hk, rfl⟩ fin
              have ek : k = x.cps.toList.getD i 0 := by
                rw [List.getD_eq_getElem?_getD, Array.getElem?_toList, hk]; rfl
              refine ⟨rfl, _, rfl, k, sigS, rfl, rfl, ?_⟩
              rw [ek]
              exact fin _ fun _ _ z => z
            · intro H4 s4 e4
              have er2 : ((List.range x.cps.size).map fun i => V.bl (decide (x.cps.toList.getD i 0 ∈ sgL))) = (x.cps.toList.map fun c => decide (c ∈ sgL)).map V.bl := by
                rw [List.map_map]
                refine List.ext_getElem (by simp) fun i h1 h2 => ?_
                have hi : i < x.cps.toList.length := by simpa using h1
                simp only [List.getElem_map, List.getElem_range, List.getD_eq_getElem?_getD, List.getElem?_eq_getElem hi]
                rfl
              rw [er2] at e4
              refine ⟨D2, _, rfl, SqL.of e4, ?_⟩
              have fin := q H4 fun b o z => s4 b o (s2 b o z)
              have eq_ : isSg (.str x) = (x.cps.toList.map fun c => decide (c ∈ sgL)).all id := by
                show (!x.cps.toList.isEmpty && ((rise x.cps.toList).all id && _)) = _
                rw [c]
                cases h : x.cps.toList with
                | nil => exact absurd h nl
                | cons _ _ => simp
              rw [eq_] at fin
              exact fin
          · have fin := q H2 s2
            have eq_ : isSg (.str x) = false := by
              show (!x.cps.toList.isEmpty && ((rise x.cps.toList).all id && _)) = _
              rw [Bool.eq_false_iff.mpr c, Bool.false_and, Bool.and_false]
            rw [eq_] at fin
            exact fin
    | _ => exact q H (fun _ _ z => z)
end
end K00
set_option maxRecDepth 100000
set_option maxHeartbeats 1000000
namespace K00
open PySem PySem.Spec PyProof.Rows L2 Yard
section
variable {P : Program} {w : World} {K : PySem.W.Frag} {mg : Str → Option Value} {base : Heap}

/-- t[1:] of a tuple that isn't empty -/
theorem cut_tail (x : V) (xs : List V) : cutV (x :: xs) (some 1) none = xs := by
  unfold cutV
  rw [show HT.sIx (x :: xs).length 0 (some 1) = min 1 (x :: xs).length from HT.sIx_nat _ 0 1, HT.sIx_none]
  have e : min 1 (x :: xs).length = 1 := by rw [List.length_cons]; omega
  rw [e]
  show List.take ((x :: xs).length - 1) xs = xs
  rw [List.length_cons, Nat.add_sub_cancel]
  exact List.take_length
theorem not_whole (x : V) (xs : List V) (o : Option Int) : ¬ (HT.sIx (x :: xs).length 0 (some 1) = 0 ∧ HT.sIx (x :: xs).length (x :: xs).length o = (x :: xs).length) := fun h => by
  have q := h.1
  rw [show HT.sIx (x :: xs).length 0 (some 1) = min 1 (x :: xs).length from HT.sIx_nat _ 0 1, List.length_cons] at q
  omega
theorem no_fn {f : Addr} {fd : FuncData} {ps : List Str} {k : Nat} : FnOk P w K mg base CX0 k f fd ps (fun _ _ _ _ => False) :=
  ⟨fun _ _ _ _ h => h.elim, fun _ _ _ _ _ _ _ _ _ _ _ _ _ h => h.elim⟩

theorem _root_.Yard.DqL.one {H : Hp} {xs : List V} {ds : List PyData} (h : DqL H xs ds) (n : xs.length = 1) : ∃ y d, xs = [y] ∧ ds = [d] ∧ Dq H y d := by
  cases h with
  | nil => cases n
  | cons h1 t =>
    cases t with
    | nil => exact ⟨_, _, rfl, rfl, h1⟩
    | cons _ _ => simp at n
theorem signed_long {sg : Str → Bool} {ds : List PyData} (h : ds.length ≠ 1) : signed sg ds = false := by
  match ds, h with
  | [], _ => rfl
  | [_], h => exact absurd rfl h
  | d :: _ :: _, _ => cases d <;> rfl

/-! ### is_pattern_within -/
def spWithin (pt : Nat → PyData → Bool) (n : Nat) : Sp := fun vs H Q _ => ∃ (v : V) (d : PyData) (wt p : Nat), vs = [v, .int n] ∧ Dq H v d ∧ Fine d wt p ∧ wt ≤ 2 ^ 20 ∧ ∀ H', Same H H' → Q (.bl (pt n d)) H'
def spBefore (sp : Nat → Sp) : Nat → Sp
  | 0 => fun _ _ _ _ => False
  | n + 1 => sp n
theorem scWithin : FnScope ["thing", "deepest", "word", "part"] ["thing", "deepest"] (defScope sWithin) := ⟨rfl, rfl, rfl, by decide +kernel, rfl, by decide +kernel, by decide +kernel⟩
theorem within_step (T : Tx K w mg) {pt : Nat → PyData → Bool} (PE_ : PatEq (sgA sgL) pt) (n : Nat) (G : FnOk P w K mg base CX0 (n + 1) T.aWithin T.fWithin ["thing", "deepest"] (spBefore (spWithin pt) n)) :
    FnOk P w K mg base CX0 (n + 2) T.aWithin T.fWithin ["thing", "deepest"] (spWithin pt n) := by
  refine T.within.fn.ok scWithin (fun vs H Q E h => ?_) (fun cdv A outer s H vs Q E hr h => ?_)
  · obtain ⟨v, d, wt, p, rfl, _⟩ := h
    rfl
  · obtain ⟨v, d, wt, p, rfl, hd, fine, hw, q⟩ := h
    have hr1 : Room 1 _ := hr.mono (by omega)
    refine ⟨_, (pss_cons (ps_if (PW.pt (pw_or (pt_cmpR op_eq (pv 1) pe_int (nomark _)) (pw_or (pt_not (pt_val (pe_callB call_isi (by rfl) T.bIsinstance (by decide +kernel) (pa_cons (pv 0) (pa_cons (pe_bltn (v := .ty "tuple") (u := .type "tuple") (by rfl) T.bTuple (by decide +kernel) rfl) pa_nil))))) (pw_or1 (pt_cmpR op_eq (pe_callB call_len_seq (by rfl) T.len PySem.boot_len (pa_cons (pv 0) pa_nil)) pe_int (nomark _))))))
      (pss_one (ps_ret pe_bl)) pss_nil)
      (pss_cons (ps_set (i := 2) scWithin.nd rfl (.inl rfl) (pe_ix ix_tup (pv 0) pe_int (fun _ _ => rfl)))
      (pss_cons (ps_if (pt_not (pt_val (pe_callB call_isi (by rfl) T.bIsinstance (by decide +kernel) (pa_cons (pv 2) (pa_cons (pe_bltn (v := .ty "str") (u := .type "str") (by rfl) T.bStr (by decide +kernel) rfl) pa_nil)))))
        (pss_one (ps_ret pe_bl)) pss_nil)
      (pss_cons (ps_if (pt_cmpR op_eq (pv 2) pe_str (nomark _))
        (pss_one (ps_ret (pe_and (pe_cmpR op_eq (pe_callB call_len_seq (by rfl) T.len PySem.boot_len (pa_cons (pv 0) pa_nil)) pe_int (nomark _)) (pe_one (pe_call (ok_signs T) hr1 (by rfl) T.signs.at_ T.signs.kp T.signs.bd .nil pass0 (pa_cons (pe_ix ix_tup (pv 0) pe_int (fun _ _ => rfl)) pa_nil))))))
        pss_nil)
      (pss_cons (ps_if (PW.pt (pw_or (pt_cmpR (op_notIn_kd T.kd) (pv 2) (pe_glob (v := .ref T.aParts) rfl T.cPARTS rfl) (by rfl)) (pw_or1 (pt_cmpR op_ne (pe_callB call_len_seq (by rfl) T.len PySem.boot_len (pa_cons (pv 0) pa_nil)) (pe_op op_add pe_int (pe_ix ix_kdict (pe_glob (v := .ref T.aParts) rfl T.cPARTS rfl) (pv 2) (fun _ _ => rfl))) (nomark _)))))
        (pss_one (ps_ret pe_bl)) pss_nil)
      (pss_one (ps_ret (pe_callB (cr_all rfl) (by rfl) T.bAll (by decide +kernel) (pa_cons (pe_lc (own := [("part", 3)]) (g := gName 3) (tt := tYes) rfl scWithin.nd (pi_tup (pe_slice sl_tupA (pv 0) (po_some pe_int) po_none)) (blkOk_by (own := [("part", 3)]) (N := ["thing", "deepest", "word", "part"]) (sc := defScope sWithin) (by decide +kernel)) (fun _ _ _ _ _ => pg_name (i := 3) scWithin.nd rfl (.inl rfl)) (fun _ _ _ _ _ => pts_nil) (fun _ _ _ _ _ => (pe_call G hr (by rfl) T.within.at_ T.within.kp T.within.bd .nil pass0 (pa_cons (pv 3) (pa_cons (pe_op op_sub (pv 1) pe_int) pa_nil))))) pa_nil))))))))), ?_⟩
    have out : pt n d = false → Q (.bl false) H := fun e => by
      have z := q H fun _ _ z => z
      rw [e] at z
      exact z
    refine ⟨_, rfl, rfl, _, rfl, ite2 (fun e => ?_) (fun e => ?_)⟩
    · have e0 : (n : Int) = 0 := V.int.inj (of_decide_eq_true e)
      obtain rfl : n = 0 := by omega
      exact out (PE_.zero d)
    have n0 : n ≠ 0 := fun z => e (by subst z; exact decide_eq_true rfl)
    obtain ⟨m, rfl⟩ : ∃ m, n = m + 1 := ⟨n - 1, by omega⟩
    refine ⟨_, rfl, v, .ty "tuple", _, _, _, rfl, .ty "tuple", hd.ty, kit_ty (kit_tup d), _, rfl, ?_⟩
    cases hd with
    | @tup a xs ds ea hl =>
      obtain ⟨p', rfl, fl⟩ := fine.of_tup
      have eS : SqT K H a xs := SqT.of ea
      refine iteF ⟨_, rfl, a, _, rfl, .inr eS, rfl, _, rfl, ite2 (fun e => ?_) (fun e => ?_)⟩
      · have e0 : ((xs.length : Nat) : Int) = 0 := V.int.inj (of_decide_eq_true e)
        have l0 := hl.len
        obtain rfl : ds = [] := List.eq_nil_of_length_eq_zero (by omega)
        exact out (PE_.nil _)
      cases hl with
      | nil => exact absurd (decide_eq_true rfl) e
      | @cons x xs d0 ds h0 hl =>
        refine ⟨_, rfl, a, _, 0, _, rfl, rfl, eS, atI_nat (j := 0) rfl, ?_⟩
        refine ⟨_, rfl, x, .ty "str", _, _, _, rfl, .ty "str", h0.ty, kit_ty (kit_str d0), _, rfl, ?_⟩
        cases h0 with
        | str z =>
          refine iteF ⟨_, rfl, rfl, _, rfl, ite2 (fun e => ?_) (fun e => ?_)⟩
          · -- signs
            have ez : z = "signs" := V.str.inj (of_decide_eq_true e)
            subst ez
            have pe := PE_.signs m ds
            refine ⟨_, rfl, a, _, rfl, .inr eS, rfl, _, rfl, ite2 (fun e => ?_) (fun e => ?_)⟩
            · have e0 : (((V.str "signs" :: xs).length : Nat) : Int) = 2 := V.int.inj (of_decide_eq_true e)
              rw [List.length_cons] at e0
              obtain ⟨y, d1, rfl, rfl, h1⟩ := hl.one (by omega)
              have f1 : Fine d1 wt p' := fl.mem (List.mem_cons_of_mem _ List.mem_cons_self)
              refine ⟨_, rfl, a, _, 1, _, rfl, rfl, eS, atI_nat (j := 1) rfl, y, d1, rfl, h1, fun x hx => ?_, fun H' s' => ?_⟩
              · subst hx
                have := f1.of_text.2
                omega
              · have z := q H' s'
                rw [pe] at z
                have e2 : signed (sgA sgL) [d1] = isSg d1 := by cases d1 <;> rfl
                rw [e2] at z
                exact z
            · refine out (pe.trans (signed_long fun l1 => e ?_))
              rw [decide_eq_true_eq, List.length_cons, hl.len, l1]
              rfl
          · have nz : z ≠ "signs" := fun h => e (by rw [h]; exact decide_eq_true rfl)
            rcases T.inParts z with ⟨p0, i0⟩ | ⟨k, t, p0, i0⟩
            · refine ⟨_, rfl, z, none, rfl, rfl, i0, _, rfl, iteT ?_⟩
              exact out (PE_.none m z ds nz p0)
            · have l0 := hl.len
              have pe := PE_.some m z ds k nz p0
              refine ⟨_, rfl, z, _, rfl, rfl, i0, _, rfl, iteF ?_⟩
              refine ⟨_, rfl, a, _, rfl, .inr eS, _, rfl, _, z, .int k, rfl, rfl, ⟨_, _, _, T.kd.at_, T.kd.lit, i0, ⟨_, rfl⟩⟩, _, _, rfl, rfl, rfl, _, rfl, ite2 (fun e => ?_) (fun e => ?_)⟩
              · refine out ?_
                rw [pe]
                have ne : ds.length ≠ k := fun h => by
                  rw [Bool.not_eq_true', decide_eq_false_iff_not] at e
                  apply e
                  rw [List.length_cons, l0, h]
                  exact congrArg V.int (by omega)
                rw [decide_eq_false ne, Bool.false_and]
              · have eq_ : ds.length = k := by
                  have e' : ¬ ((!decide (V.int (((V.str z :: xs).length : Nat) : Int) = V.int (1 + (k : Int)))) = true) := e
                  rw [Bool.not_eq_true', decide_eq_false_iff_not, Classical.not_not] at e'
                  have e2 := V.int.inj e'
                  rw [List.length_cons] at e2
                  omega
                -- all parts
                refine ⟨_, rfl, 1, rfl, a, _, rfl, eS, fun h => absurd h (not_whole _ _ _), fun _ c nc => ?_⟩
                rw [cut_tail]
                refine ⟨c, rfl, ⟨_, SqT.of upd_same⟩, fun D hD => ?_⟩
                have s1 : Same H (upd H c (.tup xs)) := same_new nc
                refine lc_pure (walk_tup (xs := xs)) (fun i => .bl (pt m (ds.getD i .none))) hD ?_ (fun H2 s2 => SqT.of (s2 _ _ upd_same)) ?_ ?_
                · have := PySem.sizeLine_eq
                  have w1 : ∀ l : List PyData, l.length ≤ PyData.weightAll l := fun l => by
                    induction l with
                    | nil => exact Nat.zero_le _
                    | cons x l ih => simp only [PyData.weightAll, List.length_cons]; omega
                  have w2 := w1 ds
                  have w3 := fl.wt
                  simp only [PyData.weightAll] at w3
                  rw [this]
                  omega
                · rintro i y H2 H3 N hi s2 ⟨rfl, hy⟩ fin
                  obtain ⟨di, hdi, hq⟩ := hl.get hy
                  have f1 : Fine di wt p' := fl.mem (List.mem_cons_of_mem _ (List.mem_of_getElem? hdi))
                  have eg : ds.getD i .none = di := by rw [List.getD_eq_getElem?_getD, hdi]; rfl
                  have same : Same H H3 := fun b o z => s2 b o (s1 b o z)
                  refine ⟨rfl, _, rfl, _, rfl, _, _, rfl, rfl, y, di, wt, p', ?_, hq.mono same, f1, hw, fun H4 s4 => ?_⟩
                  · show [y, V.int (((m + 1 : Nat) : Int) - 1)] = _
                    rw [show ((m + 1 : Nat) : Int) - 1 = (m : Int) by omega]
                  · have z := fin H4 s4
                    rw [eg] at z
                    exact z
                · intro H2 s2 e2
                  have er : ((List.range xs.length).map fun i => V.bl (pt m (ds.getD i .none))) = (ds.map (pt m)).map V.bl := by
                    rw [List.map_map]
                    refine List.ext_getElem (by simp [l0]) fun i h1 h2 => ?_
                    have hi : i < ds.length := by simpa using h2
                    simp only [List.getElem_map, List.getElem_range, List.getD_eq_getElem?_getD, List.getElem?_eq_getElem hi]
                    rfl
                  rw [er] at e2
                  refine ⟨D, _, rfl, SqL.of e2, ?_⟩
                  have z := q H2 fun b o z => s2 b o (s1 b o z)
                  rw [pe] at z
                  have e3 : (decide (ds.length = k) && ds.all (pt m)) = (ds.map (pt m)).all id := by
                    rw [decide_eq_true eq_, Bool.true_and, List.all_map]; rfl
                  rw [e3] at z
                  exact z
        | _ => exact iteT (out (PE_.nostr _ _ _ (fun _ z => nomatch z)))
    | _ => exact iteT (out (PE_.no _ _ (fun _ z => nomatch z)))
theorem ok_within (T : Tx K w mg) {pt : Nat → PyData → Bool} (PE_ : PatEq (sgA sgL) pt) : ∀ n : Nat, FnOk P w K mg base CX0 (n + 2) T.aWithin T.fWithin ["thing", "deepest"] (spWithin pt n)
  | 0 => within_step T PE_ 0 no_fn
  | n + 1 => within_step T PE_ (n + 1) (ok_within T PE_ n)
end
end K00
set_option maxRecDepth 100000
set_option maxHeartbeats 1000000
namespace K00
open PySem PySem.Spec PyProof.Rows L2 Yard
section
variable {P : Program} {w : World} {K : PySem.W.Frag} {mg : Str → Option Value} {base : Heap}

/-! ### is_pattern -/
def spIsP (pt : Nat → PyData → Bool) : Sp := fun vs H Q _ => ∃ (v : V) (d : PyData) (wt p : Nat), vs = [v] ∧ Dq H v d ∧ Fine d wt p ∧ wt ≤ 2 ^ 20 ∧ ∀ H', Same H H' → Q (.bl (pt 12 d)) H'
theorem scIsP : FnScope ["thing"] ["thing"] (defScope sIsP) := ⟨rfl, rfl, rfl, by decide +kernel, rfl, by decide +kernel, by decide +kernel⟩
theorem ok_isP (T : Tx K w mg) {pt : Nat → PyData → Bool} (PE_ : PatEq (sgA sgL) pt) : FnOk P w K mg base CX0 15 T.aIsP T.fIsP ["thing"] (spIsP pt) := by
  refine T.isP.fn.ok scIsP (fun vs H Q E h => ?_) (fun cdv A outer s H vs Q E hr h => ?_)
  · obtain ⟨v, d, wt, p, rfl, _⟩ := h
    rfl
  · obtain ⟨v, d, wt, p, rfl, hd, fine, hw, q⟩ := h
    refine ⟨_, (pss_one (ps_ret (pe_call (ok_within T PE_ 12) hr (by rfl) T.within.at_ T.within.kp T.within.bd .nil pass0 (pa_cons (pv 0) (pa_cons (pe_glob (v := .int 12) rfl T.cDEEPEST ⟨_, rfl⟩) pa_nil))))), ?_⟩
    exact ⟨_, rfl, v, d, wt, p, rfl, hd, fine, hw, q⟩

/-! ### _law_same -/
def spSame : Sp := fun vs H Q _ => ∃ a b : Bool, vs = [.bl a, .bl b] ∧ Q (.bl (a == b)) H
theorem scSame : FnScope ["found", "owed"] ["found", "owed"] (defScope sSame) := ⟨rfl, rfl, rfl, by decide +kernel, rfl, by decide +kernel, by decide +kernel⟩
theorem ok_same (T : Tx K w mg) : FnOk P w K mg base CX0 1 T.aSame T.fSame ["found", "owed"] spSame := by
  refine T.same.fn.ok scSame (fun vs H Q E h => ?_) (fun cdv A outer s H vs Q E hr h => ?_)
  · obtain ⟨a, b, rfl, _⟩ := h
    rfl
  · obtain ⟨a, b, rfl, q⟩ := h
    refine ⟨_, (pss_one (ps_ret (pe_and (pe_callB call_isi (by rfl) T.bIsinstance (by decide +kernel) (pa_cons (pv 0) (pa_cons (pe_bltn (v := .ty "bool") (u := .type "bool") (by rfl) T.bBool (by decide +kernel) rfl) pa_nil))) (pe_one (pe_cmpR op_eq (pv 0) (pv 1) (nomark _)))))), ?_⟩
    refine ⟨_, rfl, .bl a, .ty "bool", _, _, true, rfl, .ty "bool", .base (.bl a), kit_ty (by decide +kernel), _, rfl, iteT ?_⟩
    refine ⟨_, rfl, _, rfl, rfl, ?_⟩
    have e : decide (V.bl a = V.bl b) = (a == b) := by cases a <;> cases b <;> rfl
    rw [e]
    exact q
/-! ### _law_is_mould -/
abbrev allL : List Nat := allS.cps.toList
theorem join_ones : ∀ l : List Nat, TL.joinL [] (l.map fun c => [c]) = l
  | [] => rfl
  | [c] => rfl
  | c :: d :: l => by
    show c :: ([] ++ TL.joinL [] ((d :: l).map fun c => [c])) = _
    rw [join_ones (d :: l)]; rfl
theorem joined (l : List Nat) : Txt.join "" (l.map fun c => (⟨#[c]⟩ : Str)) = ⟨l.toArray⟩ := by
  have e := TL.tl_join "" (l.map fun c => (⟨#[c]⟩ : Str))
  rw [List.map_map] at e
  have e2 : TL.tl (Str.join "" (l.map fun c => (⟨#[c]⟩ : Str))) = l := e.trans (join_ones l)
  rw [TL.join_eq]
  refine TL.ext_tl (e2.trans ?_)
  rfl
theorem filter_at {α : Type} (l : List Nat) (p : Nat → Bool) (f : Nat → α) : (((List.range l.length).filter fun i => p (l.getD i 0)).map fun i => f (l.getD i 0)) = (l.filter p).map f := by
  have e : (List.range l.length).map (fun i => l.getD i 0) = l := by
    refine List.ext_getElem (by simp) fun i h1 h2 => ?_
    simp [List.getD_eq_getElem?_getD, List.getElem?_eq_getElem h2]
  have e2 : ((List.range l.length).filter fun i => p (l.getD i 0)).map (fun i => l.getD i 0) = l.filter p := by
    have := List.filter_map (f := fun i => l.getD i 0) (p := p) (l := List.range l.length)
    rw [e] at this
    rw [this]
    rfl
  rw [← e2, List.map_map]
  rfl
theorem ones_len (l : List Nat) : ((l.map fun c => (⟨#[c]⟩ : Str)).map (·.length)).sum = l.length := by
  induction l with
  | nil => rfl
  | cons c l ih =>
    rw [List.map_cons, List.map_cons, List.sum_cons, ih, List.length_cons]
    show 1 + l.length = _
    omega
def pk : List (Key × V) := [(.inr "empty", .int 0), (.inr "then", .int 2), (.inr "or", .int 2), (.inr "again", .int 1), (.inr "more", .int 1), (.inr "maybe", .int 1)]
theorem pk_merge : mergeK [] pk = pk := rfl
theorem pk_get (z : Str) : (valV pk (.inr z)).getD (.int 9) = .int ((parts z).getD 9 : Nat) := by
  have ne : ∀ {a b : Str}, b ≠ a → ¬ ((.inr a : Key) = .inr b) := fun h e => h (Sum.inr.inj e).symm
  unfold pk parts
  by_cases h1 : z = "empty"
  · rw [if_pos h1, valV_pos (by rw [h1])]; rfl
  rw [if_neg h1, valV_neg (ne h1)]
  by_cases h2 : z = "then"
  · rw [if_pos h2, valV_pos (by rw [h2])]; rfl
  rw [if_neg h2, valV_neg (ne h2)]
  by_cases h3 : z = "or"
  · rw [if_pos h3, valV_pos (by rw [h3])]; rfl
  rw [if_neg h3, valV_neg (ne h3)]
  by_cases h4 : z = "again"
  · rw [if_pos h4, valV_pos (by rw [h4])]; rfl
  rw [if_neg h4, valV_neg (ne h4)]
  by_cases h5 : z = "more"
  · rw [if_pos h5, valV_pos (by rw [h5])]; rfl
  rw [if_neg h5, valV_neg (ne h5)]
  by_cases h6 : z = "maybe"
  · rw [if_pos h6, valV_pos (by rw [h6])]; rfl
  rw [if_neg h6, valV_neg (ne h6)]
  rfl
theorem parts_small {z : Str} {k : Nat} (h : parts z = some k) : k ≤ 2 := by
  unfold parts at h
  repeat (split at h; · cases h; omega)
  cases h
def spIsM (pt : Nat → PyData → Bool) (n : Nat) : Sp := fun vs H Q _ => ∃ (v : V) (d : PyData) (wt p : Nat), vs = [v, .int n] ∧ Dq H v d ∧ Fine d wt p ∧ wt ≤ 2 ^ 20 ∧ arOk 8 d = true ∧ ∀ H', Same H H' → Q (.bl (pt n d)) H'
theorem scIsM : FnScope ["item", "most", "good", "many", "sign", "part"] ["item", "most"] (defScope sIsM) := ⟨rfl, rfl, rfl, by decide +kernel, rfl, by decide +kernel, by decide +kernel⟩
theorem isM_step (T : Tx K w mg) {pt : Nat → PyData → Bool} (PE_ : PatEq (sgB allL) pt) (n : Nat) (G : FnOk P w K mg base CX0 (n + 1) T.aIsM T.fIsM ["item", "most"] (spBefore (spIsM pt) n)) :
    FnOk P w K mg base CX0 (n + 2) T.aIsM T.fIsM ["item", "most"] (spIsM pt n) := by
  refine T.isM.fn.ok scIsM (fun vs H Q E h => ?_) (fun cdv A outer s H vs Q E hr h => ?_)
  · obtain ⟨v, d, wt, p, rfl, _⟩ := h
    rfl
  · obtain ⟨v, d, wt, p, rfl, hd, fine, hw, har, q⟩ := h
    have hr1 : Room 1 _ := hr.mono (by omega)
    refine ⟨_, (pss_cons (ps_if (PW.pt (pw_or (pt_cmpR op_eq (pv 1) pe_int (nomark _)) (pw_or (pt_not (pt_val (pe_callB call_isi (by rfl) T.bIsinstance (by decide +kernel) (pa_cons (pv 0) (pa_cons (pe_bltn (v := .ty "tuple") (u := .type "tuple") (by rfl) T.bTuple (by decide +kernel) rfl) pa_nil))))) (pw_or (pt_cmpR (op_eqE hr) (pv 0) (pe_tup pa_nil) (nomark _)) (pw_or1 (pt_not (pt_val (pe_callB call_isi (by rfl) T.bIsinstance (by decide +kernel) (pa_cons (pe_ix ix_tup (pv 0) pe_int (fun _ _ => rfl)) (pa_cons (pe_bltn (v := .ty "str") (u := .type "str") (by rfl) T.bStr (by decide +kernel) rfl) pa_nil))))))))))
      (pss_one (ps_ret pe_bl)) pss_nil)
      (pss_cons (ps_if (pt_cmpR op_eq (pe_ix ix_tup (pv 0) pe_int (fun _ _ => rfl)) pe_str (nomark _))
        (pss_cons (ps_if (PW.pt (pw_or (pt_cmpR op_ne (pe_callB call_len_seq (by rfl) T.len PySem.boot_len (pa_cons (pv 0) pa_nil)) pe_int (nomark _)) (pw_or (pt_not (pt_val (pe_callB call_isi (by rfl) T.bIsinstance (by decide +kernel) (pa_cons (pe_ix ix_tup (pv 0) pe_int (fun _ _ => rfl)) (pa_cons (pe_bltn (v := .ty "str") (u := .type "str") (by rfl) T.bStr (by decide +kernel) rfl) pa_nil))))) (pw_or1 (pt_cmpR op_eq (pe_ix ix_tup (pv 0) pe_int (fun _ _ => rfl)) pe_str (nomark _))))))
          (pss_one (ps_ret pe_bl)) pss_nil)
        (pss_cons (ps_setLc (i := 2) (own := [("sign", 4)]) (g := gName 4) rfl scIsM.nd rfl rfl (sw_true rfl rfl rfl (by decide +kernel)) (pi_str (pe_call0 (ok_all T) hr1 (by rfl) T.all.at_ T.all.kp T.all.bd .nil pass0)) (blkOk_by (own := [("sign", 4)]) (N := ["item", "most", "good", "many", "sign", "part"]) (sc := defScope sIsM) (by decide +kernel)) (fun _ _ _ _ _ => pg_name (i := 4) scIsM.nd rfl (.inl rfl)) (fun _ _ _ _ _ => (pts_one (pt_cmpR op_in_sign (pv 4) (pe_ix (show IxR _ (rIxT K) from ix_tup) (pv 0) pe_int (fun _ _ => rfl)) (by rfl)))) (fun _ _ _ _ _ => (pv 4)))
        (pss_one (ps_ret (pe_cmpR op_eq (pe_join pe_str (pv 2)) (pe_ix ix_tup (pv 0) pe_int (fun _ _ => rfl)) (nomark _))))))
        pss_nil)
      (pss_cons (ps_set (i := 3) scIsM.nd rfl (.inl rfl) (pe_dget2 (Nat.lt_of_le_of_lt (Nat.le_add_left _ 63) (by rw [Nat.add_comm 63, Nat.add_assoc]; exact hr.units)) (pe_disp (pps_cons pe_str pe_int (pps_cons pe_str pe_int (pps_cons pe_str pe_int (pps_cons pe_str pe_int (pps_cons pe_str pe_int (pps_cons pe_str pe_int pps_nil)))))) (by rfl) (by rfl) (fun z => by cases z) (by decide)) (pe_ix ix_tup (pv 0) pe_int (fun _ _ => rfl)) pe_int ⟨rfl, rfl, rfl, rfl⟩))
      (pss_one (ps_ret (pe_and (pe_cmpR op_eq (pe_callB call_len_seq (by rfl) T.len PySem.boot_len (pa_cons (pv 0) pa_nil)) (pe_op op_add (pv 3) pe_int) (nomark _)) (pe_one (pe_callB (cr_all rfl) (by rfl) T.bAll (by decide +kernel) (pa_cons (pe_lc (own := [("part", 5)]) (g := gName 5) (tt := tYes) rfl scIsM.nd (pi_tup (pe_slice sl_tupA (pv 0) (po_some pe_int) po_none)) (blkOk_by (own := [("part", 5)]) (N := ["item", "most", "good", "many", "sign", "part"]) (sc := defScope sIsM) (by decide +kernel)) (fun _ _ _ _ _ => pg_name (i := 5) scIsM.nd rfl (.inl rfl)) (fun _ _ _ _ _ => pts_nil) (fun _ _ _ _ _ => (pe_call G hr (by rfl) T.isM.at_ T.isM.kp T.isM.bd .nil pass0 (pa_cons (pv 5) (pa_cons (pe_op op_sub (pv 1) pe_int) pa_nil))))) pa_nil))))))))), ?_⟩
    have out : ∀ H', Same H H' → pt n d = false → Q (.bl false) H' := fun H' s' e => by
      have z := q H' s'
      rw [e] at z
      exact z
    refine ⟨_, rfl, rfl, _, rfl, ite2 (fun e => ?_) (fun e => ?_)⟩
    · have e0 : (n : Int) = 0 := V.int.inj (of_decide_eq_true e)
      obtain rfl : n = 0 := by omega
      exact out _ (fun _ _ z => z) (PE_.zero d)
    have n0 : n ≠ 0 := fun z => e (by subst z; exact decide_eq_true rfl)
    obtain ⟨m, rfl⟩ : ∃ m, n = m + 1 := ⟨n - 1, by omega⟩
    refine ⟨_, rfl, v, .ty "tuple", _, _, _, rfl, .ty "tuple", hd.ty, kit_ty (kit_tup d), _, rfl, ?_⟩
    cases hd with
    | @tup a xs ds ea hl =>
      obtain ⟨p', rfl, fl⟩ := fine.of_tup
      refine iteF ⟨_, rfl, Nat.zero_le _, fun pe_ npe => ?_⟩
      have s1 : Same H (upd H pe_ (.tup [])) := same_new npe
      have ea1 := s1 _ _ ea
      have eS := SqT.of (K := K) ea1
      refine ⟨a, pe_, xs, rfl, rfl, eS, SqT.of upd_same, _, rfl, ite2 (fun e => ?_) (fun e => ?_)⟩
      · have l0 := hl.len
        have ex : xs = [] := List.isEmpty_iff.mp e
        subst ex
        obtain rfl : ds = [] := List.eq_nil_of_length_eq_zero l0.symm
        exact out _ s1 (PE_.nil _)
      cases hl with
      | nil => exact absurd rfl e
      | @cons x xs d0 ds h0 hl =>
        refine ⟨_, rfl, a, _, 0, _, rfl, rfl, eS, atI_nat (j := 0) rfl, ?_⟩
        have h0' := h0.mono s1
        refine ⟨x, .ty "str", _, _, _, rfl, .ty "str", h0'.ty, kit_ty (kit_str d0), _, rfl, ?_⟩
        cases h0 with
        | str z =>
          refine iteF ?_
          refine ⟨_, rfl, a, _, 0, _, rfl, rfl, eS, atI_nat (j := 0) rfl, rfl, _, rfl, ite2 (fun e => ?_) (fun e => ?_)⟩
          · -- signs
            have ez : z = "signs" := V.str.inj (of_decide_eq_true e)
            subst ez
            have pe := PE_.signs m ds
            refine ⟨_, rfl, a, _, rfl, .inr eS, rfl, _, rfl, ite2 (fun e => ?_) (fun e => ?_)⟩
            · refine out _ s1 (pe.trans (signed_long fun l1 => ?_))
              have e' : (!decide (V.int (((V.str "signs" :: xs).length : Nat) : Int) = V.int 2)) = true := e
              rw [Bool.not_eq_true', decide_eq_false_iff_not] at e'
              apply e'
              rw [List.length_cons, hl.len, l1]
              rfl
            · have e' : ¬ (!decide (V.int (((V.str "signs" :: xs).length : Nat) : Int) = V.int 2)) = true := e
              rw [Bool.not_eq_true', decide_eq_false_iff_not, Classical.not_not] at e'
              have e0 := V.int.inj e'
              rw [List.length_cons] at e0
              obtain ⟨y, d1, rfl, rfl, h1⟩ := hl.one (by omega)
              have f1 : Fine d1 wt p' := fl.mem (List.mem_cons_of_mem _ List.mem_cons_self)
              refine ⟨_, rfl, a, _, 1, _, rfl, rfl, eS, atI_nat (j := 1) rfl, ?_⟩
              refine ⟨y, .ty "str", _, _, _, rfl, .ty "str", (h1.mono s1).ty, kit_ty (kit_str d1), _, rfl, ?_⟩
              cases h1 with
              | str x =>
                have lx := f1.of_text.2
                refine iteF ⟨_, rfl, a, _, 1, _, rfl, rfl, eS, atI_nat (j := 1) rfl, rfl, _, rfl, ite2 (fun e => ?_) (fun e => ?_)⟩
                · have ex : x = "" := V.str.inj (of_decide_eq_true e)
                  subst ex
                  exact out _ s1 pe
                · have ne : x ≠ "" := fun z => e (by rw [z]; exact decide_eq_true rfl)
                  have nl : x.cps.toList ≠ [] := fun z => ne (by
                    obtain ⟨⟨l⟩⟩ := x
                    cases (show l = [] from z)
                    rfl)
                  refine ⟨rfl, allS, rfl, fun D hD => ?_⟩
                  refine lc_filt (walk_str (z := allS)) (fun i => .str ⟨#[allL.getD i 0]⟩) (fun i => decide (allL.getD i 0 ∈ x.cps.toList)) hD (by rw [sizeLine_eq]; decide +kernel) (fun _ _ => trivial) ?_ ?_ (fun _ _ _ _ _ h q => h _ _ q) ?_
                  · rintro i y H2 H3 N hi sm ⟨rfl, k, hk, rfl⟩ fin
                    have ek : k = allL.getD i 0 := by
                      rw [List.getD_eq_getElem?_getD, Array.getElem?_toList, hk]; rfl
                    have eS3 := SqT.of (K := K) (sm _ _ ea1)
                    refine ⟨rfl, ⟨_, rfl, _, rfl, a, _, 1, _, rfl, rfl, eS3, atI_nat (j := 1) rfl, k, x, rfl, rfl, ?_⟩, fun H3 M hM => ⟨_, rfl, ?_⟩⟩
                    · rw [ek]
                      exact ⟨_, rfl, fin _ fun _ _ z => z⟩
                    · rw [ek]
                      exact hM
                  · intro H2 s2 e2
                    have er : (((List.range allS.cps.size).filter fun i => decide (allL.getD i 0 ∈ x.cps.toList)).map fun i => V.str ⟨#[allL.getD i 0]⟩) = ((allL.filter fun c => decide (c ∈ x.cps.toList)).map fun c => (⟨#[c]⟩ : Str)).map V.str := by
                      rw [List.map_map]
                      have er0 := filter_at allL (fun c => decide (c ∈ x.cps.toList)) (fun c => V.str ⟨#[c]⟩)
                      exact er0
                    rw [er] at e2
                    have eS3 := SqT.of (K := K) (s2 _ _ ea1)
                    refine ⟨⟨_, rfl⟩, _, rfl, "", D, _, rfl, rfl, .inl (SqL.of e2), ?_, _, rfl, a, _, 1, _, rfl, rfl, eS3, atI_nat (j := 1) rfl, rfl, ?_⟩
                    · have l1 : (allL.filter fun c => decide (c ∈ x.cps.toList)).length ≤ allL.length := List.length_filter_le _ _
                      have l2 : allL.length ≤ 100 := by decide +kernel
                      rw [ones_len]
                      have e0 : (("" : Str).length) = 0 := rfl
                      rw [e0, Nat.mul_zero]
                      omega
                    · have z := q H2 fun b o z => s2 b o (s1 b o z)
                      rw [pe, joined] at *
                      have e3 : signed (sgB allL) [.str x] = decide (V.str ⟨(allL.filter fun c => decide (c ∈ x.cps.toList)).toArray⟩ = V.str x) := by
                        show (!x.cps.toList.isEmpty && decide ((allL.filter fun c => decide (c ∈ x.cps.toList)) = x.cps.toList)) = _
                        rw [show x.cps.toList.isEmpty = false from by
                          cases h : x.cps.toList with
                          | nil => exact absurd h nl
                          | cons _ _ => rfl]
                        rw [Bool.not_false, Bool.true_and]
                        refine decide_eq_decide.mpr ⟨fun h => ?_, fun h => ?_⟩
                        · rw [h]
                        · have h2 := V.str.inj h
                          have h3 := congrArg (fun s : Str => s.cps.toList) h2
                          exact h3
                      rw [e3] at z
                      exact z
                  · intro σ2 H2 N N' hN h
                    obtain ⟨v1, h1, v2, h2, aa, xs_, i_, y_, r1, r2, r3, r4, c_, z_, r5, r6, k9, r7, h3⟩ := h
                    exact ⟨v1, h1, v2, h2, aa, xs_, i_, y_, r1, r2, r3, r4, c_, z_, r5, r6, k9, r7, hN _ _ h3⟩
              | _ => exact iteT (out _ s1 pe)
          · have nz : z ≠ "signs" := fun h => e (by rw [h]; exact decide_eq_true rfl)
            have l0 := hl.len
            refine fun pd npd => ⟨upd_same, pk, rfl, by decide, pd, rfl, .inl ⟨_, .inl upd_same⟩, ?_⟩
            have s2 : Same H (upd (upd (upd H pe_ (.tup [])) pd (.dK [])) pd (.dK (mergeK [] pk))) := by
              intro b o z
              have z1 := s1 b o z
              have nb := ne_of_none z1 npd
              rw [upd_ne nb, upd_ne nb]
              exact z1
            have ea2 := s2 _ _ ea
            have eS2 := SqT.of (K := K) ea2
            have hpd : (upd (upd (upd H pe_ (HO.tup [])) pd (HO.dK [])) pd (HO.dK (mergeK [] pk))) pd = some (.dK (mergeK [] pk)) := upd_same
            generalize (upd (upd (upd H pe_ (HO.tup [])) pd (HO.dK [])) pd (HO.dK (mergeK [] pk))) = H2 at s2 ea2 eS2 hpd ⊢
            refine ⟨_, rfl, a, _, 0, _, rfl, rfl, eS2, atI_nat (j := 0) rfl, valV pk (.inr z), DGet.k (k := .inr z) hpd, ?_⟩
            rw [pk_get z]
            generalize hk : (parts z).getD 9 = k9
            refine ⟨_, rfl, a, _, rfl, .inr eS2, _, rfl, _, _, rfl, rfl, rfl, _, rfl, ite2 (fun e => ?_) (fun e => ?_)⟩
            · have e' := V.int.inj (of_decide_eq_true e)
              rw [List.length_cons] at e'
              have arr := arOk_tup.mp har
              rw [List.length_cons] at arr
              obtain ⟨k, p0⟩ : ∃ k, parts z = some k := by
                cases hp : parts z with
                | none =>
                  rw [hp] at hk
                  have : k9 = 9 := hk.symm
                  omega
                | some k => exact ⟨k, rfl⟩
              have pe := PE_.some m z ds k nz p0
              rw [p0] at hk
              have hk : k = k9 := hk
              have eq_ : ds.length = k := by omega
              refine ⟨_, rfl, 1, rfl, a, _, rfl, eS2, fun h => absurd h (not_whole _ _ _), fun _ c nc => ?_⟩
              rw [cut_tail]
              refine ⟨c, rfl, ⟨_, SqT.of upd_same⟩, fun D hD => ?_⟩
              have s3 : Same H2 (upd H2 c (.tup xs)) := same_new nc
              have s4 : Same H (upd H2 c (.tup xs)) := fun b o z => s3 b o (s2 b o z)
              refine lc_pure (walk_tup (xs := xs)) (fun i => .bl (pt m (ds.getD i .none))) hD ?_ (fun H3 s5 => SqT.of (s5 _ _ upd_same)) ?_ ?_
              · rw [sizeLine_eq]
                have : xs.length ≤ 8 := by omega
                omega
              · rintro i y H3 H4 N hi s5 ⟨rfl, hy⟩ fin
                obtain ⟨di, hdi, hq⟩ := hl.get hy
                have f1 : Fine di wt p' := fl.mem (List.mem_cons_of_mem _ (List.mem_of_getElem? hdi))
                have a1 := arr.2 di (List.mem_cons_of_mem _ (List.mem_of_getElem? hdi))
                have eg : ds.getD i .none = di := by rw [List.getD_eq_getElem?_getD, hdi]; rfl
                have same : Same H H4 := fun b o z => s5 b o (s4 b o z)
                refine ⟨rfl, _, rfl, _, rfl, _, _, rfl, rfl, y, di, wt, p', ?_, hq.mono same, f1, hw, a1, fun H4 s4 => ?_⟩
                · show [y, V.int (((m + 1 : Nat) : Int) - 1)] = _
                  rw [show ((m + 1 : Nat) : Int) - 1 = (m : Int) by omega]
                · have z := fin H4 s4
                  rw [eg] at z
                  exact z
              · intro H3 s5 e2
                have er : ((List.range xs.length).map fun i => V.bl (pt m (ds.getD i .none))) = (ds.map (pt m)).map V.bl := by
                  rw [List.map_map]
                  refine List.ext_getElem (by simp [l0]) fun i h1 h2 => ?_
                  have hi : i < ds.length := by simpa using h2
                  simp only [List.getElem_map, List.getElem_range, List.getD_eq_getElem?_getD, List.getElem?_eq_getElem hi]
                  rfl
                rw [er] at e2
                refine ⟨D, _, rfl, SqL.of e2, ?_⟩
                have z := q H3 fun b o z => s5 b o (s4 b o z)
                rw [pe] at z
                have e3 : (decide (ds.length = k) && ds.all (pt m)) = (ds.map (pt m)).all id := by
                  rw [decide_eq_true eq_, Bool.true_and, List.all_map]; rfl
                rw [e3] at z
                exact z
            · have e' : ¬ (V.int (((V.str z :: xs).length : Nat) : Int) = V.int ((k9 : Int) + 1)) := fun h => e (decide_eq_true h)
              refine out _ s2 ?_
              cases hp : parts z with
              | none => exact PE_.none m z ds nz hp
              | some k =>
                rw [PE_.some m z ds k nz hp]
                rw [hp] at hk
                have hk : k = k9 := hk
                have ne : ds.length ≠ k := fun h => by
                  apply e'
                  rw [List.length_cons, l0, h, hk]
                  exact congrArg V.int (by omega)
                rw [decide_eq_false ne, Bool.false_and]
        | _ => exact iteT (out _ s1 (PE_.nostr _ _ _ (fun _ z => nomatch z)))
    | _ => exact iteT (out _ (fun _ _ z => z) (PE_.no _ _ (fun _ z => nomatch z)))
theorem ok_isM (T : Tx K w mg) {pt : Nat → PyData → Bool} (PE_ : PatEq (sgB allL) pt) : ∀ n : Nat, FnOk P w K mg base CX0 (n + 2) T.aIsM T.fIsM ["item", "most"] (spIsM pt n)
  | 0 => isM_step T PE_ 0 no_fn
  | n + 1 => isM_step T PE_ (n + 1) (ok_isM T PE_ n)
end
end K00
set_option maxRecDepth 100000
set_option maxHeartbeats 1000000
namespace K00
open PySem PySem.Spec PyProof.Rows L2 Yard
section
variable {P : Program} {w : World} {K : PySem.W.Frag} {mg : Str → Option Value} {base : Heap}

/-- a text that may be drawn from -/
structure PoolOk (x : Str) : Prop where
  some_ : 0 < x.length
  few : x.length ≤ 1000
  low : ∀ c ∈ x.cps.toList, c < 128
def spOf : Sp := fun vs H Q _ => ∃ (a : Addr) (c : Nat) (x : Str), vs = [.ref a, .str x] ∧ JarAt H a c ∧ c ≤ 900000 ∧ PoolOk x ∧
  ∀ v d H', Off a H H' → JarAt H' a (c + 5) → Dq (wo a H') v d → Fine d 10 1 → arOk 3 d = true → Q v H'
theorem scOf : FnScope ["jar", "plain", "pool", "some", "k"] ["jar", "plain"] (defScope sOf) := ⟨rfl, rfl, rfl, by decide +kernel, rfl, by decide +kernel, by decide +kernel⟩
theorem pool_all : PoolOk allS := ⟨by decide +kernel, by decide +kernel, by decide +kernel⟩
theorem one_of : ∀ {ys : List Str}, (∀ y ∈ ys, ∃ c : Nat, c < 128 ∧ y = ⟨#[c]⟩) → ∃ l : List Nat, ys = l.map (fun c => (⟨#[c]⟩ : Str)) ∧ ∀ c ∈ l, c < 128
  | [], _ => ⟨[], rfl, fun _ h => nomatch h⟩
  | y :: ys, h => by
    obtain ⟨c, hc, e⟩ := h y List.mem_cons_self
    obtain ⟨l, el, hl⟩ := one_of fun z hz => h z (List.mem_cons_of_mem _ hz)
    refine ⟨c :: l, by rw [e, el]; rfl, fun z hz => ?_⟩
    rcases List.mem_cons.mp hz with q | q
    · rw [q]; exact hc
    · exact hl z q
theorem ok_of (T : Tx K w mg) : FnOk P w K mg base CX0 2 T.aOf T.fOf ["jar", "plain"] spOf := by
  refine T.of.fn.ok scOf (fun vs H Q E h => ?_) (fun cdv A outer s H vs Q E hr h => ?_)
  · obtain ⟨a, c, x, rfl, _⟩ := h
    rfl
  · obtain ⟨a, c, x, rfl, hj, hc, hx, q⟩ := h
    refine ⟨_, (pss_cons (ps_set (i := 2) scOf.nd rfl (.inr rfl) (pe_ix ix_list (pe_lst (pa_cons (pv 1) (pa_cons (pe_call0 (ok_all T) hr (by rfl) T.all.at_ T.all.kp T.all.bd .nil pass0) pa_nil))) (pe_callTy call_int1 (by rfl) T.bInt (by decide +kernel) (pa_cons (pe_cmpR op_eq (pe_call (ok_dip T) hr (by rfl) T.dip.at_ T.dip.kp T.dip.bd .nil pass0 (pa_cons (pv 0) (pa_cons pe_int pa_nil))) pe_int (nomark _)) pa_nil)) (fun _ _ => rfl)))
      (pss_cons (ps_set (i := 3) scOf.nd rfl (.inl rfl) (pe_callB (cr_sortedTx rfl) (by rfl) T.bSorted (by decide +kernel) (pa_cons (pe_callTy (cr_setTx rfl) (by rfl) T.bSet (by decide +kernel) (pa_cons (pe_lc (own := [("k", 4)]) (g := gName 4) (tt := tYes) rfl scOf.nd (pi_range1 rfl T.bRange (pa_cons (pe_op op_add pe_int (pe_call (ok_dip T) hr (by rfl) T.dip.at_ T.dip.kp T.dip.bd .nil pass0 (pa_cons (pv 0) (pa_cons pe_int pa_nil)))) pa_nil)) (blkOk_by (own := [("k", 4)]) (N := ["jar", "plain", "pool", "some", "k"]) (sc := defScope sOf) (by decide +kernel)) (fun _ _ _ _ _ => pg_name (i := 4) scOf.nd rfl (.inl rfl)) (fun _ _ _ _ _ => pts_nil) (fun _ _ _ _ _ => (pe_ix ix_str (pv 2) (pe_call (ok_dip T) hr (by rfl) T.dip.at_ T.dip.kp T.dip.bd .nil pass0 (pa_cons (pv 0) (pa_cons (pe_callB call_len_str (by rfl) T.len PySem.boot_len (pa_cons (pv 2) pa_nil)) pa_nil))) (fun _ _ => rfl)))) pa_nil)) pa_nil)))
      (pss_one (ps_ret (pe_tup (pa_cons pe_str (pa_cons (pe_join pe_str (pv 3)) pa_nil))))))), ?_⟩
    refine ⟨_, rfl, rfl, by show 2 ≤ sizeLine; decide, fun p0 np0 => ?_⟩
    have j1 := hj.same (same_new (o := .lst [.str x, .str allS]) np0)
    refine ⟨_, rfl, a, 12, c, rfl, j1, by decide, by decide, by omega, fun r H1 r0 r1 of1 j2 => ⟨rfl, .inr ⟨_, rfl, ?_⟩⟩⟩
    have e1 : H1 p0 = some (.lst [.str x, .str allS]) := of1 _ _ (hj.ne np0) upd_same
    have of0 : Off a H H1 := (Off.of_same (same_new np0)).trans of1
    clear of1 j1 np0 r0 r1
    obtain ⟨pool, hp, g⟩ : ∃ pool, PoolOk pool ∧ atI [V.str x, V.str allS] (if decide (V.int r = V.int 0) = true then 1 else 0) = some (.str pool) := by
      split
      · exact ⟨allS, pool_all, rfl⟩
      · exact ⟨x, hx, rfl⟩
    refine ⟨p0, _, _, _, rfl, rfl, SqL.of e1, g, ?_⟩
    -- the draws
    refine ⟨_, rfl, a, 3, c + 1, rfl, j2, by decide, by decide, by omega, fun m H2 m0 m1 of2 j3 => ⟨_, _, rfl, rfl, 1 + m, rfl, by omega, by omega, fun D nD => ?_⟩⟩
    have of3 : Off a H H2 := of0.trans of2
    have nDa : D ≠ a := j3.ne nD
    have pl : pool.cps.toList.length = pool.length := Array.length_toList
    refine lc_acc (walk_range (lo := 0) (n := (1 + m).toNat)) (fun i acc H3 => Off a H2 H3 ∧ JarAt H3 a (c + 2 + i) ∧ ∃ ts : List Nat, acc = (ts.map fun z => (⟨#[z]⟩ : Str)).map V.str ∧ ∀ z ∈ ts, z < 128) (by rw [sizeLine_eq]; omega) ?_ (fun _ _ _ _ _ => trivial) ?_ ?_
    · exact ⟨Off.new nD, j3.same (same_new nD), [], rfl, fun _ h => nomatch h⟩
    · rintro i y H3 H4 acc N hi ⟨of4, j4, ts, rfl, hts⟩ eD hl ⟨rfl, rfl⟩ fin
      refine ⟨rfl, _, rfl, _, rfl, _, rfl, _, rfl, by rw [sizeLine_eq]; have := hp.few; omega, a, pool.length, c + 2 + i, rfl, j4, by have := hp.some_; omega, by have := hp.few; omega, by omega, fun r2 H5 r20 r21 of5 j5 => ?_⟩
      have hlt : r2.toNat < pool.cps.toList.length := by omega
      refine ⟨pool, r2, _, rfl, rfl, by rw [sizeLine_eq]; have := hp.few; omega, atI_at r20 hlt, ?_⟩
      · refine fin _ H5 (of5 _ _ nDa eD) ⟨?_, ?_, ts ++ [pool.cps.toList[r2.toNat]'hlt], ?_, ?_⟩
        · exact (of4.trans of5).upd nD
        · exact j5.upd nDa
        · simp
        · intro z hz
          rcases List.mem_append.mp hz with q1 | q1
          · exact hts z q1
          · rw [List.mem_singleton.mp q1]
            exact hp.low _ (List.getElem_mem hlt)
    · rintro H3 acc ⟨of4, j4, ts, rfl, hts⟩ eD hl
      have nts : ts.length ≤ 3 := by
        rw [List.length_map, List.length_map] at hl
        omega
      refine ⟨D, _, rfl, SqL.of eD, by rw [List.length_map]; omega, fun sa ms nsa hms mem => ?_⟩
      have hms : ms.length ≤ 3 := by rw [List.length_map] at hms; omega
      refine ⟨sa, ms, rfl, upd_same, by omega, fun ys sp pm so nsp => ?_⟩
      obtain ⟨l, rfl, hl2⟩ := one_of (ys := ys) fun y hy => by
        obtain ⟨z, hz, rfl⟩ := List.mem_map.mp ((mem y).mp (pm.mem_iff.mp hy))
        exact ⟨z, hts z hz, rfl⟩
      have ll : l.length ≤ 3 := by
        have := pm.length_eq
        rw [List.length_map] at this
        omega
      refine ⟨⟨_, rfl⟩, _, rfl, "", sp, _, rfl, rfl, .inl (SqL.of upd_same), ?_, by show 2 ≤ sizeLine; decide, fun q1 nq1 => ?_⟩
      · rw [ones_len]
        have e0 : (("" : Str).length) = 0 := rfl
        rw [e0, Nat.mul_zero]
        omega
      · have nsaa : sa ≠ a := j4.ne nsa
        have j5 := (j4.upd (o := TxO P w sa ms) nsaa)
        have nspa : sp ≠ a := j5.ne nsp
        have j6 := j5.upd (o := .lst ((l.map fun z => (⟨#[z]⟩ : Str)).map V.str)) nspa
        have nqa : q1 ≠ a := j6.ne nq1
        refine q (.ref q1) (.tuple [.str "signs", .str (Txt.join "" (l.map fun z => (⟨#[z]⟩ : Str)))]) _ ?_ ?_ ?_ ?_ ?_
        · exact (of3.trans of4).trans ((Off.of_same (same_new nsa)).trans ((Off.of_same (same_new nsp)).trans (Off.of_same (same_new nq1))))
        · refine (j6.upd (o := .tup _) nqa).mono ?_
          omega
        · exact .tup (wo_get nqa upd_same) (.cons (.str _) (.cons (.str _) .nil))
        · rw [joined]
          refine (Fine.tup ((FineL.nil.mono (w' := 0) (p' := 0) (by omega) (by omega)).cons (Fine.text (x := ⟨l.toArray⟩) (w := 3) (fun z hz => hl2 z (by simpa using hz)) (by show l.toArray.size ≤ 3; simpa using ll)) |>.cons (Fine.text (w := 5) (by decide +kernel) (by decide +kernel)))).mono (by omega) (by omega)
        · exact arOk_tup.mpr ⟨by show 2 ≤ 3; omega, fun d hd => by
            rcases List.mem_cons.mp hd with z | z
            · rw [z]; rfl
            · rw [List.mem_singleton.mp z]; rfl⟩
end
end K00
set_option maxRecDepth 100000
set_option maxHeartbeats 1000000
namespace K00
open PySem PySem.Spec PyProof.Rows L2 Yard
section
variable {P : Program} {w : World} {K : PySem.W.Frag} {mg : Str → Option Value} {base : Heap}

def costM : Nat → Nat
  | 0 => 6
  | n + 1 => 1 + 2 * costM n
def wtM : Nat → Nat
  | 0 => 10
  | n + 1 => 2 * wtM n + 8
theorem costM_ge : ∀ n, 6 ≤ costM n
  | 0 => Nat.le_refl _
  | n + 1 => by have := costM_ge n; show 6 ≤ 1 + 2 * costM n; omega
theorem wtM_ge : ∀ n, 10 ≤ wtM n
  | 0 => Nat.le_refl _
  | n + 1 => by have := wtM_ge n; show 10 ≤ 2 * wtM n + 8; omega
/-- a word of patterns -/
structure WordOk (x : Str) : Prop where
  few : x.length ≤ 5
  low : ∀ c ∈ x.cps.toList, c < 128
theorem WordOk.fine {x : Str} (h : WordOk x) : Fine (.str x) 5 0 := Fine.text h.low h.few
def spMould (n : Nat) : Sp := fun vs H Q _ => ∃ (a : Addr) (c : Nat) (x : Str), vs = [.ref a, .str x, .int n] ∧ JarAt H a c ∧ c + costM n ≤ 900000 ∧ PoolOk x ∧
  ∀ v d H', Off a H H' → JarAt H' a (c + costM n) → Dq (wo a H') v d → Fine d (wtM n) (n + 1) → arOk 3 d = true → Q v H'
theorem scMould : FnScope ["jar", "plain", "deep", "way", "one"] ["jar", "plain", "deep"] (defScope sMould) := ⟨rfl, rfl, rfl, by decide +kernel, rfl, by decide +kernel, by decide +kernel⟩
theorem mould_step (T : Tx K w mg) (n : Nat) (G : FnOk P w K mg base CX0 (n + 2) T.aMould T.fMould ["jar", "plain", "deep"] (spBefore spMould n)) :
    FnOk P w K mg base CX0 (n + 3) T.aMould T.fMould ["jar", "plain", "deep"] (spMould n) := by
  refine T.mould.fn.ok scMould (fun vs H Q E h => ?_) (fun cdv A outer s H vs Q E hr h => ?_)
  · obtain ⟨a, c, x, rfl, _⟩ := h
    rfl
  · obtain ⟨a, c, x, rfl, hj, hc, hx, q⟩ := h
    have hr1 : Room 1 _ := hr.mono (by omega)
    have hr2 : Room 2 _ := hr.mono (by omega)
    have c6 := costM_ge n
    have w10 := wtM_ge n
    refine ⟨_, (pss_cons (ps_set (i := 3) scMould.nd rfl (.inl rfl) (pe_call (ok_dip T) hr1 (by rfl) T.dip.at_ T.dip.kp T.dip.bd .nil pass0 (pa_cons (pv 0) (pa_cons pe_int pa_nil))))
      (pss_cons (ps_if (PW.pt (pw_or (pt_cmpR op_lt (pv 2) pe_int (nomark _)) (pw_or1 (pt_cmpR op_lt (pv 3) pe_int (nomark _)))))
        (pss_one (ps_ret (pe_call (ok_of T) hr2 (by rfl) T.of.at_ T.of.kp T.of.bd .nil pass0 (pa_cons (pv 0) (pa_cons (pv 1) pa_nil)))))
        pss_nil)
      (pss_cons (ps_if (pt_cmpR op_eq (pv 3) pe_int (nomark _))
        (pss_one (ps_ret (pe_tup (pa_cons pe_str pa_nil))))
        pss_nil)
      (pss_cons (ps_set (i := 4) scMould.nd rfl (.inl rfl) (pe_call G hr (by rfl) T.mould.at_ T.mould.kp T.mould.bd .nil pass0 (pa_cons (pv 0) (pa_cons (pv 1) (pa_cons (pe_op op_sub (pv 2) pe_int) pa_nil)))))
      (pss_cons (ps_if (pt_cmpR op_lt (pv 3) pe_int (nomark _))
        (pss_one (ps_ret (pe_tup (pa_cons (pe_ix ix_list (pe_lst (pa_cons pe_str (pa_cons pe_str (pa_cons pe_str pa_nil)))) (pe_op op_sub (pv 3) pe_int) (fun _ _ => rfl)) (pa_cons (pv 4) (pa_cons (pe_call G hr (by rfl) T.mould.at_ T.mould.kp T.mould.bd .nil pass0 (pa_cons (pv 0) (pa_cons (pv 1) (pa_cons (pe_op op_sub (pv 2) pe_int) pa_nil)))) pa_nil))))))
        pss_nil)
      (pss_one (ps_ret (pe_tup (pa_cons (pe_ix ix_list (pe_lst (pa_cons pe_str (pa_cons pe_str (pa_cons pe_str pa_nil)))) (pe_op op_sub (pv 3) pe_int) (fun _ _ => rfl)) (pa_cons (pv 4) pa_nil)))))))))), ?_⟩
    refine ⟨_, rfl, a, 10, c, rfl, hj, by decide, by decide, by omega, fun r H1 r0 r1 of1 j1 => ?_⟩
    have leaf : spOf [.ref a, .str x] H1 Q E0 := ⟨a, c + 1, x, rfl, j1, by omega, hx, fun v d H' of' j' dq fine ar =>
      q v d H' (of1.trans of') (j'.mono (by omega)) dq (fine.mono (by omega) (by omega)) ar⟩
    refine ⟨_, rfl, _, _, rfl, rfl, _, rfl, ite2 (fun e => ?_) (fun e => ?_)⟩
    · exact ⟨_, rfl, _, rfl, leaf⟩
    have n2 : ¬ ((n : Int) < 2) := fun h => e (decide_eq_true h)
    obtain ⟨m, rfl⟩ : ∃ m, n = m + 1 := ⟨n - 1, by omega⟩
    have cm : costM (m + 1) = 1 + 2 * costM m := rfl
    have wm : wtM (m + 1) = 2 * wtM m + 8 := rfl
    refine ⟨_, rfl, _, _, rfl, rfl, _, rfl, ite2 (fun e2 => ?_) (fun e2 => ?_)⟩
    · exact ⟨_, rfl, _, rfl, leaf⟩
    have r3 : 3 ≤ r := by
      have : ¬ (r < 3) := fun h => e2 (decide_eq_true h)
      omega
    refine ⟨_, rfl, rfl, _, rfl, ite2 (fun e3 => ?_) (fun e3 => ?_)⟩
    · refine ⟨by show 1 ≤ sizeLine; decide, fun p np => ?_⟩
      have npa := j1.ne np
      refine q (.ref p) (.tuple [.str "empty"]) _ (of1.trans (Off.new np)) ((j1.upd npa).mono (by omega)) (.tup (wo_get npa upd_same) (.cons (.str _) .nil)) ?_ (by decide +kernel)
      · refine (Fine.tup (FineL.nil.cons (Fine.text (x := "empty") (w := 5) (by decide +kernel) (by decide +kernel)))).mono (by omega) (by omega)
    have r9 : r ≠ 9 := fun h => e3 (by rw [h]; exact decide_eq_true rfl)
    refine ⟨_, rfl, _, rfl, _, rfl, _, _, rfl, rfl, a, c + 1, x, ?_, j1, by omega, hx, fun v1 d1 H2 of2 j2 dq1 fine1 ar1 => ?_⟩
    · show [V.ref a, V.str x, V.int (((m + 1 : Nat) : Int) - 1)] = _
      rw [show ((m + 1 : Nat) : Int) - 1 = (m : Int) by omega]
    refine ⟨_, rfl, _, _, rfl, rfl, _, rfl, ite2 (fun e4 => ?_) (fun e4 => ?_)⟩
    · -- then, or
      have r6 : r < 6 := of_decide_eq_true e4
      refine ⟨by show 3 ≤ sizeLine; decide, fun p np => ?_⟩
      obtain ⟨wd, hwd, g⟩ : ∃ wd : Str, WordOk wd ∧ atI [V.str "then", V.str "then", V.str "or"] (r - 3) = some (.str wd) := by
        obtain h | h | h : r = 3 ∨ r = 4 ∨ r = 5 := by omega
        · subst h; exact ⟨"then", ⟨by decide +kernel, by decide +kernel⟩, rfl⟩
        · subst h; exact ⟨"then", ⟨by decide +kernel, by decide +kernel⟩, rfl⟩
        · subst h; exact ⟨"or", ⟨by decide +kernel, by decide +kernel⟩, rfl⟩
      have npa := j2.ne np
      have j3 := j2.upd (o := .lst [.str "then", .str "then", .str "or"]) npa
      have of3 := of1.trans (of2.trans (Off.new (o := .lst [.str "then", .str "then", .str "or"]) np))
      refine ⟨_, rfl, _, _, rfl, rfl, p, _, _, _, rfl, rfl, SqL.of upd_same, g, _, rfl, _, rfl, _, rfl, _, rfl, _, _, rfl, rfl, a, c + 1 + costM m, x, ?_, j3, by omega, hx, fun v2 d2 H3 of4 j4 dq2 fine2 ar2 => ?_⟩
      · show [V.ref a, V.str x, V.int (((m + 1 : Nat) : Int) - 1)] = _
        rw [show ((m + 1 : Nat) : Int) - 1 = (m : Int) by omega]
      refine ⟨by show 3 ≤ sizeLine; decide, fun p2 np2 => ?_⟩
      have npa2 := j4.ne np2
      have off := of3.trans (of4.trans (Off.new (o := .tup [.str wd, v1, v2]) np2))
      have dq1' : Dq (wo a (upd H3 p2 (.tup [.str wd, v1, v2]))) v1 d1 := dq1.mono (wo_off ((Off.new np).trans (of4.trans (Off.new np2))))
      have dq2' : Dq (wo a (upd H3 p2 (.tup [.str wd, v1, v2]))) v2 d2 := dq2.mono (wo_off (Off.new np2))
      refine q (.ref p2) (.tuple [.str wd, d1, d2]) _ off ((j4.upd npa2).mono (by omega)) (.tup (wo_get npa2 upd_same) (.cons (.str _) (.cons dq1' (.cons dq2' .nil)))) ?_ ?_
      · exact (Fine.tup ((((FineL.nil.mono (Nat.le_refl _) (Nat.zero_le _)).cons fine2).cons fine1).cons (hwd.fine.mono (Nat.le_refl _) (Nat.zero_le _)))).mono (by omega) (by omega)
      · exact arOk_tup.mpr ⟨by show 3 ≤ 3; omega, fun d hd => by
          rcases List.mem_cons.mp hd with z | z
          · rw [z]; rfl
          rcases List.mem_cons.mp z with z | z
          · rw [z]; exact ar1
          · rw [List.mem_singleton.mp z]; exact ar2⟩
    · -- again, more, maybe
      have r6 : ¬ (r < 6) := fun h => e4 (decide_eq_true h)
      refine ⟨by show 3 ≤ sizeLine; decide, fun p np => ?_⟩
      obtain ⟨wd, hwd, g⟩ : ∃ wd : Str, WordOk wd ∧ atI [V.str "again", V.str "more", V.str "maybe"] (r - 6) = some (.str wd) := by
        obtain h | h | h : r = 6 ∨ r = 7 ∨ r = 8 := by omega
        · subst h; exact ⟨"again", ⟨by decide +kernel, by decide +kernel⟩, rfl⟩
        · subst h; exact ⟨"more", ⟨by decide +kernel, by decide +kernel⟩, rfl⟩
        · subst h; exact ⟨"maybe", ⟨by decide +kernel, by decide +kernel⟩, rfl⟩
      have npa := j2.ne np
      have j3 := j2.upd (o := .lst [.str "again", .str "more", .str "maybe"]) npa
      refine ⟨_, rfl, _, _, rfl, rfl, p, _, _, _, rfl, rfl, SqL.of upd_same, g, _, rfl, by show 2 ≤ sizeLine; decide, fun p2 np2 => ?_⟩
      have npa2 := j3.ne np2
      have off := of1.trans (of2.trans ((Off.new (o := .lst [.str "again", .str "more", .str "maybe"]) np).trans (Off.new (o := .tup [.str wd, v1]) np2)))
      refine q (.ref p2) (.tuple [.str wd, d1]) _ off ((j3.upd npa2).mono (by omega)) (.tup (wo_get npa2 upd_same) (.cons (.str _) (.cons (dq1.mono (wo_off ((Off.new np).trans (Off.new np2)))) .nil))) ?_ ?_
      · exact (Fine.tup (((FineL.nil.mono (Nat.le_refl _) (Nat.zero_le _)).cons fine1).cons (hwd.fine.mono (Nat.le_refl _) (Nat.zero_le _)))).mono (by omega) (by omega)
      · exact arOk_tup.mpr ⟨by show 2 ≤ 3; omega, fun d hd => by
          rcases List.mem_cons.mp hd with z | z
          · rw [z]; rfl
          · rw [List.mem_singleton.mp z]; exact ar1⟩
theorem ok_mould (T : Tx K w mg) : ∀ n : Nat, FnOk P w K mg base CX0 (n + 3) T.aMould T.fMould ["jar", "plain", "deep"] (spMould n)
  | 0 => mould_step T 0 no_fn
  | n + 1 => mould_step T (n + 1) (ok_mould T n)
end
end K00
set_option maxRecDepth 100000
set_option maxHeartbeats 1000000
namespace K00
open PySem PySem.Spec PyProof.Rows L2 Yard
section
variable {P : Program} {w : World} {K : PySem.W.Frag} {mg : Str → Option Value} {base : Heap}
/-- plain, small, narrow -/
structure Good (W D N : Nat) (d : PyData) : Prop where
  fine : Fine d W D
  ar : arOk N d = true
theorem Good.mono {W D N W' D' N' : Nat} {d : PyData} (g : Good W D N d) (h1 : W ≤ W') (h2 : D ≤ D') (h3 : N ≤ N') : Good W' D' N' d := ⟨g.fine.mono h1 h2, arOk_mono h3 d g.ar⟩
theorem good_of {d : PyData} (h1 : plain d = true) (h2 : d.weight ≤ 20) (h3 : d.depth ≤ 2) (h4 : arOk 3 d = true) : Good 20 2 3 d := ⟨⟨h1, h2, h3⟩, h4⟩
def spOdd : Sp := fun vs H Q _ => ∃ (a : Addr) (c : Nat), vs = [.ref a] ∧ JarAt H a c ∧ c ≤ 900000 ∧
  ∀ v d H', Off a H H' → JarAt H' a (c + 1) → Dq (wo a H') v d → Good 20 2 3 d → Q v H'
theorem scOdd : FnScope ["jar", "some"] ["jar"] (defScope sOdd) := ⟨rfl, rfl, rfl, by decide +kernel, rfl, by decide +kernel, by decide +kernel⟩
section
variable {a : Addr} {c : Nat} {σ : L2.St} {G : List (V × PyData)}
theorem good_all {ds : List PyData} (h : (ds.all fun d => plain d && decide (d.weight ≤ 20) && decide (d.depth ≤ 2) && arOk 3 d) = true) : ∀ d ∈ ds, Good 20 2 3 d := fun d hd => by
  have q := List.all_eq_true.mp h d hd
  simp only [Bool.and_eq_true, decide_eq_true_eq] at q
  exact good_of q.1.1.1 q.1.1.2 q.1.2 q.2
abbrev t1 (x : Str) : TE := tTup (tCons (tC (.str x)) tNil)
abbrev t2 (x y : Str) : TE := tTup (tCons (tC (.str x)) (tCons (tC (.str y)) tNil))
theorem m1 (x : Str) : Made a c c σ G (t1 x) (· = .tuple [.str x]) := made_tupE (madeL_e (made_str _) madeL_nil) (by show 1 ≤ 100; omega)
theorem m2 (x y : Str) : Made a c c σ G (t2 x y) (· = .tuple [.str x, .str y]) := made_tupE (madeL_e (made_str _) (madeL_e (made_str _) madeL_nil)) (by show 2 ≤ 100; omega)
theorem mE : Made a c c σ G (tTup tNil) (· = .tuple []) := made_tupE madeL_nil (by show 0 ≤ 100; omega)
theorem mL : Made a c c σ G (tLst tNil) (· = .list []) := made_lstE madeL_nil (by show 0 ≤ 100; omega)
theorem mL1 (x : Str) : Made a c c σ G (tLst (tCons (tC (.str x)) tNil)) (· = .list [.str x]) := made_lstE (madeL_e (made_str _) madeL_nil) (by show 1 ≤ 100; omega)
theorem m2i (x : Str) (i : Int) : Made a c c σ G (tTup (tCons (tC (.str x)) (tCons (tC (.int i)) tNil))) (· = .tuple [.str x, .int i]) := made_tupE (madeL_e (made_str _) (madeL_e (made_int _) madeL_nil)) (by show 2 ≤ 100; omega)
theorem m3i (x : Str) (i j : Int) : Made a c c σ G (tTup (tCons (tC (.str x)) (tCons (tC (.int i)) (tCons (tC (.int j)) tNil)))) (· = .tuple [.str x, .int i, .int j]) := made_tupE (madeL_e (made_str _) (madeL_e (made_int _) (madeL_e (made_int _) madeL_nil))) (by show 3 ≤ 100; omega)
theorem m2t (x y : Str) : Made a c c σ G (tTup (tCons (tC (.str x)) (tCons (t1 y) tNil))) (· = .tuple [.str x, .tuple [.str y]]) := made_tupE (madeL_e (made_str _) (madeL_e (m1 _) madeL_nil)) (by show 2 ≤ 100; omega)
theorem m1t (y : Str) : Made a c c σ G (tTup (tCons (t1 y) tNil)) (· = .tuple [.tuple [.str y]]) := made_tupE (madeL_e (m1 _) madeL_nil) (by show 1 ≤ 100; omega)
abbrev oA : TE := tLst (tCons (tC V.non) (tCons (tC (V.bl true)) (tCons (tC (V.int 0)) (tCons (tC (V.int 7)) (tCons (tC (V.str "")) (tCons (tC (V.str "a")) (tCons (tC (V.str "ba")) (tCons (tC (V.str "aa")) (tCons (tC (V.str "signs")) (tCons (tC (V.str "then"))
  (tCons (tTup tNil) (tCons (tLst tNil) (tCons tDNewK (tCons (t1 "empty") (tCons (t2 "signs" "a") (tCons (t1 "signs") tNil))))))))))))))))
theorem mA : Made a c c σ G oA (ListOf (Good 20 2 3) 16) :=
  made_lstA (madeL_alls (madeL_e made_non (madeL_e (made_bl _) (madeL_e (made_int _) (madeL_e (made_int _) (madeL_e (made_str _) (madeL_e (made_str _) (madeL_e (made_str _) (madeL_e (made_str _) (madeL_e (made_str _) (madeL_e (made_str _)
    (madeL_e mE (madeL_e mL (madeL_e made_dic (madeL_e (m1 _) (madeL_e (m2 _ _) (madeL_e (m1 _) madeL_nil)))))))))))))))) (good_all (by decide +kernel))) (by omega)
abbrev oB : TE := tLst (tCons (t2 "signs" "") (tCons (t2 "signs" "ba") (tCons (tTup (tCons (tC (.str "signs")) (tCons (tC (.int 1)) tNil))) (tCons (t2 "signs" "a\t") (tCons (t1 "none") (tCons (t1 "again") (tCons (tTup (tCons (tC (.str "or")) (tCons (tC (.int 1)) (tCons (tC (.int 2)) tNil)))) tNil)))))))
theorem mB : Made a c c σ G oB (ListOf (Good 20 2 3) 7) :=
  made_lstA (madeL_alls (madeL_e (m2 _ _) (madeL_e (m2 _ _) (madeL_e (m2i _ _) (madeL_e (m2 _ _) (madeL_e (m1 _) (madeL_e (m1 _) (madeL_e (m3i _ _ _) madeL_nil))))))) (good_all (by decide +kernel))) (by omega)
abbrev oC : TE := tLst (tCons (tLst (tCons (tC (.str "empty")) tNil)) (tCons (tTup (tCons (tC (.str "empty")) (tCons (t1 "empty") tNil))) (tCons (t2 "more" "a") (tCons (t2 "Signs" "a") (tCons (tTup (tCons (t1 "empty") tNil)) tNil)))))
theorem mC : Made a c c σ G oC (ListOf (Good 20 2 3) 5) :=
  made_lstA (madeL_alls (madeL_e (mL1 _) (madeL_e (m2t _ _) (madeL_e (m2 _ _) (madeL_e (m2 _ _) (madeL_e (m1t _) madeL_nil))))) (good_all (by decide +kernel))) (by omega)
theorem made_some {i : Nat} {v : V} {d : PyData} {Pd : PyData → Prop} (hs : σ[i]? = some (some v)) (hg : (v, d) ∈ G) (p : Pd d) : Made a c c σ G (tVar i) Pd := (made_var hs hg).imp fun _ e => by rw [e]; exact p
end
theorem ok_odd (T : Tx K w mg) : FnOk P w K mg base CX0 2 T.aOdd T.fOdd ["jar"] spOdd := by
  refine T.odd.fn.ok scOdd (fun vs H Q E h => ?_) (fun cdv A outer s H vs Q E hr h => ?_)
  · obtain ⟨a, c, rfl, _⟩ := h
    rfl
  · obtain ⟨a, c, rfl, hj, hc, q⟩ := h
    refine ⟨_, (pss_cons (ps_set (i := 1) scOdd.nd rfl (.inl rfl) (pe_lst (pa_cons pe_non (pa_cons pe_bl (pa_cons pe_int (pa_cons pe_int (pa_cons pe_str (pa_cons pe_str (pa_cons pe_str (pa_cons pe_str (pa_cons pe_str (pa_cons pe_str (pa_cons (pe_tup pa_nil) (pa_cons (pe_lst pa_nil) (pa_cons pe_dnewK (pa_cons (pe_tup (pa_cons pe_str pa_nil)) (pa_cons (pe_tup (pa_cons pe_str (pa_cons pe_str pa_nil))) (pa_cons (pe_tup (pa_cons pe_str pa_nil)) pa_nil))))))))))))))))))
      (pss_cons (ps_set (i := 1) scOdd.nd rfl (.inl rfl) (pe_op op_cat (pv 1) (pe_lst (pa_cons (pe_tup (pa_cons pe_str (pa_cons pe_str pa_nil))) (pa_cons (pe_tup (pa_cons pe_str (pa_cons pe_str pa_nil))) (pa_cons (pe_tup (pa_cons pe_str (pa_cons pe_int pa_nil))) (pa_cons (pe_tup (pa_cons pe_str (pa_cons pe_str pa_nil))) (pa_cons (pe_tup (pa_cons pe_str pa_nil)) (pa_cons (pe_tup (pa_cons pe_str pa_nil)) (pa_cons (pe_tup (pa_cons pe_str (pa_cons pe_int (pa_cons pe_int pa_nil)))) pa_nil))))))))))
      (pss_one (ps_ret (pe_ix ix_list (pe_op op_cat (pv 1) (pe_lst (pa_cons (pe_lst (pa_cons pe_str pa_nil)) (pa_cons (pe_tup (pa_cons pe_str (pa_cons (pe_tup (pa_cons pe_str pa_nil)) pa_nil))) (pa_cons (pe_tup (pa_cons pe_str (pa_cons pe_str pa_nil))) (pa_cons (pe_tup (pa_cons pe_str (pa_cons pe_str pa_nil))) (pa_cons (pe_tup (pa_cons (pe_tup (pa_cons pe_str pa_nil)) pa_nil)) pa_nil))))))) (pe_call (ok_dip T) hr (by rfl) T.dip.at_ T.dip.kp T.dip.bd .nil pass0 (pa_cons (pv 0) (pa_cons pe_int pa_nil))) (fun _ _ => rfl)))))), ?_⟩
    refine made_set (mA (G := [])) hj (fun _ h => nomatch h) fun v1 d1 H1 of1 j1 dq1 p1 => ?_
    have k1 : Knows a H1 [(v1, d1)] := Knows.cons (fun _ h => nomatch h) dq1
    refine made_set (made_cat (made_some rfl List.mem_cons_self p1) mB (by omega)) j1 k1 fun v2 d2 H2 of2 j2 dq2 p2 => ?_
    have k2 : Knows a H2 [(v2, d2)] := Knows.cons (fun _ h => nomatch h) dq2
    refine made_cat (made_some rfl List.mem_cons_self p2) mC (by omega) H2 _ j2 k2 fun v3 d3 H3 of3 j3 dq3 p3 => ?_
    obtain ⟨ds, rfl, p3⟩ := p3
    refine ⟨_, rfl, a, 28, c, rfl, j3, by decide, by decide, by omega, fun r H4 r0 r1 of4 j4 => ?_⟩
    have dq4 := dq3.mono (wo_off of4)
    cases dq4 with
    | @lst p xs _ ep hl =>
      have lx : xs.length = 28 := by rw [hl.len]; exact p3.1
      have g := atI_at (l := xs) r0 (by omega)
      obtain ⟨d, hd, dq⟩ := hl.get (List.getElem?_eq_getElem (l := xs) (i := r.toNat) (by omega))
      refine ⟨p, xs, r, _, rfl, rfl, SqL.of (wo_le _ _ _ _ ep), g, ?_⟩
      exact q _ d H4 (of1.trans (of2.trans (of3.trans of4))) j4 dq (p3.2 d (List.mem_of_getElem? hd))
end
end K00
set_option maxRecDepth 100000
set_option maxHeartbeats 1000000
namespace K00
open PySem PySem.Spec PyProof.Rows L2 Yard
theorem up_low : ∀ c : Nat, c < 128 → ∀ x ∈ PySem.Unicode.upperOf c, x < 128 := by
  have h : ((List.range 128).all fun c => (PySem.Unicode.upperOf c).all fun x => decide (x < 128)) = true := by decide +kernel
  intro c hc x hx
  have q := List.all_eq_true.mp (List.all_eq_true.mp h c (List.mem_range.mpr hc)) x hx
  exact of_decide_eq_true q
theorem upper_low {z : Str} (h : ∀ c ∈ z.cps.toList, c < 128) : ∀ c ∈ (Txt.upper z).cps.toList, c < 128 := by
  intro c hc
  have e : (Txt.upper z).cps = (z.cps.mapIdx fun i c => (PySem.Unicode.upperOf c).toArray).flatten := rfl
  rw [e] at hc
  simp only [Array.mem_toList_iff, Array.mem_flatten, Array.mem_mapIdx] at hc
  obtain ⟨ys, ⟨i, hi, rfl⟩, hc⟩ := hc
  refine up_low _ (h _ ?_) c (by simpa using hc)
  simp
theorem cutS_low {z : Str} {lo hi : Option Int} : ∀ c ∈ (cutS z lo hi).cps.toList, c ∈ z.cps.toList := by
  intro c hc
  unfold cutS at hc
  have hc' : c ∈ (z.cps.toList.drop (HT.sIx z.length 0 lo)).take (HT.sIx z.length z.length hi - HT.sIx z.length 0 lo) := by simpa using hc
  exact List.mem_of_mem_drop (List.mem_of_mem_take hc')
theorem cat_low {x y : Str} {c : Nat} (h : c ∈ (x ++ y).cps.toList) : c ∈ x.cps.toList ∨ c ∈ y.cps.toList := by
  have e : (x ++ y).cps = x.cps ++ y.cps := rfl
  rw [e, Array.toList_append] at h
  exact List.mem_append.mp h
theorem cat_len (x y : Str) : (x ++ y).length = x.length + y.length := by
  have e : (x ++ y).cps = x.cps ++ y.cps := rfl
  show (x ++ y).cps.size = _
  rw [e, Array.size_append]; rfl

/-! ### parts of tuples -/
theorem cut_to {α : Type} {ds : List α} {k : Nat} : cutL ds none (some (k : Int)) = ds.take k := by
  unfold cutL
  rw [HT.sIx_none, HT.sIx_nat]
  show List.take (min k ds.length - 0) ds = _
  rw [Nat.sub_zero]
  rcases Nat.le_total k ds.length with h | h
  · rw [Nat.min_eq_left h]
  · rw [Nat.min_eq_right h, List.take_of_length_le h, List.take_length]
theorem cut_from {α : Type} {ds : List α} {k : Nat} : cutL ds (some (k : Int)) none = ds.drop k := by
  unfold cutL
  rw [HT.sIx_none, HT.sIx_nat]
  rcases Nat.le_total k ds.length with h | h
  · rw [Nat.min_eq_left h]
    exact List.take_of_length_le (by rw [List.length_drop]; omega)
  · rw [Nat.min_eq_right h, Nat.sub_self, List.take_zero, List.drop_of_length_le h]
theorem cut_one {α : Type} {ds : List α} {k : Nat} : cutL ds (some (k : Int)) (some ((k : Int) + 1)) = (ds.drop k).take 1 := by
  unfold cutL
  rw [show (k : Int) + 1 = ((k + 1 : Nat) : Int) by omega, HT.sIx_nat, HT.sIx_nat]
  rcases Nat.lt_or_ge k ds.length with h | h
  · rw [Nat.min_eq_left (by omega), Nat.min_eq_left (by omega), show k + 1 - k = 1 by omega]
  · rw [Nat.min_eq_right h, Nat.min_eq_right (by omega), Nat.sub_self, List.take_zero, List.drop_of_length_le h]; rfl
/-- parts of a tuple: plain, small, narrow -/
structure GoodL (W D N : Nat) (ds : List PyData) : Prop where
  fine : FineL ds W D
  ar : ∀ d ∈ ds, arOk N d = true
theorem GoodL.mono {W D N W' D' N' : Nat} {ds : List PyData} (g : GoodL W D N ds) (h1 : W ≤ W') (h2 : D ≤ D') (h3 : N ≤ N') : GoodL W' D' N' ds := ⟨g.fine.mono h1 h2, fun d hd => arOk_mono h3 d (g.ar d hd)⟩
theorem GoodL.tup {W D N : Nat} {ds : List PyData} (g : GoodL W D N ds) (l : ds.length ≤ N) : Good W (D + 1) N (.tuple ds) := ⟨Fine.tup g.fine, arOk_tup.mpr ⟨l, g.ar⟩⟩
theorem GoodL.lst {W D N : Nat} {ds : List PyData} (g : GoodL W D N ds) : Good W (D + 1) N (.list ds) := ⟨Fine.lst g.fine, arOk_lst.mpr g.ar⟩
theorem GoodL.app {W V_ D N : Nat} {ds es : List PyData} (g : GoodL W D N ds) (k : GoodL V_ D N es) : GoodL (W + V_) D N (ds ++ es) := ⟨g.fine.app k.fine, fun d hd => (List.mem_append.mp hd).elim (g.ar d) (k.ar d)⟩
theorem GoodL.take {W D N : Nat} {ds : List PyData} (g : GoodL W D N ds) (i : Nat) : GoodL W D N (ds.take i) := ⟨(g.fine.sub i).1, fun d hd => g.ar d (List.mem_of_mem_take hd)⟩
theorem GoodL.drop {W D N : Nat} {ds : List PyData} (g : GoodL W D N ds) (i : Nat) : GoodL W D N (ds.drop i) := ⟨(g.fine.sub i).2, fun d hd => g.ar d (List.mem_of_mem_drop hd)⟩
theorem GoodL.rev {W D N : Nat} {ds : List PyData} (g : GoodL W D N ds) : GoodL W D N ds.reverse := ⟨g.fine.rev, fun d hd => g.ar d (List.mem_reverse.mp hd)⟩
theorem GoodL.one {W D N : Nat} {d : PyData} (g : Good W D N d) : GoodL (W + 1) D N [d] := ⟨(FineL.nil.mono (Nat.le_refl _) (Nat.zero_le _)).cons g.fine, fun x hx => by rw [List.mem_singleton.mp hx]; exact g.ar⟩
theorem Good.of_tup {W D N : Nat} {ds : List PyData} (g : Good W D N (.tuple ds)) : ∃ p, D = p + 1 ∧ GoodL W p N ds ∧ ds.length ≤ N := by
  obtain ⟨p, e, f⟩ := g.fine.of_tup
  have q := arOk_tup.mp g.ar
  exact ⟨p, e, ⟨f, q.2⟩, q.1⟩
section
variable {a : Addr} {c c' c'' : Nat} {σ : L2.St} {G : List (V × PyData)} {t : TE} {K : PySem.W.Frag}
theorem made_rev {ds : List PyData} (h : Made a c c' σ G t (· = .tuple ds)) : Made a c c' σ G (tBackT K t) (· = .tuple ds.reverse) := fun H Q j k q =>
  h H _ j k fun v d H1 o1 j1 dq1 e1 => by
    subst e1
    cases dq1 with
    | @tup p xs _ ep hl1 =>
      refine ⟨p, xs, rfl, SqT.of (wo_le _ _ _ _ ep), fun z nz => ?_⟩
      have nza := j1.ne nz
      exact q _ _ _ (o1.trans (Off.new nz)) (j1.upd nza) (.tup (wo_get nza upd_same) (hl1.rev.mono (wo_off (Off.new nz)))) rfl
theorem made_list {X : Cx} {ds : List PyData} (h : Made a c c' σ G t (· = .tuple ds)) :
    Made a c c' σ G (tCB (fun xs H Q => ∃ p ys, xs = [.ref p] ∧ (SqL X.K H p ys ∨ SqT X.K H p ys) ∧ ∀ l, H l = none → Q (.ref l) (upd H l (.lst ys))) (tCons t tNil)) (· = .list ds) := fun H Q j k q =>
  h H _ j k fun v d H1 o1 j1 dq1 e1 => by
    subst e1
    cases dq1 with
    | @tup p xs _ ep hl1 =>
      refine ⟨p, xs, rfl, .inr (SqT.of (wo_le _ _ _ _ ep)), fun z nz => ?_⟩
      have nza := j1.ne nz
      exact q _ _ _ (o1.trans (Off.new nz)) (j1.upd nza) (.lst (wo_get nza upd_same) (hl1.mono (wo_off (Off.new nz)))) rfl
theorem Made.tup {ds : List PyData} (h : Made a c c' σ G t (· = .tuple ds)) : Made a c c' σ G t (fun d => ∃ es, d = .tuple es ∧ es = ds) := h.imp fun _ e => ⟨ds, e, rfl⟩
theorem made_ret {D : Ends} {H : Hp} {Pd : PyData → Prop} (h : Made a c c' σ G t Pd) (j : JarAt H a c) (k : Knows a H G)
    (q : ∀ v d H', Off a H H' → JarAt H' a c' → Dq (wo a H') v d → Pd d → D.rt v H') : tRet t D σ H := h H _ j k q
end
theorem cut {A R : Prop} (h : R → A) (r : R) : A := h r
section
variable {P : Program} {w : World} {K : PySem.W.Frag} {mg : Str → Option Value} {base : Heap}
def spPut (n : Nat) : Sp := fun vs H Q _ => ∃ (a : Addr) (c : Nat) (v : V) (d : PyData) (W D N : Nat), vs = [.ref a, v, .int n] ∧ JarAt H a c ∧ c + (n + 8) ≤ 900000 ∧ Dq (wo a H) v d ∧ Good W D N d ∧ W ≤ 300000 ∧ 3 ≤ N ∧ N ≤ 8 ∧
  ∀ v' d' H', Off a H H' → JarAt H' a (c + (n + 8)) → Dq (wo a H') v' d' → Good (3 * W + 300) (D + 2) (N + 1) d' → Q v' H'
theorem scPut : FnScope ["jar", "item", "deep", "at", "way", "signs", "sign", "words", "some"] ["jar", "item", "deep"] (defScope sPut) := ⟨rfl, rfl, rfl, by decide +kernel, rfl, by decide +kernel, by decide +kernel⟩
theorem put_step (T : Tx K w mg) (n : Nat) (G : FnOk P w K mg base CX0 (n + 2) T.aPut T.fPut ["jar", "item", "deep"] (spBefore spPut n)) :
    FnOk P w K mg base CX0 (n + 3) T.aPut T.fPut ["jar", "item", "deep"] (spPut n) := by
  refine T.put.fn.ok scPut (fun vs H Q E h => ?_) (fun cdv A outer s H vs Q E hr h => ?_)
  · obtain ⟨a, c, v, d, W, D, N, rfl, _⟩ := h
    rfl
  · obtain ⟨a, c, v, d, W, D, N, rfl, hj, hc, hd, hg, hW, hN, hN8, q⟩ := h
    have hr1 : Room 1 _ := hr.mono (by omega)
    have hr2 : Room 2 _ := hr.mono (by omega)
    refine ⟨_, (pss_cons (ps_if (PW.pt (pw_and (pt_val (pe_callB call_isi (by rfl) T.bIsinstance (by decide +kernel) (pa_cons (pv 1) (pa_cons (pe_bltn (v := .ty "tuple") (u := .type "tuple") (by rfl) T.bTuple (by decide +kernel) rfl) pa_nil)))) (pw_and (pt_cmpR op_gt (pe_callB call_len_seq (by rfl) T.len PySem.boot_len (pa_cons (pv 1) pa_nil)) pe_int (nomark _)) (pw_and1 (pt_cmpR op_gt (pv 2) pe_int (nomark _))))))
        (pss_cons (ps_set (i := 3) scPut.nd rfl (.inl rfl) (pe_op op_add pe_int (pe_call (ok_dip T) hr1 (by rfl) T.dip.at_ T.dip.kp T.dip.bd .nil pass0 (pa_cons (pv 0) (pa_cons (pe_op op_sub (pe_callB call_len_seq (by rfl) T.len PySem.boot_len (pa_cons (pv 1) pa_nil)) pe_int) pa_nil)))))
        (pss_one (ps_ret (pe_op op_catA (pe_op op_catA (pe_slice sl_tupA (pv 1) po_none (po_some (pv 3))) (pe_tup (pa_cons (pe_call G hr (by rfl) T.put.at_ T.put.kp T.put.bd .nil pass0 (pa_cons (pv 0) (pa_cons (pe_ix ix_tup (pv 1) (pv 3) (fun _ _ => rfl)) (pa_cons (pe_op op_sub (pv 2) pe_int) pa_nil)))) pa_nil))) (pe_slice sl_tupA (pv 1) (po_some (pe_op op_add (pv 3) pe_int)) po_none)))))
        pss_nil)
      (pss_cons (ps_set (i := 4) scPut.nd rfl (.inl rfl) (pe_call (ok_dip T) hr1 (by rfl) T.dip.at_ T.dip.kp T.dip.bd .nil pass0 (pa_cons (pv 0) (pa_cons pe_int pa_nil))))
      (pss_cons (ps_if (PW.pt (pw_and (pt_val (pe_callB call_isi (by rfl) T.bIsinstance (by decide +kernel) (pa_cons (pv 1) (pa_cons (pe_bltn (v := .ty "str") (u := .type "str") (by rfl) T.bStr (by decide +kernel) rfl) pa_nil)))) (pw_and1 (pt_cmpR op_lt (pv 4) pe_int (nomark _)))))
        (pss_cons (ps_set (i := 5) scPut.nd rfl (.inl rfl) (pe_call0 (ok_all T) hr1 (by rfl) T.all.at_ T.all.kp T.all.bd .nil pass0))
        (pss_cons (ps_set (i := 6) scPut.nd rfl (.inl rfl) (pe_ix ix_str (pv 5) (pe_call (ok_dip T) hr1 (by rfl) T.dip.at_ T.dip.kp T.dip.bd .nil pass0 (pa_cons (pv 0) (pa_cons pe_int pa_nil))) (fun _ _ => rfl)))
        (pss_one (ps_ret (pe_ix ix_list (pe_lst (pa_cons (pe_op op_add_str (pv 1) (pv 6)) (pa_cons (pe_op op_add_str (pv 6) (pv 1)) (pa_cons (pe_revS (pv 1)) (pa_cons (pe_op op_add_str (pv 1) (pe_slice sl_str (pv 1) (po_some (pe_un un_neg pe_int)) po_none)) (pa_cons (pe_slice sl_str (pv 1) (po_some pe_int) po_none) (pa_cons (pe_upper (pv 1)) pa_nil))))))) (pv 4) (fun _ _ => rfl))))))
        pss_nil)
      (pss_cons (ps_if (PW.pt (pw_and (pt_val (pe_callB call_isi (by rfl) T.bIsinstance (by decide +kernel) (pa_cons (pv 1) (pa_cons (pe_bltn (v := .ty "tuple") (u := .type "tuple") (by rfl) T.bTuple (by decide +kernel) rfl) pa_nil)))) (pw_and1 (pt_cmpR (op_neE hr) (pv 1) (pe_tup pa_nil) (nomark _)))))
        (pss_cons (ps_set (i := 3) scPut.nd rfl (.inl rfl) (pe_call (ok_dip T) hr1 (by rfl) T.dip.at_ T.dip.kp T.dip.bd .nil pass0 (pa_cons (pv 0) (pa_cons (pe_op op_add (pe_callB call_len_seq (by rfl) T.len PySem.boot_len (pa_cons (pv 1) pa_nil)) pe_int) pa_nil))))
        (pss_cons (ps_set (i := 7) scPut.nd rfl (.inl rfl) (pe_lst (pa_cons pe_str (pa_cons pe_str (pa_cons pe_str (pa_cons pe_str (pa_cons pe_str (pa_cons pe_str (pa_cons pe_str (pa_cons pe_str pa_nil))))))))))
        (pss_cons (ps_set (i := 8) scPut.nd rfl (.inl rfl) (pe_lst (pa_cons (pe_op op_catA (pe_slice sl_tupA (pv 1) po_none (po_some (pv 3))) (pe_slice sl_tupA (pv 1) (po_some (pe_op op_add (pv 3) pe_int)) po_none)) (pa_cons (pe_op op_catA (pe_op op_catA (pe_slice sl_tupA (pv 1) po_none (po_some (pv 3))) (pe_slice sl_tupA (pv 1) (po_some (pv 3)) (po_some (pe_op op_add (pv 3) pe_int)))) (pe_slice sl_tupA (pv 1) (po_some (pv 3)) po_none)) (pa_cons (pe_revT (pv 1)) (pa_cons (pe_callTy call_list_of (by rfl) T.bList (by decide +kernel) (pa_cons (pv 1) pa_nil)) pa_nil))))))
        (pss_cons (ps_set (i := 8) scPut.nd rfl (.inl rfl) (pe_op op_cat (pv 8) (pe_lst (pa_cons (pe_op op_catA (pe_tup (pa_cons (pe_ix ix_list (pv 7) (pe_call (ok_dip T) hr1 (by rfl) T.dip.at_ T.dip.kp T.dip.bd .nil pass0 (pa_cons (pv 0) (pa_cons pe_int pa_nil))) (fun _ _ => rfl)) pa_nil)) (pe_slice sl_tupA (pv 1) (po_some pe_int) po_none)) (pa_cons (pe_op op_catA (pv 1) (pe_tup (pa_cons (pe_tup (pa_cons pe_str pa_nil)) pa_nil))) (pa_cons (pe_slice sl_tupA (pv 1) po_none (po_some pe_int)) pa_nil))))))
        (pss_one (ps_ret (pe_ix ix_list (pe_op op_cat (pv 8) (pe_lst (pa_cons (pe_call (ok_odd T) hr2 (by rfl) T.odd.at_ T.odd.kp T.odd.bd .nil pass0 (pa_cons (pv 0) pa_nil)) pa_nil))) (pv 4) (fun _ _ => rfl))))))))
        pss_nil)
      (pss_one (ps_ret (pe_call (ok_odd T) hr2 (by rfl) T.odd.at_ T.odd.kp T.odd.bd .nil pass0 (pa_cons (pv 0) pa_nil)))))))), ?_⟩
    apply cut
    · intro rest
      -- is it a tuple of more than one, and deep
      refine ⟨_, rfl, v, .ty "tuple", _, _, _, rfl, .ty "tuple", (hd.mono (wo_le a H)).ty, kit_ty (kit_tup d), _, rfl, ite2 (fun e => ?_) (fun _ => rest)⟩
      obtain ⟨ds, rfl⟩ : ∃ ds, d = .tuple ds := by
        cases d with
        | tuple ds => exact ⟨ds, rfl⟩
        | _ => cases e
      cases hd with
      | @tup p xs _ ep hl =>
        have ep' := wo_le _ _ _ _ ep
        have pa : p ≠ a := fun e => by
          rw [e] at ep
          unfold wo at ep
          rw [if_pos rfl] at ep
          cases ep
        refine ⟨_, rfl, p, xs, rfl, .inr (SqT.of ep'), _, _, rfl, rfl, _, rfl, ite2 (fun e1 => ?_) (fun _ => rest)⟩
        have l1 : ((xs.length : Nat) : Int) > 1 := of_decide_eq_true e1
        refine ⟨_, rfl, _, _, rfl, rfl, _, rfl, ite2 (fun e2 => ?_) (fun _ => rest)⟩
        have n0 : (n : Int) > 0 := of_decide_eq_true e2
        obtain ⟨m, rfl⟩ : ∃ m, n = m + 1 := ⟨n - 1, by omega⟩
        refine ⟨_, rfl, _, rfl, p, xs, rfl, .inr (SqT.of ep'), _, _, rfl, rfl, a, ((xs.length : Nat) : Int) - 1, c, rfl, hj, by omega, ?_, by omega, fun r H1 r0 r1 of1 j1 => ?_⟩
        · have := hg.of_tup.choose_spec.2.2
          have := hl.len
          omega
        have lN : xs.length ≤ N := by
          have := hg.of_tup.choose_spec.2.2
          have := hl.len
          omega
        obtain ⟨D', rfl, gl, _⟩ := hg.of_tup
        obtain ⟨k, hk⟩ : ∃ k : Nat, 1 + r = (k : Int) := ⟨(1 + r).toNat, by omega⟩
        have kl : k < ds.length := by have := hl.len; omega
        obtain ⟨wa, wb, fa, fb, fd, hsum⟩ := gl.fine.around (List.getElem?_eq_getElem kl)
        have K1 : Knows a H1 [(V.ref p, PyData.tuple ds)] := Knows.cons (fun _ h => nomatch h) ((Dq.tup ep hl).mono (wo_off of1))
        refine ⟨_, _, rfl, rfl, ?_⟩
        refine made_ret (a := a) (c := c + 1) (c' := c + 1 + (m + 8)) (Pd := Good (3 * W + 300) (D' + 1 + 2) (N + 1)) (made_catT (c' := c + 1 + (m + 8)) (Ps := fun es => ∃ d', Good (3 * (ds[k]).weight + 300) (D' + 2) (N + 1) d' ∧ es = ds.take k ++ [d']) (Qs := (· = ds.drop (k + 1)))
          (made_catT (c' := c + 1) (Ps := (· = ds.take k)) (Qs := fun es => ∃ d', Good (3 * (ds[k]).weight + 300) (D' + 2) (N + 1) d' ∧ es = [d'])
            ((made_sl (made_var rfl List.mem_cons_self) madeO_none (madeO_var rfl)).imp fun d e => ⟨_, e, ?_⟩)
            (made_tup (Ps := fun es => ∃ d', Good (3 * (ds[k]).weight + 300) (D' + 2) (N + 1) d' ∧ es = [d']) (madeL_cons (Pd := Good (3 * (ds[k]).weight + 300) (D' + 2) (N + 1)) (c' := c + 1 + (m + 8)) ?_ madeL_nil fun d es g e => ⟨d, g, by rw [e]⟩) ?_ fun es g => ⟨es, rfl, g⟩)
            ?_ ?_)
          ((made_sl (made_var rfl List.mem_cons_self) (madeO_add rfl) madeO_none).imp fun d e => ⟨_, e, ?_⟩) ?_ ?_) j1 K1 ?_
        · rw [hk]; exact cut_to
        · intro H2 Q2 j2 k2 q2
          have dq2 := k2 _ List.mem_cons_self
          cases dq2 with
          | @tup _ xs2 _ ep2 hl2 =>
            have kx : k < xs2.length := by have := hl2.len; omega
            obtain ⟨di, hdi, dqi⟩ := hl2.get (List.getElem?_eq_getElem kx)
            have ei : di = ds[k] := by
              rw [List.getElem?_eq_getElem kl] at hdi
              exact (Option.some.inj hdi).symm
            subst ei
            refine ⟨_, rfl, _, rfl, _, rfl, p, xs2, _, _, rfl, rfl, SqT.of (wo_le _ _ _ _ ep2), (?_ : atI xs2 (1 + r) = some (xs2[k])), _, rfl, _, _, rfl, rfl, a, c + 1, _, ds[k], (ds[k]).weight, D', N, ?_, j2, by omega, dqi, ⟨fd, gl.ar _ (List.getElem_mem kl)⟩, by omega, hN, hN8, fun v' d' H' of' j' dq' g' => ?_⟩
            · rw [hk]
              exact atI_nat (List.getElem?_eq_getElem kx)
            · show [V.ref a, xs2[k], V.int (((m + 1 : Nat) : Int) - 1)] = _
              rw [show ((m + 1 : Nat) : Int) - 1 = (m : Int) by omega]
            · exact q2 v' d' H' of' j' dq' g'
        · rintro es ⟨d', g, rfl⟩
          show 1 ≤ sizeLine
          decide
        · rintro es fs e1 ⟨d', g, e2⟩
          rw [e1, e2, sizeLine_eq, List.length_take]
          show _ + 1 ≤ _
          omega
        · rintro es fs e1 ⟨d', g, e2⟩
          exact ⟨_, rfl, d', g, by rw [e1, e2]⟩
        · rw [hk, show (k : Int) + 1 = ((k + 1 : Nat) : Int) by omega]; exact cut_from
        · rintro es fs ⟨d', g, e1⟩ e2
          rw [e1, e2, sizeLine_eq, List.length_append, List.length_take, List.length_drop]
          show _ + 1 + _ ≤ _
          omega
        · rintro es fs ⟨d', g, e1⟩ e2
          rw [e1, e2]
          have g1 : GoodL wa (D' + 2) (N + 1) (ds.take k) := ⟨fa.mono (Nat.le_refl _) (by omega), fun d hd => arOk_mono (by omega) d (gl.ar d (List.mem_of_mem_take hd))⟩
          have g2 : GoodL wb (D' + 2) (N + 1) (ds.drop (k + 1)) := ⟨fb.mono (Nat.le_refl _) (by omega), fun d hd => arOk_mono (by omega) d (gl.ar d (List.mem_of_mem_drop hd))⟩
          refine (((g1.app (GoodL.one g)).app g2).tup ?_).mono (by omega) (by omega) (Nat.le_refl _)
          rw [List.length_append, List.length_append, List.length_take, List.length_drop]
          show _ + 1 + _ ≤ _
          omega
        · intro v' d' H' of' j' dq' g'
          exact q v' d' H' (of1.trans of') (j'.mono (by omega)) dq' g'
    refine ⟨_, rfl, a, 8, c, rfl, hj, by decide, by decide, by omega, fun r H1 r0 r1 of1 j1 => ?_⟩
    have hd1 : Dq (wo a H1) v d := hd.mono (wo_off of1)
    clear hd
    apply cut
    · intro rest
      refine ⟨_, rfl, v, .ty "str", _, _, _, rfl, .ty "str", (hd1.mono (wo_le a H1)).ty, kit_ty (kit_str d), _, rfl, ite2 (fun e => ?_) (fun _ => rest)⟩
      obtain ⟨x, rfl⟩ : ∃ x, d = .str x := by
        cases d with
        | str x => exact ⟨x, rfl⟩
        | _ => cases e
      cases hd1
      refine ⟨_, rfl, _, _, rfl, rfl, _, rfl, ite2 (fun e1 => ?_) (fun _ => rest)⟩
      clear rest
      have r6 : r < 6 := of_decide_eq_true e1
      have al : allS.cps.toList.length = 95 := by decide +kernel
      have hx := hg.fine.of_text
      refine ⟨rfl, ?_⟩
      refine ⟨_, rfl, _, rfl, a, 95, c + 1, rfl, j1, by decide, by decide, by omega, fun r2 H2 r20 r21 of2 j2 => ?_⟩
      have hlt : r2.toNat < allS.cps.toList.length := by omega
      refine ⟨allS, r2, _, rfl, rfl, by rw [sizeLine_eq]; decide +kernel, atI_at r20 hlt, ?_⟩
      have hs : allS.cps.toList[r2.toNat]'hlt < 128 := pool_all.low _ (List.getElem_mem hlt)
      generalize allS.cps.toList[r2.toNat]'hlt = s1 at hs ⊢
      have sl : ((⟨#[s1]⟩ : Str)).length = 1 := rfl
      have hsl : ∀ z ∈ (⟨#[s1]⟩ : Str).cps.toList, z < 128 := fun z hz => by
        have : z ∈ [s1] := hz
        rw [List.mem_singleton.mp this]; exact hs
      have bx : x.length ≤ 300000 := by omega
      have fit : ∀ n : Nat, n ≤ 1000000 → n ≤ sizeLine := fun n h => by rw [sizeLine_eq]; omega
      refine ⟨_, rfl, _, rfl, _, _, rfl, rfl, fit _ (by omega), _, rfl, _, rfl, _, _, rfl, rfl, fit _ (by omega), _, rfl, x, rfl, fit _ (by omega), fun y1 ly1 hy1 => ?_⟩
      refine ⟨_, rfl, _, rfl, ⟨_, rfl, _, rfl, x, rfl, fit _ (by omega), _, _, rfl, rfl, ?_, ?_⟩⟩
      · have := cutS_length x (some (-1)) none
        exact fit _ (by omega)
      refine ⟨_, rfl, 1, rfl, x, rfl, fit _ (by omega), _, rfl, ⟨_, rfl⟩, x, rfl, rfl, by omega, by show 6 ≤ sizeLine; decide, fun p np => ?_⟩
      have TO : ∀ y ∈ [x ++ (⟨#[s1]⟩ : Str), (⟨#[s1]⟩ : Str) ++ x, y1, x ++ cutS x (some (-1)) none, cutS x (some 1) none, Txt.upper x], y.length ≤ 3 * W + 300 ∧ ∀ c ∈ y.cps.toList, c < 128 := by
        intro y hy
        have c1 := cutS_length x (some (-1)) none
        have c2 := cutS_length x (some 1) none
        simp only [List.mem_cons, List.not_mem_nil, or_false] at hy
        rcases hy with e | e | e | e | e | e <;> subst e
        · refine ⟨by rw [cat_len]; omega, fun c hc => (cat_low hc).elim (hx.1 c) (hsl c)⟩
        · refine ⟨by rw [cat_len]; omega, fun c hc => (cat_low hc).elim (hsl c) (hx.1 c)⟩
        · refine ⟨by omega, fun c hc => hx.1 c (hy1 c hc)⟩
        · refine ⟨by rw [cat_len]; omega, fun c hc => (cat_low hc).elim (hx.1 c) fun h => hx.1 c (cutS_low c h)⟩
        · refine ⟨by omega, fun c hc => hx.1 c (cutS_low c hc)⟩
        · have := len_upper x
          exact ⟨by omega, upper_low hx.1⟩
      generalize hys : [x ++ (⟨#[s1]⟩ : Str), (⟨#[s1]⟩ : Str) ++ x, y1, x ++ cutS x (some (-1)) none, cutS x (some 1) none, Txt.upper x] = ys at TO
      have ly : ys.length = 6 := by rw [← hys]; rfl
      have exs : [V.str (x ++ (⟨#[s1]⟩ : Str)), V.str ((⟨#[s1]⟩ : Str) ++ x), V.str y1, V.str (x ++ cutS x (some (-1)) none), V.str (cutS x (some 1) none), V.str (Txt.upper x)] = ys.map V.str := by rw [← hys]; rfl
      have npa := j2.ne np
      have fin : ∀ zs : List V, zs = ys.map V.str → ∀ h : r.toNat < zs.length, Q zs[r.toNat] (upd H2 p (.lst zs)) := by
        rintro _ rfl h
        have hr' : r.toNat < ys.length := by rw [List.length_map] at h; exact h
        have ey : (ys.map V.str)[r.toNat] = V.str ys[r.toNat] := List.getElem_map ..
        rw [ey]
        have ty := TO _ (List.getElem_mem hr')
        exact q _ (.str ys[r.toNat]) _ (of1.trans (of2.trans (Off.new np))) ((j2.upd npa).mono (by omega)) (.str _) ⟨(Fine.text ty.2 ty.1).mono (Nat.le_refl _) (Nat.zero_le _), rfl⟩
      refine ⟨_, rfl, p, _, r, _, rfl, rfl, SqL.of upd_same, atI_at r0 (by rw [exs, List.length_map]; omega), fin _ exs _⟩
    have odd : ∀ H', Off a H1 H' → JarAt H' a (c + 1) → spOdd [.ref a] H' Q E0 := fun H' o' j' => ⟨a, c + 1, rfl, j', by omega, fun v2 d2 H2 o2 j2 dq2 g2 =>
      q v2 d2 H2 (of1.trans (o'.trans o2)) (j2.mono (by omega)) dq2 (g2.mono (by omega) (by omega) (by omega))⟩
    refine ⟨_, rfl, v, .ty "tuple", _, _, _, rfl, .ty "tuple", (hd1.mono (wo_le a H1)).ty, kit_ty (kit_tup d), _, rfl, ite2 (fun e => ?_) (fun _ => ⟨_, rfl, odd H1 (Off.refl _ _) j1⟩)⟩
    obtain ⟨ds, rfl⟩ : ∃ ds, d = .tuple ds := by
      cases d with
      | tuple ds => exact ⟨ds, rfl⟩
      | _ => cases e
    cases hd1 with
    | @tup p xs _ ep hl =>
      have ep' := wo_le _ _ _ _ ep
      refine ⟨_, rfl, Nat.zero_le _, fun pe npe => ?_⟩
      have npea := j1.ne npe
      have j2 := j1.upd (o := .tup []) npea
      have s2 : Same H1 (upd H1 pe (.tup [])) := same_new npe
      have of2 : Off a H1 (upd H1 pe (.tup [])) := Off.new npe
      refine ⟨p, pe, xs, rfl, rfl, SqT.of (s2 _ _ ep'), SqT.of upd_same, _, rfl, ite2 (fun e1 => ?_) (fun _ => ⟨_, rfl, odd _ of2 j2⟩)⟩
      obtain ⟨D', rfl, gl, lN⟩ := hg.of_tup
      have lx := hl.len
      refine ⟨_, rfl, _, rfl, p, xs, rfl, .inr (SqT.of (s2 _ _ ep')), _, _, rfl, rfl, a, ((xs.length : Nat) : Int) + 1, c + 1, rfl, j2, by omega, by omega, by omega, fun r2 H2 r20 r21 of3 j3 => ?_⟩
      have k3 : Knows a H2 [(V.ref p, PyData.tuple ds)] := Knows.cons (fun _ h => nomatch h) ((Dq.tup ep hl).mono (wo_off (of2.trans of3)))
      obtain ⟨k, rfl⟩ : ∃ k : Nat, r2 = (k : Int) := ⟨r2.toNat, by omega⟩
      have kl : k ≤ ds.length := by omega
      -- words
      refine made_set (made_lstE (ds := [.str "signs", .str "empty", .str "then", .str "or", .str "again", .str "more", .str "maybe", .str "none"]) (madeL_e (made_str _) (madeL_e (made_str _) (madeL_e (made_str _) (madeL_e (made_str _) (madeL_e (made_str _) (madeL_e (made_str _) (madeL_e (made_str _) (madeL_e (made_str _) madeL_nil)))))))) (by decide)) j3 k3 fun v7 d7 H3 of4 j4 dq4 e7 => ?_
      subst e7
      have k4 := (k3.mono of4).cons dq4
      have mem1 : (V.ref p, PyData.tuple ds) ∈ [(v7, PyData.list [.str "signs", .str "empty", .str "then", .str "or", .str "again", .str "more", .str "maybe", .str "none"]), (V.ref p, PyData.tuple ds)] := List.mem_cons_of_mem _ List.mem_cons_self
      have T1 : Good (3 * W + 300) (D' + 1 + 2) (N + 1) (.tuple (ds.take k ++ ds.drop (k + 1))) := by
        refine (((gl.take k).app (gl.drop (k + 1))).tup ?_).mono (by omega) (by omega) (by omega)
        rw [List.length_append, List.length_take, List.length_drop]; omega
      have T2 : Good (3 * W + 300) (D' + 1 + 2) (N + 1) (.tuple ((ds.take k ++ (ds.drop k).take 1) ++ ds.drop k)) := by
        refine (((((gl.take k).app ((gl.drop k).take 1)).app (gl.drop k)).mono (Nat.le_refl _) (Nat.le_refl _) (Nat.le_succ N)).tup ?_).mono (by omega) (by omega) (by omega)
        rw [List.length_append, List.length_append, List.length_take, List.length_take, List.length_drop]; omega
      have T3 : Good (3 * W + 300) (D' + 1 + 2) (N + 1) (.tuple ds.reverse) := (gl.rev.tup (by rw [List.length_reverse]; omega)).mono (by omega) (by omega) (by omega)
      have T4 : Good (3 * W + 300) (D' + 1 + 2) (N + 1) (.list ds) := gl.lst.mono (by omega) (by omega) (by omega)
      refine made_set (made_lstA (Pd := Good (3 * W + 300) (D' + 1 + 2) (N + 1)) (n := 4)
        (madeL_a (made_catT (Ps := (· = ds.take k)) (Qs := (· = ds.drop (k + 1))) ((made_sl (made_var rfl mem1) madeO_none (madeO_var rfl)).imp fun d e => ⟨_, e, cut_to⟩) ((made_sl (made_var rfl mem1) (madeO_add rfl) madeO_none).imp fun d e => ⟨_, e, ?_⟩) ?_ fun es fs e1 e2 => by rw [e1, e2]; exact T1)
        (madeL_a (made_catT (Ps := (· = ds.take k ++ (ds.drop k).take 1)) (Qs := (· = ds.drop k)) (made_catT (Ps := (· = ds.take k)) (Qs := (· = (ds.drop k).take 1)) ((made_sl (made_var rfl mem1) madeO_none (madeO_var rfl)).imp fun d e => ⟨_, e, cut_to⟩) ((made_sl (made_var rfl mem1) (madeO_var rfl) (madeO_add rfl)).imp fun d e => ⟨_, e, cut_one⟩) ?_ fun es fs e1 e2 => ⟨_, rfl, by rw [e1, e2]⟩) ((made_sl (made_var rfl mem1) (madeO_var rfl) madeO_none).imp fun d e => ⟨_, e, cut_from⟩) ?_ fun es fs e1 e2 => by rw [e1, e2]; exact T2)
        (madeL_a ((made_rev (made_var rfl mem1)).imp fun d e => by rw [e]; exact T3)
        (madeL_a ((made_list (made_var rfl mem1)).imp fun d e => by rw [e]; exact T4) madeL_0)))) (by omega)) j4 k4 fun v8 d8 H4 of5 j5 dq5 p8 => ?_
      · rw [show (k : Int) + 1 = ((k + 1 : Nat) : Int) by omega]; exact cut_from
      · intro es fs e1 e2
        rw [e1, e2, sizeLine_eq, List.length_take, List.length_drop]; omega
      · intro es fs e1 e2
        rw [e1, e2, sizeLine_eq, List.length_take, List.length_take, List.length_drop]; omega
      · intro es fs e1 e2
        rw [e1, e2, sizeLine_eq, List.length_append, List.length_take, List.length_take, List.length_drop]; omega
      -- three more
      have k5 := (k4.mono of5).cons dq5
      have mem8 : (v8, d8) ∈ (v8, d8) :: [(v7, PyData.list [.str "signs", .str "empty", .str "then", .str "or", .str "again", .str "more", .str "maybe", .str "none"]), (V.ref p, PyData.tuple ds)] := List.mem_cons_self
      have mem2 : (V.ref p, PyData.tuple ds) ∈ (v8, d8) :: [(v7, PyData.list [.str "signs", .str "empty", .str "then", .str "or", .str "again", .str "more", .str "maybe", .str "none"]), (V.ref p, PyData.tuple ds)] := List.mem_cons_of_mem _ mem1
      have mem7 : (v7, PyData.list [.str "signs", .str "empty", .str "then", .str "or", .str "again", .str "more", .str "maybe", .str "none"]) ∈ (v8, d8) :: [(v7, PyData.list [.str "signs", .str "empty", .str "then", .str "or", .str "again", .str "more", .str "maybe", .str "none"]), (V.ref p, PyData.tuple ds)] := List.mem_cons_of_mem _ List.mem_cons_self
      have T5 : ∀ x : Str, WordOk x → Good (3 * W + 300) (D' + 1 + 2) (N + 1) (.tuple ([.str x] ++ ds.drop 1)) := fun x hx => by
        have g1 : Good 5 D' (N + 1) (.str x) := ⟨hx.fine.mono (Nat.le_refl _) (Nat.zero_le _), rfl⟩
        refine (((GoodL.one g1).app ((gl.drop 1).mono (Nat.le_refl _) (Nat.le_refl _) (Nat.le_succ N))).tup ?_).mono (by omega) (by omega) (by omega)
        rw [List.length_append, List.length_drop]
        show 1 + _ ≤ _
        omega
      have T6 : Good (3 * W + 300) (D' + 1 + 2) (N + 1) (.tuple (ds ++ [.tuple [.str "empty"]])) := by
        have g1 : Good 20 2 3 (.tuple [.str "empty"]) := good_of (by decide +kernel) (by decide +kernel) (by decide +kernel) (by decide +kernel)
        have g2 : Good 20 (D' + 2) (N + 1) (.tuple [.str "empty"]) := g1.mono (by omega) (by omega) (by omega)
        refine (((gl.mono (Nat.le_refl _) (by omega) (Nat.le_succ N)).app (GoodL.one g2)).tup ?_).mono (by omega) (by omega) (by omega)
        rw [List.length_append]
        show _ + 1 ≤ _
        omega
      have T7 : Good (3 * W + 300) (D' + 1 + 2) (N + 1) (.tuple (ds.take 1)) := ((gl.take 1).tup (by rw [List.length_take]; omega)).mono (by omega) (by omega) (by omega)
      refine made_set (made_cat (n := 4) (m := 3) (made_some rfl mem8 p8) (made_lstA (Pd := Good (3 * W + 300) (D' + 1 + 2) (N + 1)) (n := 3)
        (madeL_a (c' := c + 1 + 1 + 1) (made_catT (c' := c + 1 + 1 + 1) (Ps := fun es => ∃ x, WordOk x ∧ es = [.str x]) (Qs := (· = ds.drop 1)) (made_tup (Ps := fun es => ∃ x, WordOk x ∧ es = [.str x]) (madeL_cons (c' := c + 1 + 1 + 1) (Pd := fun d => ∃ x, WordOk x ∧ d = .str x) ?_ madeL_nil fun d es ⟨x, hx, e1⟩ e2 => ⟨x, hx, by rw [e1, e2]⟩) ?_ fun es g => ⟨es, rfl, g⟩)
          ((made_sl (made_var rfl mem2) madeO_int madeO_none).imp fun d e => ⟨_, e, cut_from (k := 1)⟩) ?_ fun es fs ⟨x, hx, e1⟩ e2 => by rw [e1, e2]; exact T5 x hx)
        (madeL_a (made_catT (Ps := (· = ds)) (Qs := (· = [.tuple [.str "empty"]])) ((made_var rfl mem2).imp fun d e => ⟨_, e, rfl⟩) ((made_tupE (madeL_e (m1 _) madeL_nil) (by show 1 ≤ 100; omega)).imp fun d e => ⟨_, e, rfl⟩) ?_ fun es fs e1 e2 => by rw [e1, e2]; exact T6)
        (madeL_a ((made_sl (made_var rfl mem2) madeO_none madeO_int).imp fun d e => ?_) madeL_0))) (by omega)) (by omega)) j5 k5 fun v9 d9 H5 of6 j6 dq6 p9 => ?_
      · intro H6 Q6 j6 k6 q6
        have dq7 := k6 _ mem7
        refine ⟨_, rfl, _, rfl, a, 8, c + 1 + 1, rfl, j6, by decide, by decide, by omega, fun r3 H7 r30 r31 of7 j7 => ?_⟩
        have dq8 := dq7.mono (wo_off of7)
        dsimp only at dq8
        cases dq8 with
        | @lst p7 xs7 _ ep7 hl7 =>
          have l7 : xs7.length = 8 := hl7.len
          obtain ⟨di, hdi, dqi⟩ := hl7.get (List.getElem?_eq_getElem (l := xs7) (i := r3.toNat) (by omega))
          refine ⟨p7, xs7, r3, _, rfl, rfl, SqL.of (wo_le _ _ _ _ ep7), atI_at r30 (by omega), q6 _ di _ of7 j7 dqi ?_⟩
          have hm := List.mem_of_getElem? hdi
          simp only [List.mem_cons, List.not_mem_nil, or_false] at hm
          rcases hm with e | e | e | e | e | e | e | e <;> exact ⟨_, ⟨by decide +kernel, by decide +kernel⟩, e⟩
      · rintro es ⟨x, hx, rfl⟩
        show 1 ≤ sizeLine
        decide
      · rintro es fs ⟨x, hx, e1⟩ e2
        rw [e1, e2, sizeLine_eq, List.length_drop]
        show 1 + _ ≤ _
        omega
      · intro es fs e1 e2
        rw [e1, e2, sizeLine_eq]
        show _ + 1 ≤ _
        omega
      · rw [e]
        have e2 : cutL ds none (some 1) = ds.take 1 := cut_to (k := 1)
        rw [e2]
        exact T7
      -- and an odd one
      have k6 : Knows a H5 [(v9, d9)] := Knows.cons (fun _ h => nomatch h) dq6
      refine made_cat (n := 7) (m := 1) (c' := c + 1 + 1 + 1) (c'' := c + 1 + 1 + 1 + 1) (G := [(v9, d9)]) (made_some rfl List.mem_cons_self p9) (made_lstA (Pd := Good (3 * W + 300) (D' + 1 + 2) (N + 1)) (n := 1) (madeL_a (c' := c + 1 + 1 + 1 + 1) ?_ madeL_0) (by omega)) (by omega) H5 _ j6 k6 fun v10 d10 H6 of7 j7 dq7 p10 => ?_
      · intro H7 Q7 j7 _ q7
        exact ⟨_, rfl, a, _, rfl, j7, by omega, fun v' d' H' o' j' dq' g' => q7 v' d' H' o' j' dq' (g'.mono (by omega) (by omega) (by omega))⟩
      obtain ⟨es, rfl, p10⟩ := p10
      cases dq7 with
      | @lst p7 xs7 _ ep7 hl7 =>
        have l7 : xs7.length = 8 := by rw [hl7.len]; exact p10.1
        obtain ⟨di, hdi, dqi⟩ := hl7.get (List.getElem?_eq_getElem (l := xs7) (i := r.toNat) (by omega))
        refine ⟨_, rfl, p7, xs7, r, _, rfl, rfl, SqL.of (wo_le _ _ _ _ ep7), atI_at r0 (by omega), ?_⟩
        exact q _ di _ (of1.trans (of2.trans (of3.trans (of4.trans (of5.trans (of6.trans of7)))))) (j7.mono (by omega)) dqi (p10.2 di (List.mem_of_getElem? hdi))
theorem ok_put (T : Tx K w mg) : ∀ n : Nat, FnOk P w K mg base CX0 (n + 3) T.aPut T.fPut ["jar", "item", "deep"] (spPut n)
  | 0 => put_step T 0 no_fn
  | n + 1 => put_step T (n + 1) (ok_put T n)
end
end K00
set_option maxRecDepth 100000
set_option maxHeartbeats 1000000
namespace K00
open PySem PySem.Spec PyProof.Rows L2 Yard
section
variable {P : Program} {w : World} {K : PySem.W.Frag} {mg : Str → Option Value} {base : Heap}
/-- promises that differ in a number, as one -/
theorem fn_any {CX : CXT} {sp : Nat → Sp} {m N k : Nat} {f : Addr} {fd : FuncData} {ps : List Str} (F : ∀ n, FnOk P w K mg base CX (n + k) f fd ps (sp n)) (h : N + k ≤ m) :
    FnOk P w K mg base CX m f fd ps (fun vs H Q E => ∃ n, n ≤ N ∧ sp n vs H Q E) :=
  ⟨fun vs H Q E ⟨n, _, z⟩ => (F n).len vs H Q E z, fun A fr s H ar us vs Q E hr e0 hb r ⟨n, hn, z⟩ => (F n).run A fr s H ar us vs Q E (hr.mono (by omega)) e0 hb r z⟩
/-- a statement by a word on what it leaves -/
theorem seq_cut {t u : TS} {D : Ends} {σ : L2.St} {H : Hp} (R : L2.St → Hp → Prop) (h1 : ∀ σ' H', R σ' H' → u D σ' H') (h2 : ∀ N : L2.St → Hp → Prop, (∀ σ' H', R σ' H' → N σ' H') → t { D with nx := N } σ H) : tSeq t u D σ H := h2 (u D) h1
theorem made_ix_asg {a : Addr} {c c' : Nat} {σ : L2.St} {G : List (V × PyData)} {t te : TE} {g : TG} {D : Ends} {H : Hp} {Pd : PyData → Prop} (h : Made a c c' σ G t Pd) (j : JarAt H a c) (k : Knows a H G)
    (q : ∀ v d H', Off a H H' → JarAt H' a c' → Dq (wo a H') v d → Pd d → te σ H' fun y H2 => rIxL K v y H2 fun x H1 => g x σ H1 D.nx) : tAsg (tOp (rIxL K) t te) g D σ H := h H _ j k q
theorem good_str {x : Str} {D N : Nat} (h : WordOk x) : Good 5 D N (.str x) := ⟨h.fine.mono (Nat.le_refl _) (Nat.zero_le _), rfl⟩
theorem good_e {D N : Nat} (h : 1 ≤ D) (h3 : 1 ≤ N) : Good 6 D N (.tuple [.str "empty"]) := by
  obtain ⟨D, rfl⟩ : ∃ D', D = D' + 1 := ⟨D - 1, by omega⟩
  exact ((GoodL.one (good_str (N := N) ⟨by decide +kernel, by decide +kernel⟩)).tup (by show 1 ≤ N; omega)).mono (by omega) (by omega) (Nat.le_refl _)
theorem lap1 {W D : Nat} {d : PyData} (g : Good W D 3 d) (h : 1 ≤ D) : Good (W + 14) (D + 1) 3 (.tuple [.str "again", d]) :=
  (((GoodL.one (good_str (x := "again") ⟨by decide +kernel, by decide +kernel⟩)).app (GoodL.one g)).tup (by show 2 ≤ 3; omega)).mono (by omega) (by omega) (Nat.le_refl _)
theorem lap2 {W D : Nat} {d : PyData} (g : Good W D 3 d) (h : 1 ≤ D) : Good (W + 14) (D + 1) 3 (.tuple [.str "then", .tuple [.str "empty"], d]) :=
  ((((GoodL.one (good_str (x := "then") ⟨by decide +kernel, by decide +kernel⟩)).app (GoodL.one (good_e h (by omega)))).app (GoodL.one g)).tup (by show 3 ≤ 3; omega)).mono (by omega) (by omega) (Nat.le_refl _)
theorem lap3 {W D : Nat} {d : PyData} (g : Good W D 3 d) (h : 1 ≤ D) : Good (W + 14) (D + 1) 3 (.tuple [.str "or", d, .tuple [.str "empty"]]) :=
  ((((GoodL.one (good_str (x := "or") ⟨by decide +kernel, by decide +kernel⟩)).app (GoodL.one g)).app (GoodL.one (good_e h (by omega)))).tup (by show 3 ≤ 3; omega)).mono (by omega) (by omega) (Nat.le_refl _)
def putW : Nat → Nat
  | 0 => 2464
  | n + 1 => 3 * putW n + 300
theorem putW_le : ∀ n, n ≤ 2 → putW n ≤ 23376
  | 0, _ => by decide
  | 1, _ => by decide
  | 2, _ => by decide
  | n + 3, h => by omega
theorem costM_le : ∀ n, n ≤ 7 → costM n ≤ 895
  | 0, _ => by decide
  | 1, _ => by decide
  | 2, _ => by decide
  | 3, _ => by decide
  | 4, _ => by decide
  | 5, _ => by decide
  | 6, _ => by decide
  | 7, _ => by decide
  | n + 8, h => by omega
theorem wtM_le : ∀ n, n ≤ 7 → wtM n ≤ 2296
  | 0, _ => by decide
  | 1, _ => by decide
  | 2, _ => by decide
  | 3, _ => by decide
  | 4, _ => by decide
  | 5, _ => by decide
  | 6, _ => by decide
  | 7, _ => by decide
  | n + 8, h => by omega
def spLaw (K : PySem.W.Frag) : Sp := fun vs H Q _ => ∃ (a : Addr) (ns : List Int), vs = [.ref a] ∧ SqL K H a (ns.map V.int) ∧ ns.length ≤ 63 ∧ ∀ H', Q (.bl true) H'
theorem scLaw : FnScope ["script", "k", "jar", "mould", "lap", "before", "item"] ["script"] (defScope sLaw) := ⟨rfl, rfl, rfl, by decide +kernel, rfl, by decide +kernel, by decide +kernel⟩
theorem ok_law {F : FuncData} {f : Addr} (L : Fun K "law" "law" sLaw f F) (T : Tx K w mg) {pt : Nat → PyData → Bool} (PA_ : PatEq (sgA sgL) pt) (PB_ : PatEq (sgB allL) pt) (hs : ∃ m, base.Ns sysModules m) :
    FnG P w K mg base CX0 16 f F ["script"] (spLaw K) := by
  have Gm := fn_any (P := P) (base := base) (N := 7) (m := 15) (ok_mould T) (by omega)
  have Gp := fn_any (P := P) (base := base) (N := 5) (m := 15) (ok_put T) (by omega)
  have Gi := ok_isP (P := P) (base := base) T PA_
  have Gm2 := ok_isM (P := P) (base := base) T PB_ 12
  refine Yard.Fun.okG L scLaw (fun vs H Q E h => ?_) (fun cdv A outer s H vs Q E hg hr h => ?_)
  · obtain ⟨a, ns, rfl, _⟩ := h
    rfl
  · obtain ⟨sa, ns, rfl, hS, hlen, q⟩ := h
    have hu80 := Nat.lt_of_le_of_lt (Nat.add_le_add_left (show 80 ≤ 16 * 15 + 200 by decide) _) (by have := hr.un; rw [Nat.add_assoc] at this; exact this)
    have hr1 : Room 1 _ := hr.mono (by omega)
    have hr2 : Room 2 _ := hr.mono (by omega)
    have hr14 : Room 14 _ := hr.mono (by omega)
    refine ⟨_, (pss_cons (ps_for PassesOwn.never rfl (pi_range1 rfl T.bRange (pa_cons (pe_callB (call_max2 rfl) (by rfl) T.bMax (by decide +kernel) (pa_cons pe_int (pa_cons (pe_callB (call_min2 rfl) (by rfl) T.bMin (by decide +kernel) (pa_cons pe_int (pa_cons (pe_callB call_len_seq (by rfl) T.len PySem.boot_len (pa_cons (pv 0) pa_nil)) pa_nil))) pa_nil))) pa_nil)) (pg_name (i := 1) scLaw.nd rfl (.inl rfl))
        (pss_cons (ps_set (i := 2) scLaw.nd rfl (.inl rfl) (pe_call (ok_jar T) hr1 (by rfl) T.jar.at_ T.jar.kp T.jar.bd .nil pass0 (pa_cons (pv 0) (pa_cons (pv 1) pa_nil))))
        (pss_cons (ps_set (i := 3) scLaw.nd rfl (.inl rfl) (pe_call Gm hr (by rfl) T.mould.at_ T.mould.kp T.mould.bd .nil pass0 (pa_cons (pv 2) (pa_cons (pe_ix ix_list (pe_lst (pa_cons pe_str (pa_cons pe_str (pa_cons (pe_call0 (ok_all T) hr1 (by rfl) T.all.at_ T.all.kp T.all.bd .nil pass0) pa_nil)))) (pe_call (ok_dip T) hr1 (by rfl) T.dip.at_ T.dip.kp T.dip.bd .nil pass0 (pa_cons (pv 2) (pa_cons pe_int pa_nil))) (fun _ _ => rfl)) (pa_cons (pe_op op_add pe_int (pe_call (ok_dip T) hr1 (by rfl) T.dip.at_ T.dip.kp T.dip.bd .nil pass0 (pa_cons (pv 2) (pa_cons pe_int pa_nil)))) pa_nil)))))
        (pss_cons (ps_if (pt_cmpR op_eq (pe_call (ok_dip T) hr1 (by rfl) T.dip.at_ T.dip.kp T.dip.bd .nil pass0 (pa_cons (pv 2) (pa_cons pe_int pa_nil))) pe_int (nomark _))
          (pss_one (ps_for PassesOwn.never rfl (pi_range1 rfl T.bRange (pa_cons (pe_op op_add pe_int (pe_call (ok_dip T) hr1 (by rfl) T.dip.at_ T.dip.kp T.dip.bd .nil pass0 (pa_cons (pv 2) (pa_cons pe_int pa_nil)))) pa_nil)) (pg_name (i := 4) scLaw.nd rfl (.inl rfl))
            (pss_one (ps_set (i := 3) scLaw.nd rfl (.inl rfl) (pe_ix ix_list (pe_lst (pa_cons (pe_tup (pa_cons pe_str (pa_cons (pv 3) pa_nil))) (pa_cons (pe_tup (pa_cons pe_str (pa_cons (pe_tup (pa_cons pe_str pa_nil)) (pa_cons (pv 3) pa_nil)))) (pa_cons (pe_tup (pa_cons pe_str (pa_cons (pv 3) (pa_cons (pe_tup (pa_cons pe_str pa_nil)) pa_nil)))) pa_nil)))) (pe_call (ok_dip T) hr1 (by rfl) T.dip.at_ T.dip.kp T.dip.bd .nil pass0 (pa_cons (pv 2) (pa_cons pe_int pa_nil))) (fun _ _ => rfl))))))
          pss_nil)
        (pss_cons (ps_for PassesOwn.never rfl (pi_range1 rfl T.bRange (pa_cons (pe_ix ix_list (pe_lst (pa_cons pe_int (pa_cons pe_int (pa_cons pe_int pa_nil)))) (pe_call (ok_dip T) hr1 (by rfl) T.dip.at_ T.dip.kp T.dip.bd .nil pass0 (pa_cons (pv 2) (pa_cons pe_int pa_nil))) (fun _ _ => rfl)) pa_nil)) (pg_name (i := 4) scLaw.nd rfl (.inl rfl))
          (pss_one (ps_set (i := 3) scLaw.nd rfl (.inl rfl) (pe_call Gp hr (by rfl) T.put.at_ T.put.kp T.put.bd .nil pass0 (pa_cons (pv 2) (pa_cons (pv 3) (pa_cons (pe_call (ok_dip T) hr1 (by rfl) T.dip.at_ T.dip.kp T.dip.bd .nil pass0 (pa_cons (pv 2) (pa_cons pe_int pa_nil))) pa_nil)))))))
        (pss_cons (ps_set (i := 5) scLaw.nd rfl (.inl rfl) (pe_callTy (call_strQ hg hs hu80) (by rfl) T.bStr (by decide +kernel) (pa_cons (pv 3) pa_nil)))
        (pss_cons (ps_for PassesOwn.never rfl (pi_list (pe_lst (pa_cons (pv 3) (pa_cons (pe_call (ok_odd T) hr2 (by rfl) T.odd.at_ T.odd.kp T.odd.bd .nil pass0 (pa_cons (pv 2) pa_nil)) pa_nil)))) (pg_name (i := 6) scLaw.nd rfl (.inl rfl))
          (pss_one (ps_if (pt_not (pt_val (pe_call (ok_same T) hr1 (by rfl) T.same.at_ T.same.kp T.same.bd .nil pass0 (pa_cons (pe_call Gi hr (by rfl) T.isP.at_ T.isP.kp T.isP.bd .nil pass0 (pa_cons (pv 6) pa_nil)) (pa_cons (pe_call Gm2 hr14 (by rfl) T.isM.at_ T.isM.kp T.isM.bd .nil pass0 (pa_cons (pv 6) (pa_cons pe_int pa_nil))) pa_nil)))))
            (pss_one (ps_ret pe_bl)) pss_nil)))
        (pss_one (ps_if (PW.pt (pw_or (pt_not (pt_val (pe_call (ok_same T) hr1 (by rfl) T.same.at_ T.same.kp T.same.bd .nil pass0 (pa_cons (pe_call Gi hr (by rfl) T.isP.at_ T.isP.kp T.isP.bd .nil pass0 (pa_cons (pv 3) pa_nil)) (pa_cons (pe_call Gm2 hr14 (by rfl) T.isM.at_ T.isM.kp T.isM.bd .nil pass0 (pa_cons (pv 3) (pa_cons pe_int pa_nil))) pa_nil))))) (pw_or1 (pt_cmpR op_ne (pe_callTy (call_strQ hg hs hu80) (by rfl) T.bStr (by decide +kernel) (pa_cons (pv 3) pa_nil)) (pv 5) (nomark _)))))
          (pss_one (ps_ret pe_bl)) pss_nil)))))))))
      (pss_one (ps_ret (pe_cmpR op_eq (pe_glob (v := .str sigS) rfl T.cSIGNS ⟨_, rfl⟩) (pe_call0 (ok_all T) hr1 (by rfl) T.all.at_ T.all.kp T.all.bd .nil pass0) (nomark _))))), ?_⟩
    -- for k in range(max(1, min(30, len(script))))
    refine ⟨_, rfl, sa, _, rfl, .inl hS, 30, _, rfl, 1, _, rfl, _, rfl, ?_, ?_, ?_⟩
    · rw [List.length_map]; split <;> split <;> omega
    · rw [List.length_map]; split <;> split <;> omega
    generalize hm : (if (if (((ns.map V.int).length : Nat) : Int) < 30 then (((ns.map V.int).length : Nat) : Int) else 30) > 1 then (if (((ns.map V.int).length : Nat) : Int) < 30 then (((ns.map V.int).length : Nat) : Int) else 30) else 1) = m
    have hm30 : m.toNat ≤ 30 := by
      rw [← hm, List.length_map]; split <;> split <;> omega
    refine for_it (walk_range (lo := 0) (n := m.toNat)) (fun _ σ H => (∃ x1 x2 x3 x4 x5 x6, σ = [some (.ref sa), x1, x2, x3, x4, x5, x6]) ∧ SqL K H sa (ns.map V.int)) ⟨⟨_, _, _, _, _, _, rfl⟩, hS⟩ (fun _ _ _ _ _ => trivial) ?_ ?_
    · rintro i y σ H0 H1 hi ⟨⟨x1, x2, x3, x4, x5, x6, rfl⟩, hS⟩ ⟨rfl, rfl⟩
      -- the jar
      refine ⟨_, rfl, _, rfl, sa, ns, i, ?_, hS, hlen, by omega, fun p H2 np s2 jp => ?_⟩
      · show [V.ref sa, V.int (0 + (i : Int))] = _
        rw [Int.zero_add]
      have pool2 : ∀ r : Int, 0 ≤ r → r < 3 → ∃ x, PoolOk x ∧ atI [V.str "ab", V.str "a1 ", V.str allS] r = some (.str x) := fun r h0 h1 => by
        obtain h | h | h : r = 0 ∨ r = 1 ∨ r = 2 := by omega
        · subst h; exact ⟨"ab", ⟨by decide +kernel, by decide +kernel, by decide +kernel⟩, rfl⟩
        · subst h; exact ⟨"a1 ", ⟨by decide +kernel, by decide +kernel, by decide +kernel⟩, rfl⟩
        · subst h; exact ⟨allS, pool_all, rfl⟩
      have of2 : ∀ {H' : Hp}, Off p H2 H' → Same H1 H' := fun {H'} o b u e => o b u (ne_of_none e np) (s2 b u e)
      refine ⟨_, rfl, rfl, by show 3 ≤ sizeLine; decide, fun pl npl => ?_⟩
      have j3 := jp.upd (o := .lst [.str "ab", .str "a1 ", .str allS]) (jp.ne npl)
      have o3 : Off p H2 (upd H2 pl (.lst [.str "ab", .str "a1 ", .str allS])) := Off.new npl
      have e3 : (upd H2 pl (.lst [.str "ab", .str "a1 ", .str allS])) pl = some (.lst [.str "ab", .str "a1 ", .str allS]) := upd_same
      refine ⟨_, rfl, p, 3, 0, rfl, j3, by decide, by decide, by decide, fun r1 H3 r10 r11 o4 j4 => ?_⟩
      obtain ⟨x, hx, gx⟩ := pool2 r1 r10 r11
      have e4 := o4 _ _ (jp.ne npl) e3
      refine ⟨pl, _, r1, _, rfl, rfl, SqL.of e4, gx, ?_⟩
      refine ⟨_, rfl, p, 7, 1, rfl, j4, by decide, by decide, by decide, fun r2 H4 r20 r21 o5 j5 => ⟨_, _, rfl, rfl, ?_⟩⟩
      obtain ⟨n, hn⟩ : ∃ n : Nat, 1 + r2 = (n : Int) := ⟨(1 + r2).toNat, by omega⟩
      have n7 : n ≤ 7 := by omega
      have c7 := costM_le n n7
      have w7 := wtM_le n n7
      refine ⟨n, n7, p, 2, x, ?_, j5, by omega, hx, fun v d H5 o6 j6 dq fine ar => ?_⟩
      · show [V.ref p, V.str x, V.int (1 + r2)] = _
        rw [hn]
      have o7 := (o3.trans o4).trans (o5.trans o6)
      clear o3 o4 o5 o6 j3 j4 j5 e3 e4 npl gx
      have hd : Good 2296 8 3 d := ⟨fine.mono w7 (by omega), ar⟩
      have j7 : JarAt H5 p 900 := j6.mono (by omega)
      clear fine ar j6
      -- some laps around it
      dsimp only [gName, List.set]
      refine seq_cut (fun σ' H' => ∃ y4 v' d', σ' = [some (.ref sa), some (.int (0 + (i : Int))), some (.ref p), some v', y4, x5, x6] ∧ Off p H2 H' ∧ JarAt H' p 1000 ∧ Dq (wo p H') v' d' ∧ Good 2464 20 3 d') ?_ ?_
      · rintro σ2 H6 ⟨y4, v2, d2, rfl, o8, j8, dq8, g8⟩
        clear j7 dq hd o7 jp
        refine seq_cut (fun σ' H' => ∃ y4 v' d', σ' = [some (.ref sa), some (.int (0 + (i : Int))), some (.ref p), some v', y4, x5, x6] ∧ Off p H2 H' ∧ JarAt H' p 1100 ∧ Dq (wo p H') v' d' ∧ Good 23376 24 5 d') ?_ ?_
        · clear j8 dq8 g8 o8
          rintro σ2 H6 ⟨y4, v2, d2, rfl, o8, j8, dq8, g8⟩
          have dqF : Dq H6 v2 d2 := dq8.mono (wo_le p H6)
          have sh := g8.fine.shows (by decide)
          have dp : d2.depth ≤ 64 := Nat.le_trans g8.fine.dp (by decide)
          refine ⟨_, rfl, v2, d2, rfl, dqF, sh.1, dp, sh.2, ?_⟩
          dsimp only [gName, List.set]
          refine ⟨_, rfl, _, rfl, p, 1100, rfl, j8, by decide, fun v3 d3 H7 o9 j9 dq9 g9 => ⟨by show 2 ≤ sizeLine; decide, fun pl npl => ⟨pl, rfl, ⟨_, SqL.of upd_same⟩, ?_⟩⟩⟩
          have g9' : Good 23376 24 5 d3 := g9.mono (by omega) (by omega) (by omega)
          have dqA : Dq (upd H7 pl (.lst [v2, v3])) v2 d2 := (dq8.mono (wo_off (o9.trans (Off.new npl)))).mono (wo_le p _)
          have dqB : Dq (upd H7 pl (.lst [v2, v3])) v3 d3 := (dq9.mono (wo_off (Off.new npl))).mono (wo_le p _)
          have oL : Off p H2 (upd H7 pl (.lst [v2, v3])) := o8.trans (o9.trans (Off.new npl))
          have eL : (upd H7 pl (.lst [v2, v3])) pl = some (.lst [v2, v3]) := upd_same
          generalize (upd H7 pl (HO.lst [v2, v3])) = HL at dqA dqB oL eL ⊢
          refine for_it (walk_list (K := K) (a := pl) (xs := [v2, v3])) (fun t σ' H' => ∃ z6, σ' = [some (.ref sa), some (.int (0 + (i : Int))), some (.ref p), some v2, y4, some (.str (strText d2)), z6] ∧ Same HL H') ⟨_, rfl, fun _ _ z => z⟩ (fun t σ' H' _ ⟨_, _, sm⟩ => SqL.of (sm _ _ eL)) ?_ ?_
          · rintro t y σ3 H8 H9 ht ⟨z6, rfl, s8⟩ ⟨rfl, hy⟩
            obtain ⟨dy, gy, dqy⟩ : ∃ dy, Good 23376 24 5 dy ∧ Dq HL y dy := by
              match t, hy with
              | 0, hy => cases hy; exact ⟨d2, g8, dqA⟩
              | 1, hy => cases hy; exact ⟨d3, g9', dqB⟩
              | t + 2, hy => cases hy
            dsimp only [gName, List.set]
            refine ⟨_, rfl, y, dy, 23376, 24, rfl, dqy.mono s8, gy.fine, by decide, fun H10 s10 => ?_⟩
            refine ⟨_, rfl, y, dy, 23376, 24, rfl, (dqy.mono s8).mono s10, gy.fine, by decide, arOk_mono (by omega) _ gy.ar, fun H11 s11 => ?_⟩
            refine ⟨_, _, rfl, _, rfl, ?_⟩
            rw [beq_self_eq_true]
            refine iteF ?_
            exact ⟨_, rfl, fun b o z => s11 b o (s10 b o (s8 b o z))⟩
          · rintro σ3 H8 ⟨z6, rfl, s8⟩
            have dq10 := dqA.mono s8
            refine ⟨_, rfl, v2, d2, 23376, 24, rfl, dq10, g8.fine, by decide, fun H10 s10 => ?_⟩
            refine ⟨_, rfl, v2, d2, 23376, 24, rfl, dq10.mono s10, g8.fine, by decide, arOk_mono (by omega) _ g8.ar, fun H11 s11 => ?_⟩
            refine ⟨_, _, rfl, _, rfl, ?_⟩
            rw [beq_self_eq_true]
            refine iteF ?_
            refine ⟨_, rfl, v2, d2, rfl, (dq10.mono s10).mono s11, sh.1, dp, sh.2, _, rfl, rfl, _, rfl, ?_⟩
            rw [decide_eq_true rfl]
            refine iteF ?_
            refine ⟨⟨_, _, _, _, _, _, rfl⟩, ?_⟩
            have sm : Same H1 H11 := fun b o z => s11 b o (s10 b o (s8 b o (of2 oL b o z)))
            exact sm.seq hS
        · intro N hN
          refine ⟨by show 3 ≤ sizeLine; decide, fun pl npl => ?_⟩
          have j9 := j8.upd (o := .lst [.int 0, .int 1, .int 2]) (j8.ne npl)
          have o9 : Off p H6 (upd H6 pl (.lst [.int 0, .int 1, .int 2])) := Off.new npl
          have e9 : (upd H6 pl (.lst [.int 0, .int 1, .int 2])) pl = some (.lst [.int 0, .int 1, .int 2]) := upd_same
          refine ⟨_, rfl, p, 3, 1000, rfl, j9, by decide, by decide, by decide, fun r1 H7 r10 r11 o10 j10 => ?_⟩
          have e10 := o10 _ _ (j8.ne npl) e9
          have gx : atI [V.int 0, V.int 1, V.int 2] r1 = some (.int r1) := by
            obtain h | h | h : r1 = 0 ∨ r1 = 1 ∨ r1 = 2 := by omega
            · subst h; rfl
            · subst h; rfl
            · subst h; rfl
          have dq10 := dq8.mono (wo_off (o9.trans o10))
          have o11 := o8.trans (o9.trans o10)
          refine ⟨pl, _, r1, _, rfl, rfl, SqL.of e10, gx, r1, rfl, by omega, by omega, ?_⟩
          refine for_it (walk_range (lo := 0) (n := r1.toNat)) (fun t σ' H' => ∃ y4 v' d', σ' = [some (.ref sa), some (.int (0 + (i : Int))), some (.ref p), some v', y4, x5, x6] ∧ Off p H2 H' ∧ JarAt H' p (1001 + 20 * t) ∧ Dq (wo p H') v' d' ∧ Good (putW t) (20 + 2 * t) (3 + t) d') ⟨_, _, _, rfl, o11, j10, dq10, g8⟩ (fun _ _ _ _ _ => trivial) ?_ ?_
          · rintro t y σ3 H8 H9 ht ⟨y4, v3, d3, rfl, o12, j12, dq12, g12⟩ ⟨rfl, rfl⟩
            have t2 : t ≤ 2 := by omega
            have wt := putW_le t t2
            dsimp only [gName, List.set]
            refine ⟨_, rfl, _, rfl, _, rfl, p, 6, 1001 + 20 * t, rfl, j12, by decide, by decide, by omega, fun r2 H10 r20 r21 o13 j13 => ?_⟩
            obtain ⟨n, rfl⟩ : ∃ n : Nat, r2 = (n : Int) := ⟨r2.toNat, by omega⟩
            refine ⟨n, by omega, p, 1001 + 20 * t + 1, v3, d3, putW t, 20 + 2 * t, 3 + t, rfl, j13, by omega, dq12.mono (wo_off o13), g12, by omega, by omega, by omega, fun v4 d4 H11 o14 j14 dq14 g14 => ?_⟩
            exact ⟨_, _, _, rfl, o12.trans (o13.trans o14), j14.mono (by omega), dq14, g14.mono (Nat.le_refl _) (by omega) (by omega)⟩
          · rintro σ3 H8 ⟨y4, v3, d3, rfl, o12, j12, dq12, g12⟩
            have wt := putW_le r1.toNat (by omega)
            exact hN _ _ ⟨_, _, _, rfl, o12, j12.mono (by omega), dq12, g12.mono wt (by omega) (by omega)⟩
      · intro N hN
        refine ⟨_, rfl, p, 5, 900, rfl, j7, by decide, by decide, by decide, fun r3 H6 r30 r31 o8 j8 => ⟨rfl, _, rfl, ite2 (fun e => ?_) (fun e => ?_)⟩⟩
        · refine ⟨_, rfl, p, 5, 901, rfl, j8, by decide, by decide, by decide, fun r4 H7 r40 r41 o9 j9 => ⟨_, _, rfl, rfl, 8 + r4, rfl, by omega, by omega, ?_⟩⟩
          have dq9 := dq.mono (wo_off (o8.trans o9))
          have o10 := (o7.trans o8).trans o9
          refine for_it (walk_range (lo := 0) (n := (8 + r4).toNat)) (fun t σ' H' => ∃ y4 v' d', σ' = [some (.ref sa), some (.int (0 + (i : Int))), some (.ref p), some v', y4, x5, x6] ∧ Off p H2 H' ∧ JarAt H' p (902 + t) ∧ Dq (wo p H') v' d' ∧ Good (2296 + 14 * t) (8 + t) 3 d') ⟨_, _, _, rfl, o10, j9, dq9, hd⟩ (fun _ _ _ _ _ => trivial) ?_ ?_
          · rintro t y σ3 H8 H9 ht ⟨y4, v3, d3, rfl, o11, j11, dq11, g11⟩ ⟨rfl, rfl⟩
            have t12 : t < 12 := by omega
            have k11 : Knows p H9 [(v3, d3)] := Knows.cons (fun _ h => nomatch h) dq11
            have A1 : Good (2296 + 14 * t + 14) (8 + t + 1) 3 (.tuple [.str "again", d3]) := lap1 g11 (by omega)
            have A2 : Good (2296 + 14 * t + 14) (8 + t + 1) 3 (.tuple [.str "then", .tuple [.str "empty"], d3]) := lap2 g11 (by omega)
            have A3 : Good (2296 + 14 * t + 14) (8 + t + 1) 3 (.tuple [.str "or", d3, .tuple [.str "empty"]]) := lap3 g11 (by omega)
            dsimp only [gName, List.set]
            refine made_ix_asg (made_lstA (Pd := Good (2296 + 14 * t + 14) (8 + t + 1) 3) (n := 3)
              (madeL_a ((made_tupE (madeL_e (made_str _) (madeL_e (made_var rfl List.mem_cons_self) madeL_nil)) (by show 2 ≤ 100; omega)).imp fun d e => by rw [e]; exact A1)
              (madeL_a ((made_tupE (madeL_e (made_str _) (madeL_e (m1 _) (madeL_e (made_var rfl List.mem_cons_self) madeL_nil))) (by show 3 ≤ 100; omega)).imp fun d e => by rw [e]; exact A2)
              (madeL_a ((made_tupE (madeL_e (made_str _) (madeL_e (made_var rfl List.mem_cons_self) (madeL_e (m1 _) madeL_nil))) (by show 3 ≤ 100; omega)).imp fun d e => by rw [e]; exact A3) madeL_0))) (by omega)) j11 k11 fun v4 d4 H10 o12 j12 dq12 p12 => ?_
            obtain ⟨es, rfl, p12⟩ := p12
            refine ⟨_, rfl, p, 3, 902 + t, rfl, j12, by decide, by decide, by omega, fun r5 H11 r50 r51 o13 j13 => ?_⟩
            have dq13 := dq12.mono (wo_off o13)
            cases dq13 with
            | @lst p7 xs7 _ ep7 hl7 =>
              have l7 : xs7.length = 3 := by rw [hl7.len]; exact p12.1
              obtain ⟨di, hdi, dqi⟩ := hl7.get (List.getElem?_eq_getElem (l := xs7) (i := r5.toNat) (by omega))
              refine ⟨p7, xs7, r5, _, rfl, rfl, SqL.of (wo_le _ _ _ _ ep7), atI_at r50 (by omega), ?_⟩
              exact ⟨_, _, _, rfl, o11.trans (o12.trans o13), j13.mono (by omega), dqi, (p12.2 di (List.mem_of_getElem? hdi)).mono (by omega) (by omega) (Nat.le_refl _)⟩
          · rintro σ3 H8 ⟨y4, v3, d3, rfl, o11, j11, dq11, g11⟩
            exact hN _ _ ⟨_, _, _, rfl, o11, j11.mono (by omega), dq11, g11.mono (by omega) (by omega) (Nat.le_refl _)⟩
        · exact hN _ _ ⟨_, _, _, rfl, o7.trans o8, j8.mono (by omega), dq.mono (wo_off o8), hd.mono (by omega) (by omega) (by omega)⟩
    · rintro σ2 H6 ⟨⟨x1, x2, x3, x4, x5, x6, rfl⟩, hS⟩
      refine ⟨rfl, rfl, ?_⟩
      have e : decide (V.str sigS = V.str allS) = true := decide_eq_true (congrArg V.str (by decide +kernel))
      rw [e]
      exact q _
end
end K00
set_option maxRecDepth 100000
set_option maxHeartbeats 1000000
namespace K00
open PySem PySem.Spec PyProof.Rows L2 Yard
theorem pat_both : PatEq (sgB allL) (pat (sgA sgL)) := by
  have e1 : sgL = allL := by decide +kernel
  have e2 : sgA sgL = sgB allL := by
    rw [e1]
    exact sg_eq (by decide +kernel)
  rw [← e2]
  exact pat_eq _
theorem in_parts {K : PySem.W.Frag} {a : Addr} {es : Array DictEntry} {n : Nat} {h1 h2 h3 h4 h5 h6 : Int} {k1 k2 k3 k4 k5 k6 v1 v2 v3 v4 v5 v6 : Tok} (l : K.lookup a = some ⟨.type "dict", none, .dict es n, #[]⟩)
    (e : es.toList = [⟨h1, .str "empty" k1, .int 0 v1⟩, ⟨h2, .str "then" k2, .int 2 v2⟩, ⟨h3, .str "or" k3, .int 2 v3⟩, ⟨h4, .str "again" k4, .int 1 v4⟩, ⟨h5, .str "more" k5, .int 1 v5⟩, ⟨h6, .str "maybe" k6, .int 1 v6⟩]) (z : Str) :
    (parts z = none ∧ PySem.W.nsIn K a z = some none) ∨ ∃ (k : Nat) (t : Tok), parts z = some k ∧ PySem.W.nsIn K a z = some (some (.int k t)) := by
  unfold PySem.W.nsIn
  rw [l]
  dsimp only
  rw [e]
  have no : ∀ {x y : Str}, y ≠ x → (x == y) = false := fun h => beq_eq_false_iff_ne.mpr (Ne.symm h)
  unfold parts
  by_cases q1 : z = "empty"
  · subst q1; exact .inr ⟨0, v1, rfl, rfl⟩
  by_cases q2 : z = "then"
  · subst q2; exact .inr ⟨2, v2, rfl, rfl⟩
  by_cases q3 : z = "or"
  · subst q3; exact .inr ⟨2, v3, rfl, rfl⟩
  by_cases q4 : z = "again"
  · subst q4; exact .inr ⟨1, v4, rfl, rfl⟩
  by_cases q5 : z = "more"
  · subst q5; exact .inr ⟨1, v5, rfl, rfl⟩
  by_cases q6 : z = "maybe"
  · subst q6; exact .inr ⟨1, v6, rfl, rfl⟩
  refine .inl ⟨by rw [if_neg q1, if_neg q2, if_neg q3, if_neg q4, if_neg q5, if_neg q6], ?_⟩
  simp only [List.find?_cons, Value.isStr, no q1, no q2, no q3, no q4, no q5, no q6, List.find?_nil]
  rfl
/-- a def of the text, as the top has left it -/
theorem df_mk {K : PySem.W.Frag} {h : Heap} {mg : Str → Option Value} {x : Str} {st : Stmt} {ps : List Str} {f : Addr} {od an : Option Addr} {sl : Array (Option Value)} {oc kV dc pm cd ct : Value} (X : K.In h) (G : h.Ns mainGlobals mg)
    (a : PySem.W.nsIn K mainGlobals x = some (some (.ref f))) (l : K.lookup f = some ⟨oc, od, .func (PySem.W.fnOf x x (defArgs st) (defBody st) (defScope st) .none kV dc pm an cd ct), sl⟩) (c : PySem.W.codeIn K cd x = true) (k : PySem.W.keepIn K (.ref f) = true)
    (b : ∀ (kV doc pm : Value) (an : Option Addr) (cdv ct : Value) (us : List Value), us.length = ps.length → bindArgs (PySem.W.fnOf x x (defArgs st) (defBody st) (defScope st) .none kV doc pm an cdv ct) ⟨us, []⟩ = pure (ps.zip us)) :
    Df K mg x st ps f (PySem.W.fnOf x x (defArgs st) (defBody st) (defScope st) .none kV dc pm an cd ct) :=
  have F := fun_mk (st := st) l c k
  ⟨F, F.binds b, PySem.W.mg_of X G a⟩
theorem all_mk {l : PySem.W.OpenLaw} {w : World} {K : PySem.W.Frag} {h : Heap} {mg : Str → Option Value} {fa : Addr} (X : K.In h) (G : h.Ns mainGlobals mg) (hfa : mg "law" = some (.ref fa))
    {f0 : Addr} {od0 an0 : Option Addr} {sl0 : Array (Option Value)} {oc0 kV0 dc0 pm0 cd0 ct0 : Value}
    {f1 : Addr} {od1 an1 : Option Addr} {sl1 : Array (Option Value)} {oc1 kV1 dc1 pm1 cd1 ct1 : Value}
    {f2 : Addr} {od2 an2 : Option Addr} {sl2 : Array (Option Value)} {oc2 kV2 dc2 pm2 cd2 ct2 : Value}
    {f3 : Addr} {od3 an3 : Option Addr} {sl3 : Array (Option Value)} {oc3 kV3 dc3 pm3 cd3 ct3 : Value}
    {f4 : Addr} {od4 an4 : Option Addr} {sl4 : Array (Option Value)} {oc4 kV4 dc4 pm4 cd4 ct4 : Value}
    {f5 : Addr} {od5 an5 : Option Addr} {sl5 : Array (Option Value)} {oc5 kV5 dc5 pm5 cd5 ct5 : Value}
    {f6 : Addr} {od6 an6 : Option Addr} {sl6 : Array (Option Value)} {oc6 kV6 dc6 pm6 cd6 ct6 : Value}
    {f7 : Addr} {od7 an7 : Option Addr} {sl7 : Array (Option Value)} {oc7 kV7 dc7 pm7 cd7 ct7 : Value}
    {f8 : Addr} {od8 an8 : Option Addr} {sl8 : Array (Option Value)} {oc8 kV8 dc8 pm8 cd8 ct8 : Value}
    {f9 : Addr} {od9 an9 : Option Addr} {sl9 : Array (Option Value)} {oc9 kV9 dc9 pm9 cd9 ct9 : Value}
    {f10 : Addr} {od10 an10 : Option Addr} {sl10 : Array (Option Value)} {oc10 kV10 dc10 pm10 cd10 ct10 : Value}
    {f11 : Addr} {od11 an11 : Option Addr} {sl11 : Array (Option Value)} {oc11 kV11 dc11 pm11 cd11 ct11 : Value}
    {f12 : Addr} {od12 an12 : Option Addr} {sl12 : Array (Option Value)} {oc12 kV12 dc12 pm12 cd12 ct12 : Value}
    {tS tD : Tok} {aP : Addr} {es : Array DictEntry} {en : Nat} {h1 h2 h3 h4 h5 h6 : Int} {k1_ k2_ k3_ k4_ k5_ k6_ v1 v2 v3 v4 v5 v6 : Tok}
    (a0 : PySem.W.nsIn K mainGlobals "is_pattern" = some (some (.ref f0))) (l0 : K.lookup f0 = some ⟨oc0, od0, .func (PySem.W.fnOf "is_pattern" "is_pattern" (defArgs sIsP) (defBody sIsP) (defScope sIsP) .none kV0 dc0 pm0 an0 cd0 ct0), sl0⟩) (c0 : PySem.W.codeIn K cd0 "is_pattern" = true) (k0 : PySem.W.keepIn K (.ref f0) = true)
    (a1 : PySem.W.nsIn K mainGlobals "is_pattern_within" = some (some (.ref f1))) (l1 : K.lookup f1 = some ⟨oc1, od1, .func (PySem.W.fnOf "is_pattern_within" "is_pattern_within" (defArgs sWithin) (defBody sWithin) (defScope sWithin) .none kV1 dc1 pm1 an1 cd1 ct1), sl1⟩) (c1 : PySem.W.codeIn K cd1 "is_pattern_within" = true) (k1 : PySem.W.keepIn K (.ref f1) = true)
    (a2 : PySem.W.nsIn K mainGlobals "are_signs" = some (some (.ref f2))) (l2 : K.lookup f2 = some ⟨oc2, od2, .func (PySem.W.fnOf "are_signs" "are_signs" (defArgs sSigns) (defBody sSigns) (defScope sSigns) .none kV2 dc2 pm2 an2 cd2 ct2), sl2⟩) (c2 : PySem.W.codeIn K cd2 "are_signs" = true) (k2 : PySem.W.keepIn K (.ref f2) = true)
    (a3 : PySem.W.nsIn K mainGlobals "_law_jar" = some (some (.ref f3))) (l3 : K.lookup f3 = some ⟨oc3, od3, .func (PySem.W.fnOf "_law_jar" "_law_jar" (defArgs sJar) (defBody sJar) (defScope sJar) .none kV3 dc3 pm3 an3 cd3 ct3), sl3⟩) (c3 : PySem.W.codeIn K cd3 "_law_jar" = true) (k3 : PySem.W.keepIn K (.ref f3) = true)
    (a4 : PySem.W.nsIn K mainGlobals "_law_dip" = some (some (.ref f4))) (l4 : K.lookup f4 = some ⟨oc4, od4, .func (PySem.W.fnOf "_law_dip" "_law_dip" (defArgs sDip) (defBody sDip) (defScope sDip) .none kV4 dc4 pm4 an4 cd4 ct4), sl4⟩) (c4 : PySem.W.codeIn K cd4 "_law_dip" = true) (k4 : PySem.W.keepIn K (.ref f4) = true)
    (a5 : PySem.W.nsIn K mainGlobals "_law_all_signs" = some (some (.ref f5))) (l5 : K.lookup f5 = some ⟨oc5, od5, .func (PySem.W.fnOf "_law_all_signs" "_law_all_signs" (defArgs sAll) (defBody sAll) (defScope sAll) .none kV5 dc5 pm5 an5 cd5 ct5), sl5⟩) (c5 : PySem.W.codeIn K cd5 "_law_all_signs" = true) (k5 : PySem.W.keepIn K (.ref f5) = true)
    (a6 : PySem.W.nsIn K mainGlobals "_law_signs_of" = some (some (.ref f6))) (l6 : K.lookup f6 = some ⟨oc6, od6, .func (PySem.W.fnOf "_law_signs_of" "_law_signs_of" (defArgs sOf) (defBody sOf) (defScope sOf) .none kV6 dc6 pm6 an6 cd6 ct6), sl6⟩) (c6 : PySem.W.codeIn K cd6 "_law_signs_of" = true) (k6 : PySem.W.keepIn K (.ref f6) = true)
    (a7 : PySem.W.nsIn K mainGlobals "_law_mould" = some (some (.ref f7))) (l7 : K.lookup f7 = some ⟨oc7, od7, .func (PySem.W.fnOf "_law_mould" "_law_mould" (defArgs sMould) (defBody sMould) (defScope sMould) .none kV7 dc7 pm7 an7 cd7 ct7), sl7⟩) (c7 : PySem.W.codeIn K cd7 "_law_mould" = true) (k7 : PySem.W.keepIn K (.ref f7) = true)
    (a8 : PySem.W.nsIn K mainGlobals "_law_is_mould" = some (some (.ref f8))) (l8 : K.lookup f8 = some ⟨oc8, od8, .func (PySem.W.fnOf "_law_is_mould" "_law_is_mould" (defArgs sIsM) (defBody sIsM) (defScope sIsM) .none kV8 dc8 pm8 an8 cd8 ct8), sl8⟩) (c8 : PySem.W.codeIn K cd8 "_law_is_mould" = true) (k8 : PySem.W.keepIn K (.ref f8) = true)
    (a9 : PySem.W.nsIn K mainGlobals "_law_odd" = some (some (.ref f9))) (l9 : K.lookup f9 = some ⟨oc9, od9, .func (PySem.W.fnOf "_law_odd" "_law_odd" (defArgs sOdd) (defBody sOdd) (defScope sOdd) .none kV9 dc9 pm9 an9 cd9 ct9), sl9⟩) (c9 : PySem.W.codeIn K cd9 "_law_odd" = true) (k9 : PySem.W.keepIn K (.ref f9) = true)
    (a10 : PySem.W.nsIn K mainGlobals "_law_put_otherwise" = some (some (.ref f10))) (l10 : K.lookup f10 = some ⟨oc10, od10, .func (PySem.W.fnOf "_law_put_otherwise" "_law_put_otherwise" (defArgs sPut) (defBody sPut) (defScope sPut) .none kV10 dc10 pm10 an10 cd10 ct10), sl10⟩) (c10 : PySem.W.codeIn K cd10 "_law_put_otherwise" = true) (k10 : PySem.W.keepIn K (.ref f10) = true)
    (a11 : PySem.W.nsIn K mainGlobals "_law_same" = some (some (.ref f11))) (l11 : K.lookup f11 = some ⟨oc11, od11, .func (PySem.W.fnOf "_law_same" "_law_same" (defArgs sSame) (defBody sSame) (defScope sSame) .none kV11 dc11 pm11 an11 cd11 ct11), sl11⟩) (c11 : PySem.W.codeIn K cd11 "_law_same" = true) (k11 : PySem.W.keepIn K (.ref f11) = true)
    (a12 : PySem.W.nsIn K mainGlobals "law" = some (some (.ref f12))) (l12 : K.lookup f12 = some ⟨oc12, od12, .func (PySem.W.fnOf "law" "law" (defArgs sLaw) (defBody sLaw) (defScope sLaw) .none kV12 dc12 pm12 an12 cd12 ct12), sl12⟩) (c12 : PySem.W.codeIn K cd12 "law" = true) (k12 : PySem.W.keepIn K (.ref f12) = true)
    (z0 : PySem.W.nsIn K mainGlobals "len" = some none)
    (z1 : PySem.W.nsIn K mainGlobals "range" = some none)
    (z2 : PySem.W.nsIn K mainGlobals "max" = some none)
    (z3 : PySem.W.nsIn K mainGlobals "min" = some none)
    (z4 : PySem.W.nsIn K mainGlobals "int" = some none)
    (z5 : PySem.W.nsIn K mainGlobals "str" = some none)
    (z6 : PySem.W.nsIn K mainGlobals "tuple" = some none)
    (z7 : PySem.W.nsIn K mainGlobals "list" = some none)
    (z8 : PySem.W.nsIn K mainGlobals "bool" = some none)
    (z9 : PySem.W.nsIn K mainGlobals "set" = some none)
    (z10 : PySem.W.nsIn K mainGlobals "sorted" = some none)
    (z11 : PySem.W.nsIn K mainGlobals "all" = some none)
    (z12 : PySem.W.nsIn K mainGlobals "isinstance" = some none)
    (g1 : PySem.W.nsIn K mainGlobals "SIGNS" = some (some (.str sigS tS))) (g2 : PySem.W.nsIn K mainGlobals "DEEPEST" = some (some (.int 12 tD))) (g3 : PySem.W.nsIn K mainGlobals "PARTS" = some (some (.ref aP)))
    (p1 : K.lookup aP = some ⟨.type "dict", none, .dict es en, #[]⟩)
    (p2 : es.toList = [⟨h1, .str "empty" k1_, .int 0 v1⟩, ⟨h2, .str "then" k2_, .int 2 v2⟩, ⟨h3, .str "or" k3_, .int 2 v3⟩, ⟨h4, .str "again" k4_, .int 1 v4⟩, ⟨h5, .str "more" k5_, .int 1 v5⟩, ⟨h6, .str "maybe" k6_, .int 1 v6⟩])
    (p3 : PySem.W.KeysLit w.params es.toList) (p4 : (aP == sysModules) = false) :
    ∃ fd : FuncData, (∀ (s : Shared) (v : Value), BindsTo s fd ⟨[v], []⟩ [("script", v)]) ∧ ∀ base : Heap, K.In base → base.Ns mainGlobals mg → (∃ m, base.Ns sysModules m) → FnG l.prog w K mg base CX0 16 fa fd ["script"] (spLaw K) := by
  have e := hfa.symm.trans (PySem.W.mg_of X G a12)
  cases e
  have F := fun_mk (st := sLaw) l12 c12 k12
  have D0 := df_mk (st := sIsP) (ps := ["thing"]) X G a0 l0 c0 k0 fun _ _ _ _ _ _ us hl => match us, hl with | [_], _ => rfl
  have D1 := df_mk (st := sWithin) (ps := ["thing", "deepest"]) X G a1 l1 c1 k1 fun _ _ _ _ _ _ us hl => match us, hl with | [_, _], _ => rfl
  have D2 := df_mk (st := sSigns) (ps := ["thing"]) X G a2 l2 c2 k2 fun _ _ _ _ _ _ us hl => match us, hl with | [_], _ => rfl
  have D3 := df_mk (st := sJar) (ps := ["script", "k"]) X G a3 l3 c3 k3 fun _ _ _ _ _ _ us hl => match us, hl with | [_, _], _ => rfl
  have D4 := df_mk (st := sDip) (ps := ["jar", "many"]) X G a4 l4 c4 k4 fun _ _ _ _ _ _ us hl => match us, hl with | [_, _], _ => rfl
  have D5 := df_mk (st := sAll) (ps := []) X G a5 l5 c5 k5 fun _ _ _ _ _ _ us hl => match us, hl with | [], _ => rfl
  have D6 := df_mk (st := sOf) (ps := ["jar", "plain"]) X G a6 l6 c6 k6 fun _ _ _ _ _ _ us hl => match us, hl with | [_, _], _ => rfl
  have D7 := df_mk (st := sMould) (ps := ["jar", "plain", "deep"]) X G a7 l7 c7 k7 fun _ _ _ _ _ _ us hl => match us, hl with | [_, _, _], _ => rfl
  have D8 := df_mk (st := sIsM) (ps := ["item", "most"]) X G a8 l8 c8 k8 fun _ _ _ _ _ _ us hl => match us, hl with | [_, _], _ => rfl
  have D9 := df_mk (st := sOdd) (ps := ["jar"]) X G a9 l9 c9 k9 fun _ _ _ _ _ _ us hl => match us, hl with | [_], _ => rfl
  have D10 := df_mk (st := sPut) (ps := ["jar", "item", "deep"]) X G a10 l10 c10 k10 fun _ _ _ _ _ _ us hl => match us, hl with | [_, _, _], _ => rfl
  have D11 := df_mk (st := sSame) (ps := ["found", "owed"]) X G a11 l11 c11 k11 fun _ _ _ _ _ _ us hl => match us, hl with | [_, _], _ => rfl
  have T : Tx K w mg := { 
    aIsP := f0,
    fIsP := _,
    isP := D0,
    aWithin := f1,
    fWithin := _,
    within := D1,
    aSigns := f2,
    fSigns := _,
    signs := D2,
    aJar := f3,
    fJar := _,
    jar := D3,
    aDip := f4,
    fDip := _,
    dip := D4,
    aAll := f5,
    fAll := _,
    all := D5,
    aOf := f6,
    fOf := _,
    of := D6,
    aMould := f7,
    fMould := _,
    mould := D7,
    aIsM := f8,
    fIsM := _,
    isM := D8,
    aOdd := f9,
    fOdd := _,
    odd := D9,
    aPut := f10,
    fPut := _,
    put := D10,
    aSame := f11,
    fSame := _,
    same := D11,
    aParts := aP,
    es := es,
    en := en,
    kd := ⟨p1, p3, p4⟩,
    inParts := in_parts p1 p2,
    tS := tS,
    tD := tD,
    cSIGNS := PySem.W.mg_of X G g1,
    cDEEPEST := PySem.W.mg_of X G g2,
    cPARTS := PySem.W.mg_of X G g3,
    len := PySem.W.mg_none_of X G z0,
    bRange := PySem.W.mg_none_of X G z1,
    bMax := PySem.W.mg_none_of X G z2,
    bMin := PySem.W.mg_none_of X G z3,
    bInt := PySem.W.mg_none_of X G z4,
    bStr := PySem.W.mg_none_of X G z5,
    bTuple := PySem.W.mg_none_of X G z6,
    bList := PySem.W.mg_none_of X G z7,
    bBool := PySem.W.mg_none_of X G z8,
    bSet := PySem.W.mg_none_of X G z9,
    bSorted := PySem.W.mg_none_of X G z10,
    bAll := PySem.W.mg_none_of X G z11,
    bIsinstance := PySem.W.mg_none_of X G z12 }
  exact ⟨_, fun s v => .of_eq rfl, fun base _ _ hs => ok_law F T (pat_eq _) pat_both hs⟩
end K00
open PySem PySem.W PyProof.Rows
set_option maxHeartbeats 0 in
theorem PySem.Challenge.cw_tongueyard_k00_which_are_patterns_holds : PySem.Challenge.rw_tongueyard_k00_which_are_patterns.Holds := by
  w_on; o_law; k_head; (case hw => w_witness2)
  k_fill
  refine Yard.walk_G (l := PySem.Challenge.rw_tongueyard_k00_which_are_patterns) (n := 63) (k := 16) (x := "script") (sp := fun K => K00.spLaw K) rfl (by decide) rfl ⟨rfl, by decide, by decide⟩ rfl (fun w h Y => PySem.W.kIn_of Y) ?F (fun _ _ a ns hl _ hS => ⟨a, ns, rfl, hS, hl, fun _ => rfl⟩)
  case F =>
    intro w mg fa h KX G hmg
    refine' K00.all_mk KX G hmg ?a0 ?l0 ?c0 ?k0 ?a1 ?l1 ?c1 ?k1 ?a2 ?l2 ?c2 ?k2 ?a3 ?l3 ?c3 ?k3 ?a4 ?l4 ?c4 ?k4 ?a5 ?l5 ?c5 ?k5 ?a6 ?l6 ?c6 ?k6 ?a7 ?l7 ?c7 ?k7 ?a8 ?l8 ?c8 ?k8 ?a9 ?l9 ?c9 ?k9 ?a10 ?l10 ?c10 ?k10 ?a11 ?l11 ?c11 ?k11 ?a12 ?l12 ?c12 ?k12 ?z0 ?z1 ?z2 ?z3 ?z4 ?z5 ?z6 ?z7 ?z8 ?z9 ?z10 ?z11 ?z12 ?g1 ?g2 ?g3 ?p1 ?p2 ?p3 ?p4
    (case a0 => k_is)
    (case l0 => k_is)
    (case c0 => k_is)
    (case k0 => k_is)
    (case a1 => k_is)
    (case l1 => k_is)
    (case c1 => k_is)
    (case k1 => k_is)
    (case a2 => k_is)
    (case l2 => k_is)
    (case c2 => k_is)
    (case k2 => k_is)
    (case a3 => k_is)
    (case l3 => k_is)
    (case c3 => k_is)
    (case k3 => k_is)
    (case a4 => k_is)
    (case l4 => k_is)
    (case c4 => k_is)
    (case k4 => k_is)
    (case a5 => k_is)
    (case l5 => k_is)
    (case c5 => k_is)
    (case k5 => k_is)
    (case a6 => k_is)
    (case l6 => k_is)
    (case c6 => k_is)
    (case k6 => k_is)
    (case a7 => k_is)
    (case l7 => k_is)
    (case c7 => k_is)
    (case k7 => k_is)
    (case a8 => k_is)
    (case l8 => k_is)
    (case c8 => k_is)
    (case k8 => k_is)
    (case a9 => k_is)
    (case l9 => k_is)
    (case c9 => k_is)
    (case k9 => k_is)
    (case a10 => k_is)
    (case l10 => k_is)
    (case c10 => k_is)
    (case k10 => k_is)
    (case a11 => k_is)
    (case l11 => k_is)
    (case c11 => k_is)
    (case k11 => k_is)
    (case a12 => k_is)
    (case l12 => k_is)
    (case c12 => k_is)
    (case k12 => k_is)
    (case z0 => k_is)
    (case z1 => k_is)
    (case z2 => k_is)
    (case z3 => k_is)
    (case z4 => k_is)
    (case z5 => k_is)
    (case z6 => k_is)
    (case z7 => k_is)
    (case z8 => k_is)
    (case z9 => k_is)
    (case z10 => k_is)
    (case z11 => k_is)
    (case z12 => k_is)
    (case g1 => k_is)
    (case g2 => k_is)
    (case g3 => k_is)
    (case p1 => k_is)
    (case p2 => exact rfl)
    (case p3 => k_keys)
    (case p4 => rfl)
