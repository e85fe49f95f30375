import PyProof.Rows.All
import Wide.All
import OpenK.AllK
import Wide.FinOn
import HandS.Base
import HandS.Call
import HandS.List
import HandS.Ends
import HandS.Words
import PyProof.ReprRoads
import HandS.Dict
import HandS.Comp
import HandS.Text
import HandS.Iter
import PyProof.ReprLen
import PyProof.CallStr
import PyProof.CallFns
import HandS.Set
import HandS.SetFor
import HandS.SetTxt0
import HandS.Strs
import HandS.TupSets
import HandS.Style
import HandS.TupAny
import HandS.IsInst
import HandS.More
import HandS.Wide
import PyProof.Rows.RuleB_pow
import PyProof.NeKinds
import HandS.ForMost
import HandS.Walk
import HandS.DictTup
import HandS.Deep
import PyProof.ListStr
import HandS.WideBits
import HandS.DictComp
import HandS.Small
import PyProof.P3Eq
import PySem.Challenge.RW_tongueyard_k01_what_patterns_spell
set_option Elab.async false
set_option linter.all false
set_option maxRecDepth 100000
/-! The yard's own layer, part 1: promises of defs at places where nothing is being shown (no repr under way). -/
namespace Yard
open PySem PySem.Spec PyProof.Rows L2

/-- as the layer's promise, but only where no repr is under way -/
structure FnG (P : Program) (w : World) (K : PySem.W.Frag)
    (mg : Str → Option Value) (base : Heap) (CX : CXT) (k : Nat) (f : Addr)
    (fd : FuncData) (ps : List Str) (sp : Sp) : Prop where
  cnt : ∀ vs H Q E, sp vs H Q E → vs.length = ps.length
  go : ∀ (A : Around) (fr : List Env) (s : Shared) (H : Hp) (ar : Args)
    (us : List Value) (vs : List V) (Q : VK) (E : XK),
    A.guards = some [] → Room k A → Env0 P w K mg base A fr s H →
    BindsTo s fd ar (ps.zip us) → Vals vs us → sp vs H Q E →
    codeAny (model P w) A (.call (.ref f) ar) (CR CX fr P w H s Q E) s

variable {P : Program} {w : World} {K : PySem.W.Frag}
  {mg : Str → Option Value} {base : Heap}

theorem Fun.okG {x qual : Str} {st : Stmt} {f : Addr} {fd : FuncData}
    {N ps : List Str} {k : Nat} {sp : Sp} (F : Fun K x qual st f fd)
    (S : FnScope N ps (defScope st))
    (cnt : ∀ vs H Q E, sp vs H Q E → vs.length = ps.length)
    (bod : ∀ (cdv : Value) (A : Around) (fr : List Env) (s : Shared) (H : Hp)
      (vs : List V) (Q : VK) (E : XK), A.guards = some [] →
      Room k (A.deeper (envOfC qual (defScope st) s.heap.objs.size f cdv)) →
      sp vs H Q E → ∃ t,
        PSs (cxOf CX0 P w K mg base N qual (defScope st) f cdv A fr s H E).nox
          (defBody st) t ∧
        t { nx := fun _ H' => Q .non H', rt := Q } (start N vs) H) :
    FnG P w K mg base CX0 (k + 1) f fd ps sp := by
  obtain ⟨oc, od, kV, doc, pm, an, cdv, ct, osl, rfl, lk, hcd⟩ := F.ex
  refine ⟨cnt, fun A fr s H ar us vs Q E hg hr e0 hb r hsp => ?_⟩
  have inK : K.In s.heap := e0.mod.kin.keeps fun b o e => (e0.bs b o e).1
  have nol := e0.mod.nolimit.keeps fun b o e => (e0.bs b o e).1
  refine codeAny_call_function hr.depth (inK _ _ lk) rfl S.co S.gen rfl
    (PySem.W.codeRec_of inK hcd) (hb _ _ _ _ ?_)
  refine wpAny_newFunctionEnv_cells S.kind (fun ⟨n, v⟩ hy => ?_)
    fun env he s1 x => ?_
  · exact (S.par n (List.of_mem_zip hy).1).imp id
      fun q => ⟨q, PySem.W.cellsFrom_some _ _ _ (.inl q)⟩
  · subst he
    refine ⟨nol.keeps x.toInCall.keep, codeAny_func ?_⟩
    obtain ⟨t, ht, hq⟩ := bod cdv A fr s H vs Q E hg (hr.deeper _) hsp
    have I := inv_start (CX := CX0) (E := E) S hr.hd e0 (cnt _ _ _ _ hsp) r x
    refine wpAny_mono (ht.nox.run [] s1 (start N vs) H _ I hq)
      (fun fl s' hs => ?_) fun e s' hs => hs
    cases fl with
    | ret u =>
      obtain ⟨v, _, H', J, rv, q⟩ := hs
      exact ⟨v, H', J.os, J.bare, J.base, J.hok, rv, q⟩
    | next =>
      obtain ⟨_, H', J, q⟩ := hs
      exact ⟨.non, H', J.os, J.bare, J.base, J.hok, rfl, q⟩
    | brk => exact hs.elim fun _ h => h.elim fun _ h => h.2.elim
    | cont => exact hs.elim fun _ h => h.elim fun _ h => h.2.elim

/-! ### the law's own call -/
/-- a heap of one tracked thing -/
def lone (a : Addr) (o : HO) : Hp := fun b => if b = a then some o else none
/-- at the claim's own place nothing is being shown -/
theorem caller_guards : callerA.guards = some [] := rfl

theorem law_run {CX : CXT} {k : Nat} {fa a : Addr} {fd : FuncData} {x : Str}
    {sp : Sp} {s₁ : Shared} {vs : List Value} {ns : List Int} {mb : Str → Option Value}
    (KX : K.In s₁.heap) (g1 : s₁.heap.Ns mainGlobals mg) (g2 : s₁.heap.Ns builtinsNs mb)
    (g3 : ∀ x : Str, x ≠ "__name__" → mb x = bootBuiltins x) (g4 : s₁.heap.NoLimit)
    (g5 : s₁.gens = #[])
    (ha : s₁.heap.get? a = some { cls := .type "list", data := .seq vs.toArray })
    (hi : IntsAre vs ns) (hl : ns.length ≤ sizeLine) (hr : Room k callerA)
    (g6 : ∃ m, s₁.heap.Ns sysModules m)
    (F : ∀ base : Heap, K.In base → base.Ns mainGlobals mg →
      (∃ m, base.Ns sysModules m) → FnG P w K mg base CX k fa fd [x] sp)
    (hb : ∀ (s : Shared) (u : Value), BindsTo s fd ⟨[u], []⟩ [(x, u)])
    (hsp : ∀ H : Hp, Only H → SqL K H a (ns.map V.int) →
      sp [.ref a] H (fun v _ => v = .bl true) fun _ _ _ => False)
    (hX : ∀ H e s', CX [] H s₁ (fun _ _ _ => False) e s' → False) :
    codeAny (model P w) callerA (.call (.ref fa) ⟨[.ref a], []⟩)
      (fun r s' => r = .ok (.ret (.bool true)) ∧ OldK s₁.heap s'.heap ∧
        s'.os = s₁.os ∧ AllBare s'.gens) s₁ := by
  have rv := vals_ints hi
  -- H: nothing but the script may be tracked
  have main : ∀ H : Hp, Only H → SqL K H a (ns.map V.int) → HOk P w H s₁.heap →
      (∀ b, H b ≠ none → b = a) → (H a ≠ none → K.lookup a = none) →
      codeAny (model P w) callerA (.call (.ref fa) ⟨[.ref a], []⟩)
        (fun r s' => r = .ok (.ret (.bool true)) ∧ OldK s₁.heap s'.heap ∧
          s'.os = s₁.os ∧ AllBare s'.gens) s₁ := by
    intro H hO hS ok onlyA notK
    have freeOf : ∀ {b : Addr}, b ≠ a → H b = none := fun {b} ne =>
      Classical.byContradiction fun z => ne (onlyA b z)
    have dictFree : ∀ {b : Addr} {o : Obj} {es : Array DictEntry} {ep : Nat},
        s₁.heap.get? b = some o → o.data = .dict es ep → H b = none :=
      fun {b o es ep} e d => freeOf fun z => by
        subst z
        have q : some o = some _ := e.symm.trans ha
        cases q
        exact nomatch d
    have nsKeep : ∀ {b : Addr} {m : Str → Option Value}, s₁.heap.Ns b m →
        (hidT s₁.heap H).Ns b m := fun ⟨o, es, ep, e, d, r⟩ =>
      ⟨o, es, ep, hidT_get e (dictFree e d), d, r⟩
    have kKeep : K.In (hidT s₁.heap H) := fun b o e => hidT_get (KX b o e)
      (Classical.byContradiction fun z => by
        have z2 := onlyA b z
        subst z2
        have n := notK z
        rw [e] at n
        cases n)
    have md : Mod K mg (hidT s₁.heap H) := ⟨kKeep, nsKeep g1, ⟨mb, nsKeep g2, g3⟩,
      g4.elim fun mc h => ⟨mc, nsKeep h.1, h.2⟩⟩
    have env : Env0 P w K mg (hidT s₁.heap H) callerA [] s₁ H :=
      ⟨rfl, md, fun _ _ e => of_hidT e, Nat.le_of_eq (hidT_size _ _), trivial,
        fun _ z => (List.not_mem_nil z).elim, ok, .of_eq g5⟩
    refine codeAny_mono ((F _ kKeep (nsKeep g1) (g6.imp fun _ => nsKeep)).go callerA [] s₁ H _ [.ref a]
      [.ref a] _ _ caller_guards hr env (hb s₁ _) (.cons rfl .nil) (hsp H hO hS))
      fun r s' h => ?_
    cases r with
    | error e => exact (hX H e s' h).elim
    | ok fl =>
      cases fl with
      | ret u =>
        obtain ⟨v, H', os, bare, un, ok', r', q⟩ := h
        cases (show v = .bl true from q)
        cases (show u = Value.bool true from r')
        refine ⟨rfl, OldK.of_keep fun b o e => ?_, os, bare⟩
        rcases hO b with z | ⟨ob, xs, z⟩
        · exact un.keep b o e z (fun q => (List.not_mem_nil q).elim)
            fun q => (List.not_mem_nil q).elim
        · have e1 := (ok b _ z).1
          have e2 := (ok' b _ (un.frzs b ob _ z)).1
          rw [e2, ← e1, e]
      | _ => exact False.elim h
  cases hk : K.lookup a with
  | some o =>
    cases (KX a o hk).symm.trans ha
    exact main (fun _ => none) (fun _ => .inl rfl)
      (.inr ⟨_, vs.toArray, _, hk, rfl, rfl, rfl,
        by rw [List.size_toArray, hi.length]; exact hl, by simpa using rv⟩)
      (fun b u z => nomatch (show (none : Option HO) = some u from z))
      (fun _ z => (z rfl).elim) fun z => (z rfl).elim
  | none =>
    have at_ : ∀ {o : HO} {b : Addr} {u : HO}, lone a o b = some u → b = a ∧ u = o :=
      fun {o b u} z => by
      by_cases hb : b = a
      · exact ⟨hb, (Option.some.inj ((if_pos hb).symm.trans z)).symm⟩
      · exact nomatch (if_neg hb).symm.trans z
    refine main (lone a (HO.frz { cls := .type "list", data := .seq vs.toArray }
      (.lst (ns.map V.int)))) (fun b => ?_) (.inl (.inr ⟨_, if_pos rfl⟩))
      (fun b u z => ?_) (fun b z => ?_) fun _ => hk
    · by_cases hb : b = a
      · exact .inr ⟨_, _, if_pos hb⟩
      · exact .inl (if_neg hb)
    · obtain ⟨rfl, rfl⟩ := at_ z
      exact ⟨ha, by rw [List.length_map]; exact hl, vs, _, rv, ha⟩
    · exact Classical.byContradiction fun hb => z (if_neg hb)

/-- the row's end, from the law's promise -/
theorem walk_G {l : PySem.W.OpenLaw} {n k : Nat} {q : Program} {loose : List Str}
    {XP : (Str → Option Value) → Heap → Prop} {YP : World → Heap → Prop} {d : DefRec}
    {K : Params → PySem.W.Frag} {sp : PySem.W.Frag → Sp} {x : Str}
    (hn : l.most = some n) (hn2 : n ≤ sizeLine) (hdf : d.params.defaults = [])
    (hr : Room k callerA) (him : importsNone q = true)
    (hY : ∀ (w : World) (h : Heap), YP w h → (K w.params).In h)
    (F : ∀ (w : World) (mg : Str → Option Value) (fa : Addr) (h : Heap),
      (K w.params).In h → h.Ns mainGlobals mg → mg d.name = some (.ref fa) →
      ∃ fd : FuncData, (∀ (s : Shared) (u : Value), BindsTo s fd ⟨[u], []⟩ [(x, u)]) ∧
        ∀ base : Heap, (K w.params).In base → base.Ns mainGlobals mg →
          (∃ m, base.Ns sysModules m) → FnG l.prog w (K w.params) mg base CX0 k fa fd [x] (sp (K w.params)))
    (hsp : ∀ (K : PySem.W.Frag) (H : Hp) (a : Addr) (ns : List Int), ns.length ≤ n →
      Only H → SqL K H a (ns.map V.int) →
      sp K [.ref a] H (fun v _ => v = .bl true) fun _ _ _ => False) :
    PySem.W.WalkO q loose XP YP l.row.toRowW d [] (fun f vs => PySem.call f vs) := by
  refine Att.attach_call hn hdf fun w s₀ s₁ mg mb fa o pm cd doc a vs ns G Y ho hd hcd
    hmg hobj hints hlen hg => ?_
  obtain ⟨fd, hb, hF⟩ := F w mg fa _ (hY w _ Y) G.T.g hmg
  exact law_run (hY w _ Y) G.T.g G.T.b G.T.builtins G.T.nolimit hg hobj hints
    (Nat.le_trans hlen hn2) hr ((G.T.seer him).mods.imp fun _ h => h.1) hF hb (fun H hO hS => hsp _ H a ns hlen hO hS)
    fun _ _ _ z => z
end Yard
set_option maxRecDepth 100000
/-! The yard's own layer, part 2: data that the calls have made, at any depth; what they are shown as. -/
namespace Yard
open PySem PySem.Spec PyProof.Rows L2

mutual
/-- at the value stands the datum; all its parts are tracked -/
inductive Dq (H : Hp) : V → PyData → Prop
  | non : Dq H .non .none
  | bl (b : Bool) : Dq H (.bl b) (.bool b)
  | int (i : Int) : Dq H (.int i) (.int i)
  | str (x : Str) : Dq H (.str x) (.str x)
  | lst {a : Addr} {xs : List V} {ds : List PyData} : H a = some (.lst xs) → DqL H xs ds → Dq H (.ref a) (.list ds)
  | tup {a : Addr} {xs : List V} {ds : List PyData} : H a = some (.tup xs) → DqL H xs ds → Dq H (.ref a) (.tuple ds)
  | dic {a : Addr} : H a = some (.dK []) → Dq H (.ref a) (.dict [])
inductive DqL (H : Hp) : List V → List PyData → Prop
  | nil : DqL H [] []
  | cons {v : V} {vs : List V} {d : PyData} {ds : List PyData} : Dq H v d → DqL H vs ds → DqL H (v :: vs) (d :: ds)
end

mutual
theorem Dq.mono {H H' : Hp} (s : Same H H') : ∀ {v : V} {d : PyData}, Dq H v d → Dq H' v d
  | _, _, .non => .non
  | _, _, .bl b => .bl b
  | _, _, .int i => .int i
  | _, _, .str x => .str x
  | _, _, .lst h t => .lst (s _ _ h) (t.mono s)
  | _, _, .tup h t => .tup (s _ _ h) (t.mono s)
  | _, _, .dic h => .dic (s _ _ h)
theorem DqL.mono {H H' : Hp} (s : Same H H') : ∀ {vs : List V} {ds : List PyData}, DqL H vs ds → DqL H' vs ds
  | _, _, .nil => .nil
  | _, _, .cons h t => .cons (h.mono s) (t.mono s)
end
theorem DqL.len {H : Hp} : ∀ {vs : List V} {ds : List PyData}, DqL H vs ds → vs.length = ds.length
  | _, _, .nil => rfl
  | _, _, .cons _ t => congrArg (· + 1) t.len
theorem DqL.get {H : Hp} : ∀ {vs : List V} {ds : List PyData} {i : Nat} {v : V}, DqL H vs ds → vs[i]? = some v → ∃ d, ds[i]? = some d ∧ Dq H v d
  | _, _, 0, _, .cons h _, e => by cases e; exact ⟨_, rfl, h⟩
  | _, _, i + 1, _, .cons _ t, e => DqL.get (i := i) t e
theorem DqL.take {H : Hp} : ∀ {vs : List V} {ds : List PyData} (n : Nat), DqL H vs ds → DqL H (vs.take n) (ds.take n)
  | _, _, 0, _ => .nil
  | _, _, _ + 1, .nil => .nil
  | _, _, n + 1, .cons h t => .cons h (t.take n)
theorem DqL.drop {H : Hp} : ∀ {vs : List V} {ds : List PyData} (n : Nat), DqL H vs ds → DqL H (vs.drop n) (ds.drop n)
  | _, _, 0, h => h
  | _, _, _ + 1, .nil => .nil
  | _, _, n + 1, .cons _ t => t.drop n
theorem DqL.app {H : Hp} : ∀ {vs ws : List V} {ds es : List PyData}, DqL H vs ds → DqL H ws es → DqL H (vs ++ ws) (ds ++ es)
  | _, _, _, _, .nil, k => k
  | _, _, _, _, .cons h t, k => .cons h (t.app k)
theorem DqL.rev {H : Hp} : ∀ {vs : List V} {ds : List PyData}, DqL H vs ds → DqL H vs.reverse ds.reverse
  | _, _, .nil => .nil
  | _, _, .cons h t => by
    rw [List.reverse_cons, List.reverse_cons]
    exact t.rev.app (.cons h .nil)

section
variable {X : Cx} {pins : List (Addr × Obj)} {σ : L2.St} {H : Hp} {s : Shared}
mutual
theorem Dq.reads (I : Inv X pins σ H s) : ∀ {v : V} {d : PyData} {u : Value}, Dq H v d → RelV v u → ∃ as, Reads s.heap u d as ∧ ∀ b ∈ as, H b ≠ none
  | _, _, _, .non, r => by cases r; exact ⟨_, .none, fun _ h => nomatch h⟩
  | _, _, _, .bl b, r => by cases r; exact ⟨_, .bool b, fun _ h => nomatch h⟩
  | _, _, _, .int i, r => by obtain ⟨t, rfl⟩ := r; exact ⟨_, .int i t, fun _ h => nomatch h⟩
  | _, _, _, .str x, r => by obtain ⟨t, rfl⟩ := r; exact ⟨_, .str x t, fun _ h => nomatch h⟩
  | _, _, _, .lst h t, r => by
    cases r
    obtain ⟨_, its, n, rv, ho⟩ := I.hok _ _ h
    obtain ⟨as, k, q⟩ := DqL.reads I t rv
    refine ⟨_, .list (vs := its.toArray) ho rfl rfl (by simpa using k), fun b hb => ?_⟩
    rcases List.mem_cons.mp hb with z | z
    · rw [z, h]; exact fun y => nomatch y
    · exact q b z
  | _, _, _, .tup h t, r => by
    cases r
    obtain ⟨_, its, rv, o, ho, hc, n, hd⟩ := I.hok _ _ h
    obtain ⟨as, k, q⟩ := DqL.reads I t rv
    exact ⟨_, .tuple ho hc hd (by simpa using k), q⟩
  | _, _, _, .dic h, r => by
    cases r
    obtain ⟨_, _, vs, rv, o, es, ep, ho, hx, hd, _, hp, _⟩ := I.hok _ _ h
    cases rv
    have e0 : es.toList = [] := by
      generalize es.toList = l at hp
      cases hp
      rfl
    refine ⟨_, .dict (kvs := []) ho hx.1 hd (by rw [e0]; exact .nil) (by rw [e0]; exact .nil), fun b hb => ?_⟩
    have hb' : b ∈ [_] := hb
    rw [List.mem_singleton.mp hb', h]; exact fun y => nomatch y
theorem DqL.reads (I : Inv X pins σ H s) : ∀ {vs : List V} {ds : List PyData} {us : List Value}, DqL H vs ds → Vals vs us → ∃ as, ReadsAll s.heap us ds as ∧ ∀ b ∈ as, H b ≠ none
  | _, _, _, .nil, r => by cases r; exact ⟨_, .nil, fun _ h => nomatch h⟩
  | _, _, _, .cons h t, r => by
    cases r with
    | cons r1 r2 =>
      obtain ⟨as, k, q⟩ := Dq.reads I h r1
      obtain ⟨bs, k2, q2⟩ := DqL.reads I t r2
      exact ⟨_, .cons k k2, fun b hb => (List.mem_append.mp hb).elim (q b) (q2 b)⟩
end
end
end Yard
set_option maxRecDepth 100000
/-! The yard's own layer, part 3: str(x), repr(x) of data. -/
namespace Yard
open PySem PySem.Spec PyProof.Rows L2

/-- what str says of a datum -/
def strText : PyData → Str
  | .str x => x
  | d => d.shown

/-- str or repr of a datum, f the text -/
def rShow (f : PyData → Str) : List V → Hp → VK → Prop := fun xs H Q =>
  ∃ v d, xs = [v] ∧ Dq H v d ∧ d.showable = true ∧ d.depth ≤ 64 ∧
    d.shown.length ≤ sizeLine ∧ Q (.str (f d)) H

section
variable {X : Cx} {pins : List (Addr × Obj)} {σ : L2.St} {H : Hp} {s : Shared}
/-- no tracked thing is the table of modules -/
theorem no_sys (I : Inv X pins σ H s) (hs : ∃ m, X.base.Ns sysModules m)
    {as : List Addr} (h : ∀ b ∈ as, H b ≠ none) : sysModules ∉ as := fun hm => by
  obtain ⟨m, o, es, ep, e, _⟩ := hs
  exact h _ hm (I.bs _ _ e).2

theorem call_strQ (hg : X.A.guards = some []) (hs : ∃ m, X.base.Ns sysModules m)
    (hu : X.A.units + 80 < cLine) : CallR X (.type "str") (rShow strText) := by
  intro pins s σ H xs us Q I r h
  obtain ⟨v, d, rfl, hd, sh, dp, sz, q⟩ := h
  obtain ⟨u, rfl, rv⟩ := vals1 r
  have fin : ∀ (h' : Heap) (t : Nat) (x : Str) (tk : Tok), x = strText d →
      (∀ b o, s.heap.get? b = some o → h'.get? b = some o) →
      EP X pins σ Q (.str x tk) { s with heap := h', toks := t } :=
    fun h' t x tk e k => ⟨.str x, H, I.kept (t' := t) k, ⟨_, rfl⟩, by rw [e]; exact q⟩
  obtain ⟨as, rd, ha⟩ := hd.reads I rv
  have ref_ : ∀ a, u = .ref a → strText d = d.shown →
      wpAny (model X.prog X.w) X.A (PySem.call (.type "str") [u]) (EP X pins σ Q) X.xe s := by
    intro a e e2
    subst e
    refine str_of_reads rd sh (fun _ => no_sys I hs ha) hg (by omega)
      (fun _ _ z => z) (fun h' u tk k => fin h' tk _ u e2.symm k) sz
  cases hd with
  | non =>
    cases rv
    exact P.str_of_none (fin s.heap _ _ _ (by simp only [strText, PyData.shown]) fun _ _ z => z)
  | bl b =>
    cases rv
    refine P.str_of_bool (fin s.heap _ _ _ ?_ fun _ _ z => z)
    cases b <;> simp only [strText, PyData.shown] <;> rfl
  | int i =>
    obtain ⟨t, rfl⟩ := rv
    refine P.str_of_int (by simpa [PyData.showable] using sh)
      (fin s.heap _ _ _ ?_ fun _ _ z => z)
    simp only [strText, PyData.shown]
  | str x =>
    obtain ⟨t, rfl⟩ := rv
    exact P.str_of_str (fin s.heap _ _ _ rfl fun _ _ z => z)
  | lst h t => exact ref_ _ rv rfl
  | tup h t => exact ref_ _ rv rfl
  | dic h => exact ref_ _ rv rfl

theorem call_reprQ (hg : X.A.guards = some []) (hs : ∃ m, X.base.Ns sysModules m)
    (hu : X.A.units + 80 < cLine) : CallR X (.builtin "repr") (rShow PyData.shown) := by
  intro pins s σ H xs us Q I r h
  obtain ⟨v, d, rfl, hd, sh, dp, sz, q⟩ := h
  obtain ⟨u, rfl, rv⟩ := vals1 r
  have fin : ∀ (h' : Heap) (t : Nat) (x : Str) (tk : Tok), x = d.shown →
      (∀ b o, s.heap.get? b = some o → h'.get? b = some o) →
      EP X pins σ Q (.str x tk) { s with heap := h', toks := t } :=
    fun h' t x tk e k => ⟨.str x, H, I.kept (t' := t) k, ⟨_, rfl⟩, by rw [e]; exact q⟩
  obtain ⟨as, rd, ha⟩ := hd.reads I rv
  have ref_ : ∀ a, u = .ref a →
      wpAny (model X.prog X.w) X.A (PySem.call (.builtin "repr") [u]) (EP X pins σ Q) X.xe s := by
    intro a e
    subst e
    exact repr_of_reads' rd sh (fun _ => no_sys I hs ha) hg (by omega)
      (fun _ _ z => z) (fun h' u tk k => fin h' tk _ u rfl k) sz
  cases hd with
  | non =>
    cases rv
    exact P.repr_of_none (fin s.heap _ _ _ (by simp only [PyData.shown]) fun _ _ z => z)
  | bl b =>
    cases rv
    refine P.repr_of_bool (fin s.heap _ _ _ ?_ fun _ _ z => z)
    cases b <;> simp only [PyData.shown] <;> rfl
  | int i =>
    obtain ⟨t, rfl⟩ := rv
    refine P.repr_of_int (by simpa [PyData.showable] using sh)
      (fin s.heap _ _ _ ?_ fun _ _ z => z)
    simp only [PyData.shown]
  | str x =>
    obtain ⟨t, rfl⟩ := rv
    refine P.repr_of_str (fin s.heap _ _ _ ?_ fun _ _ z => z)
      (by simpa only [PyData.shown] using sz)
    simp only [PyData.shown]
  | lst h t => exact ref_ _ rv
  | tup h t => exact ref_ _ rv
  | dic h => exact ref_ _ rv
end
end Yard
set_option maxRecDepth 100000
/-! The yard's own layer, part 4: sorted(set(texts)). -/
namespace Yard
open PySem PySem.Spec PyProof.Rows L2 PySem.Froz

/-- a set's payload of texts that can be walked in any way of the world's -/
structure Walky (P : Program) (w : World) (D : SD) (l : List Str) : Prop where
  tx : TxOk P w D l
  ris : Ris D.2.2.place.toList
  led : w.params.followText "set-order" = true ∨ D.2.2.led = true
  nd : l.Nodup

theorem walky_new (P : Program) (w : World) :
    Walky P w (#[], 0, .fresh 0 0 (!w.params.followText "set-order")) [] where
  tx := TxOk.nil rfl
  ris := List.Pairwise.nil
  led := by
    cases h : w.params.followText "set-order"
    · exact .inr rfl
    · exact .inl rfl
  nd := List.nodup_nil

/-- what a new member makes of the table -/
theorem add_table (h : Int) (v : Value) (D : SD) (r : Ris D.2.2.place.toList) :
    Ris (addTx h v D).2.2.place.toList ∧ (addTx h v D).2.2.led = D.2.2.led := by
  obtain ⟨es, ep, t⟩ := D
  have r1 := layNew_ris t es h v r
  have l1 := layNew_led t es h v
  have tail : ∀ (t2 : SetTable) (b : Bool) (es1 : Array (Int × Value)),
      Ris t2.place.toList → t2.led = t.led →
      Ris (tailTx ep es1 t2 b).2.2.place.toList ∧ (tailTx ep es1 t2 b).2.2.led = t.led := by
    intro t2 b es1 a c
    unfold tailTx
    split
    · exact ⟨relayAll_ris _ _ _, (relayAll_led _ _ _).trans c⟩
    · exact ⟨a, c⟩
  unfold addTx
  refine tail _ _ _ ?_ ?_
  · split
    · exact r1
    · exact r1
  · split
    · exact l1
    · exact l1

theorem walky_add {P : Program} {w : World} {D : SD} {l : List Str} {k : Str} (u : Tok)
    (W : Walky P w D l) (hk : k ∉ l) : Walky P w (addTx (hashStr w k) (.str k u) D) (k :: l) where
  tx := add_ok u W.tx
  ris := (add_table _ _ D W.ris).1
  led := W.led.imp id fun h => (add_table _ _ D W.ris).2.trans h
  nd := List.nodup_cons.mpr ⟨hk, W.nd⟩

section
variable {P : Program} {w : World} {A : Around} {E : Value → Shared → Prop} {s : Shared}

/-- s.add(k) of a member that is there -/
theorem add_same {a : Addr} {T : String} {D : SD} {l : List Str} {k : Str} {u : Tok}
    {Q : Bool → Shared → Prop} (ho : s.heap.get? a = some (sObj T D)) (F : TxOk P w D l)
    (hk : k ∈ l) (hb : l.length < scanBound) (h : Q false s) :
    wpAny (model P w) A (setAddHashed a (.str k u) (hashStr w k)) Q E s := by
  obtain ⟨es, ep, t⟩ := D
  have fd : (sObj T (es, ep, t)).data = .set es ep t := rfl
  have key := is_str (P := P) (w := w) k u
  unfold setAddHashed setAddHashedIn
  refine wpAny_holding (wpAny_bind (wpAny_setState_of ho fd F.fit ?_))
  dsimp only
  rw [byScan_of (knd := strKind P w) rfl (by rw [show es.size = _ from F.sz]; exact hb) F.el]
  simp only [↓reduceIte]
  unfold setAddByScan
  refine wpAny_bind (wpAny_bind (wpAny_rule (wpAny_bind
    (wpAny_setScan_of (knd := strKind P w) (k := k) key ho fd F.fit F.el ?_))))
  cases hr : List.findIdx? (fun e => (strKind P w).is k e.2) es.toList with
  | some j => exact wpAny_pure (wpAny_pure h)
  | none =>
    obtain ⟨e, he, q⟩ := (F.mem k).mp hk
    have z := List.findIdx?_eq_none_iff.mp hr e he
    rw [q] at z
    cases z

/-- what stands at a set of texts -/
def TSet (P : Program) (w : World) (h : Heap) (a : Addr) (l : List Str) : Prop :=
  ∃ D, h.get? a = some (sObj "set" D) ∧ Walky P w D l

theorem tset_keep {h h' : Heap} {a : Addr} {l : List Str} (T : TSet P w h a l)
    (k : ∀ o, h.get? a = some o → h'.get? a = some o) : TSet P w h' a l :=
  let ⟨D, e, W⟩ := T; ⟨D, k _ e, W⟩

/-- s.add(k): what is in then -/
theorem add_text {a : Addr} {l : List Str} {k : Str} {u : Tok} {Q : Bool → Shared → Prop}
    (T : TSet P w s.heap a l) (hb : l.length + 1 < scanBound)
    (h : ∀ (b : Bool) (h' : Heap) (l' : List Str), Heap.SameBut a s.heap h' → TSet P w h' a l' →
      l'.length ≤ l.length + 1 → (∀ x, x ∈ l' ↔ x = k ∨ x ∈ l) → Q b { s with heap := h' }) :
    wpAny (model P w) A (setAddHashed a (.str k u) (hashStr w k)) Q E s := by
  obtain ⟨D, ho, W⟩ := T
  by_cases hk : k ∈ l
  · refine add_same ho W.tx hk (by omega) ?_
    exact h false s.heap l (Heap.SameBut.refl a s.heap) ⟨D, ho, W⟩ (Nat.le_succ _) fun x =>
      ⟨.inr, fun z => z.elim (fun e => e ▸ hk) id⟩
  · refine add_x ho W.tx hk hb ?_
    exact h true _ (k :: l) (Heap.SameBut.update s.heap a _) ⟨_, get_upd _ ho rfl, walky_add u W hk⟩
      (Nat.le_refl _) fun x => List.mem_cons

/-- the loop of set(..): all texts of a walk -/
theorem fill_texts {I : Addr} {fp wr : List Addr} {G : Array GenState → Array GenState → Prop}
    {n : Nat} {Pv : Nat → Value → Prop} {St : Nat → Shared → Prop} {R : Result → Shared → Prop}
    (W : WalksS P w A.in1 I fp wr G n Pv St) (S : Addr) (apart : S ∉ fp) (xs : List Str)
    (hn : n = xs.length) (small : xs.length + 1 < scanBound)
    (val : ∀ i v, Pv i v → ∃ x t, xs[i]? = some x ∧ v = .str x t)
    (fin : ∀ s0 s' l, Moved (S :: wr) G s0 s' → TSet P w s'.heap S l → l.length ≤ n →
      (∀ x, x ∈ l ↔ x ∈ xs) → s0 = s → R (.ok (.ret .none)) s') :
    ∀ (k i : Nat) (s1 : Shared), n - i = k → i ≤ n → St i s1 →
      (i = 0 ∧ s1 = s ∨ Moved (S :: wr) G s s1) →
      (∃ l, TSet P w s1.heap S l ∧ l.length ≤ i ∧ ∀ x, x ∈ l ↔ x ∈ xs.take i) →
      codeAny (model P w) A (.builtin "set.update.loop" ⟨[.ref S, .ref I], []⟩) R s1 := by
  have offW : S ∉ wr := fun z => apart (W.sub _ z)
  have wide : ∀ b ∈ wr, b ∈ S :: wr := fun b hb => List.mem_cons_of_mem _ hb
  have on : ∀ {s1 s2 : Shared} {i : Nat}, (i = 0 ∧ s1 = s ∨ Moved (S :: wr) G s s1) →
      Moved (S :: wr) G s1 s2 → Moved (S :: wr) G s s2 := fun {s1 s2 i} a b => by
    rcases a with ⟨_, e⟩ | a
    · rw [← e]; exact b
    · exact Moved.trans W.gtrans a b
  intro k
  induction k with
  | zero =>
    intro i s1 hk hi hst way ⟨l, hT, hl, hm⟩
    obtain rfl : i = n := by omega
    refine codeAny_builtin F.entry_set_update_loop ?_
    rw [Around.under_plainId F.plain_set_update_loop _]
    show wpAny _ A.in1 (pyNext (.ref I) >>= _) _ _ s1
    refine wpAny_bind (W.done s1 _ _ hst fun s' mv => ?_)
    have e : xs.take i = xs := List.take_of_length_le (by omega)
    rw [e] at hm
    exact wpAny_pure (fin s s' l (on way (mv.mono wide))
      (tset_keep hT fun o q => mv.heap S o offW q) hl hm rfl)
  | succ k ih =>
    intro i s1 hk hi hst way ⟨l, hT, hl, hm⟩
    have lt : i < n := by omega
    refine codeAny_builtin F.entry_set_update_loop ?_
    rw [Around.under_plainId F.plain_set_update_loop _]
    show wpAny _ A.in1 (pyNext (.ref I) >>= _) _ _ s1
    refine wpAny_bind (W.item i s1 _ _ lt hst fun v s' hP st2 mv => ?_)
    obtain ⟨x, t, hx, rfl⟩ := val i v hP
    show wpAny _ A.in1 (holding [Value.str x t] (setAdd S (.str x t)) >>= _) _ _ s'
    refine wpAny_bind (wpAny_holding ?_)
    unfold setAdd
    refine wpAny_holding (wpAny_bind ((strKind P w).pyHash (is_str x t) ?_))
    refine add_text (s := { s' with toks := s'.toks + 1 })
      (tset_keep hT fun o q => mv.heap S o offW q) (by omega) fun b h' l' sb hT' hl' hm' => ?_
    have here : ∀ b o, b ∉ S :: wr → s'.heap.get? b = some o → h'.get? b = some o :=
      fun b o nb e => (sb.2 b fun z => nb (by rw [z]; exact List.mem_cons_self)).trans e
    refine wpAny_pure ⟨plainId_quiet F.plain_set_update_loop _, ?_⟩
    refine ih (i + 1) _ (by omega) lt (W.frame _ s' _ _ st2 (Nat.le_succ _) fun b hb o e => ?_)
      (.inr (on way ((mv.mono wide).then_heap (Nat.le_succ _) fun b o nb e => here b o nb e)))
      ⟨l', hT', by omega, fun y => ?_⟩
    · exact (sb.2 b fun z => apart (by rw [← z]; exact hb)).trans e
    · rw [hm', List.take_add_one, hx, List.mem_append, hm]
      simp only [Option.toList_some, List.mem_singleton]
      exact or_comm
end
end Yard
set_option maxRecDepth 100000
namespace Yard
open PySem PySem.Spec PyProof.Rows L2 PySem.Froz

/-- the object that set(..) begins with -/
abbrev set0 (w : World) : Obj :=
  { cls := .type "set", dict := none, data := .set #[] 0 (.fresh 0 0 (!w.params.followText "set-order")) }

/-- how the set stands behind set(xs) -/
structure SetMade (P : Program) (w : World) (s s2 : Shared) (xs : List Str) : Prop where
  ex : ∃ h' tk m, s2 = { s with heap := h', toks := tk } ∧
    TSet P w h' s.heap.objs.size m ∧ m.length ≤ xs.length ∧ (∀ x, x ∈ m ↔ x ∈ xs) ∧
    ∀ b o, s.heap.get? b = some o → h'.get? b = some o

section
variable {P : Program} {w : World} {A : Around} {E : Value → Shared → Prop} {s : Shared}

set_option maxHeartbeats 3200000 in
/-- set(xs) of a list of texts -/
theorem call_set_texts {l : Addr} {items : Array Value} {xs : List Str} {Q : Value → Shared → Prop}
    (calm : A.handled = none) (hl : s.heap.IsList l items) (hit : StrsAre items.toList xs)
    (small : xs.length + 1 < scanBound)
    (hQ : ∀ s2, SetMade P w s s2 xs → Q (.ref s.heap.objs.size) s2) :
    wpAny (model P w) A (call (.type "set") [.ref l]) Q E s := by
  have len : items.size = xs.length := by
    have q := hit.length
    rwa [Array.length_toList] at q
  obtain ⟨_, _, mro⟩ := F.called_set.mro
  have a1 := F.called_set.made
  have a2 := F.called_set.sub
  have a3 := F.called_set.notType
  have a4 := F.called_set.canCreate
  have a5 := F.typeCall_set_1 (.ref l)
  refine wpAny_call (codeAny_of_tree ?_)
  show wpAny _ _ (callAny (.type "set") _) _ _ _
  refine wpAny_pure ⟨Code.quiet_builtin _ (by decide +kernel), ?_⟩
  refine codeAny_builtin F.entry_type_call ?_
  rw [Around.under_plain (weight_type_call_type "set" [.ref l] []) rfl]
  repeat (any_goals (first | assumption | wp_step))
  refine codeAny_mono (L2.code_set_led1 (.ref l) (E := E)
    (Q₁ := fun o s1 => o = .ref s.heap.objs.size ∧ s1 = { s with heap := s.heap.push (set0 w) })
    ⟨rfl, rfl⟩) fun r s1 hr => ?_
  match r, hr with
  | .error e, hr => exact hr
  | .ok (.ret _), hr =>
    obtain ⟨rfl, rfl⟩ := hr
    have new : (s.heap.push (set0 w)).get? s.heap.objs.size = some (set0 w) :=
      Heap.get?_push_size _ rfl
    have isSet : Shared.TypeIs { s with heap := s.heap.push (set0 w) }
      (.ref s.heap.objs.size) "set" := ⟨_, new, rfl⟩
    have b1 := F.called_set.init.lookup
    have b2 := F.called_set.init.bind (.ref s.heap.objs.size)
    repeat (any_goals (first | assumption | wp_step))
    refine codeAny_mono (codeAny_call_builtin
      (R := wants (fun r s2 => r = .none ∧ SetMade P w s s2 xs) E) F.called_set.init.plain
      F.entry_set_init (check_set_init_1 isSet ?_)) fun r2 s2 hr2 => ?_
    · obtain ⟨⟨c, od, da, sl⟩, ol, e1, nl, e2⟩ := id hl
      simp only at e1 e2
      subst e1 e2
      have ol2 : (s.heap.push (set0 w)).get? l = some ⟨.type "list", od, .seq items nl, sl⟩ :=
        Heap.get?_push_of_some _ ol
      have isl : (s.heap.push (set0 w)).IsList l items := ⟨_, ol2, rfl, nl, rfl⟩
      have q1 := F.sub_list_set
      have q2 := F.sub_list_frozenset
      have q3 : (Value.type "list" == Value.type "dict") = false := by decide
      unfold Builtin.«set.__init__» noKeywords Builtin.Frozenset.updateFrom
      generalize hPI : pyIter = PI
      wp_walk
      subst hPI
      refine wpAny_pyIter_list isl (wpAny_bind (wpAny_runValue ?_))
      have lS : l < s.heap.objs.size := Heap.lt_size ol
      have z1 : (s.heap.push (set0 w)).objs.size = s.heap.objs.size + 1 := Heap.size_push ..
      have lI : l ≠ (s.heap.push (set0 w)).objs.size := by
        rw [z1]; exact Nat.ne_of_lt (Nat.lt_succ_of_lt lS)
      have apart : s.heap.objs.size ∉ [(s.heap.push (set0 w)).objs.size, l] := by
        rw [z1]
        intro z
        rcases List.mem_cons.mp z with z | z
        · exact Nat.ne_of_lt (Nat.lt_succ_self _) z
        · exact Nat.ne_of_gt lS (List.mem_singleton.mp z)
      have val : ∀ (i : Nat) (v : Value), items[i]? = some v →
          ∃ x t, xs[i]? = some x ∧ v = .str x t := fun i v hv => by
        have hi : i < xs.length := by rw [← len]; exact (Array.getElem?_eq_some_iff.mp hv).1
        obtain ⟨t, e⟩ := SS.strs_at hit i v (by rw [Array.getElem?_toList]; exact hv)
        refine ⟨xs[i], t, List.getElem?_eq_getElem hi, ?_⟩
        rw [e, List.getD_eq_getElem?_getD, List.getElem?_eq_getElem hi] <;> rfl
      refine fill_texts (P := P) (w := w) ((Walks.list (by simp [calm]) _ l lI items).toS)
        s.heap.objs.size apart xs len small val ?fin (items.size - 0) 0 _ (by omega)
        (Nat.zero_le _) ⟨⟨_, Heap.get?_push_size _ rfl, rfl, rfl⟩, isl.push _⟩ (.inl ⟨rfl, rfl⟩)
        ⟨[], ⟨(#[], 0, .fresh 0 0 (!w.params.followText "set-order")),
          Heap.get?_push_of_some _ new, walky_new P w⟩, Nat.le_refl _, fun x => by simp⟩
      intro s0 s' m mv hT hm hx e0
      subst e0
      obtain ⟨h', g2, d2, t2, o2⟩ := s'
      obtain rfl : g2 = s.gens := mv.gens
      obtain rfl : d2 = s.drawn := mv.drawn
      obtain rfl : o2 = s.os := mv.os
      show wpAny _ _ _ _ _ _
      refine wpAny_pure ?_
      show wpAny _ _ (ret Value.none) _ _ _
      refine wpAny_pure ⟨rfl, h', t2, m, rfl, hT, by rw [← len]; exact hm, hx, fun b o e => ?_⟩
      have b0 : b < s.heap.objs.size := Heap.lt_size e
      refine mv.heap b o (fun z => ?_) (Heap.get?_push_of_some _ (Heap.get?_push_of_some _ e))
      rcases List.mem_cons.mp z with z | z
      · exact Nat.ne_of_lt b0 z
      · have z' := List.mem_singleton.mp z
        rw [z1] at z'
        exact Nat.ne_of_lt (Nat.lt_succ_of_lt b0) z'
    · match r2, hr2 with
      | .error e, hr2 => exact hr2
      | .ok (.ret _), hr2 =>
        obtain ⟨rfl, M⟩ := hr2
        obtain ⟨h', tk, m, rfl, k⟩ := id M.ex
        repeat (any_goals (first | assumption | wp_step))
        exact hQ _ M
      | .ok .next, hr2 => exact hr2.elim
      | .ok .brk, hr2 => exact hr2.elim
      | .ok .cont, hr2 => exact hr2.elim
  | .ok .next, hr => exact hr.elim
  | .ok .brk, hr => exact hr.elim
  | .ok .cont, hr => exact hr.elim
end
end Yard
set_option maxRecDepth 100000
set_option maxHeartbeats 4000000
namespace Yard
open PySem PySem.Spec PyProof.Rows L2 PySem.Froz
section
variable {P : Program} {w : World} {A : Around} {E : Value → Shared → Prop} {s : Shared}

theorem perm_of_sub {α : Type} [BEq α] [LawfulBEq α] : ∀ (l m : List α), l.Nodup →
    (∀ x ∈ l, x ∈ m) → m.length ≤ l.length → m.Perm l
  | [], m, _, _, h => by
    have : m = [] := List.eq_nil_of_length_eq_zero (by simpa using h)
    rw [this]
  | x :: l, m, nd, sub, h => by
    obtain ⟨n1, n2⟩ := List.nodup_cons.mp nd
    have hx : x ∈ m := sub x List.mem_cons_self
    have len := List.length_erase_of_mem hx
    have h' : m.length ≤ l.length + 1 := h
    refine (List.perm_cons_erase hx).trans (List.Perm.cons x (perm_of_sub l (m.erase x) n2 (fun y hy => ?_) ?_))
    · have ne : y ≠ x := fun e => n1 (e ▸ hy)
      exact (List.mem_erase_of_ne ne).mpr (sub y (List.mem_cons_of_mem _ hy))
    · rw [len]; omega

/-- members of a payload are texts, and they are just the listed ones -/
theorem walky_texts {D : SD} {l : List Str} (W : Walky P w D l) (vs : List Value)
    (pm : vs.Perm (D.1.toList.map (·.2))) : ∃ ys, StrsAre vs ys ∧ ys.Perm l := by
  have tx : ∀ v ∈ vs, ∃ x t, v = Value.str x t := fun v hv => by
    obtain ⟨e, he, q⟩ := List.mem_map.mp (pm.mem_iff.mp hv)
    obtain ⟨⟨k, hk, _⟩, _⟩ := W.tx.el e he
    obtain ⟨t, z⟩ := Value.isStrOf_shape (x := k) (v := e.2) hk
    exact ⟨k, t, q.symm.trans z⟩
  have sa := strsAre_map vs tx
  refine ⟨_, sa, ?_⟩
  have cnt : (vs.map strOf).length = l.length := by
    rw [List.length_map, pm.length_eq, List.length_map, Array.length_toList]
    exact W.tx.sz
  have sub : ∀ x ∈ l, x ∈ vs.map strOf := fun x hx => by
    obtain ⟨e, he, q⟩ := (W.tx.mem x).mp hx
    obtain ⟨t, z⟩ := Value.isStrOf_shape (x := x) (v := e.2) q
    exact List.mem_map.mpr ⟨e.2, pm.mem_iff.mpr (List.mem_map.mpr ⟨e, he, rfl⟩), by rw [z]; rfl⟩
  exact perm_of_sub l _ W.nd sub (Nat.le_of_eq cnt)

/-- sorted(s), s a set of fewer than 64 texts -/
theorem sorted_texts {a : Addr} {l : List Str} {Q : Value → Shared → Prop} (T : TSet P w s.heap a l)
    (calm : A.handled = none) (few : l.length < 64)
    (hQ : ∀ s' p (out : Array Value) (c : Nat) (ys : List Str),
      (∀ b o, s.heap.get? b = some o → s'.heap.get? b = some o) → s'.gens = s.gens →
      s'.os = s.os → s.heap.objs.size ≤ p → s'.heap.get? p = some (seqObj "list" out c) →
      StrsAre out.toList ys → ys.Perm l → sortedS ys = true → Q (.ref p) s') :
    wpAny (model P w) A (call (.builtin "sorted") [.ref a]) Q E s := by
  obtain ⟨D, ho, W⟩ := T
  have sz : D.1.size = l.length := W.tx.sz
  refine Calls.call_function_entry kind_sorted plain_sorted entry_sorted (args_sorted1 _) ?_
  unfold Builtin.«sorted»
  refine wpAny_bind (m := checkCount "sorted" 1 1 _) (wpAny_pure ?_)
  refine wpAny_bind (collect_set (es := D.1) (ep := D.2.1) (t := D.2.2) (A := A.in1) calm
    ⟨_, ho, rfl, rfl⟩ W.tx.fit (by unfold scanBound; omega) W.ris W.led
    fun s1 vs k1 hz g1 o1 pm => ?_)
  obtain ⟨ys, sa, py⟩ := walky_texts W vs pm
  have n : vs.length = l.length := by rw [sa.length, py.length_eq]
  refine wpAny_bind (wpAny_newList ?_ (by rw [n, sizeLine_eq]; omega))
  have new : (s1.heap.push (seqObj "list" vs.toArray 0)).get? s1.heap.objs.size =
    some (seqObj "list" vs.toArray 0) := Heap.get?_push_size _ rfl
  refine wpAny_bind (wpAny_holding (wpAny_call_entry slot_list_sort ⟨_, new, rfl⟩ entry_list_sort
    (list_sort_treeK (κ := PyProof.Rows.strKind) strKind_oneLt new sa.keysOf
      (fun _ _ _ e => keyKind_strs (by rw [← e]; exact sa)) (by rw [n]; exact few)
      fun st hp hs => ⟨_, rfl, ?_⟩) (args_list_sort _)))
  obtain ⟨zs, b1, b2, b3⟩ := sorted_out_str sa hp hs
  generalize (arrOf st).map (·.2) = out at b1
  obtain ⟨c, hc⟩ := sortedHeap_at (vs := vs) (out := out) new
  refine wpAny_pure ⟨_, rfl, hQ _ s1.heap.objs.size out c zs (fun b u e => ?_) g1 o1 hz hc b1
    (b2.trans py) b3⟩
  have lt := Heap.lt_size (k1 b u e)
  refine (sortedHeap_old (Nat.ne_of_lt lt) ?_).trans (Heap.get?_push_of_some _ (k1 b u e))
  rw [size_push']
  exact Nat.lt_succ_of_lt lt
end

/-- the set of texts at a, in the layer's heap -/
def TxO (P : Program) (w : World) (a : Addr) (l : List Str) : HO := .ext fun h => TSet P w h a l
theorem txO_ok {P : Program} {w : World} {H : Hp} {h : Heap} {a : Addr} {l : List Str}
    (T : TSet P w h a l) : ObjOk P w H h a (TxO P w a l) :=
  ⟨T, T.elim fun _ q => ⟨_, q.1⟩, fun _ _ p k => tset_keep p k⟩

section
variable {X : Cx}
def rSetTx (K : PySem.W.Frag) (P : Program) (w : World) : List V → Hp → VK → Prop := fun xs H Q =>
  ∃ (l : Addr) (ts : List Str), xs = [.ref l] ∧ SqL K H l (ts.map V.str) ∧ ts.length ≤ 1000 ∧
    ∀ a m, H a = none → m.length ≤ ts.length → (∀ x, x ∈ m ↔ x ∈ ts) →
      Q (.ref a) (upd H a (TxO P w a m))
theorem cr_setTx (hc : X.calm = true) : CallR X (.type "set") (rSetTx X.K X.prog X.w) := by
  intro pins s σ H xs us Q I r h
  obtain ⟨l, ts, rfl, hl, few, q⟩ := h
  rw [Vals.ref1 r]
  obtain ⟨its, rv, pl, hz⟩ := I.list hl
  refine call_set_texts (P := X.prog) (w := X.w) (I.ok.hd hc) pl.isList (by simpa using rv.strs)
    (by unfold scanBound; omega) fun s2 M => ?_
  obtain ⟨h', tk, m, rfl, T, n, mem, k⟩ := M.ex
  exact ⟨.ref s.heap.objs.size, _, I.laid (t' := tk) k (Nat.le_refl _) (txO_ok T), rfl,
    q _ m (I.hok.fresh (Nat.le_refl _)) n mem⟩
def rSortedTx (P : Program) (w : World) : List V → Hp → VK → Prop := fun xs H Q =>
  ∃ (a : Addr) (m : List Str), xs = [.ref a] ∧ H a = some (TxO P w a m) ∧ m.length < 64 ∧
    ∀ ys p, ys.Perm m → sortedS ys = true → H p = none → Q (.ref p) (upd H p (.lst (ys.map V.str)))
theorem cr_sortedTx (hc : X.calm = true) : CallR X (.builtin "sorted") (rSortedTx X.prog X.w) := by
  intro pins s σ H xs us Q I r h
  obtain ⟨a, m, rfl, ha, few, q⟩ := h
  have T : TSet X.prog X.w s.heap a m := (I.hok a _ ha).1
  rw [Vals.ref1 r]
  refine sorted_texts T (I.ok.hd hc) few fun s' p out c ys k g o hp hg sa pm so => ?_
  have fr : H p = none := I.hok.fresh hp
  have ln : (ys.map V.str).length ≤ sizeLine := by
    rw [List.length_map, pm.length_eq, sizeLine_eq]; omega
  have J : Inv X pins σ (upd H p (.lst (ys.map V.str)))
      { s with heap := s'.heap, gens := s'.gens, drawn := s'.drawn, toks := s'.toks } :=
    I.call (ch := []) (Un.laid k hp fr)
      (I.hok.laid k hp ⟨ln, out.toList, c, vals_of_strs sa, hg⟩) (by rw [g]; exact I.bare)
      fun _ z => nomatch z
  have same : s' = { s with heap := s'.heap, gens := s'.gens, drawn := s'.drawn, toks := s'.toks } := by
    cases s'; cases s; cases o; rfl
  rw [same]
  exact ⟨.ref p, _, J, rfl, q ys p pm so fr⟩
end
end Yard
set_option maxRecDepth 100000
set_option maxHeartbeats 2000000
/-! The yard's own layer, part 5: powers of great numbers, texts and tuples turned round, a tuple held against (). -/
namespace Yard
open PySem PySem.Spec PyProof.Rows L2

/-! ### i ** j, of any size that fits -/
def CPowW (i j : Int) : Prop := 0 ≤ j ∧ ∃ b : Nat, i.natAbs < 2 ^ b ∧ 0 < b ∧ (b : Int) * j ≤ 2 ^ 27
theorem bits_le {i : Int} {b : Nat} (h : i.natAbs < 2 ^ b) (h0 : 0 < b) : Builtin.Int.intBits i ≤ b := by
  have h1 := PySem.Flt.log2_lt_of h0 h
  unfold Builtin.Int.intBits
  split <;> omega
theorem op_powW {X : Cx} : OpR X (binaryOp .Pow) (rI CPowW fun i j => .int (i ^ j.toNat)) :=
  opI fun i j _ _ _ _ _ hc q => by
    obtain ⟨h0, b, h1, h2, h3⟩ := hc
    refine pow_int h0 (Int.le_trans (Int.mul_le_mul_of_nonneg_right ?_ h0) h3) q
    exact Int.ofNat_le.mpr (bits_le h1 h2)

/-! ### s[::-1], t[::-1] -/
/-- the slice of all, backwards -/
abbrev backE (e : Expr) (k : Nat) (p1 p2 p3 pos : Pos) : Expr :=
  .Subscript e (.Slice none none (some (.UnaryOp .USub (.Constant (.int 1) k p1) p2)) p3) pos
def tBackS (te : TE) : TE := fun σ H Q => te σ H fun x H1 => ∃ z : Str, x = .str z ∧ z.length ≤ sizeLine ∧
  ∀ y : Str, y.length ≤ z.length → (∀ c ∈ y.cps.toList, c ∈ z.cps.toList) → Q (.str y) H1
def tBackT (K : PySem.W.Frag) (te : TE) : TE := fun σ H Q => te σ H fun x H1 => ∃ a xs, x = .ref a ∧
  SqT K H1 a xs ∧ ∀ p, H1 p = none → Q (.ref p) (upd H1 p (.tup xs.reverse))

theorem picked_le {α : Type} (f : Nat → Option α) : ∀ l : List Nat, (l.filterMap f).length ≤ l.length
  | [] => Nat.le_refl _
  | x :: l => by
    have h := picked_le f l
    cases e : f x <;> simp [e] <;> omega

section
variable {X : Cx} {e : Expr} {te : TE} {k : Nat} {p1 p2 p3 pos : Pos}
/-- behind the value, the slice's object -/
theorem back_of {R : V → Hp → VK → Prop} (he : PE X e te)
    (step : ∀ (pins : List (Addr × Obj)) (σ : L2.St) (H : Hp) (Q : VK) (s : Shared) (v : Value) (x : V) (vl vu vs : Value),
      Inv X pins σ H { s with heap := s.heap.push { cls := .type "slice", data := .fields #[vl, vu, vs] } } →
      RelV x v → IsPart vl none → IsPart vu none → IsPart vs (some (-1)) → R x H Q →
      ∃ T id, (∃ name, True ∧ name = ()) ∧ ({ s with heap := s.heap.push { cls := .type "slice", data := .fields #[vl, vu, vs] } } : Shared).TypeIs v T ∧
        Slot T "__getitem__" id ∧
        wpAny (model X.prog X.w) X.A (getItem v (.ref s.heap.objs.size)) (EP X pins σ Q) X.xe
          { s with heap := s.heap.push { cls := .type "slice", data := .fields #[vl, vu, vs] } }) :
    PE X (backE e k p1 p2 p3 pos) (fun σ H Q => te σ H fun x H1 => R x H1 Q) := by
  refine ⟨fun pins s σ H Q I h => Subscript_ (thn (he.run pins s σ H _ I h) fun v s1 ⟨x, H1, I1, r1, q1⟩ => ?_)⟩
  have neg1 : PO X (some (.UnaryOp .USub (.Constant (.int 1) k p1) p2))
    (tPart (tUn (rU fun i => .int (-i)) (tC (.int 1)))) := po_some (pe_un un_neg pe_int)
  refine wpAny_Slice (thn (po_none.run pins s1 σ H1 (fun o H' => o = none ∧ H' = H1) I1 ⟨rfl, rfl⟩)
    fun vl s2 ⟨_, _, I2, pl, el, e2⟩ => ?_)
  subst el e2
  refine thn (po_none.run pins s2 σ _ (fun o H' => o = none ∧ H' = _) I2 ⟨rfl, rfl⟩)
    fun vu s3 ⟨_, _, I3, pu, eu, e3⟩ => ?_
  subst eu e3
  refine thn (neg1.run pins s3 σ _ (fun o H' => o = some (-1) ∧ H' = _) I3 ⟨1, rfl, -1, rfl, rfl, rfl⟩)
    fun vs s4 ⟨_, _, I4, ps, eo, e4⟩ => ?_
  subst eo e4
  have J := I4.kept (t' := s4.toks) (h' := s4.heap.push { cls := .type "slice", data := .fields #[vl, vu, vs] })
    fun b o q => Heap.get?_push_of_some _ q
  obtain ⟨T, id, _, ht, sl, g⟩ := step pins σ _ Q s4 v x vl vu vs J r1 pl pu ps q1
  show wpAny (model X.prog X.w) X.A (subscriptTail e _ v (.ref s4.heap.objs.size)) _ _
    { s4 with heap := s4.heap.push { cls := .type "slice", data := .fields #[vl, vu, vs] } }
  exact tail_any (ops := [v, .ref s4.heap.objs.size]) ht sl.lookup g (by with_unfolding_all rfl)
end
end Yard
namespace Yard
open PySem PySem.Spec PyProof.Rows L2
section
variable {X : Cx} {e : Expr} {te : TE} {k : Nat} {p1 p2 p3 pos : Pos}
theorem strIdx_le (n : Nat) : (Builtin.Str.strSliceIndices none none (-1) n).length ≤ n := by
  show (sliceRange ((n : Int) - 1) (-1) (-1)).length ≤ n
  rw [PySem.W.krv_sliceRange, List.length_map, List.length_range]
  exact Nat.le_refl _
/-- s[::-1]: some text of its signs, no longer -/
theorem pe_revS (he : PE X e te) : PE X (backE e k p1 p2 p3 pos) (tBackS te) := by
  refine back_of (R := fun x H Q => ∃ z : Str, x = .str z ∧ z.length ≤ sizeLine ∧
    ∀ y : Str, y.length ≤ z.length → (∀ c ∈ y.cps.toList, c ∈ z.cps.toList) → Q (.str y) H) he ?_
  intro pins σ H Q s v x vl vu vs J rx pl pu ps h
  obtain ⟨z, rfl, hz, q⟩ := h
  obtain ⟨t, rfl⟩ := rx
  obtain ⟨l, rfl, hl⟩ := IsPart.raw pl
  obtain ⟨u, rfl, hu⟩ := IsPart.raw pu
  obtain ⟨m, rfl, hm⟩ := IsPart.raw ps
  obtain rfl : l = none := by cases l <;> first | rfl | cases hl
  obtain rfl : u = none := by cases u <;> first | rfl | cases hu
  obtain ⟨tk, rfl⟩ : ∃ tk, m = some (-1, tk) := by
    match m, hm with
    | some (i, tk), hm =>
      have e : i = -1 := Option.some.inj hm
      exact ⟨tk, by rw [e]⟩
  refine ⟨"str", _, ⟨(), trivial, rfl⟩, typeIs_str _ _ _, F.slot_str_getitem, ?_⟩
  refine wpAny_getItem_str_slice (l := none) (u := none) (st := some (-1, tk))
    ⟨_, Heap.get?_push_size _ rfl, rfl, rfl⟩ (by show ((-1 : Int) == 0) = false; decide) ?_
  have pick : ∀ l : List Nat, ∀ c ∈ l.filterMap (z.cps[·]?), c ∈ z.cps.toList := fun l c hc => by
    obtain ⟨i, _, hi⟩ := List.mem_filterMap.mp hc
    exact Array.mem_toList_iff.mpr (Array.mem_of_getElem? hi)
  have len : ((⟨((Builtin.Str.strSliceIndices none none (-1) z.length).filterMap (z.cps[·]?)).toArray⟩ : Str)).length ≤ z.length := by
    show (List.toArray _).size ≤ _
    rw [List.size_toArray]
    exact Nat.le_trans (picked_le _ _) (strIdx_le _)
  show Made.post (if ((-1 : Int) == 1 && (Builtin.Str.strSliceIndices none none (-1) z.length).length == z.length) = true then Made.val (.str z t)
    else Made.str ⟨((Builtin.Str.strSliceIndices none none (-1) z.length).filterMap (z.cps[·]?)).toArray⟩) _ _
  rw [if_neg (by simp)]
  exact ⟨Nat.le_trans len hz, .str _, H, J.tok _, ⟨_, rfl⟩, q _ len (fun c hc => pick _ c (by simpa using hc))⟩
end
end Yard

namespace Yard
open PySem PySem.Spec PyProof.Rows L2
theorem adjust_back (n : Nat) : Builtin.Slice.sliceAdjust none none (-1) (n : Int) = ((n : Int) - 1, -1) := by
  unfold Builtin.Slice.sliceAdjust
  simp
theorem places_back (n : Nat) : Builtin.Slice.slicePlaces ((n : Int) - 1) (-1) (-1) = n := by
  unfold Builtin.Slice.slicePlaces
  rw [if_neg (by decide)]
  split
  all_goals first | omega | (simp; done) | (simp; omega)
theorem congr_filterMap {α β : Type} {f g : α → Option β} : ∀ {l : List α}, (∀ x ∈ l, f x = g x) →
    l.filterMap f = l.filterMap g
  | [], _ => rfl
  | x :: l, h => by
    rw [List.filterMap_cons, List.filterMap_cons, h x List.mem_cons_self,
      congr_filterMap fun y hy => h y (List.mem_cons_of_mem _ hy)]
theorem pick_back (xs : Array Value) : ((List.range xs.size).filterMap fun (m : Nat) =>
    xs[(((xs.size : Int) - 1) + (m : Int) * (-1)).toNat]?).toArray = xs.toList.reverse.toArray := by
  have e : ∀ m ∈ List.range xs.size, xs[(((xs.size : Int) - 1) + (m : Int) * (-1)).toNat]? =
      xs.toList.reverse[m]? := fun m hm => by
    have hm' := List.mem_range.mp hm
    have q : (((xs.size : Int) - 1) + (m : Int) * (-1)).toNat = xs.size - 1 - m := by omega
    rw [q, List.getElem?_reverse (by simpa using hm'), ← Array.getElem?_toList]
    simp
  rw [congr_filterMap e]
  have z := PySem.W.krv_all xs.toList.reverse.toArray
  have n : xs.toList.reverse.toArray.size = xs.size := by simp
  rw [n] at z
  have z2 : ((List.range xs.size).filterMap fun m => xs.toList.reverse[m]?) = xs.toList.reverse := by
    simpa using z
  rw [z2]
section
variable {P : Program} {w : World} {A : Around} {E : Value → Shared → Prop} {s : Shared}
/-- t[::-1] -/
theorem getItem_back {t sl : Addr} {items : Array Value} {vl vu vs : Value} {Q : Value → Shared → Prop}
    (ht : IsTup s.heap t items) (hs : s.heap.IsSliceOf sl vl vu vs) (pl : IsPart vl none)
    (pu : IsPart vu none) (ps : IsPart vs (some (-1))) (hz : items.size ≤ sizeLine)
    (h : Q (.ref s.heap.objs.size) { s with heap := (s.heap.push
      ({ cls := .type "tuple", data := .seq items.toList.reverse.toArray } : Obj)) }) :
    wpAny (model P w) A (getItem (.ref t) (.ref sl)) Q E s := by
  have small : sizeOk (.seq items.toList.reverse.toArray) := by
    show items.toList.reverse.toArray.size ≤ sizeLine
    simpa using hz
  obtain ⟨so, at_, sc, sd⟩ := id hs
  have isSl : s.TypeIs (.ref sl) "slice" := ⟨so, at_, sc⟩
  unfold getItem
  try with_reducible refine wpAny_holding ?_
  try refine wpAny_bind (wpAny_pure ?_)
  refine wpAny_bind (wpAny_sequenceKey ht.typeIs (by decide) ?_)
  refine wpAny_bind (wpAny_callSpecial?_slot (name := Str.ofString "__getitem__") ht.typeIs
    PyProof.Rows.slot_tuple_getitem (wpAny_call_entry PyProof.Rows.slot_tuple_getitem ht.typeIs
      entry_tuple_getitem ?_ (args_tuple_getitem _ _)))
  show wpAny _ _ (Builtin.Tuple.tupleItemsOf (.ref t) >>= _) _ _ s
  refine wpAny_bind (PyProof.Rows.tupleItemsOf_ ht (wpAny_bind (wpAny_typeOf isSl ?_)))
  rw [if_pos (by decide)]
  have applied : ∀ {R : Int × Int × Nat → Shared → Prop}, R ((items.size : Int) - 1, -1, items.size) s →
      wpAny (model P w) A.in1 (Builtin.Slice.sliceApplied (.ref sl) (pure (items.size : Int))) R
        (fun e s' => E e s') s := by
    intro R hR
    unfold Builtin.Slice.sliceApplied Builtin.Slice.sliceFields
    refine wpAny_bind (wpAny_bind (wpAny_field at_ sd (x := vl) rfl (wpAny_bind (wpAny_field at_ sd
      (x := vu) rfl (wpAny_bind (wpAny_field at_ sd (x := vs) rfl (wpAny_pure ?_)))))))
    refine wpAny_bind (HT.slicePart_ ps ?_)
    show wpAny _ _ (if ((-1 : Int) == 0) = true then _ else _) _ _ s
    rw [if_neg (by decide)]
    refine wpAny_bind (HT.slicePart_ pl (wpAny_bind (HT.slicePart_ pu (wpAny_bind (wpAny_pure ?_)))))
    show wpAny _ _ (match Builtin.Slice.sliceAdjust none none (-1) (items.size : Int) with
      | (lo, hi) => pure (lo, (-1 : Int), Builtin.Slice.slicePlaces lo hi (-1))) _ _ s
    rw [adjust_back]
    show wpAny _ _ (pure ((items.size : Int) - 1, (-1 : Int),
      Builtin.Slice.slicePlaces ((items.size : Int) - 1) (-1) (-1))) _ _ s
    rw [places_back]
    exact wpAny_pure hR
  refine wpAny_bind (applied ?_)
  show wpAny _ _ (if (((items.size : Int) - 1) == 0 && (-1 : Int) == 1 && items.size == items.size) = true
    then _ else _) _ _ s
  rw [if_neg (by simp), pick_back]
  first
    | exact wpAny_bind (m := Builtin.Tuple.tupleExact _)
        (wpAny_newObj_type (wpAny_pure ⟨_, rfl, wpAny_pure h⟩) small)
    | exact wpAny_bind (m := Builtin.Tuple.tupleExact _)
        (wpAny_newObj_type (wpAny_bind (wpAny_pure (wpAny_pure ⟨_, rfl, wpAny_pure h⟩))) small)
    | exact wpAny_bind (wpAny_bind (m := Builtin.Tuple.tupleExact _)
        (wpAny_newObj_type (wpAny_pure (wpAny_pure ⟨_, rfl, wpAny_pure h⟩)) small))
    | exact wpAny_bind (wpAny_bind (m := Builtin.Tuple.tupleExact _)
        (wpAny_newObj_type (wpAny_pure ⟨_, rfl, wpAny_pure h⟩) small))
end
section
variable {X : Cx} {e : Expr} {te : TE} {k : Nat} {p1 p2 p3 pos : Pos}
theorem pe_revT (he : PE X e te) : PE X (backE e k p1 p2 p3 pos) (tBackT X.K te) := by
  refine back_of (R := fun x H Q => ∃ a xs, x = .ref a ∧ SqT X.K H a xs ∧
    ∀ p, H p = none → Q (.ref p) (upd H p (.tup xs.reverse))) he ?_
  intro pins σ H Q s v x vl vu vs J rx pl pu ps h
  obtain ⟨a, xs, rfl, hx, q⟩ := h
  cases rx
  obtain ⟨its, r, ht, hz⟩ := J.tuple hx
  refine ⟨"tuple", _, ⟨(), trivial, rfl⟩, ht.typeIs, PyProof.Rows.slot_tuple_getitem, ?_⟩
  refine getItem_back ht (Heap.IsSliceOf.new _ vl vu vs) pl pu ps
    (by rw [List.size_toArray, ← r.length]; exact hz) ?_
  have fr := J.hok.fresh (Nat.le_refl _)
  refine ⟨.ref _, _, J.laid (t' := s.toks) (o := .tup xs.reverse)
    (fun b o q => Heap.get?_push_of_some _ q) (Nat.le_refl _) ?_, rfl, q _ fr⟩
  exact ⟨by rw [List.length_reverse]; exact hz, its.reverse, r.reverse,
    ⟨_, Heap.get?_push_size _ rfl, rfl, _, rfl⟩⟩
end
end Yard
set_option maxRecDepth 100000
/-! The yard's own layer, part 6: a tuple held against (). -/
namespace Yard
open PySem PySem.Spec PyProof.Rows L2
def rEqE (K : PySem.W.Frag) (neg : Bool) : R2 := fun x y H Q => ∃ a b xs, x = .ref a ∧ y = .ref b ∧
  SqT K H a xs ∧ SqT K H b [] ∧ Q (.bl (if neg then !xs.isEmpty else xs.isEmpty)) H
section
variable {X : Cx}
theorem size_empty {xs : List V} {us : List Value} (r : Vals xs us) :
    ((List.range (min us.toArray.size (#[] : Array Value).size)).all (fun _ => true) &&
      us.toArray.size == (#[] : Array Value).size) = xs.isEmpty := by
  cases r <;> simp
theorem op_eqE {k : Nat} (hr : Room k X.A) : OpR X (compareOp .Eq) (rEqE X.K false) := by
  intro pins s σ H x y v u Q I rx ry h
  obtain ⟨a, b, xs, rfl, rfl, ha, hb, q⟩ := h
  cases rx
  cases ry
  obtain ⟨us, r, ⟨o1, p1, p2, p3⟩, _⟩ := I.tuple ha
  obtain ⟨ws, r2, ⟨o2, q1, q2, q3⟩, _⟩ := I.tuple hb
  cases r2
  refine SeqAt.eq_tupleAt (e := fun _ => true) ⟨o1, p1, p2, p3⟩ ⟨o2, q1, q2, q3⟩ hr.units0
    (fun j _ h2 => absurd h2 (by simp)) ?_
  rw [size_empty r]
  exact ⟨.bl xs.isEmpty, H, I, rfl, q⟩
theorem op_neE {k : Nat} (hr : Room k X.A) : OpR X (compareOp .NotEq) (rEqE X.K true) := by
  intro pins s σ H x y v u Q I rx ry h
  obtain ⟨a, b, xs, rfl, rfl, ha, hb, q⟩ := h
  cases rx
  cases ry
  obtain ⟨us, r, ⟨o1, p1, p2, p3⟩, _⟩ := I.tuple ha
  obtain ⟨ws, r2, ⟨o2, q1, q2, q3⟩, _⟩ := I.tuple hb
  cases r2
  refine SeqAt.RcNeAt.tuples (e := fun _ => true) ⟨o1, p1, p2, p3⟩ ⟨o2, q1, q2, q3⟩ hr.units0
    (fun j _ h2 => absurd h2 (by simp)) _ _ _ _ ?_
  rw [size_empty r]
  exact ⟨.bl (!xs.isEmpty), H, I, rfl, q⟩
end
end Yard
set_option maxRecDepth 100000
/-! The yard's own layer, part 7: defs of the text, the jar of draws. -/
namespace Yard
open PySem PySem.Spec PyProof.Rows L2

/-- a def of the text as the top has left it -/
structure Df (K : PySem.W.Frag) (mg : Str → Option Value) (x : Str) (st : Stmt) (ps : List Str) (f : Addr) (fd : FuncData) : Prop where
  fn : Fun K x x st f fd
  bd : Binds K fd ps []
  at_ : mg x = some (.ref f)
theorem Df.kp {K : PySem.W.Frag} {mg : Str → Option Value} {x : Str} {st : Stmt} {ps : List Str} {f : Addr} {fd : FuncData} (D : Df K mg x st ps f fd) : PySem.W.keepIn K (.ref f) = true := D.fn.kp

/-- all but what stands at a is as before -/
def Off (a : Addr) (H H' : Hp) : Prop := ∀ b o, b ≠ a → H b = some o → H' b = some o
theorem Off.refl (a : Addr) (H : Hp) : Off a H H := fun _ _ _ h => h
theorem Off.trans {a : Addr} {H H1 H2 : Hp} (h : Off a H H1) (k : Off a H1 H2) : Off a H H2 := fun b o n e => k b o n (h b o n e)
theorem Off.of_same {a : Addr} {H H' : Hp} (h : Same H H') : Off a H H' := fun b o _ e => h b o e
theorem Off.new {a p : Addr} {H : Hp} {o : HO} (h : H p = none) : Off a H (upd H p o) := fun b u _ e => by rw [upd_ne (ne_of_none e h)]; exact e
theorem Off.at_ {a : Addr} {H : Hp} {o : HO} : Off a H (upd H a o) := fun b u n e => by rw [upd_ne n]; exact e
theorem same_new {H : Hp} {p : Addr} {o : HO} (h : H p = none) : Same H (upd H p o) := fun b u e => by rw [upd_ne (ne_of_none e h)]; exact e
/-- the heap but for a -/
def wo (a : Addr) (H : Hp) : Hp := fun b => if b = a then none else H b
theorem wo_le (a : Addr) (H : Hp) : Same (wo a H) H := fun b o e => by
  unfold wo at e
  split at e
  · cases e
  · exact e
theorem wo_off {a : Addr} {H H' : Hp} (h : Off a H H') : Same (wo a H) (wo a H') := fun b o e => by
  unfold wo at e ⊢
  by_cases n : b = a
  · rw [if_pos n] at e; cases e
  · rw [if_neg n] at e ⊢; exact h b o n e
theorem wo_get {a b : Addr} {H : Hp} {o : HO} (n : b ≠ a) (h : H b = some o) : wo a H b = some o := by
  unfold wo; rw [if_neg n]; exact h

/-! ### the jar: what is left of a cell's digits, the cell mixed, how many draws were mixed -/
def JarAt (H : Hp) (a : Addr) (c : Nat) : Prop := ∃ x y z : Int, H a = some (.lst [.int x, .int y, .int z]) ∧ 0 ≤ x ∧ 0 ≤ y ∧ y < 2 ^ 100 ∧ 0 ≤ z ∧ z ≤ c
theorem JarAt.same {H H' : Hp} {a : Addr} {c : Nat} (h : JarAt H a c) (s : Same H H') : JarAt H' a c :=
  let ⟨x, y, z, e, r⟩ := h; ⟨x, y, z, s _ _ e, r⟩
theorem JarAt.ne {H : Hp} {a p : Addr} {c : Nat} (h : JarAt H a c) (n : H p = none) : p ≠ a := fun e => by
  obtain ⟨x, y, z, q, _⟩ := h
  rw [e, q] at n; cases n
theorem JarAt.mono {H : Hp} {a : Addr} {c c' : Nat} (h : JarAt H a c) (n : c ≤ c') : JarAt H a c' :=
  let ⟨x, y, z, e, r1, r2, r3, r4, r5⟩ := h; ⟨x, y, z, e, r1, r2, r3, r4, by omega⟩
end Yard
set_option maxRecDepth 100000
/-! The yard's own layer, part 8: comprehensions whose turns keep what stands; types of data. -/
namespace Yard
open PySem PySem.Spec PyProof.Rows L2

theorem same_mut {H H4 : Hp} {D : Addr} {o : HO} (s : Same H H4) (n : H D = none) : Same H (upd H4 D o) := fun b u e => by
  rw [upd_ne (ne_of_none e n)]; exact s b u e
theorem range_snoc {α : Type} (f : Nat → α) (i : Nat) : (List.range (i + 1)).map f = (List.range i).map f ++ [f i] := by
  rw [List.range_succ, List.map_append]; rfl

section
variable {J : It} {n : Nat} {G : Hp → Prop} {Y : Nat → Hp → V → Hp → Prop}
/-- [e for x in ..], e keeps the heap: the list of the values ys -/
theorem lc_pure (w : Walk J n G Y) (ys : Nat → V) {g : TG} {te : TE} {vs : List Nat} {σ : L2.St} {H1 : Hp} {D : Addr} {Qd : Hp → Prop} (hD : H1 D = none) (hn : n ≤ sizeLine)
    (hG : ∀ H, Same H1 H → G H)
    (hs : ∀ i x H H' (N : VK), i < n → Same H1 H → Y i H x H' → (∀ H4, Same H H4 → N (ys i) H4) → g x (wipe σ vs) H' fun σ2 H2 => wipe σ2 vs = wipe σ vs ∧ te σ2 H2 N)
    (hd : ∀ H, Same H1 H → H D = some (.lst ((List.range n).map ys)) → Qd H)
    (mono : ∀ x σ H (N N' : L2.St → Hp → Prop), (∀ σ2 H2, N σ2 H2 → N' σ2 H2) → g x σ H N → g x σ H N' := by exact fun _ _ _ _ _ h q => h _ _ q) :
    ∃ W : Nat → Nat → Hp → Prop, (∃ m, W 0 m (upd H1 D (.lst []))) ∧ ∀ i m H, W i m H →
      (J.stop i H ∧ Qd H) ∨ (J.go i H ∧ ∃ Nx : Hp → Prop, (∀ H', Nx H' → ∃ m', m' < m ∧ W (i + 1) m' H') ∧ ∀ x H', J.yld i H x H' → g x (wipe σ vs) H' fun σ2 H2 => wipe σ2 vs = wipe σ vs ∧ tYes σ2 H2 fun b H3 =>
        if b = true then te σ2 H3 fun y H4 => ∃ acc, H4 D = some (.lst acc) ∧ acc.length < sizeLine ∧ Nx (upd H4 D (.lst (acc ++ [y]))) else Nx H3) := by
  refine lc_it w (fun i H => Same H1 H ∧ H D = some (.lst ((List.range i).map ys))) ⟨same_new hD, upd_same⟩ (fun i H _ p => hG H p.1) ?_ (fun H p => hd H p.1 p.2)
  rintro i x H H' hi ⟨sm, e⟩ y
  refine mono _ _ _ _ _ ?_ (hs i x H H' (fun y H4 => ∃ acc, H4 D = some (.lst acc) ∧ acc.length < sizeLine ∧ Same H1 (upd H4 D (.lst (acc ++ [y]))) ∧
    upd H4 D (.lst (acc ++ [y])) D = some (.lst ((List.range (i + 1)).map ys))) hi sm y fun H4 s4 =>
      ⟨_, s4 _ _ e, by rw [List.length_map, List.length_range]; omega, same_mut (fun b o q => s4 b o (sm b o q)) hD, by rw [upd_same, range_snoc]⟩)
  rintro σ2 H2 ⟨z1, z2⟩
  exact ⟨z1, z2⟩

/-- [x for x in .. if t], the test keeps the heap: those of the values ys whose test bs is true -/
theorem lc_filt (w : Walk J n G Y) (ys : Nat → V) (bs : Nat → Bool) {g : TG} {tt : TT} {te : TE} {vs : List Nat} {σ : L2.St} {H1 : Hp} {D : Addr} {Qd : Hp → Prop} (hD : H1 D = none) (hn : n ≤ sizeLine)
    (hG : ∀ H, Same H1 H → G H)
    (hs : ∀ i x H H' (N : Bool → Hp → Prop), i < n → Same H1 H → Y i H x H' → (∀ H3, Same H H3 → N (bs i) H3) → g x (wipe σ vs) H' fun σ2 H2 => wipe σ2 vs = wipe σ vs ∧ tt σ2 H2 N ∧ ∀ H3 (M : VK), M (ys i) H3 → te σ2 H3 M)
    (hd : ∀ H, Same H1 H → H D = some (.lst (((List.range n).filter bs).map ys)) → Qd H)
    (mono : ∀ x σ H (N N' : L2.St → Hp → Prop), (∀ σ2 H2, N σ2 H2 → N' σ2 H2) → g x σ H N → g x σ H N' := by exact fun _ _ _ _ _ h q => h _ _ q)
    (mono2 : ∀ σ H (N N' : Bool → Hp → Prop), (∀ b H2, N b H2 → N' b H2) → tt σ H N → tt σ H N') :
    ∃ W : Nat → Nat → Hp → Prop, (∃ m, W 0 m (upd H1 D (.lst []))) ∧ ∀ i m H, W i m H →
      (J.stop i H ∧ Qd H) ∨ (J.go i H ∧ ∃ Nx : Hp → Prop, (∀ H', Nx H' → ∃ m', m' < m ∧ W (i + 1) m' H') ∧ ∀ x H', J.yld i H x H' → g x (wipe σ vs) H' fun σ2 H2 => wipe σ2 vs = wipe σ vs ∧ tt σ2 H2 fun b H3 =>
        if b = true then te σ2 H3 fun y H4 => ∃ acc, H4 D = some (.lst acc) ∧ acc.length < sizeLine ∧ Nx (upd H4 D (.lst (acc ++ [y]))) else Nx H3) := by
  refine lc_it w (fun i H => Same H1 H ∧ H D = some (.lst (((List.range i).filter bs).map ys))) ⟨same_new hD, upd_same⟩ (fun i H _ p => hG H p.1) ?_ (fun H p => hd H p.1 p.2)
  rintro i x H H' hi ⟨sm, e⟩ y
  have snoc : (List.range (i + 1)).filter bs = (List.range i).filter bs ++ (if bs i = true then [i] else []) := by
    rw [List.range_succ, List.filter_append]
    cases q : bs i <;> simp [q]
  refine mono _ _ _ _ _ ?_ (hs i x H H' (fun b H3 => b = bs i ∧ Same H H3) hi sm y fun H3 s3 => ⟨rfl, s3⟩)
  rintro σ2 H2 ⟨z1, z2, z3⟩
  refine ⟨z1, mono2 _ _ _ _ ?_ z2⟩
  rintro b H3 ⟨rfl, s3⟩
  have s1 : Same H1 H3 := fun c o q => s3 c o (sm c o q)
  have e3 := s3 _ _ e
  by_cases hb : bs i = true
  · rw [if_pos hb]
    refine z3 H3 _ ⟨_, e3, ?_, same_mut s1 hD, ?_⟩
    · rw [List.length_map]
      exact Nat.lt_of_le_of_lt (List.length_filter_le _ _) (by rw [List.length_range]; omega)
    · rw [upd_same, snoc, if_pos hb, List.map_append]; rfl
  · rw [if_neg hb]
    refine ⟨s1, ?_⟩
    rw [e3, snoc, if_neg hb, List.append_nil]

/-- [e for x in ..]: any turns, by a word over the list made so far -/
theorem lc_acc (w : Walk J n G Y) (Pv : Nat → List V → Hp → Prop) {g : TG} {te : TE} {vs : List Nat} {σ : L2.St} {H1 : Hp} {D : Addr} {Qd : Hp → Prop} (hn : n ≤ sizeLine)
    (h0 : Pv 0 [] (upd H1 D (.lst []))) (hG : ∀ i acc H, i ≤ n → Pv i acc H → G H)
    (hs : ∀ i x H H' acc (N : VK), i < n → Pv i acc H → H D = some (.lst acc) → acc.length = i → Y i H x H' →
      (∀ y H4, H4 D = some (.lst acc) → Pv (i + 1) (acc ++ [y]) (upd H4 D (.lst (acc ++ [y]))) → N y H4) → g x (wipe σ vs) H' fun σ2 H2 => wipe σ2 vs = wipe σ vs ∧ te σ2 H2 N)
    (hd : ∀ H acc, Pv n acc H → H D = some (.lst acc) → acc.length = n → Qd H)
    (mono : ∀ x σ H (N N' : L2.St → Hp → Prop), (∀ σ2 H2, N σ2 H2 → N' σ2 H2) → g x σ H N → g x σ H N' := by exact fun _ _ _ _ _ h q => h _ _ q) :
    ∃ W : Nat → Nat → Hp → Prop, (∃ m, W 0 m (upd H1 D (.lst []))) ∧ ∀ i m H, W i m H →
      (J.stop i H ∧ Qd H) ∨ (J.go i H ∧ ∃ Nx : Hp → Prop, (∀ H', Nx H' → ∃ m', m' < m ∧ W (i + 1) m' H') ∧ ∀ x H', J.yld i H x H' → g x (wipe σ vs) H' fun σ2 H2 => wipe σ2 vs = wipe σ vs ∧ tYes σ2 H2 fun b H3 =>
        if b = true then te σ2 H3 fun y H4 => ∃ acc, H4 D = some (.lst acc) ∧ acc.length < sizeLine ∧ Nx (upd H4 D (.lst (acc ++ [y]))) else Nx H3) := by
  refine lc_it w (fun i H => ∃ acc, Pv i acc H ∧ H D = some (.lst acc) ∧ acc.length = i) ⟨[], h0, upd_same, rfl⟩ (fun i H hi ⟨acc, p, _⟩ => hG i acc H hi p) ?_ (fun H ⟨acc, p, e, l⟩ => hd H acc p e l)
  rintro i x H H' hi ⟨acc, p, e, l⟩ y
  refine mono _ _ _ _ _ ?_ (hs i x H H' acc (fun y H4 => ∃ acc, H4 D = some (.lst acc) ∧ acc.length < sizeLine ∧ ∃ acc', Pv (i + 1) acc' (upd H4 D (.lst (acc ++ [y]))) ∧
    upd H4 D (.lst (acc ++ [y])) D = some (.lst acc') ∧ acc'.length = i + 1) hi p e l y fun y H4 e4 p4 =>
      ⟨acc, e4, by omega, acc ++ [y], p4, upd_same, by rw [List.length_append, l]; rfl⟩)
  rintro σ2 H2 ⟨z1, z2⟩
  exact ⟨z1, z2⟩
end

/-! ### isinstance of data -/
def tyName : PyData → String
  | .none => "NoneType"
  | .bool _ => "bool"
  | .int _ => "int"
  | .str _ => "str"
  | .list _ => "list"
  | .tuple _ => "tuple"
  | .dict _ => "dict"
theorem Dq.ty {K : PySem.W.Frag} {H : Hp} {v : V} {d : PyData} (h : Dq H v d) : TyX K H v (.type (tyName d)) := by
  cases h with
  | non => exact .base .non
  | bl b => exact .base (.bl b)
  | int i => exact .base (.int i)
  | str x => exact .base (.str x)
  | lst e _ => exact .base (.lst e)
  | tup e _ => exact .base (.tup e)
  | dic e => exact .base (.dK e)
theorem isi_data {K : PySem.W.Frag} {H : Hp} {v : V} {d : PyData} {c : String} {b : Bool} {Q : VK} (h : Dq H v d) (hb : kitB (tyName d) c = some b) (q : Q (.bl b) H) : rIsi K [v, .ty c] H Q :=
  ⟨v, .ty c, _, _, b, rfl, .ty c, h.ty, kit_ty hb, q⟩
def isTup : PyData → Bool
  | .tuple _ => true
  | _ => false
def isStr : PyData → Bool
  | .str _ => true
  | _ => false
theorem kit_tup (d : PyData) : kitB (tyName d) "tuple" = some (isTup d) := by
  have k0 : kitB "NoneType" "tuple" = some false := by decide +kernel
  have k1 : kitB "bool" "tuple" = some false := by decide +kernel
  have k2 : kitB "int" "tuple" = some false := by decide +kernel
  have k3 : kitB "str" "tuple" = some false := by decide +kernel
  have k4 : kitB "list" "tuple" = some false := by decide +kernel
  have k5 : kitB "tuple" "tuple" = some true := by decide +kernel
  have k6 : kitB "dict" "tuple" = some false := by decide +kernel
  cases d <;> first | exact k0 | exact k1 | exact k2 | exact k3 | exact k4 | exact k5 | exact k6
theorem kit_str (d : PyData) : kitB (tyName d) "str" = some (isStr d) := by
  have k0 : kitB "NoneType" "str" = some false := by decide +kernel
  have k1 : kitB "bool" "str" = some false := by decide +kernel
  have k2 : kitB "int" "str" = some false := by decide +kernel
  have k3 : kitB "str" "str" = some true := by decide +kernel
  have k4 : kitB "list" "str" = some false := by decide +kernel
  have k5 : kitB "tuple" "str" = some false := by decide +kernel
  have k6 : kitB "dict" "str" = some false := by decide +kernel
  cases d <;> first | exact k0 | exact k1 | exact k2 | exact k3 | exact k4 | exact k5 | exact k6
end Yard
set_option maxRecDepth 100000
/-! The yard's own layer, part 9: readings that make data beside the jar. -/
namespace Yard
open PySem PySem.Spec PyProof.Rows L2

theorem atI_at {α : Type} {l : List α} {r : Int} (h0 : 0 ≤ r) (h : r.toNat < l.length) : atI l r = some l[r.toNat] := by
  have e : r = ((r.toNat : Nat) : Int) := by omega
  have g : atI l ((r.toNat : Nat) : Int) = some l[r.toNat] := atI_nat (List.getElem?_eq_getElem h)
  rw [← e] at g
  exact g
theorem JarAt.upd {H : Hp} {a p : Addr} {c : Nat} {o : HO} (j : JarAt H a c) (n : p ≠ a) : JarAt (L2.upd H p o) a c :=
  let ⟨x, y, z, e, r⟩ := j
  ⟨x, y, z, by rw [upd_ne (Ne.symm n)]; exact e, r⟩
theorem Off.upd {H H' : Hp} {a p : Addr} {o : HO} (h : Off a H H') (n : H p = none) : Off a H (L2.upd H' p o) := fun b u nb e => by
  rw [upd_ne (ne_of_none e n)]; exact h b u nb e
/-- a[lo:hi] of any list -/
def cutL {α : Type} (xs : List α) (lo hi : Option Int) : List α := (xs.drop (HT.sIx xs.length 0 lo)).take (HT.sIx xs.length xs.length hi - HT.sIx xs.length 0 lo)
theorem DqL.cut {H : Hp} {vs : List V} {ds : List PyData} (h : DqL H vs ds) (lo hi : Option Int) : DqL H (cutV vs lo hi) (cutL ds lo hi) := by
  unfold cutV cutL
  rw [h.len]
  exact (h.drop _).take _
theorem cutL_whole {α : Type} {xs : List α} {lo hi : Option Int} (h : HT.sIx xs.length 0 lo = 0 ∧ HT.sIx xs.length xs.length hi = xs.length) : cutL xs lo hi = xs := by
  unfold cutL
  rw [h.1, h.2]
  show List.take (xs.length - 0) xs = xs
  rw [Nat.sub_zero]
  exact List.take_length
theorem DqL.nil_of {H : Hp} {ds : List PyData} (h : DqL H [] ds) : ds = [] := by
  cases h; rfl

/-- what is known of data in a heap -/
def Knows (a : Addr) (H : Hp) (G : List (V × PyData)) : Prop := ∀ x ∈ G, Dq (wo a H) x.1 x.2
theorem Knows.mono {a : Addr} {H H' : Hp} {G : List (V × PyData)} (k : Knows a H G) (o : Off a H H') : Knows a H' G := fun x hx => (k x hx).mono (wo_off o)
theorem Knows.cons {a : Addr} {H : Hp} {G : List (V × PyData)} {v : V} {d : PyData} (k : Knows a H G) (h : Dq (wo a H) v d) : Knows a H ((v, d) :: G) := fun x hx => by
  rcases List.mem_cons.mp hx with e | e
  · rw [e]; exact h
  · exact k x e
/-- the reading makes a datum of the kind; c, c': draws before and behind -/
def Made (a : Addr) (c c' : Nat) (σ : L2.St) (G : List (V × PyData)) (t : TE) (Pd : PyData → Prop) : Prop :=
  ∀ H Q, JarAt H a c → Knows a H G → (∀ v d H', Off a H H' → JarAt H' a c' → Dq (wo a H') v d → Pd d → Q v H') → t σ H Q
def MadeL (a : Addr) (c c' : Nat) (σ : L2.St) (G : List (V × PyData)) (t : TA) (Pd : List PyData → Prop) : Prop :=
  ∀ H Q, JarAt H a c → Knows a H G → (∀ vs ds H', Off a H H' → JarAt H' a c' → DqL (wo a H') vs ds → Pd ds → Q vs H') → t σ H Q
/-- a part of a slice, known -/
def MadeO (σ : L2.St) (t : TO) (o : Option Int) : Prop := ∀ H Q, Q o H → t σ H Q
section
variable {a : Addr} {c c' c'' : Nat} {σ : L2.St} {G : List (V × PyData)} {t t1 t2 : TE} {ta : TA}
theorem Made.imp {P P' : PyData → Prop} (h : Made a c c' σ G t P) (i : ∀ d, P d → P' d) : Made a c c' σ G t P' := fun H Q j k q =>
  h H Q j k fun v d H' o j' dq p => q v d H' o j' dq (i d p)
theorem MadeL.imp {P P' : List PyData → Prop} (h : MadeL a c c' σ G ta P) (i : ∀ d, P d → P' d) : MadeL a c c' σ G ta P' := fun H Q j k q =>
  h H Q j k fun v d H' o j' dq p => q v d H' o j' dq (i d p)
theorem made_c {v : V} {d : PyData} (h : ∀ H, Dq H v d) : Made a c c σ G (tC v) (· = d) := fun H Q j _ q => q v d H (Off.refl _ _) j (h _) rfl
theorem made_non : Made a c c σ G (tC .non) (· = .none) := made_c fun _ => .non
theorem made_bl (b : Bool) : Made a c c σ G (tC (.bl b)) (· = .bool b) := made_c fun _ => .bl b
theorem made_int (i : Int) : Made a c c σ G (tC (.int i)) (· = .int i) := made_c fun _ => .int i
theorem made_str (x : Str) : Made a c c σ G (tC (.str x)) (· = .str x) := made_c fun _ => .str x
theorem made_var {i : Nat} {v : V} {d : PyData} (hs : σ[i]? = some (some v)) (hg : (v, d) ∈ G) : Made a c c σ G (tVar i) (· = d) := fun H Q j k q =>
  ⟨v, hs, q v d H (Off.refl _ _) j (k _ hg) rfl⟩
theorem madeL_nil : MadeL a c c σ G tNil (· = []) := fun H Q j _ q => q [] [] H (Off.refl _ _) j .nil rfl
theorem madeL_cons {Pd : PyData → Prop} {Ps Pn : List PyData → Prop} (h : Made a c c' σ G t Pd) (h2 : MadeL a c' c'' σ G ta Ps) (i : ∀ d ds, Pd d → Ps ds → Pn (d :: ds)) : MadeL a c c'' σ G (tCons t ta) Pn := fun H Q j k q =>
  h H _ j k fun v d H1 o1 j1 dq1 p1 => h2 H1 _ j1 (k.mono o1) fun vs ds H2 o2 j2 dq2 p2 => q _ (d :: ds) H2 (o1.trans o2) j2 (.cons (dq1.mono (wo_off o2)) dq2) (i d ds p1 p2)
theorem madeL_e {d : PyData} {ds : List PyData} (h : Made a c c' σ G t (· = d)) (h2 : MadeL a c' c'' σ G ta (· = ds)) : MadeL a c c'' σ G (tCons t ta) (· = d :: ds) :=
  madeL_cons h h2 fun _ _ e1 e2 => by rw [e1, e2]
/-- n data of one kind -/
def Alls (Pd : PyData → Prop) (n : Nat) (ds : List PyData) : Prop := ds.length = n ∧ ∀ d ∈ ds, Pd d
theorem madeL_a {Pd : PyData → Prop} {n : Nat} (h : Made a c c' σ G t Pd) (h2 : MadeL a c' c'' σ G ta (Alls Pd n)) : MadeL a c c'' σ G (tCons t ta) (Alls Pd (n + 1)) :=
  madeL_cons h h2 fun d ds e1 e2 => ⟨congrArg (· + 1) e2.1, fun x hx => by
    rcases List.mem_cons.mp hx with e | e
    · rw [e]; exact e1
    · exact e2.2 x e⟩
theorem madeL_0 {Pd : PyData → Prop} : MadeL a c c σ G tNil (Alls Pd 0) := madeL_nil.imp fun _ e => by rw [e]; exact ⟨rfl, fun _ h => nomatch h⟩
theorem made_tup {Ps : List PyData → Prop} {Pd : PyData → Prop} (h : MadeL a c c' σ G ta Ps) (l : ∀ ds, Ps ds → ds.length ≤ sizeLine) (i : ∀ ds, Ps ds → Pd (.tuple ds)) : Made a c c' σ G (tTup ta) Pd := fun H Q j k q =>
  h H _ j k fun vs ds H1 o1 j1 dq p => ⟨by rw [dq.len]; exact l ds p, fun r nr => by
    have nra := j1.ne nr
    have w1 : Same (wo a H1) (wo a (L2.upd H1 r (.tup vs))) := wo_off (Off.new nr)
    exact q _ (.tuple ds) _ (o1.trans (Off.new nr)) (j1.upd nra) (.tup (wo_get nra upd_same) (dq.mono w1)) (i ds p)⟩
theorem made_tupE {ds : List PyData} (h : MadeL a c c' σ G ta (· = ds)) (l : ds.length ≤ 100) : Made a c c' σ G (tTup ta) (· = .tuple ds) :=
  made_tup h (fun _ e => by rw [e, sizeLine_eq]; omega) fun _ e => by rw [e]
theorem made_lst {Ps : List PyData → Prop} {Pd : PyData → Prop} (h : MadeL a c c' σ G ta Ps) (l : ∀ ds, Ps ds → ds.length ≤ sizeLine) (i : ∀ ds, Ps ds → Pd (.list ds)) : Made a c c' σ G (tLst ta) Pd := fun H Q j k q =>
  h H _ j k fun vs ds H1 o1 j1 dq p => ⟨by rw [dq.len]; exact l ds p, fun r nr => by
    have nra := j1.ne nr
    have w1 : Same (wo a H1) (wo a (L2.upd H1 r (.lst vs))) := wo_off (Off.new nr)
    exact q _ (.list ds) _ (o1.trans (Off.new nr)) (j1.upd nra) (.lst (wo_get nra upd_same) (dq.mono w1)) (i ds p)⟩
theorem made_lstE {ds : List PyData} (h : MadeL a c c' σ G ta (· = ds)) (l : ds.length ≤ 100) : Made a c c' σ G (tLst ta) (· = .list ds) :=
  made_lst h (fun _ e => by rw [e, sizeLine_eq]; omega) fun _ e => by rw [e]
/-- a list of n data of one kind -/
def ListOf (Pd : PyData → Prop) (n : Nat) (d : PyData) : Prop := ∃ ds, d = .list ds ∧ Alls Pd n ds
theorem made_lstA {Pd : PyData → Prop} {n : Nat} (h : MadeL a c c' σ G ta (Alls Pd n)) (l : n ≤ 100) : Made a c c' σ G (tLst ta) (ListOf Pd n) :=
  made_lst h (fun _ e => by rw [e.1, sizeLine_eq]; omega) fun ds e => ⟨ds, rfl, e⟩
theorem made_dic : Made a c c σ G tDNewK (· = .dict []) := fun H Q j k q r nr => by
  have nra := j.ne nr
  exact q _ (.dict []) _ (Off.new nr) (j.upd nra) (.dic (wo_get nra upd_same)) rfl
theorem made_set {i : Nat} {u : TS} {D : Ends} {H : Hp} {Pd : PyData → Prop} (h : Made a c c' σ G t Pd) (j : JarAt H a c) (k : Knows a H G)
    (q : ∀ v d H', Off a H H' → JarAt H' a c' → Dq (wo a H') v d → Pd d → u D (σ.set i (some v)) H') : tSeq (tAsg t (gName i)) u D σ H := h H _ j k q
theorem madeL_alls {Pd : PyData → Prop} {ds : List PyData} (h : MadeL a c c' σ G ta (· = ds)) (p : ∀ d ∈ ds, Pd d) : MadeL a c c' σ G ta (Alls Pd ds.length) := h.imp fun _ e => by rw [e]; exact ⟨rfl, p⟩
/-- two lists, one behind the other -/
theorem made_cat {Pd : PyData → Prop} {n m : Nat} (h : Made a c c' σ G t1 (ListOf Pd n)) (h2 : Made a c' c'' σ G t2 (ListOf Pd m)) (l : n + m ≤ 100) : Made a c c'' σ G (tOp rCat t1 t2) (ListOf Pd (n + m)) := fun H Q j k q =>
  h H _ j k fun v d H1 o1 j1 dq1 ⟨ds, e1, p1⟩ => h2 H1 _ j1 (k.mono o1) fun u e H2 o2 j2 dq2 ⟨es, e2, p2⟩ => by
    subst e1 e2
    have dq1' := dq1.mono (wo_off o2)
    cases dq1' with
    | @lst p xs _ ep hl1 =>
    cases dq2 with
    | @lst r ys _ er hl2 =>
      refine ⟨p, r, xs, ys, rfl, rfl, wo_le _ _ _ _ ep, wo_le _ _ _ _ er, by rw [hl1.len, hl2.len, p1.1, p2.1, sizeLine_eq]; omega, fun z nz => ?_⟩
      have nza := j2.ne nz
      have w1 : Same (wo a H2) (wo a (L2.upd H2 z (.lst (xs ++ ys)))) := wo_off (Off.new nz)
      refine q _ (.list (ds ++ es)) _ (o1.trans (o2.trans (Off.new nz))) (j2.upd nza) (.lst (wo_get nza upd_same) ((hl1.mono w1).app (hl2.mono w1))) ⟨_, rfl, by rw [List.length_append, p1.1, p2.1], fun x hx => ?_⟩
      rcases List.mem_append.mp hx with e | e
      · exact p1.2 x e
      · exact p2.2 x e
/-- two tuples, one behind the other -/
theorem made_catT {K : PySem.W.Frag} {Ps Qs : List PyData → Prop} {Pd : PyData → Prop} (h : Made a c c' σ G t1 (fun d => ∃ ds, d = .tuple ds ∧ Ps ds)) (h2 : Made a c' c'' σ G t2 (fun d => ∃ ds, d = .tuple ds ∧ Qs ds))
    (l : ∀ ds es, Ps ds → Qs es → ds.length + es.length ≤ sizeLine) (i : ∀ ds es, Ps ds → Qs es → Pd (.tuple (ds ++ es))) : Made a c c'' σ G (tOp (rCatA K) t1 t2) Pd := fun H Q j k q =>
  h H _ j k fun v d H1 o1 j1 dq1 ⟨ds, e1, p1⟩ => h2 H1 _ j1 (k.mono o1) fun u e H2 o2 j2 dq2 ⟨es, e2, p2⟩ => by
    subst e1 e2
    have dq1' := dq1.mono (wo_off o2)
    cases dq1' with
    | @tup p xs _ ep hl1 =>
    cases dq2 with
    | @tup r ys _ er hl2 =>
      have gp := i ds es p1 p2
      refine ⟨p, r, xs, ys, rfl, rfl, SqT.of (wo_le _ _ _ _ ep), SqT.of (wo_le _ _ _ _ er), by rw [hl1.len, hl2.len]; exact l _ _ p1 p2, fun e => ?_, fun _ e => ?_, fun _ _ z nz => ?_⟩
      · subst e
        have := hl1.nil_of
        subst this
        exact q _ (.tuple es) H2 (o1.trans o2) j2 (.tup er hl2) gp
      · subst e
        have := hl2.nil_of
        subst this
        rw [List.append_nil] at gp
        exact q _ (.tuple ds) H2 (o1.trans o2) j2 (.tup ep hl1) gp
      · have nza := j2.ne nz
        have w1 : Same (wo a H2) (wo a (L2.upd H2 z (.tup (xs ++ ys)))) := wo_off (Off.new nz)
        exact q _ (.tuple (ds ++ es)) _ (o1.trans (o2.trans (Off.new nz))) (j2.upd nza) (.tup (wo_get nza upd_same) ((hl1.mono w1).app (hl2.mono w1))) gp
theorem made_sl {K : PySem.W.Frag} {ds : List PyData} {tl th : TO} {lo hi : Option Int} (h : Made a c c' σ G t (· = .tuple ds)) (hl : MadeO σ tl lo) (hh : MadeO σ th hi) : Made a c c' σ G (tSl (rSlA K) t tl th) (· = .tuple (cutL ds lo hi)) := fun H Q j k q =>
  h H _ j k fun v d H1 o1 j1 dq1 e1 => hl _ _ (hh _ _ (by
    subst e1
    have q' := fun v d H' o j' dq e => q v d H' (o1.trans o) j' dq e
    cases dq1 with
    | @tup p xs _ ep hl1 =>
      refine ⟨p, xs, rfl, SqT.of (wo_le _ _ _ _ ep), fun e => ?_, fun _ z nz => ?_⟩
      · refine q' _ _ H1 (Off.refl _ _) j1 (.tup ep hl1) ?_
        rw [cutL_whole (by rw [← hl1.len]; exact e)]
      · have nza := j1.ne nz
        have w1 : Same (wo a H1) (wo a (L2.upd H1 z (.tup (cutV xs lo hi)))) := wo_off (Off.new nz)
        exact q' _ _ _ (Off.new nz) (j1.upd nza) (.tup (wo_get nza upd_same) ((hl1.cut lo hi).mono w1)) rfl))
theorem madeO_none : MadeO σ tNoPart none := fun _ _ q => q
theorem madeO_int {i : Int} : MadeO σ (tPart (tC (.int i))) (some i) := fun _ _ q => ⟨i, rfl, q⟩
theorem madeO_var {n : Nat} {i : Int} (h : σ[n]? = some (some (.int i))) : MadeO σ (tPart (tVar n)) (some i) := fun _ _ q => ⟨_, h, i, rfl, q⟩
theorem madeO_add {n : Nat} {i j : Int} (h : σ[n]? = some (some (.int i))) : MadeO σ (tPart (tOp (rI0 fun i j => .int (i + j)) (tVar n) (tC (.int j)))) (some (i + j)) := fun _ _ q => ⟨_, h, i, j, rfl, rfl, _, rfl, q⟩
end
end Yard
set_option maxRecDepth 100000
/-! The yard's own layer, part 10: the order of tuples of texts and numbers, told place by place. -/
namespace Yard
open PySem PySem.Spec PyProof.Rows L2
def EqAll (v w : Value) (e : Bool) : Prop := ∀ A s, SeqAt.EqAt A s v w e
def LtAll (v w : Value) (r : Bool) : Prop :=
  ∀ (A : Around) (s : Shared) (prog : Program) (wd : World) (E : Value → Shared → Prop)
    (Q : Value → Shared → Prop), Q (.bool r) s →
    wpAny (model prog wd) A (richCompare .Lt v w) Q E s
/-- the first places at which they differ decide -/
inductive Lex : List Value → List Value → Bool → Prop
  | nn : Lex [] [] false
  | nc {w : Value} {ws : List Value} : Lex [] (w :: ws) true
  | cn {v : Value} {vs : List Value} : Lex (v :: vs) [] false
  | same {v w : Value} {vs ws : List Value} {r : Bool} : EqAll v w true → Lex vs ws r →
      Lex (v :: vs) (w :: ws) r
  | unlike {v w : Value} {vs ws : List Value} {r : Bool} : EqAll v w false → LtAll v w r →
      Lex (v :: vs) (w :: ws) r
theorem Lex.ends {vs ws : List Value} {r : Bool} (h : Lex vs ws r) (n m : Nat)
    (k : vs.length + m = ws.length + n) (z : vs.zip ws = []) : r = decide (n < m) := by
  cases h with
  | nn => exact (decide_eq_false (by simp at k; omega)).symm
  | nc => exact (decide_eq_true (by simp at k; omega)).symm
  | cn => exact (decide_eq_false (by simp at k; omega)).symm
  | same _ _ => cases z
  | unlike _ _ => cases z
section
open PySem.SeqAt
open PySem.AutoSeq1 (wpAny_loadPart')
open PySem.MeetsSeq PySem.MeetsSeq2 PySem.MeetsSeq3
theorem tuple_lt_lex (l b : Addr) (xs ys : Array Value) (n m : Nat) (d1 d2 : Option Addr)
    (s1 s2 : Array (Option Value)) (r : Bool) (hx : Lex xs.toList ys.toList r) :
    Meets (Builtin.«tuple.__lt__» ⟨[.ref l, .ref b], []⟩) fun _ R s =>
      s.heap.get? l = some { cls := .type "tuple", dict := d1, data := .seq xs n, slots := s1 } ∧
      s.heap.get? b = some { cls := .type "tuple", dict := d2, data := .seq ys m, slots := s2 } ∧
      R (.ok (.ret (.bool r))) s :=
  .of_wp fun prog w A R s h => by
    obtain ⟨hp, g, d, tk, os⟩ := s
    obtain ⟨hl, hb, h⟩ := h
    have f2 := AutoSeq1.sub_tuple_tuple
    wp_walk using wpAny_loadPart' hl, wpAny_loadPart' hb,
      wpAny_forIn_list _ (fun rest c s' => c.1 = none ∧ s' = ⟨hp, g, d, tk, os⟩ ∧
        ∃ (us vs : List Value) (q : Bool), rest = us.zip vs ∧ Lex us vs q ∧
          us.length + ys.size = vs.length + xs.size ∧
          R (.ok (.ret (.bool q))) ⟨hp, g, d, tk, os⟩) _
    case turn =>
      rintro ⟨y, x⟩ rest c s' ⟨hc, rfl, us, vs, q, hz, hL, hlen, hR⟩
      cases hL with
      | nn => cases hz
      | nc => rw [List.zip_nil_left] at hz; cases hz
      | cn => rw [List.zip_nil_right] at hz; cases hz
      | @same v v2 us vs _ he t =>
        rw [List.zip_cons_cons] at hz
        injection hz with hyx hrest
        injection hyx with hy hx2
        subst hy hx2
        refine wpAny_bind (he A.in1 _ prog w _ _ ?_)
        wp_walk
        simp only [List.length_cons] at hlen
        exact ⟨rfl, rfl, us, vs, q, hrest, t, by omega, hR⟩
      | @unlike v v2 us vs _ he lt =>
        rw [List.zip_cons_cons] at hz
        injection hz with hyx hrest
        injection hyx with hy hx2
        subst hy hx2
        refine wpAny_bind (he A.in1 _ prog w _ _ ?_)
        have hri := lt A.in1 ⟨hp, g, d, tk, os⟩ prog w
        wp_walk using hri
        exact ⟨_, rfl, by simpa using hR⟩
    case fin =>
      rintro ⟨c1, c2⟩ s' ⟨hc, rfl, us, vs, q, hz, hL, hlen, hR⟩
      simp only at hc
      subst hc
      rw [hL.ends xs.size ys.size hlen hz.symm] at hR
      wp_walk
      exact ⟨_, rfl, by simpa [Builtin.Tuple.tupleCompareSizes] using hR⟩
    case h => exact ⟨rfl, rfl, _, _, r, rfl, hx, by simp; omega, h⟩
end
section
variable {prog : Program} {w : World} {A : Around} {E : Value → Shared → Prop} {s : Shared}
theorem lt_lex {l b : Addr} {xs ys : Array Value} {r : Bool} {Q : Value → Shared → Prop}
    (hl : IsTup s.heap l xs) (hb : IsTup s.heap b ys) (hx : Lex xs.toList ys.toList r)
    (hu : A.units < cLine) (h : Q (.bool r) s) :
    wpAny (model prog w) A (compareOp .Lt (.ref l) (.ref b)) Q E s := by
  obtain ⟨⟨c1, d1, t1, s1⟩, ho, hc, n, hd⟩ := id hl
  obtain ⟨⟨c2, d2, t2, s2⟩, ho2, hc2, m, hd2⟩ := id hb
  simp only at hc hd hc2 hd2
  subst hc hd hc2 hd2
  refine richCompare_meets_room (op := .Lt) ⟨_, ho, rfl⟩ ⟨_, ho2, rfl⟩ PySem.F.slot_tuple_lt
    PySem.F.entry_tuple_lt (PySem.F.args_tuple_lt_2 _ _)
    (tuple_lt_lex l b xs ys n m d1 d2 s1 s2 r hx) ⟨ho, ho2, ?_⟩ hu
  exact ⟨(fun x => nomatch x), h⟩
end
/-- (i, x) < (j, y) -/
def rLtIS (K : PySem.W.Frag) : R2 := fun x y H Q => ∃ (a b : Addr) (i j : Int) (u v : Str),
  x = .ref a ∧ y = .ref b ∧ SqT K H a [.int i, .str u] ∧ SqT K H b [.int j, .str v] ∧
  Q (.bl (if i = j then decide (u.cps.toList < v.cps.toList) else decide (i < j))) H
theorem op_ltIS {X : Cx} (hu : X.A.units < cLine) : OpR X (compareOp .Lt) (rLtIS X.K) := by
  intro pins s σ H x y vx vy Q I rx ry h
  obtain ⟨a, b, i, j, u, v, rfl, rfl, ha, hb, q⟩ := h
  cases rx
  cases ry
  obtain ⟨xs, r1, p1, _⟩ := I.tuple ha
  obtain ⟨ys, r2, p2, _⟩ := I.tuple hb
  cases r1 with
  | cons e1 r1 =>
  cases r1 with
  | cons e2 r1 =>
  cases r1
  cases r2 with
  | cons f1 r2 =>
  cases r2 with
  | cons f2 r2 =>
  cases r2
  obtain ⟨t1, rfl⟩ := e1
  obtain ⟨t2, rfl⟩ := e2
  obtain ⟨t3, rfl⟩ := f1
  obtain ⟨t4, rfl⟩ := f2
  have ei : EqAll (.int i t1) (.int j t3) (i == j) := fun A s => SeqAt.EqAt.int_int i t1 j t3
  have es : EqAll (.str u t2) (.str v t4) (u == v) := fun A s => SeqAt.EqAt.str_str u t2 v t4
  have li : LtAll (.int i t1) (.int j t3) (decide (i < j)) := fun A s prog wd E Q h => HT.rcLt_int A s i t1 j t3 prog wd E Q h
  refine lt_lex p1 p2 (r := if i = j then decide (u.cps.toList < v.cps.toList) else decide (i < j)) ?_ hu ⟨.bl _, H, I, rfl, q⟩
  show Lex [.int i t1, .str u t2] [.int j t3, .str v t4] _
  by_cases c : i = j
  · rw [if_pos c]
    refine .same (by rw [← beq_iff_eq.mpr c]; exact ei) ?_
    by_cases k : u = v
    · have z : decide (u.cps.toList < v.cps.toList) = false := by
        rw [k]
        exact decide_eq_false (List.lt_irrefl _)
      rw [z]
      exact .same (by rw [← beq_iff_eq.mpr k]; exact es) .nn
    · refine .unlike (by rw [← beq_eq_false_iff_ne.mpr k]; exact es) fun A s prog wd E Q h => ?_
      exact (PyProof.Rows.lt_str h : wpAny (model prog wd) A (compareOp .Lt (.str u t2) (.str v t4)) Q E s)
  · rw [if_neg c]
    exact .unlike (by rw [← beq_eq_false_iff_ne.mpr c]; exact ei) li
end Yard
set_option maxRecDepth 100000
/-! The yard's own layer, part 11: data beside some lists that change. -/
namespace Yard
open PySem PySem.Spec PyProof.Rows L2
/-- the heap but for what stands at S -/
def wox (S : List Addr) (H : Hp) : Hp := fun b => if b ∈ S then none else H b
/-- all but what stands at S is as before -/
def OffS (S : List Addr) (H H' : Hp) : Prop := ∀ b o, b ∉ S → H b = some o → H' b = some o
theorem OffS.refl (S : List Addr) (H : Hp) : OffS S H H := fun _ _ _ h => h
theorem OffS.trans {S : List Addr} {H H1 H2 : Hp} (h : OffS S H H1) (k : OffS S H1 H2) : OffS S H H2 := fun b o n e => k b o n (h b o n e)
theorem OffS.of_same {S : List Addr} {H H' : Hp} (h : Same H H') : OffS S H H' := fun b o _ e => h b o e
theorem OffS.at_ {S : List Addr} {H : Hp} {a : Addr} {o : HO} (h : a ∈ S) : OffS S H (upd H a o) := fun b u n e => by
  rw [upd_ne (fun z : b = a => n (by rw [z]; exact h))]; exact e
theorem wox_le (S : List Addr) (H : Hp) : Same (wox S H) H := fun b o e => by
  unfold wox at e
  split at e
  · cases e
  · exact e
theorem wox_off {S : List Addr} {H H' : Hp} (h : OffS S H H') : Same (wox S H) (wox S H') := fun b o e => by
  unfold wox at e ⊢
  by_cases n : b ∈ S
  · rw [if_pos n] at e; cases e
  · rw [if_neg n] at e ⊢; exact h b o n e
theorem wox_get {S : List Addr} {b : Addr} {H : Hp} {o : HO} (n : b ∉ S) (h : H b = some o) : wox S H b = some o := by
  unfold wox; rw [if_neg n]; exact h
/-- more lists that change: data that stood ahead of them stay data -/
theorem wox_more {S S' : List Addr} {H : Hp} (h : ∀ b ∈ S', b ∉ S → H b = none) : Same (wox S H) (wox S' H) := fun b o e => by
  unfold wox at e ⊢
  by_cases n : b ∈ S
  · rw [if_pos n] at e; cases e
  · rw [if_neg n] at e
    by_cases k : b ∈ S'
    · rw [h b k n] at e; cases e
    · rw [if_neg k]; exact e
theorem DqL.snoc {H : Hp} {vs : List V} {ds : List PyData} {v : V} {d : PyData} (h : DqL H vs ds) (k : Dq H v d) : DqL H (vs ++ [v]) (ds ++ [d]) := h.app (.cons k .nil)
/-- the last of a list taken off -/
theorem DqL.last {H : Hp} {vs : List V} {ds : List PyData} (h : DqL H vs ds) (n : ds ≠ []) : ∃ us v es d, vs = us ++ [v] ∧ ds = es ++ [d] ∧ DqL H us es ∧ Dq H v d := by
  have l := h.len
  have nv : vs ≠ [] := fun e => by
    rw [e] at l
    exact n (List.eq_nil_of_length_eq_zero l.symm)
  have k1 : vs = vs.take (vs.length - 1) ++ [vs.getLast nv] := by
    rw [← List.dropLast_eq_take]; exact (List.dropLast_concat_getLast nv).symm
  have k2 : ds = ds.take (ds.length - 1) ++ [ds.getLast n] := by
    rw [← List.dropLast_eq_take]; exact (List.dropLast_concat_getLast n).symm
  refine ⟨_, _, _, _, k1, k2, by rw [l]; exact h.take _, ?_⟩
  have g : vs[vs.length - 1]? = some (vs.getLast nv) := by rw [List.getLast_eq_getElem, List.getElem?_eq_getElem]
  obtain ⟨d, hd, q⟩ := h.get g
  have g2 : ds[ds.length - 1]? = some (ds.getLast n) := by rw [List.getLast_eq_getElem, List.getElem?_eq_getElem]
  rw [l, g2] at hd
  cases hd
  exact q
end Yard
set_option maxRecDepth 100000
/-! The yard's pure layer, part 1: data as trees, slots, what is one's own and what stays. -/
namespace YP
open PySem PySem.Spec PyProof.Rows L2

/-- data as trees -/
inductive D where
  | non | bl (b : Bool) | int (i : Int) | str (x : Str) | lst (l : List D) | tup (l : List D) | dic (l : List (Key × D))
  | obj (C : Addr) (fs : List (Str × D)) | ref (a : Addr) | ty (n : String)

mutual
/-- a value that stays: all its parts stand in F, which nobody changes -/
inductive RD (K : PySem.W.Frag) (F : Hp) : V → D → Prop
  | non : RD K F .non .non
  | bl (b : Bool) : RD K F (.bl b) (.bl b)
  | int (i : Int) : RD K F (.int i) (.int i)
  | str (x : Str) : RD K F (.str x) (.str x)
  | ty (n : String) : RD K F (.ty n) (.ty n)
  | ref (a : Addr) : RD K F (.ref a) (.ref a)
  | lst {a : Addr} {vs : List V} {ds : List D} : F a = some (.lst vs) → RL K F vs ds → RD K F (.ref a) (.lst ds)
  | tup {a : Addr} {vs : List V} {ds : List D} : F a = some (.tup vs) → RL K F vs ds → RD K F (.ref a) (.tup ds)
  | dic {a : Addr} {kvs : List (Key × V)} {ds : List (Key × D)} : F a = some (.dK kvs) → RK K F kvs ds → RD K F (.ref a) (.dic ds)
  | obj {a C dx : Addr} {fs : List (Str × V)} {ds : List (Str × D)} : F a = some (.ins C dx fs) → RF K F fs ds → RD K F (.ref a) (.obj C ds)
inductive RL (K : PySem.W.Frag) (F : Hp) : List V → List D → Prop
  | nil : RL K F [] []
  | cons {v : V} {vs : List V} {d : D} {ds : List D} : RD K F v d → RL K F vs ds → RL K F (v :: vs) (d :: ds)
inductive RK (K : PySem.W.Frag) (F : Hp) : List (Key × V) → List (Key × D) → Prop
  | nil : RK K F [] []
  | cons {k : Key} {v : V} {vs : List (Key × V)} {d : D} {ds : List (Key × D)} : RD K F v d → RK K F vs ds → RK K F ((k, v) :: vs) ((k, d) :: ds)
inductive RF (K : PySem.W.Frag) (F : Hp) : List (Str × V) → List (Str × D) → Prop
  | nil : RF K F [] []
  | cons {k : Str} {v : V} {vs : List (Str × V)} {d : D} {ds : List (Str × D)} : RD K F v d → RF K F vs ds → RF K F ((k, v) :: vs) ((k, d) :: ds)
end
section
variable {K : PySem.W.Frag} {F F' H H' : Hp}
theorem rd_mono {a : Addr} {u : HO} (s : Same F F') (h : Rd F a u) : Rd F' a u := h.imp (s _ _) fun ⟨o, e⟩ => ⟨o, s _ _ e⟩
theorem sqT_mono {a : Addr} {xs : List V} (s : Same F F') (h : SqT K F a xs) : SqT K F' a xs := h.imp (rd_mono s) fun h => h
mutual
theorem RD.mono (s : Same F F') : ∀ {v : V} {d : D}, RD K F v d → RD K F' v d
  | _, _, .non => .non
  | _, _, .bl b => .bl b
  | _, _, .int i => .int i
  | _, _, .str x => .str x
  | _, _, .ty n => .ty n
  | _, _, .ref a => .ref a
  | _, _, .lst h t => .lst (s _ _ h) (t.mono s)
  | _, _, .tup h t => .tup (s _ _ h) (t.mono s)
  | _, _, .dic h t => .dic (s _ _ h) (t.mono s)
  | _, _, .obj h t => .obj (s _ _ h) (t.mono s)
theorem RL.mono (s : Same F F') : ∀ {vs : List V} {ds : List D}, RL K F vs ds → RL K F' vs ds
  | _, _, .nil => .nil
  | _, _, .cons h t => .cons (h.mono s) (t.mono s)
theorem RK.mono (s : Same F F') : ∀ {vs : List (Key × V)} {ds : List (Key × D)}, RK K F vs ds → RK K F' vs ds
  | _, _, .nil => .nil
  | _, _, .cons h t => .cons (h.mono s) (t.mono s)
theorem RF.mono (s : Same F F') : ∀ {vs : List (Str × V)} {ds : List (Str × D)}, RF K F vs ds → RF K F' vs ds
  | _, _, .nil => .nil
  | _, _, .cons h t => .cons (h.mono s) (t.mono s)
end
theorem RL.len : ∀ {vs : List V} {ds : List D}, RL K F vs ds → vs.length = ds.length
  | _, _, .nil => rfl
  | _, _, .cons _ t => congrArg (· + 1) t.len
theorem RL.get : ∀ {vs : List V} {ds : List D} {i : Nat} {v : V}, RL K F vs ds → vs[i]? = some v → ∃ d, ds[i]? = some d ∧ RD K F v d
  | _, _, 0, _, .cons h _, e => by cases e; exact ⟨_, rfl, h⟩
  | _, _, i + 1, _, .cons _ t, e => RL.get (i := i) t e
theorem RL.got : ∀ {vs : List V} {ds : List D} {i : Nat} {d : D}, RL K F vs ds → ds[i]? = some d → ∃ v, vs[i]? = some v ∧ RD K F v d
  | _, _, 0, _, .cons h _, e => by cases e; exact ⟨_, rfl, h⟩
  | _, _, i + 1, _, .cons _ t, e => RL.got (i := i) t e
theorem RL.take : ∀ {vs : List V} {ds : List D} (n : Nat), RL K F vs ds → RL K F (vs.take n) (ds.take n)
  | _, _, 0, _ => .nil
  | _, _, _ + 1, .nil => .nil
  | _, _, n + 1, .cons h t => .cons h (t.take n)
theorem RL.drop : ∀ {vs : List V} {ds : List D} (n : Nat), RL K F vs ds → RL K F (vs.drop n) (ds.drop n)
  | _, _, 0, h => h
  | _, _, _ + 1, .nil => .nil
  | _, _, n + 1, .cons _ t => t.drop n
theorem RL.app : ∀ {vs ws : List V} {ds es : List D}, RL K F vs ds → RL K F ws es → RL K F (vs ++ ws) (ds ++ es)
  | _, _, _, _, .nil, k => k
  | _, _, _, _, .cons h t, k => .cons h (t.app k)
theorem RL.rev : ∀ {vs : List V} {ds : List D}, RL K F vs ds → RL K F vs.reverse ds.reverse
  | _, _, .nil => .nil
  | _, _, .cons h t => by
    rw [List.reverse_cons, List.reverse_cons]
    exact t.rev.app (.cons h .nil)
theorem RL.snoc {vs : List V} {ds : List D} {v : V} {d : D} (h : RL K F vs ds) (k : RD K F v d) : RL K F (vs ++ [v]) (ds ++ [d]) := h.app (.cons k .nil)
theorem RL.set : ∀ {vs : List V} {ds : List D} {v : V} {d : D} (i : Nat), RL K F vs ds → RD K F v d → RL K F (vs.set i v) (ds.set i d)
  | _, _, _, _, _, .nil, _ => .nil
  | _, _, _, _, 0, .cons _ t, k => .cons k t
  | _, _, _, _, i + 1, .cons h t, k => .cons h (t.set i k)
theorem RL.last {vs : List V} {ds : List D} (h : RL K F vs ds) (n : ds ≠ []) : ∃ us v es d, vs = us ++ [v] ∧ ds = es ++ [d] ∧ RL K F us es ∧ RD K F v d := by
  have r := h.rev
  have nr : ds.reverse ≠ [] := fun e => n (List.reverse_eq_nil_iff.mp e)
  generalize e1 : vs.reverse = vr at r
  generalize e2 : ds.reverse = dr at r nr
  cases r with
  | nil => exact absurd rfl nr
  | @cons v us d es h1 h2 =>
    refine ⟨us.reverse, v, es.reverse, d, ?_, ?_, h2.rev, h1⟩
    · rw [← List.reverse_reverse vs, e1, List.reverse_cons]
    · rw [← List.reverse_reverse ds, e2, List.reverse_cons]
theorem RK.len : ∀ {vs : List (Key × V)} {ds : List (Key × D)}, RK K F vs ds → vs.length = ds.length
  | _, _, .nil => rfl
  | _, _, .cons _ t => congrArg (· + 1) t.len

/-- a value that is one's own: its object may be changed, its parts stay -/
inductive RO (K : PySem.W.Frag) (F H : Hp) : V → D → Prop
  | lst {a : Addr} {vs : List V} {ds : List D} : H a = some (.lst vs) → RL K F vs ds → RO K F H (.ref a) (.lst ds)
  | dic {a : Addr} {kvs : List (Key × V)} {ds : List (Key × D)} : H a = some (.dK kvs) → RK K F kvs ds → RO K F H (.ref a) (.dic ds)
  | obj {a C dx : Addr} {fs : List (Str × V)} {ds : List (Str × D)} : H a = some (.ins C dx fs) → RF K F fs ds → RO K F H (.ref a) (.obj C ds)
theorem RO.there {v : V} {d : D} (h : RO K F H v d) : ∃ a o, v = .ref a ∧ H a = some o := by
  cases h with
  | lst h _ => exact ⟨_, _, rfl, h⟩
  | dic h _ => exact ⟨_, _, rfl, h⟩
  | obj h _ => exact ⟨_, _, rfl, h⟩
theorem RO.keep {a : Addr} {d : D} (s : Same F F') (e : H' a = H a) (h : RO K F H (.ref a) d) : RO K F' H' (.ref a) d := by
  cases h with
  | lst h t => exact .lst (e.trans h) (t.mono s)
  | dic h t => exact .dic (e.trans h) (t.mono s)
  | obj h t => exact .obj (e.trans h) (t.mono s)
/-- one's own, from now on not changed -/
theorem RO.froze {a : Addr} {d : D} {o : HO} (n : F a = none) (e : H a = some o) (h : RO K F H (.ref a) d) : RD K (upd F a o) (.ref a) d := by
  have s : Same F (upd F a o) := fun b u q => by rw [upd_ne (ne_of_none q n)]; exact q
  cases h with
  | lst h t => rw [e] at h; cases h; exact .lst upd_same (t.mono s)
  | dic h t => rw [e] at h; cases h; exact .dic upd_same (t.mono s)
  | obj h t => rw [e] at h; cases h; exact .obj upd_same (t.mono s)
/-- either -/
def RW (K : PySem.W.Frag) (F H : Hp) (v : V) (d : D) : Prop := RD K F v d ∨ RO K F H v d
theorem RW.non {v : V} (h : RW K F H v .non) : v = .non := by rcases h with h | h <;> cases h; rfl
theorem RW.bl {v : V} {b : Bool} (h : RW K F H v (.bl b)) : v = .bl b := by rcases h with h | h <;> cases h; rfl
theorem RW.int {v : V} {i : Int} (h : RW K F H v (.int i)) : v = .int i := by rcases h with h | h <;> cases h; rfl
theorem RW.str {v : V} {i : Str} (h : RW K F H v (.str i)) : v = .str i := by rcases h with h | h <;> cases h; rfl
theorem RW.ty {v : V} {i : String} (h : RW K F H v (.ty i)) : v = .ty i := by rcases h with h | h <;> cases h; rfl
theorem RW.ref {v : V} {a : Addr} (h : RW K F H v (.ref a)) : v = .ref a := by rcases h with h | h <;> cases h; rfl
theorem RW.lst {v : V} {ds : List D} (s : Same F H) (h : RW K F H v (.lst ds)) : ∃ a vs, v = .ref a ∧ H a = some (.lst vs) ∧ RL K F vs ds := by
  rcases h with h | h <;> cases h
  · exact ⟨_, _, rfl, s _ _ ‹_›, ‹_›⟩
  · exact ⟨_, _, rfl, ‹_›, ‹_›⟩
theorem RW.tup {v : V} {ds : List D} (s : Same F H) (h : RW K F H v (.tup ds)) : ∃ a vs, v = .ref a ∧ SqT K H a vs ∧ RL K F vs ds := by
  rcases h with h | h <;> cases h
  exact ⟨_, _, rfl, .of (s _ _ ‹_›), ‹_›⟩
theorem RW.dic {v : V} {ds : List (Key × D)} (s : Same F H) (h : RW K F H v (.dic ds)) : ∃ a kvs, v = .ref a ∧ H a = some (.dK kvs) ∧ RK K F kvs ds := by
  rcases h with h | h <;> cases h
  · exact ⟨_, _, rfl, s _ _ ‹_›, ‹_›⟩
  · exact ⟨_, _, rfl, ‹_›, ‹_›⟩
theorem RW.obj {v : V} {C : Addr} {ds : List (Str × D)} (s : Same F H) (h : RW K F H v (.obj C ds)) : ∃ a dx fs, v = .ref a ∧ H a = some (.ins C dx fs) ∧ RF K F fs ds := by
  rcases h with h | h <;> cases h
  · exact ⟨_, _, _, rfl, s _ _ ‹_›, ‹_›⟩
  · exact ⟨_, _, _, rfl, ‹_›, ‹_›⟩
end

/-- a slot: empty, or a datum: one's own or not, still what was handed in or not -/
inductive Sl where
  | un | sl (o p : Bool) (d : D)
/-- what an expression gives: a datum that stays, one of one's own that nobody holds, what the slot i holds -/
inductive Rv where
  | val (d : D) | own (d : D) | at (i : Nat)
/-- the datum as it stands -/
def wv (ρ : List Sl) (r : Rv) (k : D → Prop) : Prop := match r with
  | .val d => k d
  | .own d => k d
  | .at i => match ρ[i]? with
    | some (.sl _ _ d) => k d
    | _ => False
/-- the slots behind it where it stays from now on -/
def frz (ρ : List Sl) (r : Rv) : List Sl := match r with
  | .at i => match ρ[i]? with
    | some (.sl _ p d) => ρ.set i (Sl.sl false p d)
    | _ => ρ
  | _ => ρ

structure ER (K : PySem.W.Frag) (F H : Hp) (σ0 : L2.St) (ρ : List Sl) (σ : L2.St) (B : Addr → Prop) : Prop where
  len : ρ.length = σ.length
  sub : Same F H
  fz : ∀ (i : Nat) p d, ρ[i]? = some (Sl.sl false p d) → ∃ v, σ[i]? = some (some v) ∧ RD K F v d
  ow : ∀ (i : Nat) p d, ρ[i]? = some (Sl.sl true p d) → ∃ a, σ[i]? = some (some (V.ref a)) ∧ RO K F H (.ref a) d ∧ F a = none ∧ ¬ B a
  inj : ∀ (i j : Nat) a p q d e, ρ[i]? = some (Sl.sl true p d) → ρ[j]? = some (Sl.sl true q e) → σ[i]? = some (some (V.ref a)) → σ[j]? = some (some (V.ref a)) → i = j
  par : ∀ (i : Nat) o d, ρ[i]? = some (Sl.sl o true d) → σ[i]? = σ0[i]?
  out : ∀ a, B a → H a ≠ none ∧ F a = none
structure Nx (F H F' H' : Hp) (B : Addr → Prop) : Prop where
  fz : Same F F'
  out : ∀ a, B a → H' a = H a
theorem Nx.refl (F H : Hp) (B : Addr → Prop) : Nx F H F H B := ⟨Same.refl _, fun _ _ => rfl⟩
theorem Nx.trans {F H F1 H1 F2 H2 : Hp} {B : Addr → Prop} (a : Nx F H F1 H1 B) (b : Nx F1 H1 F2 H2 B) : Nx F H F2 H2 B := ⟨a.fz.trans b.fz, fun c h => (b.out c h).trans (a.out c h)⟩
theorem Nx.mono {F H F' H' : Hp} {B B' : Addr → Prop} (a : Nx F H F' H' B') (h : ∀ c, B c → B' c) : Nx F H F' H' B := ⟨a.fz, fun c z => a.out c (h c z)⟩
def RR (K : PySem.W.Frag) (F H : Hp) (ρ : List Sl) (σ : L2.St) (B : Addr → Prop) (r : Rv) (v : V) : Prop := match r with
  | .val d => RD K F v d
  | .own d => ∃ a, v = .ref a ∧ RO K F H v d ∧ F a = none ∧ ¬ B a ∧ ∀ (i : Nat) p e, ρ[i]? = some (Sl.sl true p e) → σ[i]? ≠ some (some (V.ref a))
  | .at i => σ[i]? = some (some v)
def hB (B : Addr → Prop) (r : Rv) (v : V) : Addr → Prop := match r with
  | .own _ => fun a => B a ∨ v = .ref a
  | _ => B
section
variable {K : PySem.W.Frag} {F F' H H' : Hp} {σ0 σ : L2.St} {ρ ρ' : List Sl} {B : Addr → Prop} {r : Rv} {v : V} {d : D}
theorem hB_sub : ∀ c, B c → hB B r v c := fun c h => by cases r <;> first | exact h | exact .inl h
/-- the datum as it stands, of a result -/
theorem ER.seen (E : ER K F H σ0 ρ σ B) (h : RR K F H ρ σ B r v) {k : D → Prop} (w : wv ρ r k) : ∃ d, RW K F H v d ∧ k d := by
  cases r with
  | val d => exact ⟨d, .inl h, w⟩
  | own d => obtain ⟨a, _, ro, _⟩ := h; exact ⟨d, .inr ro, w⟩
  | «at» i =>
    unfold wv at w
    dsimp only at w
    cases q : ρ[i]? with
    | none => rw [q] at w; exact w.elim
    | some s =>
      cases s with
      | un => rw [q] at w; exact w.elim
      | sl o p d =>
        rw [q] at w
        have h' : σ[i]? = some (some v) := h
        cases o with
        | false =>
          obtain ⟨u, e, rd⟩ := E.fz i p d q
          rw [h'] at e; cases e
          exact ⟨d, .inl rd, w⟩
        | true =>
          obtain ⟨a, e, ro, _⟩ := E.ow i p d q
          rw [h'] at e; cases e
          exact ⟨d, .inr ro, w⟩
/-- a result is held while others are reckoned -/
theorem ER.hold (E : ER K F H σ0 ρ σ B) (h : RR K F H ρ σ B r v) : ER K F H σ0 ρ σ (hB B r v) := by
  cases r with
  | val d => exact E
  | «at» i => exact E
  | own d =>
    obtain ⟨a, rfl, ro, n, nb, ns⟩ := h
    refine ⟨E.len, E.sub, E.fz, fun i p d q => ?_, E.inj, E.par, fun b hb => ?_⟩
    · obtain ⟨b, e, z⟩ := E.ow i p d q
      refine ⟨b, e, z.1, z.2.1, fun hb => ?_⟩
      rcases hb with hb | hb
      · exact z.2.2 hb
      · cases hb; exact ns i p d q e
    · rcases hb with hb | hb
      · exact E.out b hb
      · cases hb
        obtain ⟨_, o, e, z⟩ := ro.there
        cases e
        exact ⟨by rw [z]; exact fun y => (nomatch y), n⟩
theorem ER.unhold (E : ER K F' H' σ0 ρ' σ (hB B r v)) : ER K F' H' σ0 ρ' σ B :=
  ⟨E.len, E.sub, E.fz, fun i p d q => let ⟨a, e, x, y, z⟩ := E.ow i p d q; ⟨a, e, x, y, fun hb => z (hB_sub _ hb)⟩, E.inj, E.par, fun a h => E.out a (hB_sub _ h)⟩
theorem RR.held (E : ER K F H σ0 ρ σ B) (E' : ER K F' H' σ0 ρ' σ (hB B r v)) (h : RR K F H ρ σ B r v) (n : Nx F H F' H' (hB B r v)) : RR K F' H' ρ' σ B r v := by
  cases r with
  | val d => exact RD.mono n.fz h
  | «at» i => exact h
  | own d =>
    obtain ⟨a, rfl, ro, n1, nb, ns⟩ := h
    refine ⟨a, rfl, ro.keep n.fz (n.out a (.inr rfl)), (E'.out a (.inr rfl)).2, nb, fun i p e q z => ?_⟩
    obtain ⟨b, e2, _, _, nb2⟩ := E'.ow i p e q
    rw [z] at e2; cases e2
    exact nb2 (.inr rfl)
/-- a result stays from now on -/
theorem ER.freeze (E : ER K F H σ0 ρ σ B) (h : RR K F H ρ σ B r v) {k : D → Prop} (w : wv ρ r k) : ∃ F' d, Nx F H F' H B ∧ ER K F' H σ0 (frz ρ r) σ B ∧ RD K F' v d ∧ k d := by
  cases r with
  | val d => exact ⟨F, d, .refl _ _ _, E, h, w⟩
  | own d =>
    obtain ⟨a, rfl, ro, n, nb, ns⟩ := h
    obtain ⟨_, o, e, z⟩ := ro.there
    cases e
    have s : Same F (upd F a o) := fun b u q => by rw [upd_ne (ne_of_none q n)]; exact q
    refine ⟨upd F a o, d, ⟨s, fun _ _ => rfl⟩, ⟨E.len, fun b u q => ?_, fun i p d q => ?_, fun i p d q => ?_, E.inj, E.par, fun b hb => ?_⟩, ro.froze n z, w⟩
    · by_cases hb : b = a
      · subst hb; rw [upd_same] at q; cases q; exact z
      · rw [upd_ne hb] at q; exact E.sub b u q
    · obtain ⟨v, e, rd⟩ := E.fz i p d q
      exact ⟨v, e, rd.mono s⟩
    · obtain ⟨b, e, ro2, n2, nb2⟩ := E.ow i p d q
      have hb : b ≠ a := fun y => by subst y; exact ns i p d q e
      exact ⟨b, e, ro2.keep s rfl, by rw [upd_ne hb]; exact n2, nb2⟩
    · have hb' : b ≠ a := fun y => by subst y; exact nb hb
      rw [upd_ne hb']; exact E.out b hb
  | «at» i =>
    have h' : σ[i]? = some (some v) := h
    unfold wv at w
    dsimp only at w
    cases q : ρ[i]? with
    | none => rw [q] at w; exact w.elim
    | some s =>
      cases s with
      | un => rw [q] at w; exact w.elim
      | sl o p d =>
        rw [q] at w
        have fe : frz ρ (.at i) = ρ.set i (Sl.sl false p d) := by simp only [frz, q]
        have hi : i < ρ.length := (List.getElem?_eq_some_iff.mp q).1
        have at_ : ∀ (j : Nat) s, (ρ.set i (Sl.sl false p d))[j]? = some s → (j = i ∧ s = .sl false p d) ∨ (j ≠ i ∧ ρ[j]? = some s) := fun j s e => by
          by_cases hj : j = i
          · subst hj; rw [List.getElem?_set_self hi] at e; cases e; exact .inl ⟨rfl, rfl⟩
          · rw [List.getElem?_set_ne (Ne.symm hj)] at e; exact .inr ⟨hj, e⟩
        cases o with
        | false =>
          obtain ⟨u, e, rd⟩ := E.fz i p d q
          rw [h'] at e; cases e
          refine ⟨F, d, .refl _ _ _, ?_, rd, w⟩
          rw [fe]
          have : ρ.set i (Sl.sl false p d) = ρ := by
            refine List.ext_getElem? fun j => ?_
            by_cases hj : j = i
            · subst hj; rw [List.getElem?_set_self hi, q]
            · rw [List.getElem?_set_ne (Ne.symm hj)]
          rw [this]; exact E
        | true =>
          obtain ⟨a, e, ro, n, nb⟩ := E.ow i p d q
          rw [h'] at e; cases e
          obtain ⟨_, o, e, z⟩ := ro.there
          cases e
          have s : Same F (upd F a o) := fun b u q => by rw [upd_ne (ne_of_none q n)]; exact q
          refine ⟨upd F a o, d, ⟨s, fun _ _ => rfl⟩, ?_, ro.froze n z, w⟩
          rw [fe]
          refine ⟨by rw [List.length_set]; exact E.len, fun b u q => ?_, fun j p' d' q' => ?_, fun j p' d' q' => ?_, fun j k b p1 p2 d1 d2 q1 q2 => ?_, fun j o' d' q' => ?_, fun b hb => ?_⟩
          · by_cases hb : b = a
            · subst hb; rw [upd_same] at q; cases q; exact z
            · rw [upd_ne hb] at q; exact E.sub b u q
          · rcases at_ _ _ q' with ⟨rfl, y⟩ | ⟨_, y⟩
            · cases y
              exact ⟨_, h', ro.froze n z⟩
            · obtain ⟨v, e, rd⟩ := E.fz j p' d' y
              exact ⟨v, e, rd.mono s⟩
          · rcases at_ _ _ q' with ⟨rfl, y⟩ | ⟨hj, y⟩
            · cases y
            · obtain ⟨b, e, ro2, n2, nb2⟩ := E.ow j p' d' y
              have hb : b ≠ a := fun w => by subst w; exact hj (E.inj j i b _ _ _ _ y q e h')
              exact ⟨b, e, ro2.keep s rfl, by rw [upd_ne hb]; exact n2, nb2⟩
          · rcases at_ _ _ q1 with ⟨rfl, y⟩ | ⟨_, y⟩
            · cases y
            · rcases at_ _ _ q2 with ⟨rfl, y2⟩ | ⟨_, y2⟩
              · cases y2
              · exact E.inj j k b _ _ _ _ y y2
          · rcases at_ _ _ q' with ⟨rfl, y⟩ | ⟨_, y⟩
            · cases y; exact E.par j true d q
            · exact E.par j o' d' y
          · have hb' : b ≠ a := fun y => by subst y; exact nb hb
            rw [upd_ne hb']; exact E.out b hb
/-! ### new objects -/
theorem ER.free (E : ER K F H σ0 ρ σ B) {p : Addr} (h : H p = none) : F p = none := E.sub.free h
theorem ER.nB (E : ER K F H σ0 ρ σ B) {p : Addr} (h : H p = none) : ¬ B p := fun b => (E.out p b).1 h
theorem ER.nS (E : ER K F H σ0 ρ σ B) {p : Addr} (h : H p = none) : ∀ (i : Nat) q e, ρ[i]? = some (Sl.sl true q e) → σ[i]? ≠ some (some (V.ref p)) := fun i q e z y => by
  obtain ⟨b, e1, ro, _⟩ := E.ow i q e z
  rw [y] at e1; cases e1
  obtain ⟨_, o, e2, w⟩ := ro.there
  cases e2
  rw [h] at w; cases w
theorem nx_new {p : Addr} {o : HO} (E : ER K F H σ0 ρ σ B) (h : H p = none) : Nx F H F (upd H p o) B := ⟨Same.refl _, fun a b => upd_ne fun e => by subst e; exact E.nB h b⟩
/-- a new object, one's own -/
theorem ER.laid {p : Addr} {o : HO} (E : ER K F H σ0 ρ σ B) (h : H p = none) : ER K F (upd H p o) σ0 ρ σ B := by
  have keep : ∀ b u, H b = some u → upd H p o b = some u := fun b u e => by rw [upd_ne (ne_of_none e h)]; exact e
  refine ⟨E.len, fun b u e => keep b u (E.sub b u e), E.fz, fun i q d z => ?_, E.inj, E.par, fun a b => ⟨?_, (E.out a b).2⟩⟩
  · obtain ⟨b, e, ro, n, nb⟩ := E.ow i q d z
    obtain ⟨_, u, e2, w⟩ := ro.there
    cases e2
    exact ⟨b, e, ro.keep (Same.refl _) (by rw [keep b u w, w]), n, nb⟩
  · rw [upd_ne fun e => by subst e; exact E.nB h b]; exact (E.out a b).1
theorem ER.laid_own {p : Addr} {o : HO} {d : D} (E : ER K F H σ0 ρ σ B) (h : H p = none) (ro : RO K F (upd H p o) (.ref p) d) : RR K F (upd H p o) ρ σ B (.own d) (.ref p) :=
  ⟨p, rfl, ro, E.free h, E.nB h, E.nS h⟩
/-- a new object that stays -/
theorem ER.laid_val {p : Addr} {o : HO} (E : ER K F H σ0 ρ σ B) (h : H p = none) : ER K (upd F p o) (upd H p o) σ0 ρ σ B ∧ Nx F H (upd F p o) (upd H p o) B := by
  have nF := E.free h
  have s : Same F (upd F p o) := fun b u q => by rw [upd_ne (ne_of_none q nF)]; exact q
  have E1 := E.laid (o := o) h
  refine ⟨⟨E.len, fun b u e => ?_, fun i q d z => ?_, fun i q d z => ?_, E.inj, E.par, fun a b => ⟨(E1.out a b).1, ?_⟩⟩, s, (nx_new E h).out⟩
  · by_cases hb : b = p
    · subst hb; rw [upd_same] at e ⊢; exact e
    · rw [upd_ne hb] at e ⊢; exact E.sub b u e
  · obtain ⟨v, e, rd⟩ := E.fz i q d z
    exact ⟨v, e, rd.mono s⟩
  · obtain ⟨b, e, ro, n, nb⟩ := E1.ow i q d z
    have hb : b ≠ p := fun y => by subst y; exact E.nS h i q d z e
    exact ⟨b, e, ro.keep s rfl, by rw [upd_ne hb]; exact n, nb⟩
  · rw [upd_ne fun e => by subst e; exact E.nB h b]; exact (E.out a b).2
/-- one's own object is written -/
theorem ER.wrote {i : Nat} {q : Bool} {a : Addr} {d e : D} {o : HO} (E : ER K F H σ0 ρ σ B) (hi : ρ[i]? = some (Sl.sl true q d)) (ha : σ[i]? = some (some (V.ref a))) (ro : RO K F (upd H a o) (.ref a) e) :
    ER K F (upd H a o) σ0 (ρ.set i (Sl.sl true q e)) σ B ∧ Nx F H F (upd H a o) B := by
  have hl : i < ρ.length := (List.getElem?_eq_some_iff.mp hi).1
  obtain ⟨a', e1, ro1, n1, nb1⟩ := E.ow i q d hi
  rw [ha] at e1; cases e1
  have at_ : ∀ (j : Nat) s, (ρ.set i (Sl.sl true q e))[j]? = some s → (j = i ∧ s = .sl true q e) ∨ (j ≠ i ∧ ρ[j]? = some s) := fun j s z => by
    by_cases hj : j = i
    · subst hj; rw [List.getElem?_set_self hl] at z; cases z; exact .inl ⟨rfl, rfl⟩
    · rw [List.getElem?_set_ne (Ne.symm hj)] at z; exact .inr ⟨hj, z⟩
  refine ⟨⟨by rw [List.length_set]; exact E.len, fun b u z => ?_, fun j p f z => ?_, fun j p f z => ?_, fun j k b p1 p2 d1 d2 q1 q2 h1 h2 => ?_, fun j o' f z => ?_, fun b hb => ⟨?_, (E.out b hb).2⟩⟩, Same.refl _, fun b hb => upd_ne fun y => by subst y; exact nb1 hb⟩
  · rw [upd_ne (ne_of_none z n1)]; exact E.sub b u z
  · rcases at_ _ _ z with ⟨_, y⟩ | ⟨_, y⟩
    · cases y
    · exact E.fz j p f y
  · rcases at_ _ _ z with ⟨rfl, y⟩ | ⟨hj, y⟩
    · cases y; exact ⟨a, ha, ro, n1, nb1⟩
    · obtain ⟨b, e2, ro2, n2, nb2⟩ := E.ow j p f y
      have hb : b ≠ a := fun w => by subst w; exact hj (E.inj j i b _ _ _ _ y hi e2 ha)
      exact ⟨b, e2, ro2.keep (Same.refl _) (upd_ne hb), n2, nb2⟩
  · have g : ∀ (j : Nat) p (d1 : D), (ρ.set i (Sl.sl true q e))[j]? = some (Sl.sl true p d1) → ∃ p' d', ρ[j]? = some (Sl.sl true p' d') := fun j p d1 z => by
      rcases at_ _ _ z with ⟨rfl, _⟩ | ⟨_, y⟩
      · exact ⟨_, _, hi⟩
      · exact ⟨_, _, y⟩
    obtain ⟨_, _, y1⟩ := g _ _ _ q1
    obtain ⟨_, _, y2⟩ := g _ _ _ q2
    exact E.inj j k b _ _ _ _ y1 y2 h1 h2
  · rcases at_ _ _ z with ⟨rfl, y⟩ | ⟨_, y⟩
    · cases y; exact E.par j true d hi
    · exact E.par j o' f y
  · rw [upd_ne fun y => by subst y; exact nb1 hb]; exact (E.out b hb).1
/-- a name is stored -/
def put (ρ : List Sl) (i : Nat) (r : Rv) (k : List Sl → Prop) : Prop := match r with
  | .val d => k (ρ.set i (Sl.sl false false d))
  | .own d => k (ρ.set i (Sl.sl true false d))
  | .at j => match ρ[j]? with
    | some (.sl _ p d) => k ((ρ.set j (Sl.sl false p d)).set i (Sl.sl false false d))
    | _ => False
theorem ER.set_val {i : Nat} (E : ER K F H σ0 ρ σ B) (h : RD K F v d) : ER K F H σ0 (ρ.set i (Sl.sl false false d)) (σ.set i (some v)) B := by
  by_cases hl : i < ρ.length
  · have hs : i < σ.length := by rw [← E.len]; exact hl
    have at_ : ∀ (j : Nat) s, (ρ.set i (Sl.sl false false d))[j]? = some s → (j = i ∧ s = .sl false false d) ∨ (j ≠ i ∧ ρ[j]? = some s) := fun j s z => by
      by_cases hj : j = i
      · subst hj; rw [List.getElem?_set_self hl] at z; cases z; exact .inl ⟨rfl, rfl⟩
      · rw [List.getElem?_set_ne (Ne.symm hj)] at z; exact .inr ⟨hj, z⟩
    have sn : ∀ (j : Nat), j ≠ i → (σ.set i (some v))[j]? = σ[j]? := fun j hj => List.getElem?_set_ne (Ne.symm hj)
    refine ⟨by rw [List.length_set, List.length_set]; exact E.len, E.sub, fun j p f z => ?_, fun j p f z => ?_, fun j k b p1 p2 d1 d2 q1 q2 h1 h2 => ?_, fun j o' f z => ?_, E.out⟩
    · rcases at_ _ _ z with ⟨rfl, y⟩ | ⟨hj, y⟩
      · cases y; exact ⟨v, List.getElem?_set_self hs, h⟩
      · rw [sn j hj]; exact E.fz j p f y
    · rcases at_ _ _ z with ⟨rfl, y⟩ | ⟨hj, y⟩
      · cases y
      · rw [sn j hj]; exact E.ow j p f y
    · rcases at_ _ _ q1 with ⟨rfl, y⟩ | ⟨hj, y⟩
      · cases y
      · rcases at_ _ _ q2 with ⟨rfl, y2⟩ | ⟨hk, y2⟩
        · cases y2
        · rw [sn j hj] at h1; rw [sn k hk] at h2
          exact E.inj j k b _ _ _ _ y y2 h1 h2
    · rcases at_ _ _ z with ⟨rfl, y⟩ | ⟨hj, y⟩
      · cases y
      · rw [sn j hj]; exact E.par j o' f y
  · have e1 : ρ.set i (Sl.sl false false d) = ρ := List.set_eq_of_length_le (by omega)
    have e2 : σ.set i (some v) = σ := List.set_eq_of_length_le (by have := E.len; omega)
    rw [e1, e2]; exact E
theorem ER.set_own {i : Nat} (E : ER K F H σ0 ρ σ B) (h : RR K F H ρ σ B (.own d) v) : ER K F H σ0 (ρ.set i (Sl.sl true false d)) (σ.set i (some v)) B := by
  obtain ⟨a, rfl, ro, n, nb, ns⟩ := h
  by_cases hl : i < ρ.length
  · have hs : i < σ.length := by rw [← E.len]; exact hl
    have at_ : ∀ (j : Nat) s, (ρ.set i (Sl.sl true false d))[j]? = some s → (j = i ∧ s = .sl true false d) ∨ (j ≠ i ∧ ρ[j]? = some s) := fun j s z => by
      by_cases hj : j = i
      · subst hj; rw [List.getElem?_set_self hl] at z; cases z; exact .inl ⟨rfl, rfl⟩
      · rw [List.getElem?_set_ne (Ne.symm hj)] at z; exact .inr ⟨hj, z⟩
    have sn : ∀ (j : Nat), j ≠ i → (σ.set i (some (V.ref a)))[j]? = σ[j]? := fun j hj => List.getElem?_set_ne (Ne.symm hj)
    have si : (σ.set i (some (V.ref a)))[i]? = some (some (V.ref a)) := List.getElem?_set_self hs
    refine ⟨by rw [List.length_set, List.length_set]; exact E.len, E.sub, fun j p f z => ?_, fun j p f z => ?_, fun j k b p1 p2 d1 d2 q1 q2 h1 h2 => ?_, fun j o' f z => ?_, E.out⟩
    · rcases at_ _ _ z with ⟨rfl, y⟩ | ⟨hj, y⟩
      · cases y
      · rw [sn j hj]; exact E.fz j p f y
    · rcases at_ _ _ z with ⟨rfl, y⟩ | ⟨hj, y⟩
      · cases y; exact ⟨a, si, ro, n, nb⟩
      · rw [sn j hj]; exact E.ow j p f y
    · rcases at_ _ _ q1 with ⟨rfl, y⟩ | ⟨hj, y⟩
      · rcases at_ _ _ q2 with ⟨rfl, y2⟩ | ⟨hk, y2⟩
        · rfl
        · rw [si] at h1; cases h1
          rw [sn k hk] at h2
          exact absurd h2 (ns k _ _ y2)
      · rw [sn j hj] at h1
        rcases at_ _ _ q2 with ⟨rfl, y2⟩ | ⟨hk, y2⟩
        · rw [si] at h2; cases h2
          exact absurd h1 (ns j _ _ y)
        · rw [sn k hk] at h2
          exact E.inj j k b _ _ _ _ y y2 h1 h2
    · rcases at_ _ _ z with ⟨rfl, y⟩ | ⟨hj, y⟩
      · cases y
      · rw [sn j hj]; exact E.par j o' f y
  · have e1 : ρ.set i (Sl.sl true false d) = ρ := List.set_eq_of_length_le (by omega)
    have e2 : σ.set i (some (V.ref a)) = σ := List.set_eq_of_length_le (by have := E.len; omega)
    rw [e1, e2]; exact E
theorem ER.put {i : Nat} {k : List Sl → Prop} (E : ER K F H σ0 ρ σ B) (h : RR K F H ρ σ B r v) (p : put ρ i r k) : ∃ F' ρ', Nx F H F' H B ∧ ER K F' H σ0 ρ' (σ.set i (some v)) B ∧ k ρ' := by
  cases r with
  | val d => exact ⟨F, _, .refl _ _ _, E.set_val h, p⟩
  | own d => exact ⟨F, _, .refl _ _ _, E.set_own h, p⟩
  | «at» j =>
    unfold YP.put at p
    dsimp only at p
    cases q : ρ[j]? with
    | none => rw [q] at p; exact p.elim
    | some s =>
      cases s with
      | un => rw [q] at p; exact p.elim
      | sl o pp d =>
        rw [q] at p
        have w : wv ρ (.at j) (fun e => e = d) := by simp only [wv, q]
        obtain ⟨F', d', nx, E', rd, rfl⟩ := E.freeze h w
        refine ⟨F', _, nx, ?_, p⟩
        have fe : frz ρ (.at j) = ρ.set j (Sl.sl false pp d') := by simp only [frz, q]
        rw [fe] at E'
        exact E'.set_val rd
end
end YP
set_option maxRecDepth 100000
/-! The yard's pure layer, part 2: expressions. -/
namespace YP
open PySem PySem.Spec PyProof.Rows L2

abbrev UE := List Sl → (Rv → List Sl → Prop) → Prop
abbrev UT := List Sl → (Bool → List Sl → Prop) → Prop
def tS (X : Cx) (e : Expr) : TE := fun σ H Q => ∀ pins s, Inv X pins σ H s → wpAny (model X.prog X.w) X.A (eval e X.env) (EP X pins σ Q) X.xe s
def tST (X : Cx) (e : Expr) : TT := fun σ H Q => ∀ pins s, Inv X pins σ H s → wpAny (model X.prog X.w) X.A (isTrue e X.env (eval e X.env)) (TP X pins σ Q) X.xe s
def tSW (X : Cx) (e : Expr) : TT := fun σ H Q => ∀ whole pins s, Inv X pins σ H s → wpAny (model X.prog X.w) X.A (isTrue e X.env whole) (TP X pins σ Q) X.xe s
theorem pe_S {X : Cx} {e : Expr} : PE X e (tS X e) := ⟨fun pins s σ H Q I h => h pins s I⟩
theorem pt_S {X : Cx} {e : Expr} : PT X e (tST X e) := ⟨fun pins s σ H Q I h => h pins s I⟩
theorem pw_S {X : Cx} {e : Expr} : PW X e (tSW X e) := ⟨fun whole pins s σ H Q I h => h whole pins s I⟩
/-- a state that was come to -/
structure Gd (K : PySem.W.Frag) (F H F' H' : Hp) (σ0 : L2.St) (ρ : List Sl) (σ : L2.St) (B : Addr → Prop) : Prop where
  nx : Nx F H F' H' B
  er : ER K F' H' σ0 ρ σ B
structure Gt (K : PySem.W.Frag) (F H F' H' : Hp) (σ0 : L2.St) (ρ : List Sl) (σ : L2.St) (B : Addr → Prop) (r : Rv) (v : V) : Prop where
  nx : Nx F H F' H' B
  er : ER K F' H' σ0 ρ σ B
  rr : RR K F' H' ρ σ B r v
structure FE (X : Cx) (e : Expr) (u : UE) : Prop where
  run : ∀ (ρ : List Sl) (R : Rv → List Sl → Prop), u ρ R → ∀ (F H : Hp) (σ0 σ : L2.St) (B : Addr → Prop) (Q : VK), ER X.K F H σ0 ρ σ B →
    (∀ r ρ' v F' H', R r ρ' → Gt X.K F H F' H' σ0 ρ' σ B r v → Q v H') → tS X e σ H Q
instance {X : Cx} {e : Expr} {u : UE} : CoeFun (FE X e u) (fun _ => ∀ (ρ : List Sl) (R : Rv → List Sl → Prop), u ρ R → ∀ (F H : Hp) (σ0 σ : L2.St) (B : Addr → Prop) (Q : VK), ER X.K F H σ0 ρ σ B →
  (∀ r ρ' v F' H', R r ρ' → Gt X.K F H F' H' σ0 ρ' σ B r v → Q v H') → tS X e σ H Q) := ⟨FE.run⟩
structure FT (X : Cx) (e : Expr) (u : UT) : Prop where
  run : ∀ (ρ : List Sl) (R : Bool → List Sl → Prop), u ρ R → ∀ (F H : Hp) (σ0 σ : L2.St) (B : Addr → Prop) (Q : Bool → Hp → Prop), ER X.K F H σ0 ρ σ B →
    (∀ b ρ' F' H', R b ρ' → Gd X.K F H F' H' σ0 ρ' σ B → Q b H') → tST X e σ H Q
instance {X : Cx} {e : Expr} {u : UT} : CoeFun (FT X e u) (fun _ => ∀ (ρ : List Sl) (R : Bool → List Sl → Prop), u ρ R → ∀ (F H : Hp) (σ0 σ : L2.St) (B : Addr → Prop) (Q : Bool → Hp → Prop), ER X.K F H σ0 ρ σ B →
  (∀ b ρ' F' H', R b ρ' → Gd X.K F H F' H' σ0 ρ' σ B → Q b H') → tST X e σ H Q) := ⟨FT.run⟩
structure FW (X : Cx) (e : Expr) (u : UT) : Prop where
  run : ∀ (ρ : List Sl) (R : Bool → List Sl → Prop), u ρ R → ∀ (F H : Hp) (σ0 σ : L2.St) (B : Addr → Prop) (Q : Bool → Hp → Prop), ER X.K F H σ0 ρ σ B →
    (∀ b ρ' F' H', R b ρ' → Gd X.K F H F' H' σ0 ρ' σ B → Q b H') → tSW X e σ H Q
instance {X : Cx} {e : Expr} {u : UT} : CoeFun (FW X e u) (fun _ => ∀ (ρ : List Sl) (R : Bool → List Sl → Prop), u ρ R → ∀ (F H : Hp) (σ0 σ : L2.St) (B : Addr → Prop) (Q : Bool → Hp → Prop), ER X.K F H σ0 ρ σ B →
  (∀ b ρ' F' H', R b ρ' → Gd X.K F H F' H' σ0 ρ' σ B → Q b H') → tSW X e σ H Q) := ⟨FW.run⟩
section
variable {X : Cx} {e a b : Expr} {ua ub : UE} {F H : Hp} {σ0 σ : L2.St} {ρ : List Sl} {B : Addr → Prop}
theorem to_S {t : TE} {Q : VK} (h : PE X e t) (q : t σ H Q) : tS X e σ H Q := fun pins s I => h.run pins s σ H Q I q
theorem to_ST {t : TT} {Q : Bool → Hp → Prop} (h : PT X e t) (q : t σ H Q) : tST X e σ H Q := fun pins s I => h.run pins s σ H Q I q
theorem to_SW {t : TT} {Q : Bool → Hp → Prop} (h : PW X e t) (q : t σ H Q) : tSW X e σ H Q := fun wh pins s I => h.run wh pins s σ H Q I q
theorem FW.ft {u : UT} (h : FW X e u) : FT X e u := ⟨fun ρ R q F H σ0 σ B Q E g pins s I => h ρ R q F H σ0 σ B Q E g _ pins s I⟩
/-- two in a row -/
theorem FE.two (ha : FE X a ua) (hb : FE X b ub) {T : Rv → Rv → List Sl → Prop} (h : ua ρ fun r ρ1 => ub ρ1 fun q ρ2 => T r q ρ2) (E : ER X.K F H σ0 ρ σ B) (S : V → V → Hp → Prop)
    (g : ∀ r q ρ2 x y F2 H2, T r q ρ2 → Nx F H F2 H2 B → ER X.K F2 H2 σ0 ρ2 σ B → RR X.K F2 H2 ρ2 σ B r x → RR X.K F2 H2 ρ2 σ (hB B r x) q y → S x y H2) : tS X a σ H fun x H1 => tS X b σ H1 fun y H2 => S x y H2 :=
  ha ρ _ h F H σ0 σ B _ E fun r ρ1 x F1 H1 h1 A1 => hb ρ1 _ h1 F1 H1 σ0 σ (hB B r x) _ (A1.er.hold A1.rr) fun q ρ2 y F2 H2 h2 A2 =>
    g r q ρ2 x y F2 H2 h2 (A1.nx.trans (A2.nx.mono hB_sub)) A2.er.unhold (A1.rr.held A1.er A2.er A2.nx) A2.rr
theorem RR.weak {K : PySem.W.Frag} {B' : Addr → Prop} {r : Rv} {v : V} (h : RR K F H ρ σ B' r v) (s : ∀ c, B c → B' c) : RR K F H ρ σ B r v := by
  cases r with
  | val d => exact h
  | «at» i => exact h
  | own d => obtain ⟨a, x, y, z, n, w⟩ := h; exact ⟨a, x, y, z, fun b => n (s _ b), w⟩

/-! ### names and constants -/
def uVar (i : Nat) : UE := fun ρ R => match ρ[i]? with
  | some (.sl false _ d) => R (.val d) ρ
  | some (.sl true _ _) => R (.at i) ρ
  | _ => False
theorem fe_pv {i : Nat} (h : PE X e (tVar i)) : FE X e (uVar i) := ⟨fun ρ R q F H σ0 σ B Q E g => by
  refine to_S h ?_
  unfold uVar at q
  cases z : ρ[i]? with
  | none => rw [z] at q; exact q.elim
  | some s =>
    cases s with
    | un => rw [z] at q; exact q.elim
    | sl o p d =>
      rw [z] at q
      cases o with
      | false =>
        obtain ⟨v, e1, rd⟩ := E.fz i p d z
        exact ⟨v, e1, g _ _ _ _ _ q ⟨.refl _ _ _, E, rd⟩⟩
      | true =>
        obtain ⟨a, e1, _⟩ := E.ow i p d z
        exact ⟨_, e1, g _ _ _ _ _ q ⟨.refl _ _ _, E, e1⟩⟩⟩
theorem fv (i : Nat) {x : Str} {pos : Pos} (hN : X.N[i]? = some x := by rfl) (hv : Vis X.env.scope x := by first | exact Or.inl rfl | exact Or.inr (Or.inl rfl) | exact Or.inr (Or.inr rfl)) (hd : (x == ("__debug__" : Str)) = false := by decide)
    (hcd : (x == ("__classdict__" : Str)) = false := by decide) : FE X (.Name x pos) (uVar i) := fe_pv (pe_var hN hv hd hcd)
def uC (d : D) : UE := fun ρ R => R (.val d) ρ
theorem fe_c {v : V} {d : D} (h : PE X e (tC v)) (rd : ∀ F, RD X.K F v d) : FE X e (uC d) := ⟨fun ρ R q F H σ0 σ B Q E g =>
  to_S h (g _ _ _ _ _ q ⟨.refl _ _ _, E, rd F⟩)⟩
theorem fe_int {i : Int} {j pos} : FE X (.Constant (.int i) j pos) (uC (.int i)) := fe_c pe_int fun _ => .int i
theorem fe_bl {b : Bool} {j pos} : FE X (.Constant (.bool b) j pos) (uC (.bl b)) := fe_c pe_bl fun _ => .bl b
theorem fe_non {j pos} : FE X (.Constant .none j pos) (uC .non) := fe_c pe_non fun _ => .non
theorem fe_str {x : Str} {j pos} : FE X (.Constant (.str x) j pos) (uC (.str x)) := fe_c pe_str fun _ => .str x
theorem fe_glob {x : Str} {v : V} {d : D} {u : Value} {pos : Pos} (hg : Gl X x) (hm : X.mg x = some u) (r : RelV v u) (rd : ∀ F, RD X.K F v d) (hd : (x == ("__debug__" : Str)) = false := by decide) : FE X (.Name x pos) (uC d) := fe_c (pe_glob hg hm r hd) rd
theorem fe_ty {x : Str} {n : String} {pos : Pos} (hg : Gl X x) (hm : X.mg x = none) (hv : bootBuiltins x = some (.type n)) (hn : x ≠ "__name__" := by decide) (hd : (x == ("__debug__" : Str)) = false := by decide) : FE X (.Name x pos) (uC (.ty n)) :=
  fe_c (pe_bltn (v := .ty n) hg hm hv rfl hn hd) fun _ => .ty n

/-! ### operations of two -/
structure OpS (X : Cx) (f : Value → Value → Sem Value) (o : D → D → (Rv → Prop) → Prop) : Prop where
  ex : ∃ r : R2, OpR X f r ∧ ∀ {F H : Hp} {σ0 σ : L2.St} {ρ : List Sl} {B : Addr → Prop} {x y : V} {d e : D} {T : Rv → Prop} {Q : VK}, ER X.K F H σ0 ρ σ B → RW X.K F H x d → RW X.K F H y e → o d e T →
    (∀ z v F' H', T z → Gt X.K F H F' H' σ0 ρ σ B z v → Q v H') → r x y H Q
def uBin (o : D → D → (Rv → Prop) → Prop) (ua ub : UE) : UE := fun ρ R => ua ρ fun r ρ1 => ub ρ1 fun q ρ2 => wv ρ2 r fun d => wv ρ2 q fun e => o d e fun z => R z ρ2
theorem FE.binR {o : D → D → (Rv → Prop) → Prop} {f : Value → Value → Sem Value} (ho : OpS X f o) (ha : FE X a ua) (hb : FE X b ub) {R : Rv → List Sl → Prop} {Q : VK} (h : uBin o ua ub ρ R) (E : ER X.K F H σ0 ρ σ B)
    (g : ∀ r ρ' v F' H', R r ρ' → Gt X.K F H F' H' σ0 ρ' σ B r v → Q v H') : ∃ r : R2, OpR X f r ∧ tS X a σ H fun x H1 => tS X b σ H1 fun y H2 => r x y H2 Q := by
  obtain ⟨r, hr, k⟩ := ho.ex
  refine ⟨r, hr, FE.two ha hb h E (fun x y H2 => r x y H2 Q) fun p q ρ2 x y F2 H2 t n2 E2 r1 r2 => ?_⟩
  obtain ⟨d, w1, t⟩ := E2.seen r1 t
  obtain ⟨e, w2, t⟩ := E2.seen (r2.weak hB_sub) t
  exact k E2 w1 w2 t fun z v F' H' tz G => g z ρ2 v F' H' tz ⟨n2.trans G.nx, G.er, G.rr⟩
theorem fe_op {op : Operator} {o : D → D → (Rv → Prop) → Prop} {pos : Pos} (ho : OpS X (binaryOp op) o) (ha : FE X a ua) (hb : FE X b ub) : FE X (.BinOp a op b pos) (uBin o ua ub) := ⟨fun ρ R q F H σ0 σ B Q E g => by
  obtain ⟨r, hr, t⟩ := FE.binR ho ha hb q E g
  exact to_S (pe_op hr pe_S pe_S) t⟩
theorem fe_cmp {op : CmpOp} {o : D → D → (Rv → Prop) → Prop} {pos : Pos} (ho : OpS X (compareOp op) o) (ha : FE X a ua) (hb : FE X b ub) (hm : behindInMarks op b = false := by rfl) : FE X (.Compare a [op] [b] pos) (uBin o ua ub) := ⟨fun ρ R q F H σ0 σ B Q E g => by
  obtain ⟨r, hr, t⟩ := FE.binR ho ha hb q E g
  exact to_S (pe_cmpR hr pe_S pe_S hm) t⟩
/-- a test: of a value that is a truth -/
def isB (R : Bool → List Sl → Prop) : Rv → List Sl → Prop := fun r ρ => match r with
  | .val (.bl c) => R c ρ
  | _ => False
theorem ft_cmp {op : CmpOp} {o : D → D → (Rv → Prop) → Prop} {pos : Pos} (ho : OpS X (compareOp op) o) (ha : FE X a ua) (hb : FE X b ub) (hm : behindInMarks op b = false := by rfl) : FT X (.Compare a [op] [b] pos) (fun ρ R => uBin o ua ub ρ (isB R)) := ⟨fun ρ R q F H σ0 σ B Q E g => by
  obtain ⟨r, hr, t⟩ := FE.binR (Q := fun x H' => ∃ k, x = .bl k ∧ Q k H') ho ha hb q E fun r ρ' v F' H' h G => by
    unfold isB at h
    split at h
    · rename_i c
      have rr : RD X.K F' v (.bl c) := G.rr
      cases rr
      exact ⟨c, rfl, g c ρ' F' H' h ⟨G.nx, G.er⟩⟩
    · exact h.elim
  exact to_ST (pt_cmpR hr pe_S pe_S hm) t⟩
/-- the truth of a datum -/
def tru : D → (Bool → Prop) → Prop
  | .non, k => k false
  | .bl b, k => k b
  | .int i, k => k (i != 0)
  | .str y, k => y.length ≤ sizeLine ∧ k ((y.length : Int) != 0)
  | .lst l, k => k (!l.isEmpty)
  | .tup l, k => k (!l.isEmpty)
  | .dic l, k => k (!l.isEmpty)
  | _, _ => False
theorem tru_ex {K : PySem.W.Frag} {v : V} {d : D} {k : Bool → Prop} (E : ER K F H σ0 ρ σ B) (h : RW K F H v d) (t : tru d k) : ∃ c, TruV K v H c ∧ k c := by
  cases d with
  | non => cases h.non; exact ⟨_, rfl, t⟩
  | bl b => cases h.bl; exact ⟨_, rfl, t⟩
  | int b => cases h.int; exact ⟨_, rfl, t⟩
  | str b => cases h.str; exact ⟨_, ⟨t.1, rfl⟩, t.2⟩
  | lst l =>
    obtain ⟨a, vs, rfl, h1, h2⟩ := h.lst E.sub
    have e : vs.isEmpty = l.isEmpty := by cases h2 <;> rfl
    exact ⟨_, .inl ⟨vs, .of h1, rfl⟩, by rw [e]; exact t⟩
  | tup l =>
    obtain ⟨a, vs, rfl, h1, h2⟩ := h.tup E.sub
    have e : vs.isEmpty = l.isEmpty := by cases h2 <;> rfl
    exact ⟨_, .inr (.inl ⟨vs, h1, rfl⟩), by rw [e]; exact t⟩
  | dic l =>
    obtain ⟨a, vs, rfl, h1, h2⟩ := h.dic E.sub
    have e : vs.isEmpty = l.isEmpty := by cases h2 <;> rfl
    exact ⟨_, .inr (.inr ⟨vs, h1, rfl⟩), by rw [e]; exact t⟩
  | _ => exact t.elim
def uTru (u : UE) : UT := fun ρ R => u ρ fun r ρ1 => wv ρ1 r fun d => tru d fun c => R c ρ1
theorem ft_tru (ha : FE X a ua) (he : ∀ whole, isTrue a X.env whole = (do let v ← whole; standAt a.pos; holding [v] (truthy v)) := by intro _; rfl) : FT X a (uTru ua) := ⟨fun ρ R q F H σ0 σ B Q E g => by
  refine to_ST (pt_truth pe_S he) (ha ρ _ q F H σ0 σ B _ E fun r ρ1 v F1 H1 h G => ?_)
  obtain ⟨d, w, h⟩ := G.er.seen G.rr h
  obtain ⟨c, w, h⟩ := tru_ex G.er w h
  exact ⟨c, w, g c ρ1 F1 H1 h ⟨G.nx, G.er⟩⟩⟩

/-! ### and, or, not -/
section
variable {rest : List Expr} {t1 t2 : UT} {pos : Pos}
def uAnd (t u : UT) : UT := fun ρ R => t ρ fun c ρ1 => if c = true then u ρ1 R else R false ρ1
def uOr (t u : UT) : UT := fun ρ R => t ρ fun c ρ1 => if c = true then R true ρ1 else u ρ1 R
def uNot (t : UT) : UT := fun ρ R => t ρ fun c ρ1 => R (!c) ρ1
theorem fw_and1 (h : FT X a t1) : FW X (.BoolOp .And [a] pos) t1 := ⟨fun ρ R q F H σ0 σ B Q E g => to_SW (pw_and1 pt_S) (h ρ R q F H σ0 σ B Q E g)⟩
theorem fw_or1 (h : FT X a t1) : FW X (.BoolOp .Or [a] pos) t1 := ⟨fun ρ R q F H σ0 σ B Q E g => to_SW (pw_or1 pt_S) (h ρ R q F H σ0 σ B Q E g)⟩
theorem fw_and (h : FT X a t1) (k : FW X (.BoolOp .And (b :: rest) pos) t2) : FW X (.BoolOp .And (a :: b :: rest) pos) (uAnd t1 t2) := ⟨fun ρ R q F H σ0 σ B Q E g => by
  refine to_SW (pw_and pt_S pw_S) (h ρ _ q F H σ0 σ B _ E fun c ρ1 F1 H1 z G => ?_)
  cases c with
  | true => exact k ρ1 R z F1 H1 σ0 σ B Q G.er fun b ρ' F' H' r G' => g b ρ' F' H' r ⟨G.nx.trans G'.nx, G'.er⟩
  | false => exact g false ρ1 F1 H1 z G⟩
theorem fw_or (h : FT X a t1) (k : FW X (.BoolOp .Or (b :: rest) pos) t2) : FW X (.BoolOp .Or (a :: b :: rest) pos) (uOr t1 t2) := ⟨fun ρ R q F H σ0 σ B Q E g => by
  refine to_SW (pw_or pt_S pw_S) (h ρ _ q F H σ0 σ B _ E fun c ρ1 F1 H1 z G => ?_)
  cases c with
  | false => exact k ρ1 R z F1 H1 σ0 σ B Q G.er fun b ρ' F' H' r G' => g b ρ' F' H' r ⟨G.nx.trans G'.nx, G'.er⟩
  | true => exact g true ρ1 F1 H1 z G⟩
theorem ft_not (h : FT X a t1) : FT X (.UnaryOp .Not a pos) (uNot t1) := ⟨fun ρ R q F H σ0 σ B Q E g => to_ST (pt_not pt_S) (h ρ _ q F H σ0 σ B _ E fun c ρ1 F1 H1 z G => g (!c) ρ1 F1 H1 z G)⟩
/-- .. as values, where they are truths -/
def uAndV (ua ub : UE) : UE := fun ρ R => ua ρ fun r ρ1 => match r with
  | .val (.bl c) => if c = true then ub ρ1 R else R (.val (.bl false)) ρ1
  | _ => False
def uOrV (ua ub : UE) : UE := fun ρ R => ua ρ fun r ρ1 => match r with
  | .val (.bl c) => if c = true then R (.val (.bl true)) ρ1 else ub ρ1 R
  | _ => False
def uNotV (ua : UE) : UE := fun ρ R => ua ρ fun r ρ1 => match r with
  | .val (.bl c) => R (.val (.bl (!c))) ρ1
  | _ => False
theorem fe_one {op} (h : FE X a ua) : FE X (.BoolOp op [a] pos) ua := ⟨fun ρ R q F H σ0 σ B Q E g => to_S (pe_one pe_S) (h ρ R q F H σ0 σ B Q E g)⟩
theorem fe_and (h : FE X a ua) (k : FE X (.BoolOp .And (b :: rest) pos) ub) : FE X (.BoolOp .And (a :: b :: rest) pos) (uAndV ua ub) := ⟨fun ρ R q F H σ0 σ B Q E g => by
  refine to_S (pe_and pe_S pe_S) (h ρ _ q F H σ0 σ B _ E fun r ρ1 v F1 H1 z G => ?_)
  split at z
  · rename_i c
    have rr : RD X.K F1 v (.bl c) := G.rr
    cases rr
    refine ⟨c, rfl, ?_⟩
    cases c with
    | true => exact k ρ1 R z F1 H1 σ0 σ B Q G.er fun r ρ' v F' H' y G' => g r ρ' v F' H' y ⟨G.nx.trans G'.nx, G'.er, G'.rr⟩
    | false => exact g _ _ _ _ _ z G
  · exact z.elim⟩
theorem fe_or (h : FE X a ua) (k : FE X (.BoolOp .Or (b :: rest) pos) ub) : FE X (.BoolOp .Or (a :: b :: rest) pos) (uOrV ua ub) := ⟨fun ρ R q F H σ0 σ B Q E g => by
  refine to_S (pe_or pe_S pe_S) (h ρ _ q F H σ0 σ B _ E fun r ρ1 v F1 H1 z G => ?_)
  split at z
  · rename_i c
    have rr : RD X.K F1 v (.bl c) := G.rr
    cases rr
    refine ⟨c, rfl, ?_⟩
    cases c with
    | false => exact k ρ1 R z F1 H1 σ0 σ B Q G.er fun r ρ' v F' H' y G' => g r ρ' v F' H' y ⟨G.nx.trans G'.nx, G'.er, G'.rr⟩
    | true => exact g _ _ _ _ _ z G
  · exact z.elim⟩
theorem fe_not (h : FE X a ua) : FE X (.UnaryOp .Not a pos) (uNotV ua) := ⟨fun ρ R q F H σ0 σ B Q E g => by
  refine to_S (pe_not pe_S) (h ρ _ q F H σ0 σ B _ E fun r ρ1 v F1 H1 z G => ?_)
  split at z
  · rename_i c
    have rr : RD X.K F1 v (.bl c) := G.rr
    cases rr
    exact ⟨c, rfl, g _ _ _ _ _ z ⟨G.nx, G.er, .bl _⟩⟩
  · exact z.elim⟩
def uIf (t : UT) (ua ub : UE) : UE := fun ρ R => t ρ fun c ρ1 => if c = true then ua ρ1 R else ub ρ1 R
theorem fe_if {c : Expr} (hc : FT X c t1) (ha : FE X a ua) (hb : FE X b ub) : FE X (.IfExp c a b pos) (uIf t1 ua ub) := ⟨fun ρ R q F H σ0 σ B Q E g => by
  refine to_S (pe_ifExp pt_S pe_S pe_S) (hc ρ _ q F H σ0 σ B _ E fun c ρ1 F1 H1 z G => ?_)
  cases c with
  | true => exact ha ρ1 R z F1 H1 σ0 σ B Q G.er fun r ρ' v F' H' y G' => g r ρ' v F' H' y ⟨G.nx.trans G'.nx, G'.er, G'.rr⟩
  | false => exact hb ρ1 R z F1 H1 σ0 σ B Q G.er fun r ρ' v F' H' y G' => g r ρ' v F' H' y ⟨G.nx.trans G'.nx, G'.er, G'.rr⟩⟩
end

/-! ### lists of expressions whose values stay -/
abbrev UA := List Sl → (List D → List Sl → Prop) → Prop
def tA (X : Cx) (es : List Expr) : TA := fun σ H Q => ∀ pos pins s, Inv X pins σ H s → wpAny (model X.prog X.w) X.A (spliced (backTo pos (starEach es X.env))) (AP X pins σ Q) X.xe s
theorem pa_S {es : List Expr} : PA X es (tA X es) := ⟨fun pos pins s σ H Q I h => h pos pins s I⟩
theorem to_A {es : List Expr} {t : TA} {Q : List V → Hp → Prop} (h : PA X es t) (q : t σ H Q) : tA X es σ H Q := fun pos pins s I => h.run pos pins s σ H Q I q
structure FA (X : Cx) (es : List Expr) (u : UA) : Prop where
  run : ∀ (ρ : List Sl) (R : List D → List Sl → Prop), u ρ R → ∀ (F H : Hp) (σ0 σ : L2.St) (B : Addr → Prop) (Q : List V → Hp → Prop), ER X.K F H σ0 ρ σ B →
    (∀ ds ρ' vs F' H', R ds ρ' → Gd X.K F H F' H' σ0 ρ' σ B → RL X.K F' vs ds → Q vs H') → tA X es σ H Q
instance {X : Cx} {es : List Expr} {u : UA} : CoeFun (FA X es u) (fun _ => ∀ (ρ : List Sl) (R : List D → List Sl → Prop), u ρ R → ∀ (F H : Hp) (σ0 σ : L2.St) (B : Addr → Prop) (Q : List V → Hp → Prop), ER X.K F H σ0 ρ σ B →
  (∀ ds ρ' vs F' H', R ds ρ' → Gd X.K F H F' H' σ0 ρ' σ B → RL X.K F' vs ds → Q vs H') → tA X es σ H Q) := ⟨FA.run⟩
def uNil : UA := fun ρ R => R [] ρ
def uCons (ue : UE) (u : UA) : UA := fun ρ R => ue ρ fun r ρ1 => wv ρ1 r fun d => u (frz ρ1 r) fun ds ρ2 => R (d :: ds) ρ2
theorem fa_nil : FA X [] uNil := ⟨fun ρ R q F H σ0 σ B Q E g => to_A pa_nil (g [] ρ [] F H q ⟨.refl _ _ _, E⟩ .nil)⟩
theorem fa_cons {es : List Expr} {u : UA} (ha : FE X a ua) (hr : FA X es u) (hs : starEach (a :: es) X.env = (false, eval a X.env) :: starEach es X.env := by rfl) : FA X (a :: es) (uCons ua u) := ⟨fun ρ R q F H σ0 σ B Q E g => by
  refine to_A (pa_cons pe_S pa_S hs) (ha ρ _ q F H σ0 σ B _ E fun r ρ1 v F1 H1 z G => ?_)
  obtain ⟨F2, d, n2, E2, rd, z⟩ := G.er.freeze G.rr z
  exact hr _ _ z F2 H1 σ0 σ B _ E2 fun ds ρ' vs F' H' y G' l => g (d :: ds) ρ' (v :: vs) F' H' y ⟨G.nx.trans (n2.trans G'.nx), G'.er⟩ (.cons (rd.mono G'.nx.fz) l)⟩
def uTup (u : UA) : UE := fun ρ R => u ρ fun ds ρ1 => ds.length ≤ sizeLine ∧ R (.val (.tup ds)) ρ1
def uLst (u : UA) : UE := fun ρ R => u ρ fun ds ρ1 => ds.length ≤ sizeLine ∧ R (.own (.lst ds)) ρ1
theorem fe_tup {es : List Expr} {u : UA} {k pos} (h : FA X es u) : FE X (.Tuple es k pos) (uTup u) := ⟨fun ρ R q F H σ0 σ B Q E g => by
  refine to_S (pe_tup pa_S) (h ρ _ q F H σ0 σ B _ E fun ds ρ1 vs F1 H1 ⟨y, z⟩ G l => ⟨by rw [l.len]; exact y, fun p np => ?_⟩)
  obtain ⟨E2, n2⟩ := G.er.laid_val (o := .tup vs) np
  exact g _ _ _ _ _ z ⟨G.nx.trans n2, E2, .tup upd_same (l.mono n2.fz)⟩⟩
theorem fe_lst {es : List Expr} {u : UA} {pos} (h : FA X es u) : FE X (.List es pos) (uLst u) := ⟨fun ρ R q F H σ0 σ B Q E g => by
  refine to_S (pe_lst pa_S) (h ρ _ q F H σ0 σ B _ E fun ds ρ1 vs F1 H1 ⟨y, z⟩ G l => ⟨by rw [l.len]; exact y, fun p np => ?_⟩)
  exact g _ _ _ _ _ z ⟨G.nx.trans (nx_new G.er np), G.er.laid np, G.er.laid_own np (.lst upd_same l)⟩⟩
end
end YP
set_option maxRecDepth 100000
/-! The yard's pure layer, part 3: targets, statements, loops, comprehensions. -/
namespace YP
open PySem PySem.Spec PyProof.Rows L2

/-! ### targets, what is stored stays -/
abbrev UG := D → List Sl → (List Sl → Prop) → Prop
abbrev UGs := List D → List Sl → (List Sl → Prop) → Prop
def tG (X : Cx) (tg : Expr) : TG := fun v σ H Q => ∀ pins s u, Inv X pins σ H s → RelV v u → wpAny (model X.prog X.w) X.A (assign tg X.env u) (fun _ s' => ∃ σ' H', Inv X pins σ' H' s' ∧ Q σ' H') X.xe s
def tGs (X : Cx) (ts : List Expr) : TGs := fun vs σ H Q => ∀ pins s us, Inv X pins σ H s → Vals vs us → wpAny (model X.prog X.w) X.A (assignInOrder ((assignEach ts X.env).map (·.2)) us) (fun _ s' => ∃ σ' H', Inv X pins σ' H' s' ∧ Q σ' H') X.xe s
theorem pg_S {X : Cx} {tg : Expr} : PG X tg (tG X tg) := ⟨fun pins s σ H v u Q I r h => h pins s u I r⟩
theorem pgs_S {X : Cx} {ts : List Expr} : PGs X ts (tGs X ts) := ⟨fun pins s σ H v u Q I r h => h pins s u I r⟩
theorem to_G {X : Cx} {tg : Expr} {t : TG} {v : V} {σ : L2.St} {H : Hp} {Q : L2.St → Hp → Prop} (h : PG X tg t) (q : t v σ H Q) : tG X tg v σ H Q := fun pins s u I r => h.run pins s σ H v u Q I r q
theorem to_Gs {X : Cx} {ts : List Expr} {t : TGs} {v : List V} {σ : L2.St} {H : Hp} {Q : L2.St → Hp → Prop} (h : PGs X ts t) (q : t v σ H Q) : tGs X ts v σ H Q := fun pins s u I r => h.run pins s σ H v u Q I r q
/-- only own slots are stored: what a comprehension's target keeps -/
def Keeps (vs : Option (List Nat)) (σ σ' : L2.St) : Prop := match vs with
  | none => True
  | some vs => wipe σ' vs = wipe σ vs
structure FG (X : Cx) (vs : Option (List Nat)) (tg : Expr) (w : UG) : Prop where
  run : ∀ (d : D) (ρ : List Sl) (R : List Sl → Prop), w d ρ R → ∀ (F H : Hp) (σ0 σ : L2.St) (B : Addr → Prop) (v : V) (Q : L2.St → Hp → Prop), ER X.K F H σ0 ρ σ B → RD X.K F v d →
    (∀ ρ' σ' F' H', R ρ' → Gd X.K F H F' H' σ0 ρ' σ' B → Keeps vs σ σ' → Q σ' H') → tG X tg v σ H Q
instance (X : Cx) (vs : Option (List Nat)) (tg : Expr) (w : UG) : CoeFun (FG X vs tg w) (fun _ => ∀ (d : D) (ρ : List Sl) (R : List Sl → Prop), w d ρ R → ∀ (F H : Hp) (σ0 σ : L2.St) (B : Addr → Prop) (v : V) (Q : L2.St → Hp → Prop), ER X.K F H σ0 ρ σ B → RD X.K F v d →
  (∀ ρ' σ' F' H', R ρ' → Gd X.K F H F' H' σ0 ρ' σ' B → Keeps vs σ σ' → Q σ' H') → tG X tg v σ H Q) := ⟨FG.run⟩
structure FGs (X : Cx) (vs : Option (List Nat)) (ts : List Expr) (w : UGs) : Prop where
  run : ∀ (ds : List D) (ρ : List Sl) (R : List Sl → Prop), w ds ρ R → ∀ (F H : Hp) (σ0 σ : L2.St) (B : Addr → Prop) (l : List V) (Q : L2.St → Hp → Prop), ER X.K F H σ0 ρ σ B → RL X.K F l ds →
    (∀ ρ' σ' F' H', R ρ' → Gd X.K F H F' H' σ0 ρ' σ' B → Keeps vs σ σ' → Q σ' H') → tGs X ts l σ H Q
instance (X : Cx) (vs : Option (List Nat)) (ts : List Expr) (w : UGs) : CoeFun (FGs X vs ts w) (fun _ => ∀ (ds : List D) (ρ : List Sl) (R : List Sl → Prop), w ds ρ R → ∀ (F H : Hp) (σ0 σ : L2.St) (B : Addr → Prop) (l : List V) (Q : L2.St → Hp → Prop), ER X.K F H σ0 ρ σ B → RL X.K F l ds →
  (∀ ρ' σ' F' H', R ρ' → Gd X.K F H F' H' σ0 ρ' σ' B → Keeps vs σ σ' → Q σ' H') → tGs X ts l σ H Q) := ⟨FGs.run⟩
theorem Keeps.refl {vs : Option (List Nat)} {σ : L2.St} : Keeps vs σ σ := by cases vs <;> first | trivial | rfl
theorem Keeps.trans {vs : Option (List Nat)} {σ σ1 σ2 : L2.St} (h : Keeps vs σ σ1) (k : Keeps vs σ1 σ2) : Keeps vs σ σ2 := by
  cases vs with
  | none => trivial
  | some vs => exact (show wipe σ2 vs = wipe σ1 vs from k).trans h
def uName (i : Nat) : UG := fun d ρ R => R (ρ.set i (.sl false false d))
theorem wipe_set {i : Nat} {x : Option V} : ∀ {vs : List Nat} {σ : L2.St}, i ∈ vs → wipe (σ.set i x) vs = wipe σ vs
  | [], _, h => nomatch h
  | v :: vs, σ, h => by
    show (wipe (σ.set i x) vs).set v none = (wipe σ vs).set v none
    by_cases e : i ∈ vs
    · rw [wipe_set e]
    · have ei : i = v := by
        rcases List.mem_cons.mp h with z | z
        · exact z
        · exact absurd z e
      subst ei
      have c : ∀ (l : List Nat) (σ : L2.St), i ∉ l → wipe (σ.set i x) l = (wipe σ l).set i x := by
        intro l
        induction l with
        | nil => intro σ _; rfl
        | cons a l ih =>
          intro σ h
          show (wipe (σ.set i x) l).set a none = ((wipe σ l).set a none).set i x
          rw [ih σ (fun z => h (List.mem_cons_of_mem _ z)), List.set_comm _ _ (fun z => h (by rw [z]; exact List.mem_cons_self))]
      rw [c vs σ e, List.set_set]
theorem fg_name {X : Cx} {tg : Expr} {i : Nat} {vs : Option (List Nat)} (h : PG X tg (gName i)) (k : ∀ l, vs = some l → i ∈ l := by first | exact fun _ e => by cases e | (intro l e; cases e; decide)) : FG X vs tg (uName i) := ⟨fun d ρ R w F H σ0 σ B v Q E rd g =>
  to_G h (g _ _ F H w ⟨.refl _ _ _, E.set_val rd⟩ (by
    cases vs with
    | none => trivial
    | some l => exact wipe_set (k l rfl)))⟩
def uGNil : UGs := fun ds ρ R => match ds with
  | [] => R ρ
  | _ => False
def uGCons (t : UG) (u : UGs) : UGs := fun ds ρ R => match ds with
  | d :: r => t d ρ fun ρ1 => u r ρ1 R
  | _ => False
theorem fgs_nil {X : Cx} {vs : Option (List Nat)} : FGs X vs [] uGNil := ⟨fun ds ρ R w F H σ0 σ B l Q E rl g => by
  cases rl with
  | nil => exact to_Gs pgs_nil ⟨rfl, g _ _ F H w ⟨.refl _ _ _, E⟩ .refl⟩
  | cons _ _ => exact w.elim⟩
theorem fgs_cons {X : Cx} {vs : Option (List Nat)} {e : Expr} {es : List Expr} {t : UG} {u : UGs} (h1 : FG X vs e t) (h2 : FGs X vs es u)
    (hs : (assignEach (e :: es) X.env).map (·.2) = assign e X.env :: (assignEach es X.env).map (·.2) := by rfl) : FGs X vs (e :: es) (uGCons t u) := ⟨fun ds ρ R w F H σ0 σ B l Q E rl g => by
  cases rl with
  | nil => exact w.elim
  | @cons v l d ds rd rl =>
    exact to_Gs (pgs_cons pg_S pgs_S hs) ⟨v, l, rfl, h1 d ρ _ w F H σ0 σ B v _ E rd fun ρ1 σ1 F1 H1 w1 G1 k1 =>
      h2 ds ρ1 R w1 F1 H1 σ0 σ1 B l Q G1.er (rl.mono G1.nx.fz) fun ρ2 σ2 F2 H2 w2 G2 k2 => g ρ2 σ2 F2 H2 w2 ⟨G1.nx.trans G2.nx, G2.er⟩ (k1.trans k2)⟩⟩
def uGTup (n : Nat) (u : UGs) : UG := fun d ρ R => match d with
  | .tup ds => ds.length = n ∧ u ds ρ R
  | _ => False
theorem fg_tup {X : Cx} {vs : Option (List Nat)} {es : List Expr} {k : Nat} {u : UGs} {n : Nat} {pos : Pos} (hc : X.calm = true) (h : FGs X vs es u)
    (hn : (assignEach es X.env).length = n := by rfl) (hst : (assignEach es X.env).findIdx? (·.1) = none := by rfl) : FG X vs (.Tuple es k pos) (uGTup n u) := ⟨fun d ρ R w F H σ0 σ B v Q E rd g => by
  cases rd with
  | tup h1 h2 => exact to_G (pg_tup hc pgs_S hn hst) ⟨_, _, rfl, .of (E.sub _ _ h1), by rw [h2.len]; exact w.1, h _ ρ R w.2 F H σ0 σ B _ Q E h2 g⟩
  | _ => exact w.elim⟩

/-! ### statements -/
structure En where
  nx : List Sl → Prop
  rt : Rv → List Sl → Prop
  bk : List Sl → Prop := fun _ => False
  ct : List Sl → Prop := fun _ => False
abbrev US := En → List Sl → Prop
def tSS (X : Cx) (st : Stmt) : TS := fun D σ H => ∀ pins s, Inv X pins σ H s → wpAny (model X.prog X.w) X.A (exec st X.env) (SP X pins D) X.xe s
def tBs (X : Cx) (sts : List Stmt) : TS := fun D σ H => ∀ pins s, Inv X pins σ H s → wpAny (model X.prog X.w) X.A (execs sts X.env) (SP X pins D) X.xe s
theorem ps_S {X : Cx} {st : Stmt} : PS X st (tSS X st) := ⟨fun pins s σ H D I h => h pins s I⟩
theorem pss_S {X : Cx} {sts : List Stmt} : PSs X sts (tBs X sts) := ⟨fun pins s σ H D I h => h pins s I⟩
theorem to_SS {X : Cx} {st : Stmt} {t : TS} {D : Ends} {σ : L2.St} {H : Hp} (h : PS X st t) (q : t D σ H) : tSS X st D σ H := fun pins s I => h.run pins s σ H D I q
theorem to_Bs {X : Cx} {sts : List Stmt} {t : TS} {D : Ends} {σ : L2.St} {H : Hp} (h : PSs X sts t) (q : t D σ H) : tBs X sts D σ H := fun pins s I => h.run pins s σ H D I q
structure Fol (K : PySem.W.Frag) (F H : Hp) (σ0 : L2.St) (B : Addr → Prop) (E : En) (D : Ends) : Prop where
  nx : ∀ ρ' σ' F' H', E.nx ρ' → Gd K F H F' H' σ0 ρ' σ' B → D.nx σ' H'
  rt : ∀ r ρ' v σ' F' H', E.rt r ρ' → Gt K F H F' H' σ0 ρ' σ' B r v → D.rt v H'
  bk : ∀ ρ' σ' F' H', E.bk ρ' → Gd K F H F' H' σ0 ρ' σ' B → D.bk σ' H'
  ct : ∀ ρ' σ' F' H', E.ct ρ' → Gd K F H F' H' σ0 ρ' σ' B → D.ct σ' H'
theorem Fol.on {K : PySem.W.Frag} {F H F1 H1 : Hp} {σ0 : L2.St} {B : Addr → Prop} {E : En} {D : Ends} (f : Fol K F H σ0 B E D) (n : Nx F H F1 H1 B) : Fol K F1 H1 σ0 B E D :=
  ⟨fun ρ' σ' F' H' e G => f.nx ρ' σ' F' H' e ⟨n.trans G.nx, G.er⟩, fun r ρ' v σ' F' H' e G => f.rt r ρ' v σ' F' H' e ⟨n.trans G.nx, G.er, G.rr⟩,
    fun ρ' σ' F' H' e G => f.bk ρ' σ' F' H' e ⟨n.trans G.nx, G.er⟩, fun ρ' σ' F' H' e G => f.ct ρ' σ' F' H' e ⟨n.trans G.nx, G.er⟩⟩
structure FS (X : Cx) (st : Stmt) (u : US) : Prop where
  run : ∀ (E : En) (ρ : List Sl), u E ρ → ∀ (F H : Hp) (σ0 σ : L2.St) (B : Addr → Prop) (D : Ends), ER X.K F H σ0 ρ σ B → Fol X.K F H σ0 B E D → tSS X st D σ H
instance {X : Cx} {st : Stmt} {u : US} : CoeFun (FS X st u) (fun _ => ∀ (E : En) (ρ : List Sl), u E ρ → ∀ (F H : Hp) (σ0 σ : L2.St) (B : Addr → Prop) (D : Ends), ER X.K F H σ0 ρ σ B → Fol X.K F H σ0 B E D → tSS X st D σ H) := ⟨FS.run⟩
structure FB (X : Cx) (sts : List Stmt) (u : US) : Prop where
  run : ∀ (E : En) (ρ : List Sl), u E ρ → ∀ (F H : Hp) (σ0 σ : L2.St) (B : Addr → Prop) (D : Ends), ER X.K F H σ0 ρ σ B → Fol X.K F H σ0 B E D → tBs X sts D σ H
instance {X : Cx} {sts : List Stmt} {u : US} : CoeFun (FB X sts u) (fun _ => ∀ (E : En) (ρ : List Sl), u E ρ → ∀ (F H : Hp) (σ0 σ : L2.St) (B : Addr → Prop) (D : Ends), ER X.K F H σ0 ρ σ B → Fol X.K F H σ0 B E D → tBs X sts D σ H) := ⟨FB.run⟩
section
variable {X : Cx} {st : Stmt} {rest body : List Stmt} {t u : US} {e : Expr} {ue : UE} {pos : Pos}
def uNext : US := fun E ρ => E.nx ρ
def uSeq (t u : US) : US := fun E ρ => t { E with nx := u E } ρ
theorem fb_nil : FB X [] uNext := ⟨fun E ρ q F H σ0 σ B D er f => to_Bs pss_nil (f.nx ρ σ F H q ⟨.refl _ _ _, er⟩)⟩
theorem fb_cons (h1 : FS X st t) (h2 : FB X rest u) : FB X (st :: rest) (uSeq t u) := ⟨fun E ρ q F H σ0 σ B D er f =>
  to_Bs (pss_cons ps_S pss_S) (h1 _ ρ q F H σ0 σ B _ er ⟨fun ρ' σ' F' H' z G => h2 E ρ' z F' H' σ0 σ' B D G.er (f.on G.nx), f.rt, f.bk, f.ct⟩)⟩
theorem fb_one (h1 : FS X st t) : FB X [st] t := ⟨fun E ρ q F H σ0 σ B D er f => to_Bs (pss_one ps_S) (h1 E ρ q F H σ0 σ B D er f)⟩
def uBreak : US := fun E ρ => E.bk ρ
def uCont : US := fun E ρ => E.ct ρ
theorem fs_pass : FS X (.Pass pos) uNext := ⟨fun E ρ q F H σ0 σ B D er f => to_SS ps_pass (f.nx ρ σ F H q ⟨.refl _ _ _, er⟩)⟩
theorem fs_break : FS X (.Break pos) uBreak := ⟨fun E ρ q F H σ0 σ B D er f => to_SS ps_break (f.bk ρ σ F H q ⟨.refl _ _ _, er⟩)⟩
theorem fs_continue : FS X (.Continue pos) uCont := ⟨fun E ρ q F H σ0 σ B D er f => to_SS ps_continue (f.ct ρ σ F H q ⟨.refl _ _ _, er⟩)⟩
def uDrop (ue : UE) : US := fun E ρ => ue ρ fun _ ρ1 => E.nx ρ1
theorem fs_expr (he : FE X e ue) (hs : swapsWith e none pos.line X.env = pure false := by rfl) : FS X (.Expr e pos) (uDrop ue) := ⟨fun E ρ q F H σ0 σ B D er f =>
  to_SS (ps_expr pe_S hs) (he ρ _ q F H σ0 σ B _ er fun r ρ1 v F1 H1 z G => f.nx ρ1 σ F1 H1 z ⟨G.nx, G.er⟩)⟩
def uRet (ue : UE) : US := fun E ρ => ue ρ E.rt
theorem fs_ret (he : FE X e ue) : FS X (.Return (some e) pos) (uRet ue) := ⟨fun E ρ q F H σ0 σ B D er f =>
  to_SS (ps_ret pe_S) (he ρ _ q F H σ0 σ B _ er fun r ρ1 v F1 H1 z G => f.rt r ρ1 v σ F1 H1 z G)⟩
def uRetN : US := fun E ρ => E.rt (.val .non) ρ
theorem fs_retN : FS X (.Return none pos) uRetN := ⟨fun E ρ q F H σ0 σ B D er f => to_SS ps_retN (f.rt _ ρ _ σ F H q ⟨.refl _ _ _, er, .non⟩)⟩
def uIfS (c : UT) (t u : US) : US := fun E ρ => c ρ fun b ρ1 => if b = true then t E ρ1 else u E ρ1
theorem fs_if {c : Expr} {a b : List Stmt} {tc : UT} (hc : FT X c tc) (ha : FB X a t) (hb : FB X b u) : FS X (.If c a b pos) (uIfS tc t u) := ⟨fun E ρ q F H σ0 σ B D er f => by
  refine to_SS (ps_if pt_S pss_S pss_S) (hc ρ _ q F H σ0 σ B _ er fun c ρ1 F1 H1 z G => ?_)
  cases c with
  | true => exact ha E ρ1 z F1 H1 σ0 σ B D G.er (f.on G.nx)
  | false => exact hb E ρ1 z F1 H1 σ0 σ B D G.er (f.on G.nx)⟩
/-- name = value: the statement's rule, with tS for the value -/
def uSet (i : Nat) (ue : UE) : US := fun E ρ => ue ρ fun r ρ1 => put ρ1 i r E.nx
theorem fs_set {i : Nat} (h : PS X st (tAsg (tS X e) (gName i))) (he : FE X e ue) : FS X st (uSet i ue) := ⟨fun E ρ q F H σ0 σ B D er f =>
  to_SS h (he ρ _ q F H σ0 σ B _ er fun r ρ1 v F1 H1 z G => by
    obtain ⟨F2, ρ2, n2, er2, z⟩ := G.er.put G.rr z
    exact f.nx ρ2 _ F2 H1 z ⟨G.nx.trans n2, er2⟩)⟩
/-- target = value, the value stays -/
def uAsg (ue : UE) (g : UG) : US := fun E ρ => ue ρ fun r ρ1 => wv ρ1 r fun d => g d (frz ρ1 r) E.nx
theorem fs_asg {tg : Expr} {g : UG} (h : PS X st (tAsg (tS X e) (tG X tg))) (he : FE X e ue) (hg : FG X none tg g) : FS X st (uAsg ue g) := ⟨fun E ρ q F H σ0 σ B D er f =>
  to_SS h (he ρ _ q F H σ0 σ B _ er fun r ρ1 v F1 H1 z G => by
    obtain ⟨F2, d, n2, E2, rd, z⟩ := G.er.freeze G.rr z
    exact hg d _ _ z F2 H1 σ0 σ B v _ E2 rd fun ρ' σ' F' H' y G' _ => f.nx ρ' σ' F' H' y ⟨G.nx.trans (n2.trans G'.nx), G'.er⟩)⟩
/-- name op= value -/
def uAug (i : Nat) (o : D → D → (Rv → Prop) → Prop) (ue : UE) : US := fun E ρ => match ρ[i]? with
  | some (.sl false _ d) => ue ρ fun r ρ1 => wv ρ1 r fun e => o d e fun z => put ρ1 i z E.nx
  | _ => False
theorem fs_aug {i : Nat} {op : Operator} {o : D → D → (Rv → Prop) → Prop} (ho : OpS X (inplaceOp op) o) (h : ∀ ti, PIp X op ti → PS X st (tAug i (tS X e) ti)) (he : FE X e ue) : FS X st (uAug i o ue) := ⟨fun E ρ q F H σ0 σ B D er f => by
  obtain ⟨r, hr, k⟩ := ho.ex
  unfold uAug at q
  cases z : ρ[i]? with
  | none => rw [z] at q; exact q.elim
  | some s =>
    cases s with
    | un => rw [z] at q; exact q.elim
    | sl o' p d =>
      rw [z] at q
      cases o' with
      | true => exact q.elim
      | false =>
        obtain ⟨x, e1, rd⟩ := er.fz i p d z
        refine to_SS (h r fun pins s σ H x y v u Q I rx ry t => hr pins s σ H x y v u Q I rx ry t) ⟨x, e1, he ρ _ q F H σ0 σ B _ er fun r1 ρ1 v F1 H1 z G => ?_⟩
        obtain ⟨e, w, z⟩ := G.er.seen G.rr z
        refine k G.er (.inl (rd.mono G.nx.fz)) w z fun r2 v2 F2 H2 z2 G2 => ?_
        obtain ⟨F3, ρ3, n3, er3, z3⟩ := G2.er.put G2.rr z2
        exact f.nx ρ3 _ F3 H2 z3 ⟨G.nx.trans (G2.nx.trans n3), er3⟩⟩

/-! ### while -/
def uWhile (c : UT) (tb : US) : US := fun E ρ => ∃ W : Nat → List Sl → Prop, (∃ m, W m ρ) ∧ ∀ m ρ, W m ρ →
  c ρ fun b ρ1 => if b = true then tb { E with nx := fun ρ2 => ∃ m', m' < m ∧ W m' ρ2, ct := fun ρ2 => ∃ m', m' < m ∧ W m' ρ2, bk := E.nx } ρ1 else E.nx ρ1
theorem fs_while {c : Expr} {tc : UT} (hp : PassesOwn (model X.prog X.w) X.A X.env X.xe) (hc : FT X c tc) (hb : FB X body t) : FS X (.While c body [] pos) (uWhile tc t) := ⟨fun E ρ q F H σ0 σ B D er f => by
  obtain ⟨W, ⟨m0, w0⟩, turn⟩ := q
  refine to_SS (ps_while hp pt_S pss_S) ⟨fun m σ' H' => ∃ ρ' F', W m ρ' ∧ Gd X.K F H F' H' σ0 ρ' σ' B, ⟨m0, ρ, F, w0, .refl _ _ _, er⟩, ?_⟩
  rintro m σ1 H1 ⟨ρ1, F1, w1, G1⟩
  refine hc ρ1 _ (turn m ρ1 w1) F1 H1 σ0 σ1 B _ G1.er fun b ρ2 F2 H2 z G2 => ?_
  cases b with
  | false => exact f.nx ρ2 σ1 F2 H2 z ⟨G1.nx.trans G2.nx, G2.er⟩
  | true =>
    refine ⟨fun σ' H' => ∃ m', m' < m ∧ ∃ ρ' F', W m' ρ' ∧ Gd X.K F H F' H' σ0 ρ' σ' B, fun σ' H' h => h, ?_⟩
    have n2 := G1.nx.trans G2.nx
    have f2 := f.on n2
    exact hb _ ρ2 z F2 H2 σ0 σ1 B _ G2.er ⟨fun ρ' σ' F' H' ⟨m', l, w⟩ G => ⟨m', l, ρ', F', w, n2.trans G.nx, G.er⟩, f2.rt, f2.nx, fun ρ' σ' F' H' ⟨m', l, w⟩ G => ⟨m', l, ρ', F', w, n2.trans G.nx, G.er⟩⟩⟩

/-! ### what is walked -/
abbrev UI := List Sl → (List D → List Sl → Prop) → Prop
def tI (X : Cx) (tg iter : Expr) : TI := fun σ H R => ∀ pins s, Inv X pins σ H s → wpAny (model X.prog X.w) X.A (eval iter X.env) (fun v s1 => wpAny (model X.prog X.w) X.A (pyIter v) (PIE X pins σ tg R) X.xe s1) X.xe s
theorem pi_S {tg iter : Expr} : PI X tg iter (tI X tg iter) := ⟨fun pins s σ H R I h => h pins s I⟩
theorem to_I {tg iter : Expr} {w : TI} {σ : L2.St} {H : Hp} {R : It → Hp → Prop} (h : PI X tg iter w) (q : w σ H R) : tI X tg iter σ H R := fun pins s I => h.run pins s σ H R I q
/-- at a turn it gives the i-th datum: one that stays, or a new one -/
def YD (K : PySem.W.Frag) (F : Hp) (ds : List D) : Nat → Hp → V → Hp → Prop := fun i H x H' => ∃ d, ds[i]? = some d ∧
  ((H' = H ∧ RD K F x d) ∨ ∃ p o, H' = upd H p o ∧ H p = none ∧ ∀ F', Same F F' → F' p = none → RD K (upd F' p o) x d)
abbrev WD (K : PySem.W.Frag) (F : Hp) (J : It) (ds : List D) : Prop := Walk J ds.length (fun H => Same F H) (YD K F ds)
structure FI (X : Cx) (tg iter : Expr) (w : UI) : Prop where
  run : ∀ (ρ : List Sl) (R : List D → List Sl → Prop), w ρ R → ∀ (F H : Hp) (σ0 σ : L2.St) (B : Addr → Prop) (Q : It → Hp → Prop), ER X.K F H σ0 ρ σ B →
    (∀ ds ρ' J F' H', R ds ρ' → Gd X.K F H F' H' σ0 ρ' σ B → WD X.K F' J ds → Q J H') → tI X tg iter σ H Q
instance {X : Cx} {tg iter : Expr} {w : UI} : CoeFun (FI X tg iter w) (fun _ => ∀ (ρ : List Sl) (R : List D → List Sl → Prop), w ρ R → ∀ (F H : Hp) (σ0 σ : L2.St) (B : Addr → Prop) (Q : It → Hp → Prop), ER X.K F H σ0 ρ σ B →
  (∀ ds ρ' J F' H', R ds ρ' → Gd X.K F H F' H' σ0 ρ' σ B → WD X.K F' J ds → Q J H') → tI X tg iter σ H Q) := ⟨FI.run⟩
/-- what it gives, in the state behind -/
theorem yd_er {K : PySem.W.Frag} {F0 F H H' : Hp} {σ0 σ : L2.St} {ρ : List Sl} {B : Addr → Prop} {ds : List D} {i : Nat} {x : V} (E : ER K F H σ0 ρ σ B) (s : Same F0 F) (y : YD K F0 ds i H x H') :
    ∃ d F', ds[i]? = some d ∧ Gd K F H F' H' σ0 ρ σ B ∧ RD K F' x d := by
  obtain ⟨d, e, ⟨rfl, rd⟩ | ⟨p, o, rfl, np, rd⟩⟩ := y
  · exact ⟨d, F, e, ⟨.refl _ _ _, E⟩, rd.mono s⟩
  · obtain ⟨E2, n2⟩ := E.laid_val (o := o) np
    exact ⟨d, _, e, ⟨n2, E2⟩, rd F s (E.free np)⟩
def uFor (w : UI) (g : UG) (tb : US) : US := fun E ρ => w ρ fun ds ρ1 => ∃ W : Nat → List Sl → Prop, W 0 ρ1 ∧ (∀ i d ρ, ds[i]? = some d → W i ρ →
  g d ρ fun ρ2 => tb { E with nx := W (i + 1), ct := W (i + 1), bk := E.nx } ρ2) ∧ ∀ ρ, W ds.length ρ → E.nx ρ
theorem fs_for {tg iter : Expr} {w : UI} {g : UG} (hp : PassesOwn (model X.prog X.w) X.A X.env X.xe) (hc : X.calm = true) (hi : FI X tg iter w) (hg : FG X none tg g) (hb : FB X body t)
    (hs : ∀ x, foldedSetIterable iter X.env x = pure x := by intro _; rfl) : FS X (.For tg iter body [] pos) (uFor w g t) := ⟨fun E ρ q F H σ0 σ B D er f => by
  refine to_SS (ps_for hp hc pi_S pg_S pss_S hs) (hi ρ _ q F H σ0 σ B _ er fun ds ρ1 J F1 H1 ⟨W, w0, turn, done⟩ G1 wd => ?_)
  refine for_it wd (fun i σ' H' => ∃ ρ' F', W i ρ' ∧ Gd X.K F1 H1 F' H' σ0 ρ' σ' B) ⟨ρ1, F1, w0, .refl _ _ _, G1.er⟩ (fun i σ' H' _ ⟨ρ', F', _, G⟩ => G.nx.fz.trans G.er.sub) ?_ (fun σ' H' ⟨ρ', F', w', G⟩ => f.nx ρ' σ' F' H' (done ρ' w') ⟨G1.nx.trans G.nx, G.er⟩)
  rintro i x σ2 H2 H3 hi ⟨ρ2, F2, w2, G2⟩ y
  obtain ⟨d, F3, e, G3, rd⟩ := yd_er G2.er G2.nx.fz y
  refine hg d ρ2 _ (turn i d ρ2 e w2) F3 H3 σ0 σ2 B x _ G3.er rd fun ρ4 σ4 F4 H4 z G4 _ => ?_
  have n4 := G2.nx.trans (G3.nx.trans G4.nx)
  have f4 := f.on (G1.nx.trans n4)
  exact hb _ ρ4 z F4 H4 σ0 σ4 B _ G4.er ⟨fun ρ' σ' F' H' w' G => ⟨ρ', F', w', n4.trans G.nx, G.er⟩, f4.rt, f4.nx, fun ρ' σ' F' H' w' G => ⟨ρ', F', w', n4.trans G.nx, G.er⟩⟩⟩

/-! ### comprehensions -/
def wipeS (ρ : List Sl) : List Nat → List Sl
  | [] => ρ
  | v :: vs => (wipeS ρ vs).set v .un
theorem ER.forget {K : PySem.W.Frag} {F H : Hp} {σ0 σ : L2.St} {ρ : List Sl} {B : Addr → Prop} (E : ER K F H σ0 ρ σ B) (v : Nat) : ER K F H σ0 (ρ.set v .un) σ B := by
  have at_ : ∀ (j : Nat) o p d, (ρ.set v .un)[j]? = some (Sl.sl o p d) → ρ[j]? = some (Sl.sl o p d) ∧ j ≠ v := fun j o p d e => by
    by_cases hj : j = v
    · subst hj
      by_cases hl : j < ρ.length
      · rw [List.getElem?_set_self hl] at e; cases e
      · rw [List.getElem?_eq_none (by rw [List.length_set]; omega)] at e; cases e
    · rw [List.getElem?_set_ne (Ne.symm hj)] at e; exact ⟨e, hj⟩
  exact ⟨by rw [List.length_set]; exact E.len, E.sub, fun i p d h => E.fz i p d (at_ _ _ _ _ h).1, fun i p d h => E.ow i p d (at_ _ _ _ _ h).1, fun i j a p q d e h k => E.inj i j a p q d e (at_ _ _ _ _ h).1 (at_ _ _ _ _ k).1, fun i o d h => E.par i o d (at_ _ _ _ _ h).1, E.out⟩
theorem ER.unset {K : PySem.W.Frag} {F H : Hp} {σ0 σ : L2.St} {ρ : List Sl} {B : Addr → Prop} {v : Nat} {x : Option V} (E : ER K F H σ0 ρ σ B) : ER K F H σ0 (ρ.set v .un) (σ.set v x) B := by
  have E1 := E.forget v
  have at_ : ∀ (j : Nat) o p d, (ρ.set v .un)[j]? = some (Sl.sl o p d) → (σ.set v x)[j]? = σ[j]? := fun j o p d e => by
    by_cases hj : j = v
    · subst hj
      by_cases hl : j < ρ.length
      · rw [List.getElem?_set_self hl] at e; cases e
      · rw [List.getElem?_eq_none (by rw [List.length_set]; omega)] at e; cases e
    · exact List.getElem?_set_ne (Ne.symm hj)
  exact ⟨by rw [List.length_set, List.length_set]; exact E.len, E.sub, fun i p d h => by rw [at_ _ _ _ _ h]; exact E1.fz i p d h, fun i p d h => by rw [at_ _ _ _ _ h]; exact E1.ow i p d h,
    fun i j a p q d e h k hi hj => by rw [at_ _ _ _ _ h] at hi; rw [at_ _ _ _ _ k] at hj; exact E1.inj i j a p q d e h k hi hj, fun i o d h => by rw [at_ _ _ _ _ h]; exact E1.par i o d h, E.out⟩
theorem ER.wipe {K : PySem.W.Frag} {F H : Hp} {σ0 σ : L2.St} {ρ : List Sl} {B : Addr → Prop} (E : ER K F H σ0 ρ σ B) : ∀ vs : List Nat, ER K F H σ0 (wipeS ρ vs) (L2.wipe σ vs) B
  | [] => E
  | v :: vs => (E.wipe vs).unset
theorem wipeS_get {ρ : List Sl} {j : Nat} {o p : Bool} {d : D} : ∀ {vs : List Nat}, (wipeS ρ vs)[j]? = some (Sl.sl o p d) → j ∉ vs
  | [], _ => fun h => nomatch h
  | v :: vs, e => by
    have e' : ((wipeS ρ vs).set v .un)[j]? = some (Sl.sl o p d) := e
    by_cases hj : j = v
    · subst hj
      by_cases hl : j < (wipeS ρ vs).length
      · rw [List.getElem?_set_self hl] at e'; cases e'
      · rw [List.getElem?_eq_none (by rw [List.length_set]; omega)] at e'; cases e'
    · rw [List.getElem?_set_ne (Ne.symm hj)] at e'
      exact fun h => (List.mem_cons.mp h).elim hj (wipeS_get e')
theorem wipe_get {σ : L2.St} {j : Nat} : ∀ {vs : List Nat}, j ∉ vs → (L2.wipe σ vs)[j]? = σ[j]?
  | [], _ => rfl
  | v :: vs, h => by
    show ((L2.wipe σ vs).set v none)[j]? = _
    rw [List.getElem?_set_ne (fun z => h (by rw [z]; exact List.mem_cons_self)), wipe_get fun z => h (List.mem_cons_of_mem _ z)]
/-- the slots within a comprehension's block are forgotten behind it -/
theorem ER.unwipe {K : PySem.W.Frag} {F H : Hp} {σ0 σ : L2.St} {ρ : List Sl} {B : Addr → Prop} {vs : List Nat} (E : ER K F H σ0 (wipeS ρ vs) (L2.wipe σ vs) B) : ER K F H σ0 (wipeS ρ vs) σ B := by
  have at_ : ∀ (j : Nat) o p d, (wipeS ρ vs)[j]? = some (Sl.sl o p d) → (L2.wipe σ vs)[j]? = σ[j]? := fun j o p d e => wipe_get (wipeS_get e)
  exact ⟨by rw [E.len, wipe_length], E.sub, fun i p d h => by rw [← at_ _ _ _ _ h]; exact E.fz i p d h, fun i p d h => by rw [← at_ _ _ _ _ h]; exact E.ow i p d h,
    fun i j a p q d e h k hi hj => by rw [← at_ _ _ _ _ h] at hi; rw [← at_ _ _ _ _ k] at hj; exact E.inj i j a p q d e h k hi hj, fun i o d h => by rw [← at_ _ _ _ _ h]; exact E.par i o d h, E.out⟩
/-- W: by the turn, what is made so far, the slots -/
def uLc (w : UI) (g : UG) (tt : UT) (te : UE) (vs : List Nat) : UE := fun ρ R => w ρ fun ds ρ1 => ∃ W : Nat → List D → List Sl → Prop, W 0 [] (wipeS ρ1 vs) ∧ (∀ i d acc ρ, ds[i]? = some d → W i acc ρ →
  g d ρ fun ρ2 => tt ρ2 fun b ρ3 => if b = true then te ρ3 fun r ρ4 => wv ρ4 r fun e => acc.length < sizeLine ∧ W (i + 1) (acc ++ [e]) (wipeS (frz ρ4 r) vs) else W (i + 1) acc (wipeS ρ3 vs)) ∧
  (∀ i acc ρ, W i acc ρ → ∃ ρ', ρ = wipeS ρ' vs) ∧ ∀ acc ρ, W ds.length acc ρ → R (.own (.lst acc)) ρ
structure FTs (X : Cx) (ifs : List Expr) (u : UT) : Prop where
  run : ∀ (ρ : List Sl) (R : Bool → List Sl → Prop), u ρ R → ∀ (F H : Hp) (σ0 σ : L2.St) (B : Addr → Prop) (Q : Bool → Hp → Prop), ER X.K F H σ0 ρ σ B →
    (∀ b ρ' F' H', R b ρ' → Gd X.K F H F' H' σ0 ρ' σ B → Q b H') → ∀ pins s, Inv X pins σ H s → wpAny (model X.prog X.w) X.A (forIn ifs true fun c r => if r = true then do let ok ← isTrue c X.env (eval c X.env); pure (ForInStep.yield ok) else pure (ForInStep.yield r)) (TP X pins σ Q) X.xe s
instance {X : Cx} {ifs : List Expr} {u : UT} : CoeFun (FTs X ifs u) (fun _ => ∀ (ρ : List Sl) (R : Bool → List Sl → Prop), u ρ R → ∀ (F H : Hp) (σ0 σ : L2.St) (B : Addr → Prop) (Q : Bool → Hp → Prop), ER X.K F H σ0 ρ σ B →
  (∀ b ρ' F' H', R b ρ' → Gd X.K F H F' H' σ0 ρ' σ B → Q b H') → ∀ pins s, Inv X pins σ H s → wpAny (model X.prog X.w) X.A (forIn ifs true fun c r => if r = true then do let ok ← isTrue c X.env (eval c X.env); pure (ForInStep.yield ok) else pure (ForInStep.yield r)) (TP X pins σ Q) X.xe s) := ⟨FTs.run⟩
def uYes : UT := fun ρ R => R true ρ
theorem fts_nil : FTs X [] uYes := ⟨fun ρ R q F H σ0 σ B Q E g pins s I => pts_nil.run pins s σ H Q I (g true ρ F H q ⟨.refl _ _ _, E⟩)⟩
theorem fts_one {c : Expr} {u : UT} (h : FT X c u) : FTs X [c] u := ⟨fun ρ R q F H σ0 σ B Q E g pins s I => (pts_one pt_S).run pins s σ H Q I (h ρ R q F H σ0 σ B Q E g)⟩
def bG (X : Cx) (scope : Scope) (tg : Expr) : TG := fun v σ H Q => ∀ s H0 C cl fp, tG (X.blk s H0 scope (compEnvC scope cl C X.env) fp) tg v σ H Q
def bT (X : Cx) (scope : Scope) (ifs : List Expr) : TT := fun σ H Q => ∀ s0 H0 C cl fp pins s, Inv (X.blk s0 H0 scope (compEnvC scope cl C X.env) fp) pins σ H s → wpAny (model X.prog X.w) (X.blk s0 H0 scope (compEnvC scope cl C X.env) fp).A (forIn ifs true fun c r => if r = true then do let ok ← isTrue c (X.blk s0 H0 scope (compEnvC scope cl C X.env) fp).env (eval c (X.blk s0 H0 scope (compEnvC scope cl C X.env) fp).env); pure (ForInStep.yield ok) else pure (ForInStep.yield r)) (TP (X.blk s0 H0 scope (compEnvC scope cl C X.env) fp) pins σ Q) (X.blk s0 H0 scope (compEnvC scope cl C X.env) fp).xe s
def bE (X : Cx) (scope : Scope) (elt : Expr) : TE := fun σ H Q => ∀ s H0 C cl fp, tS (X.blk s H0 scope (compEnvC scope cl C X.env) fp) elt σ H Q
theorem pg_bS {scope : Scope} {tg : Expr} (s : Shared) (H : Hp) (C : Addr) (cl : List (Str × Addr)) (fp : List Addr) : PG (X.blk s H scope (compEnvC scope cl C X.env) fp) tg (bG X scope tg) := ⟨fun pins s' σ _ v u Q I r h => h s H C cl fp pins s' u I r⟩
theorem pts_bS {scope : Scope} {ifs : List Expr} (s : Shared) (H : Hp) (C : Addr) (cl : List (Str × Addr)) (fp : List Addr) : PTs (X.blk s H scope (compEnvC scope cl C X.env) fp) ifs (bT X scope ifs) := ⟨fun pins s' σ _ Q I h => h s H C cl fp pins s' I⟩
theorem pe_bS {scope : Scope} {elt : Expr} (s : Shared) (H : Hp) (C : Addr) (cl : List (Str × Addr)) (fp : List Addr) : PE (X.blk s H scope (compEnvC scope cl C X.env) fp) elt (bE X scope elt) := ⟨fun pins s' σ _ Q I h => h s H C cl fp pins s' I⟩
theorem lc_tl {elt tg iter : Expr} {ifs : List Expr} {scope : Scope} {own : List (Str × Nat)} {w : UI} {g : UG} {tt : UT} {te : UE}
    (hi : FI X tg iter w) (hK : ∀ (s : Shared) (H : Hp) (C : Addr) (cl : List (Str × Addr)) (fp : List Addr), (X.blk s H scope (compEnvC scope cl C X.env) fp).K = X.K)
    (hg : ∀ (s : Shared) (H : Hp) (C : Addr) (cl : List (Str × Addr)) (fp : List Addr), FG (X.blk s H scope (compEnvC scope cl C X.env) fp) (some (own.map (·.2))) tg g)
    (ht : ∀ (s : Shared) (H : Hp) (C : Addr) (cl : List (Str × Addr)) (fp : List Addr), FTs (X.blk s H scope (compEnvC scope cl C X.env) fp) ifs tt)
    (he : ∀ (s : Shared) (H : Hp) (C : Addr) (cl : List (Str × Addr)) (fp : List Addr), FE (X.blk s H scope (compEnvC scope cl C X.env) fp) elt te)
    {ρ : List Sl} {R : Rv → List Sl → Prop} (q : uLc w g tt te (own.map (·.2)) ρ R) {F H : Hp} {σ0 σ : L2.St} {B : Addr → Prop} {Q : VK} (E : ER X.K F H σ0 ρ σ B)
    (k : ∀ r ρ' v F' H', R r ρ' → Gt X.K F H F' H' σ0 ρ' σ B r v → Q v H') : tLc (tI X tg iter) (bG X scope tg) (bT X scope ifs) (bE X scope elt) (own.map (·.2)) σ H Q := by
  refine hi ρ _ q F H σ0 σ B _ E fun ds ρ1 J F1 H1 ⟨W, w0, turn, form, done⟩ G1 wd D nD => ?_
  have hD : ¬ B D := G1.er.nB nD
  have keepB : ∀ {H : Hp} {o : HO} (c : Addr), B c → upd H D o c = H c := fun c b => upd_ne fun z => by subst z; exact hD b
  refine lc_it wd (fun i H' => ∃ acc vacc ρ' F', W i acc ρ' ∧ ER X.K F' H' σ0 ρ' (L2.wipe σ (own.map (·.2))) (fun c => B c ∨ c = D) ∧ Nx F1 H1 F' H' B ∧ H' D = some (.lst vacc) ∧ RL X.K F' vacc acc) ?_ (fun i H' _ ⟨_, _, _, _, _, E', n', _⟩ => n'.fz.trans E'.sub) ?_ ?_
  · refine ⟨[], [], _, F1, w0, ?_, ?_, upd_same, .nil⟩
    · have E2 := (G1.er.laid (o := .lst []) nD).wipe (own.map (·.2))
      refine ⟨E2.len, E2.sub, E2.fz, fun i p d h => ?_, E2.inj, E2.par, fun c hc => ?_⟩
      · obtain ⟨a, e, ro, n, nb⟩ := E2.ow i p d h
        refine ⟨a, e, ro, n, fun hb => hb.elim nb fun z => ?_⟩
        subst z
        have hs : (L2.wipe σ (own.map (·.2)))[i]? = σ[i]? := wipe_get (wipeS_get h)
        have hj := wipeS_get h
        rw [hs] at e
        -- the slot holds an address that was free
        have gq : ∀ {ρ : List Sl} {vs : List Nat}, i ∉ vs → (wipeS ρ vs)[i]? = ρ[i]? := by
          intro ρ vs
          induction vs with
          | nil => intro _; rfl
          | cons v vs ih =>
            intro hv
            show ((wipeS ρ vs).set v .un)[i]? = _
            rw [List.getElem?_set_ne (fun z => hv (by rw [z]; exact List.mem_cons_self)), ih fun z => hv (List.mem_cons_of_mem _ z)]
        rw [gq hj] at h
        exact G1.er.nS nD i p d h e
      · rcases hc with hc | rfl
        · exact E2.out c hc
        · exact ⟨by rw [upd_same]; exact fun z => (nomatch z), G1.er.free nD⟩
    · exact ⟨Same.refl _, fun c b => keepB c b⟩
  · rintro i x H2 H3 hi ⟨acc, vacc, ρ2, F2, w2, E2, n2, eD, rl⟩ y
    obtain ⟨d, F3, ed, G3, rd⟩ := yd_er E2 n2.fz y
    intro s0 H0 C cl fp
    refine hg s0 H0 C cl fp d ρ2 _ (turn i d acc ρ2 ed w2) F3 H3 σ0 _ _ x _ (by rw [hK]; exact G3.er) (by rw [hK]; exact rd) fun ρ4 σ4 F4 H4 z G4 kp => ?_
    rw [hK] at G4
    have kp' : L2.wipe σ4 (own.map (·.2)) = L2.wipe (L2.wipe σ (own.map (·.2))) (own.map (·.2)) := kp
    have ww : ∀ (l : List Nat) (σ : L2.St), (∀ v ∈ l, v < σ.length → σ[v]? = some none) → L2.wipe σ l = σ := by
      intro l
      induction l with
      | nil => intro σ _; rfl
      | cons v l ih =>
        intro σ h
        show (L2.wipe σ l).set v none = σ
        rw [ih σ fun u hu => h u (List.mem_cons_of_mem _ hu)]
        refine List.ext_getElem? fun j => ?_
        by_cases hj : j = v
        · subst hj
          by_cases hl : j < σ.length
          · rw [List.getElem?_set_self hl, h j List.mem_cons_self hl]
          · rw [List.getElem?_eq_none (by rw [List.length_set]; omega), List.getElem?_eq_none (by omega)]
        · rw [List.getElem?_set_ne (Ne.symm hj)]
    have wn : ∀ (l : List Nat) (σ : L2.St) (v : Nat), v ∈ l → v < σ.length → (L2.wipe σ l)[v]? = some none := by
      intro l
      induction l with
      | nil => intro σ v h; exact nomatch h
      | cons u l ih =>
        intro σ v h hl
        show ((L2.wipe σ l).set u none)[v]? = _
        by_cases e : v = u
        · subst e; exact List.getElem?_set_self (by rw [wipe_length]; exact hl)
        · rw [List.getElem?_set_ne (Ne.symm e)]
          rcases List.mem_cons.mp h with z | z
          · exact absurd z e
          · exact ih σ v z hl
    have w4 : L2.wipe σ4 (own.map (·.2)) = L2.wipe σ (own.map (·.2)) := by
      rw [kp']
      exact ww _ _ fun v hv hl => wn _ _ v hv (by rw [wipe_length] at hl; exact hl)
    refine ⟨w4, ?_⟩
    intro s1 H01 C1 cl1 fp1 pins s' I'
    refine ht s1 H01 C1 cl1 fp1 ρ4 _ z F4 H4 σ0 σ4 _ _ (by rw [hK]; exact G4.er) (fun b ρ5 F5 H5 z5 G5 => ?_) pins s' I'
    rw [hK] at G5
    have n5 : Nx F2 H2 F5 H5 (fun c => B c ∨ c = D) := G3.nx.trans (G4.nx.trans G5.nx)
    have fin : ∀ {ρ6 : List Sl} {F6 H6 : Hp}, ER X.K F6 H6 σ0 ρ6 σ4 (fun c => B c ∨ c = D) → ER X.K F6 H6 σ0 (wipeS ρ6 (own.map (·.2))) (L2.wipe σ (own.map (·.2))) (fun c => B c ∨ c = D) := fun {ρ6 F6 H6} er => by
      have := er.wipe (own.map (·.2))
      rw [w4] at this
      exact this
    have sub5 : ∀ c, B c → B c ∨ c = D := fun c => .inl
    cases b with
    | false =>
      simp only [Bool.false_eq_true, if_false] at z5 ⊢
      exact ⟨acc, vacc, _, F5, z5, fin G5.er, n2.trans (n5.mono sub5), by rw [n5.out D (.inr rfl)]; exact eD, rl.mono n5.fz⟩
    | true =>
      simp only [if_true] at z5 ⊢
      intro s2 H02 C2 cl2 fp2
      refine he s2 H02 C2 cl2 fp2 ρ5 _ z5 F5 H5 σ0 σ4 _ _ (by rw [hK]; exact G5.er) fun r ρ6 yv F6 H6 z6 G6 => ?_
      rw [hK] at G6
      obtain ⟨F7, e7, nn7, E7, rd7, lt7, w7⟩ := G6.er.freeze G6.rr z6
      have n7 : Nx F2 H2 F7 H6 (fun c => B c ∨ c = D) := n5.trans (G6.nx.trans nn7)
      have e6 : H6 D = some (.lst vacc) := by rw [n7.out D (.inr rfl)]; exact eD
      have rl7 := rl.mono n7.fz
      refine ⟨vacc, e6, by rw [rl7.len]; exact lt7, acc ++ [e7], vacc ++ [yv], _, F7, w7, ?_, ?_, upd_same, rl7.snoc rd7⟩
      · have E8 := fin E7
        have fD : F7 D = none := (E7.out D (.inr rfl)).2
        refine ⟨E8.len, fun b u q => by rw [upd_ne (ne_of_none q fD)]; exact E8.sub b u q, E8.fz, fun i p d h => ?_, E8.inj, E8.par, fun c hc => ⟨?_, (E8.out c hc).2⟩⟩
        · obtain ⟨a, ea, ro, n, nb⟩ := E8.ow i p d h
          exact ⟨a, ea, ro.keep (Same.refl _) (upd_ne fun z => nb (.inr z)), n, nb⟩
        · by_cases hc' : c = D
          · subst hc'; rw [upd_same]; exact fun z => (nomatch z)
          · rw [upd_ne hc']; exact (E8.out c hc).1
      · exact ⟨n2.fz.trans n7.fz, fun c b => by rw [keepB c b]; exact (n7.out c (.inl b)).trans (n2.out c b)⟩
  · rintro H' ⟨acc, vacc, ρ', F', w', E', n', eD, rl⟩
    obtain ⟨ρ'', rfl⟩ := form _ _ _ w'
    have E3 := E'.unwipe
    refine k _ _ _ F' H' (done acc _ w') ⟨G1.nx.trans n', ⟨E3.len, E3.sub, E3.fz, fun i p d h => let ⟨a, e, x, y, z⟩ := E3.ow i p d h; ⟨a, e, x, y, fun b => z (.inl b)⟩, E3.inj, E3.par, fun c b => E3.out c (.inl b)⟩, D, rfl, .lst eD rl, (E3.out D (.inr rfl)).2, hD, fun i p e h z => ?_⟩
    obtain ⟨a, e2, _, _, nb⟩ := E3.ow i p e h
    rw [z] at e2; cases e2
    exact nb (.inr rfl)
theorem fe_lc {elt tg iter : Expr} {ifs : List Expr} {scope : Scope} {own : List (Str × Nat)} {pos : Pos} {w : UI} {g : UG} {tt : UT} {te : UE} (hc : X.calm = true) (hN : X.N.Nodup) (hi : FI X tg iter w) (ok : BlkOk X.N X.env.scope scope own)
    (hg : ∀ (s : Shared) (H : Hp) (C : Addr) (cl : List (Str × Addr)) (fp : List Addr), FG (X.blk s H scope (compEnvC scope cl C X.env) fp) (some (own.map (·.2))) tg g)
    (ht : ∀ (s : Shared) (H : Hp) (C : Addr) (cl : List (Str × Addr)) (fp : List Addr), FTs (X.blk s H scope (compEnvC scope cl C X.env) fp) ifs tt)
    (he : ∀ (s : Shared) (H : Hp) (C : Addr) (cl : List (Str × Addr)) (fp : List Addr), FE (X.blk s H scope (compEnvC scope cl C X.env) fp) elt te) (hs : ∀ x, foldedSetIterable iter X.env x = pure x := by intro _; rfl) :
    FE X (.ListComp elt [⟨tg, iter, ifs, 0⟩] scope pos) (uLc w g tt te (own.map (·.2))) := ⟨fun ρ R q F H σ0 σ B Q E k =>
  to_S (pe_lc hc hN pi_S ok pg_bS pts_bS pe_bS hs)
    (lc_tl hi (fun _ _ _ _ _ => rfl) hg ht he q E k)⟩
/-- name = [..] on one line -/
theorem fs_setLc {i : Nat} {y : Str} {py : Pos} {elt tg iter : Expr} {ifs : List Expr} {scope : Scope} {own : List (Str × Nat)} {pos spos : Pos} {w : UI} {g : UG} {tt : UT} {te : UE} (hc : X.calm = true) (hN : X.N.Nodup) (hy : X.N[i]? = some y) (hyl : X.env.scope.names.lookup y = some .local)
    (hsw : swapsWith (.ListComp elt [⟨tg, iter, ifs, 0⟩] scope pos) (some (.Name y py)) spos.line X.env = pure true) (hi : FI X tg iter w) (ok : BlkOk X.N X.env.scope scope own)
    (hg : ∀ (s : Shared) (H : Hp) (C : Addr) (cl : List (Str × Addr)) (fp : List Addr), FG (X.blk s H scope (compEnvC scope cl C X.env) fp) (some (own.map (·.2))) tg g)
    (ht : ∀ (s : Shared) (H : Hp) (C : Addr) (cl : List (Str × Addr)) (fp : List Addr), FTs (X.blk s H scope (compEnvC scope cl C X.env) fp) ifs tt)
    (he : ∀ (s : Shared) (H : Hp) (C : Addr) (cl : List (Str × Addr)) (fp : List Addr), FE (X.blk s H scope (compEnvC scope cl C X.env) fp) elt te) (hs : ∀ x, foldedSetIterable iter X.env x = pure x := by intro _; rfl) :
    FS X (.Assign [.Name y py] (.ListComp elt [⟨tg, iter, ifs, 0⟩] scope pos) spos) (uSet i (uLc w g tt te (own.map (·.2)))) := ⟨fun E ρ q F H σ0 σ B D er f => by
  refine to_SS (ps_setLc hc hN hy hyl hsw pi_S ok pg_bS pts_bS pe_bS hs) ?_
  refine lc_tl hi (fun _ _ _ _ _ => rfl) hg ht he q er fun r ρ1 v F1 H1 z G => ?_
  obtain ⟨F2, ρ2, n2, er2, z⟩ := G.er.put G.rr z
  exact f.nx ρ2 _ F2 H1 z ⟨G.nx.trans n2, er2⟩⟩

/-! ### what is walked: lists, tuples, texts, ranges -/
def uItL (u : UE) : UI := fun ρ R => u ρ fun r ρ1 => wv ρ1 r fun d => match d with
  | .lst l => R l (frz ρ1 r)
  | _ => False
def uItT (u : UE) : UI := fun ρ R => u ρ fun r ρ1 => wv ρ1 r fun d => match d with
  | .tup l => R l (frz ρ1 r)
  | _ => False
def uItS (u : UE) : UI := fun ρ R => u ρ fun r ρ1 => match r with
  | .val (.str x) => R (x.cps.toList.map fun c => .str ⟨#[c]⟩) ρ1
  | _ => False
theorem wd_at {K : PySem.W.Frag} {F : Hp} {J : It} {vs : List V} {ds : List D} {G : Hp → Prop} (w : Walk J vs.length G (YAt vs)) (hG : ∀ H, Same F H → G H) (l : RL K F vs ds) : WD K F J ds := by
  have e := l.len
  rw [e] at w
  exact w.mono hG fun i H x H' hi s ⟨e1, e2⟩ => by
    obtain ⟨d, e3, rd⟩ := l.get e2
    exact ⟨d, e3, .inl ⟨e1, rd⟩⟩
theorem fi_list {tg iter : Expr} {u : UE} (h : FE X iter u) : FI X tg iter (uItL u) := ⟨fun ρ R q F H σ0 σ B Q E g => by
  refine to_I (pi_list pe_S) (h ρ _ q F H σ0 σ B _ E fun r ρ1 v F1 H1 z G => ?_)
  obtain ⟨F2, d, n2, E2, rd, z⟩ := G.er.freeze G.rr z
  cases rd with
  | @lst a vs ds h1 l => exact ⟨a, rfl, ⟨vs, .of (E2.sub _ _ h1)⟩, g _ _ _ F2 H1 z ⟨G.nx.trans n2, E2⟩ (wd_at walk_list (fun H s => .of (s _ _ h1)) l)⟩
  | _ => exact z.elim⟩
theorem fi_tup {tg iter : Expr} {u : UE} (h : FE X iter u) : FI X tg iter (uItT u) := ⟨fun ρ R q F H σ0 σ B Q E g => by
  refine to_I (pi_tup pe_S) (h ρ _ q F H σ0 σ B _ E fun r ρ1 v F1 H1 z G => ?_)
  obtain ⟨F2, d, n2, E2, rd, z⟩ := G.er.freeze G.rr z
  cases rd with
  | @tup a vs ds h1 l => exact ⟨a, rfl, ⟨vs, .of (E2.sub _ _ h1)⟩, g _ _ _ F2 H1 z ⟨G.nx.trans n2, E2⟩ (wd_at walk_tup (fun H s => .of (s _ _ h1)) l)⟩
  | _ => exact z.elim⟩
theorem fi_str {tg iter : Expr} {u : UE} (h : FE X iter u) : FI X tg iter (uItS u) := ⟨fun ρ R q F H σ0 σ B Q E g => by
  refine to_I (pi_str pe_S) (h ρ _ q F H σ0 σ B _ E fun r ρ1 v F1 H1 z G => ?_)
  split at z
  · rename_i x
    have rr : RD X.K F1 v (.str x) := G.rr
    cases rr
    refine ⟨x, rfl, g _ _ _ F1 H1 z ⟨G.nx, G.er⟩ ?_⟩
    have w := walk_str (z := x)
    have e : x.cps.size = (x.cps.toList.map fun c => D.str ⟨#[c]⟩).length := by simp
    rw [e] at w
    refine w.mono (fun _ _ => trivial) fun i H x' H' hi s ⟨e1, c, e2, e3⟩ => ⟨.str ⟨#[c]⟩, ?_, .inl ⟨e1, by rw [e3]; exact .str _⟩⟩
    rw [List.getElem?_map, Array.getElem?_toList, e2]; rfl
  · exact z.elim⟩
def intsD (lo : Int) (n : Nat) : List D := (List.range n).map fun (i : Nat) => D.int (lo + (i : Int))
def uRng1 (u : UA) : UI := fun ρ R => u ρ fun ds ρ1 => match ds with
  | [.int j] => -(2 ^ 62) ≤ j ∧ j < 2 ^ 62 ∧ R (intsD 0 j.toNat) ρ1
  | _ => False
def uRng2 (u : UA) : UI := fun ρ R => u ρ fun ds ρ1 => match ds with
  | [.int i, .int j] => (-(2 ^ 62) ≤ i ∧ i < 2 ^ 62 ∧ -(2 ^ 62) ≤ j ∧ j < 2 ^ 62) ∧ R (intsD i (j - i).toNat) ρ1
  | _ => False
theorem wd_ints {K : PySem.W.Frag} {F : Hp} {lo : Int} {n : Nat} : WD K F (Itr lo n) (intsD lo n) := by
  have w := walk_range (lo := lo) (n := n)
  have e : n = (intsD lo n).length := by simp [intsD]
  have w' : Walk (Itr lo n) (intsD lo n).length (fun _ => True) (YFn fun i => V.int (lo + (i : Nat))) := by rw [← e]; exact w
  refine w'.mono (fun _ _ => trivial) fun i H x H' hi s ⟨e1, e2⟩ => ⟨.int (lo + (i : Nat)), ?_, .inl ⟨e1, by rw [e2]; exact .int _⟩⟩
  rw [← e] at hi
  simp [intsD, hi]
theorem fi_range1 {tg a : Expr} {u : UA} {p pos : Pos} (hg : Gl X "range") (hm : X.mg "range" = none) (ha : FA X [a] u) (hs : starEach [a] X.env = [(false, eval a X.env)] := by rfl) : FI X tg (.Call (.Name "range" p) [a] [] pos) (uRng1 u) := ⟨fun ρ R q F H σ0 σ B Q E g => by
  refine to_I (pi_range1 hg hm pa_S hs) (ha ρ _ q F H σ0 σ B _ E fun ds ρ1 vs F1 H1 z G l => ?_)
  split at z
  · rename_i j
    cases l with
    | cons l1 l2 =>
      cases l1; cases l2
      exact ⟨j, rfl, z.1, z.2.1, g _ _ _ F1 H1 z.2.2 G wd_ints⟩
  · exact z.elim⟩
theorem fi_range2 {tg a b : Expr} {u : UA} {p pos : Pos} (hg : Gl X "range") (hm : X.mg "range" = none) (ha : FA X [a, b] u) (hs : starEach [a, b] X.env = [(false, eval a X.env), (false, eval b X.env)] := by rfl) (hs2 : starEach [b] X.env = [(false, eval b X.env)] := by rfl) :
    FI X tg (.Call (.Name "range" p) [a, b] [] pos) (uRng2 u) := ⟨fun ρ R q F H σ0 σ B Q E g => by
  refine to_I (pi_range2 hg hm pa_S hs hs2) (ha ρ _ q F H σ0 σ B _ E fun ds ρ1 vs F1 H1 z G l => ?_)
  split at z
  · rename_i i j
    cases l with
    | cons l1 l2 =>
      cases l1
      cases l2 with
      | cons l2 l3 =>
        cases l2; cases l3
        exact ⟨i, j, rfl, z.1, g _ _ _ F1 H1 z.2 G wd_ints⟩
  · exact z.elim⟩
/-- enumerate of a list -/
def nums (ds : List D) : List D := (List.range ds.length).map fun (i : Nat) => D.tup [.int (i : Int), ds.getD i .non]
def uEnum (u : UA) : UI := fun ρ R => u ρ fun ds ρ1 => match ds with
  | [.lst l] => R (nums l) ρ1
  | _ => False
theorem fi_enum {e : Expr} {u : UA} {p pos tpos : Pos} {elts : List Expr} {kk : Nat} (hg : Gl X "enumerate") (hm : X.mg "enumerate" = none) (ha : FA X [e] u) (hs : starEach [e] X.env = [(false, eval e X.env)] := by rfl) :
    FI X (.Tuple elts kk tpos) (.Call (.Name "enumerate" p) [e] [] pos) (uEnum u) := ⟨fun ρ R q F H σ0 σ B Q E g => by
  refine to_I (pi_enum hg hm pa_S hs) (ha ρ _ q F H σ0 σ B _ E fun ds ρ1 vs F1 H1 z G l => ?_)
  split at z
  case h_2 => exact z.elim
  rename_i ds
  cases l with
  | cons l0 l9 =>
  cases l9
  cases l0 with
  | @lst a vs _ h1 l =>
    refine ⟨a, vs, rfl, .of (G.er.sub _ _ h1), g _ _ _ F1 H1 z G ?_⟩
    have w := walk_enum (K := X.K) (a := a) (xs := vs)
    have e : vs.length = (nums ds).length := by simp [nums, l.len]
    rw [e] at w
    refine w.mono (fun H s => .of (s _ _ h1)) fun i H x H' hi s ⟨t, x1, y1, e1, e2, e3, e4, e5⟩ => ?_
    obtain ⟨d', ed, rd'⟩ := l.get e5
    have hi' : i < ds.length := (List.getElem?_eq_some_iff.mp ed).1
    refine ⟨.tup [.int (i : Int), d'], ?_, .inr ⟨t, .tup [x1, y1], e3, e2, fun F' s' nF => ?_⟩⟩
    · have ed2 : ds[i] = d' := by
        have := List.getElem?_eq_getElem hi'
        rw [ed] at this
        exact (Option.some.inj this).symm
      simp [nums, hi', ed2]
    · cases e4
      subst e1
      have s2 : Same F' (upd F' t (.tup [.int (i : Nat), y1])) := fun b u q => by rw [upd_ne (ne_of_none q nF)]; exact q
      exact .tup upd_same (.cons (.int _) (.cons (rd'.mono (s'.trans s2)) .nil))⟩
end
end YP
set_option maxRecDepth 100000
/-! The yard's pure layer, part 4: defs and their calls. -/
namespace YP
open PySem PySem.Spec PyProof.Rows L2

/-! ### arguments: what stays, one's own, what a slot holds -/
def RRs (K : PySem.W.Frag) (F H : Hp) (ρ : List Sl) (σ : L2.St) : (Addr → Prop) → List Rv → List V → Prop
  | _, [], [] => True
  | B, r :: rs, v :: vs => RR K F H ρ σ B r v ∧ RRs K F H ρ σ (hB B r v) rs vs
  | _, _, _ => False
abbrev UR := List Sl → (List Rv → List Sl → Prop) → Prop
structure FR (X : Cx) (es : List Expr) (u : UR) : Prop where
  run : ∀ (ρ : List Sl) (R : List Rv → List Sl → Prop), u ρ R → ∀ (F H : Hp) (σ0 σ : L2.St) (B : Addr → Prop) (Q : List V → Hp → Prop), ER X.K F H σ0 ρ σ B →
    (∀ rs ρ' vs F' H', R rs ρ' → Gd X.K F H F' H' σ0 ρ' σ B → RRs X.K F' H' ρ' σ B rs vs → rs.length = es.length → Q vs H') → tA X es σ H Q
instance {X : Cx} {es : List Expr} {u : UR} : CoeFun (FR X es u) (fun _ => ∀ (ρ : List Sl) (R : List Rv → List Sl → Prop), u ρ R → ∀ (F H : Hp) (σ0 σ : L2.St) (B : Addr → Prop) (Q : List V → Hp → Prop), ER X.K F H σ0 ρ σ B →
  (∀ rs ρ' vs F' H', R rs ρ' → Gd X.K F H F' H' σ0 ρ' σ B → RRs X.K F' H' ρ' σ B rs vs → rs.length = es.length → Q vs H') → tA X es σ H Q) := ⟨FR.run⟩
section
variable {X : Cx} {e a : Expr} {ua : UE} {F H : Hp} {σ0 σ : L2.St} {ρ : List Sl} {B : Addr → Prop}
def uRNil : UR := fun ρ R => R [] ρ
/-- kept as it is -/
def uRRef (ue : UE) (u : UR) : UR := fun ρ R => ue ρ fun r ρ1 => u ρ1 fun rs ρ2 => R (r :: rs) ρ2
/-- it stays from now on -/
def uRVal (ue : UE) (u : UR) : UR := fun ρ R => ue ρ fun r ρ1 => wv ρ1 r fun d => u (frz ρ1 r) fun rs ρ2 => R (.val d :: rs) ρ2
theorem fr_nil : FR X [] uRNil := ⟨fun ρ R q F H σ0 σ B Q E g => to_A pa_nil (g [] ρ [] F H q ⟨.refl _ _ _, E⟩ trivial rfl)⟩
theorem fr_ref {es : List Expr} {u : UR} (ha : FE X a ua) (hr : FR X es u) (hs : starEach (a :: es) X.env = (false, eval a X.env) :: starEach es X.env := by rfl) : FR X (a :: es) (uRRef ua u) := ⟨fun ρ R q F H σ0 σ B Q E g =>
  to_A (pa_cons pe_S pa_S hs) (ha ρ _ q F H σ0 σ B _ E fun r ρ1 v F1 H1 z G =>
    hr ρ1 _ z F1 H1 σ0 σ (hB B r v) _ (G.er.hold G.rr) fun rs ρ2 vs F2 H2 y G2 l ll =>
      g (r :: rs) ρ2 (v :: vs) F2 H2 y ⟨G.nx.trans (G2.nx.mono hB_sub), G2.er.unhold⟩ ⟨G.rr.held G.er G2.er G2.nx, l⟩ (congrArg (· + 1) ll))⟩
theorem fr_val {es : List Expr} {u : UR} (ha : FE X a ua) (hr : FR X es u) (hs : starEach (a :: es) X.env = (false, eval a X.env) :: starEach es X.env := by rfl) : FR X (a :: es) (uRVal ua u) := ⟨fun ρ R q F H σ0 σ B Q E g =>
  to_A (pa_cons pe_S pa_S hs) (ha ρ _ q F H σ0 σ B _ E fun r ρ1 v F1 H1 z G => by
    obtain ⟨F2, d, n2, E2, rd, z⟩ := G.er.freeze G.rr z
    exact hr _ _ z F2 H1 σ0 σ B _ E2 fun rs ρ3 vs F3 H3 y G3 l ll => g (.val d :: rs) ρ3 (v :: vs) F3 H3 y ⟨G.nx.trans (n2.trans G3.nx), G3.er⟩ ⟨rd.mono G3.nx.fz, l⟩ (congrArg (· + 1) ll))⟩
end

/-- the slots that are handed in -/
def ats : List Rv → List Nat
  | [] => []
  | .at i :: rs => i :: ats rs
  | _ :: rs => ats rs
def slOf (ρ : List Sl) : Rv → Sl
  | .val d => .sl false false d
  | .own d => .sl true false d
  | .at i => match ρ[i]? with
    | some (.sl o _ d) => .sl o false d
    | _ => .un
def wb1 (s : Sl) (t : Option Sl) : Sl := match s, t with
  | .sl o _ d, some (.sl _ p _) => .sl o p d
  | _, _ => .un
/-- the caller's slots behind a call -/
def wb (ρ : List Sl) : List Rv → List Sl → List Sl
  | .at i :: rs, s :: ss => (wb ρ rs ss).set i (wb1 s ρ[i]?)
  | _ :: rs, _ :: ss => wb ρ rs ss
  | _, _ => ρ
abbrev UF := List Sl → (Rv → List Sl → Prop) → Prop
/-- the promise of a def: slots of its parameters in, the result and these slots out -/
def PSp (K : PySem.W.Frag) (n : Nat) (u : UF) : Sp := fun vs H Q _ => ∃ ρ F B R, ρ.length = n ∧ vs.length = n ∧ ER K F H [] ρ (vs.map some) B ∧ u ρ R ∧
  ∀ r ρ' v F' H', R r ρ' → Nx F H F' H' B → ER K F' H' [] ρ' (vs.map some) B → RR K F' H' ρ' (vs.map some) B r v → (∀ i, r ≠ .at i) → Q v H'
def uCall (u : UF) (ua : UR) : UE := fun ρ R => ua ρ fun rs ρ1 => (ats rs).Nodup ∧ u (rs.map (slOf ρ1)) fun r ss => R r (wb ρ1 rs ss)

section
variable {K : PySem.W.Frag} {F F' H H' : Hp} {σ0 σ : L2.St} {ρ : List Sl} {B : Addr → Prop}
theorem RRs.len : ∀ {B : Addr → Prop} {rs : List Rv} {vs : List V}, RRs K F H ρ σ B rs vs → rs.length = vs.length
  | _, [], [], _ => rfl
  | _, _ :: _, _ :: _, h => congrArg (· + 1) (RRs.len h.2)
  | _, [], _ :: _, h => h.elim
  | _, _ :: _, [], h => h.elim
theorem RRs.at_ : ∀ {B : Addr → Prop} {rs : List Rv} {vs : List V} {i : Nat} {r : Rv} {v : V}, RRs K F H ρ σ B rs vs → rs[i]? = some r → vs[i]? = some v → RR K F H ρ σ B r v
  | _, [], _, _, _, _, _, e, _ => nomatch e
  | _, _ :: _, [], _, _, _, h, _, _ => h.elim
  | _, _ :: _, _ :: _, 0, _, _, h, e, k => by cases e; cases k; exact h.1
  | B, r0 :: rs, v0 :: vs, i + 1, r, v, h, e, k => (RRs.at_ (i := i) h.2 e k).weak hB_sub
theorem RRs.apart : ∀ {B : Addr → Prop} {rs : List Rv} {vs : List V} {i j : Nat} {d e : D} {a : Addr}, RRs K F H ρ σ B rs vs → i < j → rs[i]? = some (.own d) → rs[j]? = some (.own e) → vs[i]? = some (.ref a) → vs[j]? = some (.ref a) → False
  | _, [], _, _, _, _, _, _, _, _, e, _, _, _ => nomatch e
  | _, _ :: _, [], _, _, _, _, _, h, _, _, _, _, _ => h.elim
  | _, _ :: _, _ :: _, _, 0, _, _, _, _, l, _, _, _, _ => absurd l (Nat.not_lt_zero _)
  | B, r0 :: rs, v0 :: vs, 0, j + 1, d, e, a, h, _, e1, e2, e3, e4 => by
    cases e1; cases e3
    obtain ⟨b, eb, _, _, nb, _⟩ := RRs.at_ (i := j) h.2 e2 e4
    cases eb
    exact nb (.inr rfl)
  | B, r0 :: rs, v0 :: vs, i + 1, j + 1, d, e, a, h, l, e1, e2, e3, e4 => RRs.apart (i := i) (j := j) h.2 (Nat.lt_of_succ_lt_succ l) e1 e2 e3 e4
theorem ats_mem : ∀ {rs : List Rv} {i k : Nat}, rs[k]? = some (.at i) → i ∈ ats rs
  | [], _, _, e => nomatch e
  | r :: rs, i, 0, e => by cases e; exact List.mem_cons_self
  | r :: rs, i, k + 1, e => by
    have h := ats_mem (rs := rs) (i := i) (k := k) e
    cases r <;> first | exact h | exact List.mem_cons_of_mem _ h
theorem ats_inj : ∀ {rs : List Rv} {i k l : Nat}, (ats rs).Nodup → rs[k]? = some (.at i) → rs[l]? = some (.at i) → k = l
  | [], _, _, _, _, e, _ => nomatch e
  | r :: rs, i, 0, 0, _, _, _ => rfl
  | r :: rs, i, 0, l + 1, n, e, f => by
    cases e
    exact absurd (ats_mem (rs := rs) (k := l) f) (List.nodup_cons.mp n).1
  | r :: rs, i, k + 1, 0, n, e, f => by
    cases f
    exact absurd (ats_mem (rs := rs) (k := k) e) (List.nodup_cons.mp n).1
  | r :: rs, i, k + 1, l + 1, n, e, f => by
    have n' : (ats rs).Nodup := by cases r <;> first | exact n | exact (List.nodup_cons.mp n).2
    exact congrArg (· + 1) (ats_inj (rs := rs) n' e f)
theorem wb_len : ∀ (rs : List Rv) (ss : List Sl), (wb ρ rs ss).length = ρ.length
  | [], _ => rfl
  | r :: rs, [] => by cases r <;> rfl
  | r :: rs, s :: ss => by
    cases r with
    | «at» i => show ((wb ρ rs ss).set i _).length = _; rw [List.length_set, wb_len rs ss]
    | val d => exact wb_len rs ss
    | own d => exact wb_len rs ss
theorem wb_out : ∀ {rs : List Rv} {ss : List Sl} {j : Nat}, j ∉ ats rs → (wb ρ rs ss)[j]? = ρ[j]?
  | [], _, _, _ => rfl
  | r :: rs, [], _, _ => by cases r <;> rfl
  | r :: rs, s :: ss, j, h => by
    cases r with
    | «at» i =>
      show ((wb ρ rs ss).set i _)[j]? = _
      have hj : j ≠ i := fun z => h (by rw [z]; exact List.mem_cons_self)
      rw [List.getElem?_set_ne (Ne.symm hj)]
      exact wb_out fun z => h (List.mem_cons_of_mem _ z)
    | val d => exact wb_out (rs := rs) h
    | own d => exact wb_out (rs := rs) h
theorem wb_in : ∀ {rs : List Rv} {ss : List Sl} {j k : Nat} {s : Sl}, (ats rs).Nodup → rs[k]? = some (.at j) → ss[k]? = some s → j < ρ.length → (wb ρ rs ss)[j]? = some (wb1 s ρ[j]?)
  | [], _, _, _, _, _, e, _, _ => nomatch e
  | r :: rs, [], _, _, _, _, _, e, _ => nomatch e
  | r :: rs, s0 :: ss, j, 0, s, n, e, f, l => by
    cases e; cases f
    show ((wb ρ rs ss).set j _)[j]? = _
    rw [List.getElem?_set_self (by rw [wb_len]; exact l)]
  | r :: rs, s0 :: ss, j, k + 1, s, n, e, f, l => by
    have n' : (ats rs).Nodup := by cases r <;> first | exact n | exact (List.nodup_cons.mp n).2
    have h := wb_in (rs := rs) (ss := ss) (k := k) n' e f l
    cases r with
    | «at» i =>
      show ((wb ρ rs ss).set i _)[j]? = _
      have hj : j ≠ i := fun z => by subst z; exact (List.nodup_cons.mp n).1 (ats_mem (rs := rs) (k := k) e)
      rw [List.getElem?_set_ne (Ne.symm hj)]; exact h
    | val d => exact h
    | own d => exact h
/-- an index among those handed in -/
theorem mem_ats : ∀ {rs : List Rv} {j : Nat}, j ∈ ats rs → ∃ k : Nat, rs[k]? = some (Rv.at j)
  | [], _, h => nomatch h
  | r :: rs, j, h => by
    cases r with
    | «at» i =>
      rcases List.mem_cons.mp h with z | z
      · subst z; exact ⟨0, rfl⟩
      · obtain ⟨k, e⟩ := mem_ats (rs := rs) z; exact ⟨k + 1, e⟩
    | val d => obtain ⟨k, e⟩ := mem_ats (rs := rs) h; exact ⟨k + 1, e⟩
    | own d => obtain ⟨k, e⟩ := mem_ats (rs := rs) h; exact ⟨k + 1, e⟩
/-- what the callee may not change -/
def bB (B : Addr → Prop) (ρ : List Sl) (σ : L2.St) (rs : List Rv) : Addr → Prop := fun c => B c ∨ ∃ (j : Nat) (p : Bool) (d : D), ρ[j]? = some (Sl.sl true p d) ∧ j ∉ ats rs ∧ σ[j]? = some (some (.ref c))
theorem sl_own {r : Rv} {d : D} {p : Bool} (h : slOf ρ r = .sl true p d) : p = false ∧ (r = .own d ∨ ∃ i q, r = .at i ∧ ρ[i]? = some (.sl true q d)) := by
  cases r with
  | val e => cases h
  | own e => cases h; exact ⟨rfl, .inl rfl⟩
  | «at» i =>
    cases z : ρ[i]? with
    | none => simp only [slOf, z] at h; cases h
    | some s =>
      cases s with
      | un => simp only [slOf, z] at h; cases h
      | sl o q e => simp only [slOf, z] at h; cases h; exact ⟨rfl, .inr ⟨i, q, rfl, z⟩⟩
theorem sl_val {r : Rv} {d : D} {p : Bool} (h : slOf ρ r = .sl false p d) : p = false ∧ (r = .val d ∨ ∃ i q, r = .at i ∧ ρ[i]? = some (.sl false q d)) := by
  cases r with
  | val e => cases h; exact ⟨rfl, .inl rfl⟩
  | own e => cases h
  | «at» i =>
    cases z : ρ[i]? with
    | none => simp only [slOf, z] at h; cases h
    | some s =>
      cases s with
      | un => simp only [slOf, z] at h; cases h
      | sl o q e => simp only [slOf, z] at h; cases h; exact ⟨rfl, .inr ⟨i, q, rfl, z⟩⟩
/-- into the callee -/
theorem ER.into {rs : List Rv} {vs : List V} (E : ER K F H σ0 ρ σ B) (h : RRs K F H ρ σ B rs vs) (n : (ats rs).Nodup) : ER K F H [] (rs.map (slOf ρ)) (vs.map some) (bB B ρ σ rs) := by
  have lv := h.len
  have gv : ∀ (i : Nat) s, (rs.map (slOf ρ))[i]? = some s → ∃ r v, rs[i]? = some r ∧ slOf ρ r = s ∧ vs[i]? = some v ∧ (vs.map some)[i]? = some (some v) := fun i s e => by
    rw [List.getElem?_map] at e
    cases q : rs[i]? with
    | none => rw [q] at e; cases e
    | some r =>
      rw [q] at e
      have hi : i < rs.length := (List.getElem?_eq_some_iff.mp q).1
      have e3 : vs[i]? = some (vs[i]'(by omega)) := List.getElem?_eq_getElem (by omega)
      refine ⟨r, vs[i]'(by omega), rfl, Option.some.inj e, e3, ?_⟩
      rw [List.getElem?_map, e3]; rfl
  have ow : ∀ (i : Nat) (p : Bool) (d : D), (rs.map (slOf ρ))[i]? = some (Sl.sl true p d) → ∃ r a, rs[i]? = some r ∧ vs[i]? = some (.ref a) ∧ (vs.map some)[i]? = some (some (.ref a)) ∧ RO K F H (.ref a) d ∧ F a = none ∧ ¬ B a ∧
      ((r = .own d ∧ ∀ (j : Nat) q e, ρ[j]? = some (Sl.sl true q e) → σ[j]? ≠ some (some (.ref a))) ∨ ∃ j q, r = .at j ∧ ρ[j]? = some (.sl true q d) ∧ σ[j]? = some (some (.ref a))) := fun i p d e => by
    obtain ⟨r, v, e1, e2, e3, e4⟩ := gv i _ e
    have rr := h.at_ e1 e3
    rcases (sl_own e2).2 with rfl | ⟨j, q, rfl, z⟩
    · obtain ⟨a, rfl, ro, x, y, w⟩ := rr
      exact ⟨_, a, e1, e3, e4, ro, x, y, .inl ⟨rfl, w⟩⟩
    · have rr' : σ[j]? = some (some v) := rr
      obtain ⟨a, e5, ro, x, y⟩ := E.ow j q d z
      rw [rr'] at e5; cases e5
      exact ⟨_, a, e1, e3, e4, ro, x, y, .inr ⟨j, q, rfl, z, rr'⟩⟩
  refine ⟨by simp [lv], E.sub, fun i p d e => ?_, fun i p d e => ?_, fun i j a p q d e h1 h2 h3 h4 => ?_, fun i o d e => ?_, fun c hc => ?_⟩
  · obtain ⟨r, v, e1, e2, e3, e4⟩ := gv i _ e
    have rr := h.at_ e1 e3
    rcases (sl_val e2).2 with rfl | ⟨j, q, rfl, z⟩
    · exact ⟨v, e4, rr⟩
    · have rr' : σ[j]? = some (some v) := rr
      obtain ⟨u, e5, rd⟩ := E.fz j q d z
      rw [rr'] at e5; cases e5
      exact ⟨v, e4, rd⟩
  · obtain ⟨r, a, e1, e3, e4, ro, x, y, w⟩ := ow i p d e
    refine ⟨a, e4, ro, x, fun hb => ?_⟩
    rcases hb with hb | ⟨j, q, f, z1, z2, z3⟩
    · exact y hb
    · rcases w with ⟨rfl, w⟩ | ⟨k, q', rfl, z4, z5⟩
      · exact w j q f z1 z3
      · have := E.inj j k a q q' f d z1 z4 z3 z5
        subst this
        exact z2 (ats_mem e1)
  · obtain ⟨r1, a1, e1, e3, e4, ro, x, y, w⟩ := ow i p d h1
    obtain ⟨r2, a2, f1, f3, f4, ro2, x2, y2, w2⟩ := ow j q e h2
    rw [e4] at h3; cases h3
    rw [f4] at h4; cases h4
    rcases w with ⟨rfl, w⟩ | ⟨k, q1, rfl, z1, z2⟩
    · rcases w2 with ⟨rfl, w2⟩ | ⟨l, q2, rfl, z3, z4⟩
      · rcases Nat.lt_trichotomy i j with l | l | l
        · exact (h.apart l e1 f1 e3 f3).elim
        · exact l
        · exact (h.apart l f1 e1 f3 e3).elim
      · exact absurd z4 (w l q2 e z3)
    · rcases w2 with ⟨rfl, w2⟩ | ⟨l, q2, rfl, z3, z4⟩
      · exact absurd z2 (w2 k q1 d z1)
      · have := E.inj k l a q1 q2 d e z1 z3 z2 z4
        subst this
        exact ats_inj n e1 f1
  · obtain ⟨r, v, e1, e2, e3, e4⟩ := gv i _ e
    cases o with
    | false => cases (sl_val e2).1
    | true => cases (sl_own e2).1
  · rcases hc with hc | ⟨j, q, f, z1, z2, z3⟩
    · exact E.out c hc
    · obtain ⟨a, e5, ro, x, y⟩ := E.ow j q f z1
      rw [z3] at e5; cases e5
      obtain ⟨_, o, e6, e7⟩ := ro.there
      cases e6
      exact ⟨by rw [e7]; exact fun z => (nomatch z), x⟩
/-- back from the callee -/
theorem ER.behind {rs : List Rv} {vs : List V} {ss : List Sl} {r : Rv} {v : V} (E : ER K F H σ0 ρ σ B) (h : RRs K F H ρ σ B rs vs) (n : (ats rs).Nodup) (nx : Nx F H F' H' (bB B ρ σ rs))
    (E' : ER K F' H' [] ss (vs.map some) (bB B ρ σ rs)) (rr : RR K F' H' ss (vs.map some) (bB B ρ σ rs) r v) (na : ∀ i, r ≠ .at i) : Gt K F H F' H' σ0 (wb ρ rs ss) σ B r v := by
  have lv := h.len
  have ls : ss.length = rs.length := by rw [E'.len, List.length_map, lv]
  -- a slot behind the call
  have wh : ∀ (j : Nat) o p d, (wb ρ rs ss)[j]? = some (Sl.sl o p d) → (j ∉ ats rs ∧ ρ[j]? = some (.sl o p d)) ∨
      ∃ (k : Nat) (q o' : Bool) (d' : D) (u : V), rs[k]? = some (.at j) ∧ ss[k]? = some (.sl o q d) ∧ ρ[j]? = some (.sl o' p d') ∧ vs[k]? = some u ∧ (vs.map some)[k]? = some (some u) ∧ σ[j]? = some (some u) := fun j o p d e => by
    by_cases hj : j ∈ ats rs
    · obtain ⟨k, ek⟩ := mem_ats hj
      have hk : k < rs.length := (List.getElem?_eq_some_iff.mp ek).1
      have es : ss[k]? = some (ss[k]'(by omega)) := List.getElem?_eq_getElem (by omega)
      have ev : vs[k]? = some (vs[k]'(by omega)) := List.getElem?_eq_getElem (by omega)
      by_cases hl : j < ρ.length
      · rw [wb_in n ek es hl] at e
        have e := Option.some.inj e
        have rj : σ[j]? = some (some (vs[k]'(by omega))) := h.at_ ek ev
        generalize ss[k]'(by omega) = s at es e
        cases s with
        | un => simp only [wb1] at e; cases e
        | sl o2 q2 d2 =>
          cases zr : ρ[j]? with
          | none => rw [zr] at e; simp only [wb1] at e; cases e
          | some t =>
            cases t with
            | un => rw [zr] at e; simp only [wb1] at e; cases e
            | sl o3 p3 d3 =>
              rw [zr] at e; simp only [wb1] at e
              cases e
              exact .inr ⟨k, q2, o3, d3, _, ek, es, rfl, ev, by rw [List.getElem?_map, ev]; rfl, rj⟩
      · rw [List.getElem?_eq_none (by rw [wb_len]; omega)] at e; cases e
    · rw [wb_out hj] at e; exact .inl ⟨hj, e⟩
  have ow : ∀ (j : Nat) p d, (wb ρ rs ss)[j]? = some (Sl.sl true p d) → ∃ a, σ[j]? = some (some (.ref a)) ∧ RO K F' H' (.ref a) d ∧ F' a = none ∧ ¬ B a ∧
      ((j ∉ ats rs ∧ ρ[j]? = some (.sl true p d)) ∨ ∃ (k : Nat) (q : Bool), rs[k]? = some (.at j) ∧ ss[k]? = some (.sl true q d) ∧ (vs.map some)[k]? = some (some (.ref a)) ∧ ¬ bB B ρ σ rs a) := fun j p d e => by
    rcases wh j _ _ _ e with ⟨hj, z⟩ | ⟨k, q, o', d', u, ek, es, _, ev, em, ej⟩
    · obtain ⟨a, e1, ro, x, y⟩ := E.ow j p d z
      have ba : bB B ρ σ rs a := .inr ⟨j, p, d, z, hj, e1⟩
      exact ⟨a, e1, ro.keep nx.fz (nx.out a ba), (E'.out a ba).2, y, .inl ⟨hj, z⟩⟩
    · obtain ⟨a, e1, ro, x, y⟩ := E'.ow k q d es
      rw [em] at e1; cases e1
      exact ⟨a, ej, ro, x, fun hb => y (.inl hb), .inr ⟨k, q, ek, es, em, y⟩⟩
  have er : ER K F' H' σ0 (wb ρ rs ss) σ B := by
    refine ⟨by rw [wb_len]; exact E.len, E'.sub, fun j p d e => ?_, fun j p d e => ?_, fun i j a p q d e h1 h2 h3 h4 => ?_, fun j o d e => ?_, fun c hc => ⟨?_, (E'.out c (.inl hc)).2⟩⟩
    · rcases wh j _ _ _ e with ⟨hj, z⟩ | ⟨k, q, o', d', u, ek, es, _, ev, em, ej⟩
      · obtain ⟨u, e1, rd⟩ := E.fz j p d z
        exact ⟨u, e1, rd.mono nx.fz⟩
      · obtain ⟨u', e1, rd⟩ := E'.fz k q d es
        rw [em] at e1; cases e1
        exact ⟨u, ej, rd⟩
    · obtain ⟨a, x, y, z, w, _⟩ := ow j p d e
      exact ⟨a, x, y, z, w⟩
    · obtain ⟨a1, x1, _, _, _, w1⟩ := ow i p d h1
      obtain ⟨a2, x2, _, _, _, w2⟩ := ow j q e h2
      rw [x1] at h3; cases h3
      rw [x2] at h4; cases h4
      rcases w1 with ⟨n1, z1⟩ | ⟨k, q1, z1, z2, z3, z4⟩
      · rcases w2 with ⟨n2, y1⟩ | ⟨l, q2, y1, y2, y3, y4⟩
        · exact E.inj i j a p q d e z1 y1 x1 x2
        · exact absurd (Or.inr ⟨i, p, d, z1, n1, x1⟩) y4
      · rcases w2 with ⟨n2, y1⟩ | ⟨l, q2, y1, y2, y3, y4⟩
        · exact absurd (Or.inr ⟨j, q, e, y1, n2, x2⟩) z4
        · have := E'.inj k l a q1 q2 d e z2 y2 z3 y3
          subst this
          rw [z1] at y1; cases y1; rfl
    · rcases wh j _ _ _ e with ⟨hj, z⟩ | ⟨k, q, o', d', u, ek, es, z, ev, em, ej⟩
      · exact E.par j o d z
      · exact E.par j o' d' z
    · rw [nx.out c (.inl hc)]; exact (E.out c hc).1
  refine ⟨nx.mono fun c => .inl, er, ?_⟩
  cases r with
  | val d => exact rr
  | «at» i => exact absurd rfl (na i)
  | own d =>
    obtain ⟨a, rfl, ro, x, y, w⟩ := rr
    refine ⟨a, rfl, ro, x, fun hb => y (.inl hb), fun j p e h1 h2 => ?_⟩
    obtain ⟨a1, x1, _, _, _, w1⟩ := ow j p e h1
    rw [x1] at h2; cases h2
    rcases w1 with ⟨n1, z1⟩ | ⟨k, q1, z1, z2, z3, z4⟩
    · exact y (.inr ⟨j, p, e, z1, n1, x1⟩)
    · exact w k q1 e z2 z3
end

/-- a call of a def -/
theorem fe_call {X : Cx} {ea : Expr} {es : List Expr} {pf pos : Pos} {x : Str} {u : UF} {ua : UR} {k : Nat} {f : Addr} {fd : FuncData} {ps : List Str} (Fn : FnOk X.prog X.w X.K X.mg X.base CX0 k f fd ps (PSp X.K ps.length u)) (hr : Room k X.A) (hg : Gl X x) (hm : X.mg x = some (.ref f)) (hk : PySem.W.keepIn X.K (.ref f) = true) (hb : Binds X.K fd ps [])
    (ha : FR X (ea :: es) ua) (hn : (ea :: es).length = ps.length := by rfl) (hdb : (x == ("__debug__" : Str)) = false := by decide) (he : starEach (ea :: es) X.env = (false, eval ea X.env) :: starEach es X.env := by rfl) (hpl : (backTo pos (starEach es X.env)).any (·.1) = false := by rfl) :
    FE X (.Call (.Name x pf) (ea :: es) [] pos) (uCall u ua) := ⟨fun ρ R q F H σ0 σ B Q E g => by
  refine to_S (pe_call Fn hr hg hm hk hb .nil (E := fun _ _ _ => False) pass0 pa_S hdb he hpl) (ha ρ _ q F H σ0 σ B _ E fun rs ρ1 vs F1 H1 ⟨n1, z⟩ G l ll => ?_)
  have ln := ll.trans hn
  have lv := l.len
  refine ⟨_, F1, bB B ρ1 σ rs, _, by rw [List.length_map]; exact ln, by rw [List.length_append, ← lv, ln]; rfl, by rw [List.append_nil]; exact G.er.into l n1, z, fun r ss v F' H' y nx E' rr na => ?_⟩
  rw [List.append_nil] at E' rr
  have G' := G.er.behind l n1 nx E' rr na
  exact g r _ v F' H' y ⟨G.nx.trans G'.nx, G'.er, G'.rr⟩⟩
end YP
set_option maxRecDepth 100000
/-! The yard's pure layer, part 5: a def's body. -/
namespace YP
open PySem PySem.Spec PyProof.Rows L2

def mark : Sl → Sl
  | .sl o _ d => .sl o true d
  | .un => .un
def enter (N : Nat) (ρ : List Sl) : List Sl := ρ.map mark ++ List.replicate (N - ρ.length) .un
def unmark : Sl → Sl
  | .sl o true d => .sl o false d
  | _ => .un
def back : Nat → List Sl → List Sl
  | 0, _ => []
  | n + 1, [] => .un :: back n []
  | n + 1, s :: ρ => unmark s :: back n ρ
/-- a result as it leaves the def -/
def fin (ρ : List Sl) (r : Rv) (k : Rv → List Sl → Prop) : Prop := match r with
  | .at i => match ρ[i]? with
    | some (.sl true false d) => k (.own d) ρ
    | some (.sl true true d) => k (.val d) (ρ.set i (.sl false true d))
    | some (.sl false _ d) => k (.val d) ρ
    | _ => False
  | r => k r ρ
section
variable {K : PySem.W.Frag} {F F' H H' : Hp} {σ0 σ : L2.St} {ρ : List Sl} {B : Addr → Prop} {n : Nat}
theorem back_len : ∀ (n : Nat) (ρ : List Sl), (back n ρ).length = n
  | 0, _ => rfl
  | n + 1, [] => congrArg (· + 1) (back_len n [])
  | n + 1, _ :: ρ => congrArg (· + 1) (back_len n ρ)
theorem back_get {o p : Bool} {d : D} : ∀ {n i : Nat} {ρ : List Sl}, (back n ρ)[i]? = some (Sl.sl o p d) → i < n ∧ p = false ∧ ρ[i]? = some (.sl o true d)
  | 0, _, _, h => nomatch h
  | n + 1, 0, [], h => nomatch h
  | n + 1, i + 1, [], h => by
    obtain ⟨a, b, c⟩ := back_get (n := n) (i := i) (ρ := []) h
    exact nomatch c
  | n + 1, 0, s :: ρ, h => by
    have h : some (unmark s) = some (Sl.sl o p d) := h
    have h := Option.some.inj h
    cases s with
    | un => cases h
    | sl o' p' d' => cases p' <;> cases h; exact ⟨by omega, rfl, rfl⟩
  | n + 1, i + 1, s :: ρ, h => by
    obtain ⟨a, b, c⟩ := back_get (n := n) (i := i) (ρ := ρ) h
    exact ⟨by omega, b, c⟩
theorem ER.back (E : ER K F H σ0 ρ σ B) (hn : n = σ0.length) : ER K F H [] (back n ρ) σ0 B := by
  refine ⟨by rw [back_len]; exact hn, E.sub, fun i p d h => ?_, fun i p d h => ?_, fun i j a p q d e h1 h2 h3 h4 => ?_, fun i o d h => ?_, E.out⟩
  · obtain ⟨_, _, z⟩ := back_get h
    rw [← E.par i _ d z]
    exact E.fz i true d z
  · obtain ⟨_, _, z⟩ := back_get h
    rw [← E.par i _ d z]
    exact E.ow i true d z
  · obtain ⟨_, _, z⟩ := back_get h1
    obtain ⟨_, _, y⟩ := back_get h2
    rw [← E.par i _ d z] at h3
    rw [← E.par j _ e y] at h4
    exact E.inj i j a _ _ d e z y h3 h4
  · obtain ⟨_, y, _⟩ := back_get h
    cases y
theorem fin_ok {r : Rv} {v : V} {k : Rv → List Sl → Prop} (E : ER K F H σ0 ρ σ B) (rr : RR K F H ρ σ B r v) (h : fin ρ r k) (hn : n = σ0.length) :
    ∃ F' r' ρ', k r' ρ' ∧ Nx F H F' H B ∧ ER K F' H [] (back n ρ') σ0 B ∧ RR K F' H (back n ρ') σ0 B r' v ∧ ∀ i, r' ≠ .at i := by
  cases r with
  | val d => exact ⟨F, _, ρ, h, .refl _ _ _, E.back hn, rr, fun _ z => nomatch z⟩
  | own d =>
    refine ⟨F, _, ρ, h, .refl _ _ _, E.back hn, ?_, fun _ z => nomatch z⟩
    obtain ⟨a, x, ro, y, z, w⟩ := rr
    refine ⟨a, x, ro, y, z, fun i p e q => ?_⟩
    obtain ⟨_, _, z⟩ := back_get q
    rw [← E.par i _ e z]
    exact w i _ e z
  | «at» i =>
    unfold fin at h
    dsimp only at h
    have rr' : σ[i]? = some (some v) := rr
    cases q : ρ[i]? with
    | none => rw [q] at h; exact h.elim
    | some s =>
      cases s with
      | un => rw [q] at h; exact h.elim
      | sl o p d =>
        cases o with
        | false =>
          rw [q] at h
          obtain ⟨u, e, rd⟩ := E.fz i p d q
          rw [rr'] at e; cases e
          refine ⟨F, _, ρ, ?_, .refl _ _ _, E.back hn, (show RR K F H _ _ B (.val d) v from rd), fun _ z => nomatch z⟩
          cases p <;> exact h
        | true =>
          cases p with
          | false =>
            rw [q] at h
            obtain ⟨a, e, ro, x, y⟩ := E.ow i _ d q
            rw [rr'] at e; cases e
            refine ⟨F, _, ρ, h, .refl _ _ _, E.back hn, ⟨a, rfl, ro, x, y, fun j p e z w => ?_⟩, fun _ z => nomatch z⟩
            obtain ⟨_, _, z2⟩ := back_get z
            rw [← E.par j _ e z2] at w
            have := E.inj j i a _ _ e d z2 q w rr'
            subst this
            rw [z2] at q; cases q
          | true =>
            rw [q] at h
            have w : wv ρ (.at i) (fun e => e = d) := by simp only [wv, q]
            obtain ⟨F', d', nx, E', rd, rfl⟩ := E.freeze rr w
            have fe : frz ρ (.at i) = ρ.set i (Sl.sl false true d') := by simp only [frz, q]
            rw [fe] at E'
            exact ⟨F', _, _, h, nx, E'.back hn, (show RR K F' H _ _ B (.val d') v from rd), fun _ z => nomatch z⟩
theorem ER.enter {vs : List V} {N : List Str} (E : ER K F H [] ρ (vs.map some) B) : ER K F H (vs.map some) (enter N.length ρ) (L2.start N vs) B := by
  have lv : ρ.length = vs.length := by have := E.len; rwa [List.length_map] at this
  have g : ∀ (i : Nat) o p d, (YP.enter N.length ρ)[i]? = some (Sl.sl o p d) → i < ρ.length ∧ (∃ p', ρ[i]? = some (.sl o p' d)) ∧ (L2.start N vs)[i]? = (vs.map some)[i]? := fun i o p d e => by
    unfold YP.enter at e
    by_cases hi : i < ρ.length
    · rw [List.getElem?_append_left (by rw [List.length_map]; exact hi), List.getElem?_map] at e
      cases q : ρ[i]? with
      | none => rw [q] at e; cases e
      | some s =>
        rw [q] at e
        have e := Option.some.inj e
        cases s with
        | un => cases e
        | sl o' p' d' =>
          cases e
          refine ⟨hi, ⟨p', rfl⟩, ?_⟩
          unfold L2.start
          rw [List.getElem?_append_left (by rw [List.length_map]; omega)]
    · rw [List.getElem?_append_right (by rw [List.length_map]; omega), List.getElem?_replicate] at e
      split at e <;> cases e
  refine ⟨?_, E.sub, fun i p d h => ?_, fun i p d h => ?_, fun i j a p q d e h1 h2 h3 h4 => ?_, fun i o d h => (g _ _ _ _ h).2.2, E.out⟩
  · unfold YP.enter L2.start
    rw [List.length_append, List.length_append, List.length_map, List.length_map, List.length_replicate, List.length_replicate, lv]
  · obtain ⟨_, ⟨p', z⟩, y⟩ := g _ _ _ _ h
    rw [y]; exact E.fz i p' d z
  · obtain ⟨_, ⟨p', z⟩, y⟩ := g _ _ _ _ h
    rw [y]; exact E.ow i p' d z
  · obtain ⟨_, ⟨p', z⟩, y⟩ := g _ _ _ _ h1
    obtain ⟨_, ⟨q', z2⟩, y2⟩ := g _ _ _ _ h2
    rw [y] at h3; rw [y2] at h4
    exact E.inj i j a _ _ d e z z2 h3 h4
end
theorem ru {k : Nat} {A : Around} (hr : Room k A) : A.units + 64 < cLine := by have := hr.un; omega
theorem rv {k : Nat} {A : Around} (hr : Room k A) : A.units + 65 < cLine := by have := hr.un; omega
theorem rk {k : Nat} {A : Around} (hr : Room k A) : A.units + 1 < cLine := by have := hr.un; omega
/-- the end of a def's body -/
def enEnd (n : Nat) (R : Rv → List Sl → Prop) : En := { nx := fun ρe => R (.val .non) (back n ρe), rt := fun r ρe => fin ρe r fun r ρ2 => R r (back n ρ2) }
section
variable {P : Program} {w : World} {K : PySem.W.Frag} {mg : Str → Option Value} {base : Heap}
/-- THE RULE for a def -/
theorem fn_mk {x qual : Str} {st : Stmt} {f : Addr} {fd : FuncData} {N ps : List Str} {k : Nat} {u : UF} (Fn : Fun K x qual st f fd) (S : FnScope N ps (defScope st)) (hN : ps.length ≤ N.length)
    (body : ∀ (cdv : Value) (A : Around) (outer : List Env) (s : Shared) (H : Hp) (E : XK), Room k (A.deeper (envOfC qual (defScope st) s.heap.objs.size f cdv)) →
      ∃ ub, FB (cxOf CX0 P w K mg base N qual (defScope st) f cdv A outer s H E).nox (defBody st) ub ∧ ∀ ρ R, ρ.length = ps.length → u ρ R → ub (enEnd ps.length R) (enter N.length ρ)) : FnOk P w K mg base CX0 (k + 1) f fd ps (PSp K ps.length u) := by
  refine Fn.ok S (fun vs H Q E h => ?_) fun cdv A outer s H vs Q E hr h => ?_
  · obtain ⟨ρ, F, B, R, _, l, _⟩ := h; exact l
  · obtain ⟨ρ, F, B, R, l1, l2, er, hu, g⟩ := h
    obtain ⟨ub, hub, go⟩ := body cdv A outer s H E hr
    refine ⟨_, pss_S, hub _ _ (go ρ R l1 hu) F H (vs.map some) _ B _ er.enter ⟨fun ρ' σ' F' H' e G => ?_, fun r ρ' v σ' F' H' e G => ?_, fun _ _ _ _ e _ => e.elim, fun _ _ _ _ e _ => e.elim⟩⟩
    · have hn : ps.length = (vs.map some).length := by rw [List.length_map]; exact l2.symm
      exact g _ _ _ F' H' e G.nx (G.er.back hn) .non (fun _ z => nomatch z)
    · have hn : ps.length = (vs.map some).length := by rw [List.length_map]; exact l2.symm
      obtain ⟨F2, r2, ρ2, hk, nx, er2, rr2, na⟩ := fin_ok (k := fun r ρ2 => R r (YP.back ps.length ρ2)) G.er G.rr e hn
      exact g r2 _ v F2 H' hk (G.nx.trans nx) er2 rr2 na
end
end YP
set_option maxRecDepth 100000
/-! The yard's pure layer, part 6: operators, subscripts, slices. -/
namespace YP
open PySem PySem.Spec PyProof.Rows L2

theorem OpS.of {X : Cx} {f : Value → Value → Sem Value} {o : D → D → (Rv → Prop) → Prop} {r : R2} (h : OpR X f r) (k : ∀ {F H : Hp} {σ0 σ : L2.St} {ρ : List Sl} {B : Addr → Prop} {x y : V} {d e : D} {T : Rv → Prop} {Q : VK}, ER X.K F H σ0 ρ σ B → RW X.K F H x d → RW X.K F H y e → o d e T →
    (∀ z v F' H', T z → Gt X.K F H F' H' σ0 ρ σ B z v → Q v H') → r x y H Q) : OpS X f o := ⟨⟨r, h, k⟩⟩
section
variable {K : PySem.W.Frag} {F H : Hp} {σ0 σ : L2.St} {ρ : List Sl} {B : Addr → Prop} {T : Rv → Prop} {Q : VK}
/-- a result that is plain -/
theorem gt_val {d : D} {v : V} (E : ER K F H σ0 ρ σ B) (g : ∀ z v F' H', T z → Gt K F H F' H' σ0 ρ σ B z v → Q v H') (t : T (.val d)) (rd : RD K F v d) : Q v H := g _ _ _ _ t ⟨.refl _ _ _, E, rd⟩
/-- a new list -/
theorem gt_lst {vs : List V} {ds : List D} (E : ER K F H σ0 ρ σ B) (g : ∀ z v F' H', T z → Gt K F H F' H' σ0 ρ σ B z v → Q v H') (t : T (.own (.lst ds))) (rl : RL K F vs ds) : ∀ p, H p = none → Q (.ref p) (upd H p (.lst vs)) := fun p np =>
  g _ _ F _ t ⟨nx_new E np, E.laid np, E.laid_own np (.lst upd_same rl)⟩
/-- a new tuple -/
theorem gt_tup {vs : List V} {ds : List D} (E : ER K F H σ0 ρ σ B) (g : ∀ z v F' H', T z → Gt K F H F' H' σ0 ρ σ B z v → Q v H') (t : T (.val (.tup ds))) (rl : RL K F vs ds) : ∀ p, H p = none → Q (.ref p) (upd H p (.tup vs)) := fun p np => by
  obtain ⟨E2, n2⟩ := E.laid_val (o := .tup vs) np
  exact g _ _ _ _ t ⟨n2, E2, .tup upd_same (rl.mono n2.fz)⟩
/-- a new dict -/
theorem gt_dic {vs : List (Key × V)} {ds : List (Key × D)} (E : ER K F H σ0 ρ σ B) (g : ∀ z v F' H', T z → Gt K F H F' H' σ0 ρ σ B z v → Q v H') (t : T (.own (.dic ds))) (rl : RK K F vs ds) : ∀ p, H p = none → Q (.ref p) (upd H p (.dK vs)) := fun p np =>
  g _ _ F _ t ⟨nx_new E np, E.laid np, E.laid_own np (.dic upd_same rl)⟩
end

/-! ### + -/
def oAdd (d e : D) (T : Rv → Prop) : Prop := match d, e with
  | .int i, .int j => T (.val (.int (i + j)))
  | .str x, .str y => x.length + y.length ≤ sizeLine ∧ T (.val (.str (x ++ y)))
  | .lst xs, .lst ys => xs.length + ys.length ≤ sizeLine ∧ T (.own (.lst (xs ++ ys)))
  | .tup xs, .tup ys => xs.length + ys.length ≤ sizeLine ∧ T (.val (.tup (xs ++ ys)))
  | _, _ => False
theorem os_add {X : Cx} : OpS X (binaryOp .Add) oAdd := .of (OpR.or op_add (OpR.or op_add_str (OpR.or op_cat op_catA))) fun {F H σ0 σ ρ B x y d e T Q} E w1 w2 t g => by
  unfold oAdd at t
  split at t
  · cases w1.int; cases w2.int
    exact .inl ⟨_, _, rfl, rfl, gt_val E g t (.int _)⟩
  · cases w1.str; cases w2.str
    exact .inr (.inl ⟨_, _, rfl, rfl, t.1, gt_val E g t.2 (.str _)⟩)
  · obtain ⟨a, vs, rfl, h1, l1⟩ := w1.lst E.sub
    obtain ⟨b, us, rfl, h2, l2⟩ := w2.lst E.sub
    exact .inr (.inr (.inl ⟨a, b, vs, us, rfl, rfl, h1, h2, by rw [l1.len, l2.len]; exact t.1, gt_lst E g t.2 (l1.app l2)⟩))
  · obtain ⟨a, vs, rfl, h1, l1⟩ := w1.tup E.sub
    obtain ⟨b, us, rfl, h2, l2⟩ := w2.tup E.sub
    refine .inr (.inr (.inr ⟨a, b, vs, us, rfl, rfl, h1, h2, by rw [l1.len, l2.len]; exact t.1, fun e => ?_, fun _ e => ?_, fun _ _ => gt_tup E g t.2 (l1.app l2)⟩))
    · subst e; cases l1
      rcases w2 with w | w
      · exact gt_val E g t.2 w
      · cases w
    · subst e; cases l2
      have t2 := t.2
      rw [List.append_nil] at t2
      rcases w1 with w | w
      · exact gt_val E g t2 w
      · cases w
  · exact t.elim

/-! ### the others on ints -/
def oI (C : Int → Int → Prop) (k : Int → Int → D) (d e : D) (T : Rv → Prop) : Prop := match d, e with
  | .int i, .int j => C i j ∧ T (.val (k i j))
  | _, _ => False
def oI0 (k : Int → Int → D) (d e : D) (T : Rv → Prop) : Prop := match d, e with
  | .int i, .int j => T (.val (k i j))
  | _, _ => False
theorem os_I {X : Cx} {f : Value → Value → Sem Value} {C : Int → Int → Prop} {k : Int → Int → D} {kv : Int → Int → V} (h : OpR X f (rI C kv)) (hk : ∀ F i j, RD X.K F (kv i j) (k i j)) : OpS X f (oI C k) := .of h fun {F H σ0 σ ρ B x y d e T Q} E w1 w2 t g => by
  unfold oI at t
  split at t
  · cases w1.int; cases w2.int
    exact ⟨_, _, rfl, rfl, t.1, gt_val E g t.2 (hk F _ _)⟩
  · exact t.elim
theorem os_I0 {X : Cx} {f : Value → Value → Sem Value} {k : Int → Int → D} {kv : Int → Int → V} (h : OpR X f (rI0 kv)) (hk : ∀ F i j, RD X.K F (kv i j) (k i j)) : OpS X f (oI0 k) := .of h fun {F H σ0 σ ρ B x y d e T Q} E w1 w2 t g => by
  unfold oI0 at t
  split at t
  · cases w1.int; cases w2.int
    exact ⟨_, _, rfl, rfl, gt_val E g t (hk F _ _)⟩
  · exact t.elim
abbrev oSub := oI0 fun i j => .int (i - j)
abbrev oMul := oI CMul fun i j => .int (i * j)
abbrev oMod := oI (fun _ j => 0 < j) fun i j => .int (i % j)
abbrev oDiv := oI CDiv fun i j => .int (i / j)
abbrev oPow := oI Yard.CPowW fun i j => .int (i ^ j.toNat)
abbrev oAnd := oI0 fun i j => .int (Builtin.bitAnd i j)
abbrev oOr := oI0 fun i j => .int (Builtin.bitOr i j)
theorem os_sub {X : Cx} : OpS X (binaryOp .Sub) oSub := os_I0 op_sub fun _ _ _ => .int _
theorem os_mul {X : Cx} : OpS X (binaryOp .Mult) oMul := os_I op_mul fun _ _ _ => .int _
theorem os_mod {X : Cx} : OpS X (binaryOp .Mod) oMod := os_I op_mod fun _ _ _ => .int _
theorem os_div {X : Cx} : OpS X (binaryOp .FloorDiv) oDiv := os_I op_fdiv fun _ _ _ => .int _
theorem os_pow {X : Cx} : OpS X (binaryOp .Pow) oPow := os_I Yard.op_powW fun _ _ _ => .int _
theorem os_and {X : Cx} : OpS X (binaryOp .BitAnd) oAnd := os_I0 op_and fun _ _ _ => .int _
theorem os_or {X : Cx} : OpS X (binaryOp .BitOr) oOr := os_I0 op_or fun _ _ _ => .int _
abbrev oGt := oI0 fun i j => .bl (decide (j < i))
abbrev oGe := oI0 fun i j => .bl (decide (j ≤ i))
abbrev oLe := oI0 fun i j => .bl (decide (i ≤ j))
theorem os_gt {X : Cx} : OpS X (compareOp .Gt) oGt := os_I0 op_gt fun _ _ _ => .bl _
theorem os_ge {X : Cx} : OpS X (compareOp .GtE) oGe := os_I0 op_ge fun _ _ _ => .bl _
theorem os_le {X : Cx} : OpS X (compareOp .LtE) oLe := os_I0 op_le fun _ _ _ => .bl _
def oLt (d e : D) (T : Rv → Prop) : Prop := match d, e with
  | .int i, .int j => T (.val (.bl (decide (i < j))))
  | .str i, .str j => T (.val (.bl (decide (i.cps.toList < j.cps.toList))))
  | _, _ => False
theorem os_lt {X : Cx} : OpS X (compareOp .Lt) oLt := .of (OpR.or op_lt op_lt_str) fun {F H σ0 σ ρ B x y d e T Q} E w1 w2 t g => by
  unfold oLt at t
  split at t
  · cases w1.int; cases w2.int
    exact .inl ⟨_, _, rfl, rfl, gt_val E g t (.bl _)⟩
  · cases w1.str; cases w2.str
    exact .inr ⟨_, _, rfl, rfl, gt_val E g t (.bl _)⟩
  · exact t.elim
/-- is None, is not None -/
def oIsN (neg : Bool) (d e : D) (T : Rv → Prop) : Prop := match d, e with
  | .non, .non => T (.val (.bl (!neg)))
  | .ty _, .non => False
  | _, .non => T (.val (.bl neg))
  | _, _ => False
theorem os_is {X : Cx} : OpS X (compareOp .Is) (oIsN false) := .of op_isN fun {F H σ0 σ ρ B x y d e T Q} E w1 w2 t g => by
  cases e with
  | non =>
    cases w2.non
    refine ⟨rfl, ?_⟩
    cases d with
    | non => cases w1.non; exact gt_val E g t (.bl _)
    | bl b => cases w1.bl; exact gt_val E g t (.bl _)
    | int b => cases w1.int; exact gt_val E g t (.bl _)
    | str b => cases w1.str; exact gt_val E g t (.bl _)
    | lst b => obtain ⟨_, _, rfl, _⟩ := w1.lst E.sub; exact gt_val E g t (.bl _)
    | tup b => obtain ⟨_, _, rfl, _⟩ := w1.tup E.sub; exact gt_val E g t (.bl _)
    | dic b => obtain ⟨_, _, rfl, _⟩ := w1.dic E.sub; exact gt_val E g t (.bl _)
    | obj c b => obtain ⟨_, _, _, rfl, _⟩ := w1.obj E.sub; exact gt_val E g t (.bl _)
    | ref b => cases w1.ref; exact gt_val E g t (.bl _)
    | ty n => exact t.elim
  | _ => cases d <;> exact t.elim
theorem os_isnot {X : Cx} : OpS X (compareOp .IsNot) (oIsN true) := .of op_notN fun {F H σ0 σ ρ B x y d e T Q} E w1 w2 t g => by
  cases e with
  | non =>
    cases w2.non
    refine ⟨rfl, ?_⟩
    cases d with
    | non => cases w1.non; exact gt_val E g t (.bl _)
    | bl b => cases w1.bl; exact gt_val E g t (.bl _)
    | int b => cases w1.int; exact gt_val E g t (.bl _)
    | str b => cases w1.str; exact gt_val E g t (.bl _)
    | lst b => obtain ⟨_, _, rfl, _⟩ := w1.lst E.sub; exact gt_val E g t (.bl _)
    | tup b => obtain ⟨_, _, rfl, _⟩ := w1.tup E.sub; exact gt_val E g t (.bl _)
    | dic b => obtain ⟨_, _, rfl, _⟩ := w1.dic E.sub; exact gt_val E g t (.bl _)
    | obj c b => obtain ⟨_, _, _, rfl, _⟩ := w1.obj E.sub; exact gt_val E g t (.bl _)
    | ref b => cases w1.ref; exact gt_val E g t (.bl _)
    | ty n => exact t.elim
  | _ => cases d <;> exact t.elim

/-! ### == and in, of data of any depth -/
mutual
def toP : D → PyData
  | .non => .none
  | .bl b => .bool b
  | .int i => .int i
  | .str x => .str x
  | .lst l => .list (toPs l)
  | .tup l => .tuple (toPs l)
  | _ => .none
def toPs : List D → List PyData
  | [] => []
  | d :: l => toP d :: toPs l
end
mutual
def plain : D → Bool
  | .non => true
  | .bl _ => true
  | .int _ => true
  | .str _ => true
  | .lst l => plains l
  | .tup l => plains l
  | _ => false
def plains : List D → Bool
  | [] => true
  | d :: l => plain d && plains l
end
theorem toPs_map : ∀ l : List D, toPs l = l.map toP
  | [] => rfl
  | d :: l => congrArg (toP d :: ·) (toPs_map l)
theorem plains_all : ∀ l : List D, plains l = l.all plain
  | [] => rfl
  | d :: l => by
    show (plain d && plains l) = _
    rw [plains_all l]; rfl
section
variable {K : PySem.W.Frag} {F H : Hp}
mutual
theorem RD.dp (s : Same F H) : ∀ {v : V} {d : D}, RD K F v d → plain d = true → Dp K H v (toP d)
  | _, _, .non, _ => .non
  | _, _, .bl b, _ => .bl b
  | _, _, .int i, _ => .int i
  | _, _, .str x, _ => .str x
  | _, _, .ty n, h => nomatch h
  | _, _, .ref a, h => nomatch h
  | _, _, .lst h t, p => .lst (.of (s _ _ h)) (t.dp s p)
  | _, _, .tup h t, p => .tup (.of (s _ _ h)) (t.dp s p)
  | _, _, .dic h t, p => nomatch p
  | _, _, .obj h t, p => nomatch p
theorem RL.dp (s : Same F H) : ∀ {vs : List V} {ds : List D}, RL K F vs ds → plains ds = true → DpAll K H vs (toPs ds)
  | _, _, .nil, _ => .nil
  | _, _, .cons h t, p => .cons (h.dp s (Bool.and_eq_true .. ▸ p).1) (t.dp s (Bool.and_eq_true .. ▸ p).2)
end
theorem RW.dp {v : V} {d : D} (s : Same F H) (h : RW K F H v d) (p : plain d = true) : Dp K H v (toP d) := by
  rcases h with h | h
  · exact h.dp s p
  · cases h with
    | lst h t => exact .lst (.of h) (t.dp s p)
    | dic h t => cases p
    | obj h t => cases p
end
/-- plain, and not too deep -/
def okD (d : D) : Bool := plain d && SeqAt.shaped (toP d)
def eqD (d e : D) : Bool := PyData.eqv (toP d) (toP e)
theorem okD_p {d : D} (h : okD d = true) : plain d = true := (Bool.and_eq_true .. ▸ h).1
theorem okD_s {d : D} (h : okD d = true) : SeqAt.shaped (toP d) = true := (Bool.and_eq_true .. ▸ h).2
def oEq (d e : D) (T : Rv → Prop) : Prop := okD d = true ∧ okD e = true ∧ T (.val (.bl (eqD d e)))
def oNe (d e : D) (T : Rv → Prop) : Prop := okD d = true ∧ okD e = true ∧ T (.val (.bl (!eqD d e)))
theorem os_eq {X : Cx} (hu : X.A.units + 64 < cLine) : OpS X (compareOp .Eq) oEq := .of (op_eqD hu) fun {F H σ0 σ ρ B x y d e T Q} E w1 w2 t g =>
  ⟨_, _, w1.dp E.sub (okD_p t.1), w2.dp E.sub (okD_p t.2.1), okD_s t.1, okD_s t.2.1, gt_val E g t.2.2 (.bl _)⟩
theorem os_ne {X : Cx} (hu : X.A.units + 64 < cLine) : OpS X (compareOp .NotEq) oNe := .of (op_neD hu) fun {F H σ0 σ ρ B x y d e T Q} E w1 w2 t g =>
  ⟨_, _, w1.dp E.sub (okD_p t.1), w2.dp E.sub (okD_p t.2.1), okD_s t.1, okD_s t.2.1, gt_val E g t.2.2 (.bl _)⟩
/-- in a list; a sign in a text -/
def oIn (neg : Bool) (d e : D) (T : Rv → Prop) : Prop := match e with
  | .lst l => okD d = true ∧ okD (.lst l) = true ∧ T (.val (.bl (neg ^^ l.any fun z => eqD z d)))
  | .str z => ∃ c : Nat, d = .str ⟨#[c]⟩ ∧ T (.val (.bl (neg ^^ decide (c ∈ z.cps.toList))))
  | _ => False
theorem any_toPs (d : D) : ∀ l : List D, ((toPs l).any fun z => PyData.eqv z (toP d)) = l.any fun z => eqD z d
  | [] => rfl
  | z :: l => by
    show (PyData.eqv (toP z) (toP d) || (toPs l).any _) = _
    rw [any_toPs d l]; rfl
theorem os_in {X : Cx} (hu : X.A.units + 65 < cLine) : OpS X (compareOp .In) (oIn false) := .of (OpR.or (op_inD hu) op_in_sign) fun {F H σ0 σ ρ B x y d e T Q} E w1 w2 t g => by
  unfold oIn at t
  split at t
  · refine .inl ⟨_, _, w1.dp E.sub (okD_p t.1), w2.dp E.sub (okD_p t.2.1), okD_s t.1, okD_s t.2.1, ?_⟩
    have t3 := t.2.2
    rw [any_toPs]
    exact gt_val E g t3 (by rw [Bool.false_xor]; exact .bl _)
  · obtain ⟨c, rfl, t⟩ := t
    cases w1.str; cases w2.str
    exact .inr ⟨c, _, rfl, rfl, gt_val E g t (by rw [Bool.false_xor]; exact .bl _)⟩
  · exact t.elim
theorem os_notin {X : Cx} (hu : X.A.units + 65 < cLine) : OpS X (compareOp .NotIn) (oIn true) := .of (OpR.or (op_notInD hu) op_notIn_sign) fun {F H σ0 σ ρ B x y d e T Q} E w1 w2 t g => by
  unfold oIn at t
  split at t
  · refine .inl ⟨_, _, w1.dp E.sub (okD_p t.1), w2.dp E.sub (okD_p t.2.1), okD_s t.1, okD_s t.2.1, ?_⟩
    have t3 := t.2.2
    rw [any_toPs]
    exact gt_val E g t3 (by rw [Bool.true_xor]; exact .bl _)
  · obtain ⟨c, rfl, t⟩ := t
    cases w1.str; cases w2.str
    exact .inr ⟨c, _, rfl, rfl, gt_val E g t (by rw [Bool.true_xor]; exact .bl _)⟩
  · exact t.elim

/-! ### subscripts -/
def oIx (d e : D) (T : Rv → Prop) : Prop := match d, e with
  | .lst l, .int i => ∃ x, atI l i = some x ∧ T (.val x)
  | .tup l, .int i => ∃ x, atI l i = some x ∧ T (.val x)
  | .str z, .int i => z.length ≤ sizeLine ∧ ∃ c, atI z.cps.toList i = some c ∧ T (.val (.str ⟨#[c]⟩))
  | _, _ => False
theorem RL.atI {K : PySem.W.Frag} {F : Hp} {vs : List V} {ds : List D} {i : Int} {x : D} (h : RL K F vs ds) (e : L2.atI ds i = some x) : ∃ v, L2.atI vs i = some v ∧ RD K F v x := by
  unfold L2.atI at e ⊢
  rw [h.len]
  cases q : ixN ds.length i with
  | none => rw [q] at e; cases e
  | some j =>
    rw [q] at e
    exact h.got e
theorem IxR.or {X : Cx} {r r' : R2} (h : IxR X r) (h' : IxR X r') : IxR X (fun x y H Q => r x y H Q ∨ r' x y H Q) := by
  intro value slice pins s σ H x y v u Q I rx ry q hs
  rcases q with q | q
  · exact h value slice pins s σ H x y v u Q I rx ry q hs
  · exact h' value slice pins s σ H x y v u Q I rx ry q hs
section
variable {X : Cx} {a b : Expr} {ua ub : UE} {pos : Pos}
theorem fe_ix (ha : FE X a ua) (hb : FE X b ub) (hs : PlainIx b := by exact fun _ _ => rfl) : FE X (.Subscript a b pos) (uBin oIx ua ub) := ⟨fun ρ R q F H σ0 σ B Q E g => by
  refine to_S (pe_ix (IxR.or (ix_list (X := X)) (IxR.or (ix_tup (X := X)) ix_str)) pe_S pe_S hs) (FE.two ha hb q E (fun x y H2 => _) fun p q ρ2 x y F2 H2 t n2 E2 r1 r2 => ?_)
  obtain ⟨d, w1, t⟩ := E2.seen r1 t
  obtain ⟨e, w2, t⟩ := E2.seen (r2.weak hB_sub) t
  have g2 : ∀ z v F' H', R z ρ2 → Gt X.K F2 H2 F' H' σ0 ρ2 σ B z v → Q v H' := fun z v F' H' tz G => g z ρ2 v F' H' tz ⟨n2.trans G.nx, G.er, G.rr⟩
  unfold oIx at t
  split at t
  · obtain ⟨z, e1, t⟩ := t
    obtain ⟨c, vs, rfl, h1, l1⟩ := w1.lst E2.sub
    cases w2.int
    obtain ⟨v, e2, rd⟩ := l1.atI e1
    exact .inl ⟨c, vs, _, v, rfl, rfl, .of h1, e2, gt_val E2 g2 t rd⟩
  · obtain ⟨z, e1, t⟩ := t
    obtain ⟨c, vs, rfl, h1, l1⟩ := w1.tup E2.sub
    cases w2.int
    obtain ⟨v, e2, rd⟩ := l1.atI e1
    exact .inr (.inl ⟨c, vs, _, v, rfl, rfl, h1, e2, gt_val E2 g2 t rd⟩)
  · obtain ⟨z, c, e1, t⟩ := t
    cases w1.str; cases w2.int
    exact .inr (.inr ⟨_, _, c, rfl, rfl, z, e1, gt_val E2 g2 t (.str _)⟩)
  · exact t.elim⟩

/-! ### slices -/
abbrev UO := List Sl → (Option Int → List Sl → Prop) → Prop
def tO (X : Cx) (e : Option Expr) : TO := fun σ H Q => ∀ pins s, Inv X pins σ H s → wpAny (model X.prog X.w) X.A (evalPart e X.env) (fun u s' => ∃ o H', Inv X pins σ H' s' ∧ IsPart u o ∧ Q o H') X.xe s
theorem po_S {e : Option Expr} : PO X e (tO X e) := ⟨fun pins s σ H Q I h => h pins s I⟩
structure FO (X : Cx) (e : Option Expr) (u : UO) : Prop where
  run : ∀ (ρ : List Sl) (R : Option Int → List Sl → Prop), u ρ R → ∀ (F H : Hp) (σ0 σ : L2.St) (B : Addr → Prop) (Q : Option Int → Hp → Prop), ER X.K F H σ0 ρ σ B →
    (∀ o ρ' F' H', R o ρ' → Gd X.K F H F' H' σ0 ρ' σ B → Q o H') → tO X e σ H Q
instance {X : Cx} {e : Option Expr} {u : UO} : CoeFun (FO X e u) (fun _ => ∀ (ρ : List Sl) (R : Option Int → List Sl → Prop), u ρ R → ∀ (F H : Hp) (σ0 σ : L2.St) (B : Addr → Prop) (Q : Option Int → Hp → Prop), ER X.K F H σ0 ρ σ B →
  (∀ o ρ' F' H', R o ρ' → Gd X.K F H F' H' σ0 ρ' σ B → Q o H') → tO X e σ H Q) := ⟨FO.run⟩
def uONo : UO := fun ρ R => R none ρ
def uOInt (u : UE) : UO := fun ρ R => u ρ fun r ρ1 => match r with
  | .val (.int i) => R (some i) ρ1
  | _ => False
theorem fo_no : FO X none uONo := ⟨fun ρ R q F H σ0 σ B Q E g pins s I => po_none.run pins s σ H Q I (g none ρ F H q ⟨.refl _ _ _, E⟩)⟩
theorem fo_int {e : Expr} {u : UE} (h : FE X e u) : FO X (some e) (uOInt u) := ⟨fun ρ R q F H σ0 σ B Q E g pins s I => by
  refine (po_some pe_S).run pins s σ H Q I (h ρ _ q F H σ0 σ B _ E fun r ρ1 v F1 H1 z G => ?_)
  split at z
  · rename_i i
    have rr : RD X.K F1 v (.int i) := G.rr
    cases rr
    exact ⟨i, rfl, g _ _ _ _ z ⟨G.nx, G.er⟩⟩
  · exact z.elim⟩
/-- l[lo:hi] of any list -/
def cut {α : Type} (xs : List α) (lo hi : Option Int) : List α := (xs.drop (HT.sIx xs.length 0 lo)).take (HT.sIx xs.length xs.length hi - HT.sIx xs.length 0 lo)
theorem RL.cut {K : PySem.W.Frag} {F : Hp} {vs : List V} {ds : List D} (h : RL K F vs ds) (lo hi : Option Int) : RL K F (cutV vs lo hi) (YP.cut ds lo hi) := by
  unfold cutV YP.cut
  rw [h.len]
  exact (h.drop _).take _
theorem cut_whole {α : Type} {xs : List α} {lo hi : Option Int} (h : HT.sIx xs.length 0 lo = 0 ∧ HT.sIx xs.length xs.length hi = xs.length) : cut xs lo hi = xs := by
  unfold cut
  rw [h.1, h.2]
  show List.take (xs.length - 0) xs = xs
  rw [Nat.sub_zero]
  exact List.take_length
def oSl (d : D) (lo hi : Option Int) (T : Rv → Prop) : Prop := match d with
  | .lst l => T (.own (.lst (cut l lo hi)))
  | .tup l => T (.val (.tup (cut l lo hi)))
  | .str z => z.length ≤ sizeLine ∧ T (.val (.str (cutS z lo hi)))
  | _ => False
def uSl (ua : UE) (ul uh : UO) : UE := fun ρ R => ua ρ fun r ρ1 => ul ρ1 fun lo ρ2 => uh ρ2 fun hi ρ3 => wv ρ3 r fun d => oSl d lo hi fun z => R z ρ3
theorem fe_sl {lo hi : Option Expr} {ul uh : UO} {p2 : Pos} (ha : FE X a ua) (hl : FO X lo ul) (hh : FO X hi uh) : FE X (.Subscript a (.Slice lo hi none p2) pos) (uSl ua ul uh) := ⟨fun ρ R q F H σ0 σ B Q E g => by
  refine to_S (pe_slice (SlR.or (sl_list (X := X)) (SlR.or (sl_tupA (X := X)) sl_str)) pe_S po_S po_S) (ha ρ _ q F H σ0 σ B _ E fun r ρ1 x F1 H1 q1 G1 => hl ρ1 _ q1 F1 H1 σ0 σ (hB B r x) _ (G1.er.hold G1.rr) fun lo ρ2 F2 H2 q2 G2 => hh ρ2 _ q2 F2 H2 σ0 σ (hB B r x) _ G2.er fun hi ρ3 F3 H3 t G3 => ?_)
  have n3 := G2.nx.trans G3.nx
  have E3 := G3.er.unhold
  obtain ⟨d, w1, t⟩ := E3.seen (G1.rr.held G1.er G3.er n3) t
  have nn := G1.nx.trans (n3.mono hB_sub)
  have g2 : ∀ z v F' H', R z ρ3 → Gt X.K F3 H3 F' H' σ0 ρ3 σ B z v → Q v H' := fun z v F' H' tz G => g z ρ3 v F' H' tz ⟨nn.trans G.nx, G.er, G.rr⟩
  unfold oSl at t
  split at t
  · obtain ⟨c, vs, rfl, h1, l1⟩ := w1.lst E3.sub
    exact .inl ⟨c, vs, rfl, .of h1, gt_lst E3 g2 t (l1.cut lo hi)⟩
  · obtain ⟨c, vs, rfl, h1, l1⟩ := w1.tup E3.sub
    refine .inr (.inl ⟨c, vs, rfl, h1, fun e => ?_, fun _ => gt_tup E3 g2 t (l1.cut lo hi)⟩)
    rw [l1.len] at e
    rw [cut_whole e] at t
    rcases w1 with w | w
    · exact gt_val E3 g2 t w
    · cases w
  · cases w1.str
    exact .inr (.inr ⟨_, rfl, t.1, gt_val E3 g2 t.2 (.str _)⟩)
  · exact t.elim⟩
/-! ### - x -/
def uNeg (u : UE) : UE := fun ρ R => u ρ fun r ρ1 => match r with
  | .val (.int i) => R (.val (.int (-i))) ρ1
  | _ => False
theorem fe_neg {e : Expr} {u : UE} (h : FE X e u) : FE X (.UnaryOp .USub e pos) (uNeg u) := ⟨fun ρ R q F H σ0 σ B Q E g => by
  refine to_S (pe_un un_neg pe_S) (h ρ _ q F H σ0 σ B _ E fun r ρ1 v F1 H1 z G => ?_)
  split at z
  · rename_i i
    have rr : RD X.K F1 v (.int i) := G.rr
    cases rr
    exact ⟨i, rfl, g _ _ _ _ _ z ⟨G.nx, G.er, .int _⟩⟩
  · exact z.elim⟩
end
end YP
set_option maxRecDepth 100000
/-! The yard's pure layer, part 7: calls of what is built in, methods. -/
namespace YP
open PySem PySem.Spec PyProof.Rows L2

/-- the data as they stand -/
def wvs (ρ : List Sl) : List Rv → (List D → Prop) → Prop
  | [], k => k []
  | r :: rs, k => wv ρ r fun d => wvs ρ rs fun ds => k (d :: ds)
def RWs (K : PySem.W.Frag) (F H : Hp) : List V → List D → Prop
  | [], [] => True
  | v :: vs, d :: ds => RW K F H v d ∧ RWs K F H vs ds
  | _, _ => False
theorem ER.seens {K : PySem.W.Frag} {F H : Hp} {σ0 σ : L2.St} {ρ : List Sl} (B0 : Addr → Prop) (E : ER K F H σ0 ρ σ B0) : ∀ {B : Addr → Prop} {rs : List Rv} {vs : List V} {k : List D → Prop}, RRs K F H ρ σ B rs vs → wvs ρ rs k → ∃ ds, RWs K F H vs ds ∧ k ds
  | _, [], [], k, _, w => ⟨[], trivial, w⟩
  | B, r :: rs, v :: vs, k, h, w => by
    have h1 : RR K F H ρ σ (fun _ => False) r v := h.1.weak fun _ z => z.elim
    have E1 : ER K F H σ0 ρ σ (fun _ => False) := ⟨E.len, E.sub, E.fz, fun i p d q => let ⟨a, x, y, z, _⟩ := E.ow i p d q; ⟨a, x, y, z, fun w => w⟩, E.inj, E.par, fun _ z => z.elim⟩
    obtain ⟨d, w1, w⟩ := E1.seen h1 w
    obtain ⟨ds, w2, w⟩ := ER.seens B0 E h.2 w
    exact ⟨d :: ds, ⟨w1, w2⟩, w⟩
  | _, [], _ :: _, _, h, _ => h.elim
  | _, _ :: _, [], _, h, _ => h.elim
/-- a call of a built-in with values -/
structure CbS (X : Cx) (f : Value) (o : List D → (Rv → Prop) → Prop) : Prop where
  ex : ∃ r, CallR X f r ∧ ∀ {F H : Hp} {σ0 σ : L2.St} {ρ : List Sl} {B : Addr → Prop} {vs : List V} {ds : List D} {T : Rv → Prop} {Q : VK}, ER X.K F H σ0 ρ σ B → RWs X.K F H vs ds → o ds T →
    (∀ z v F' H', T z → Gt X.K F H F' H' σ0 ρ σ B z v → Q v H') → r vs H Q
theorem CbS.of {X : Cx} {f : Value} {o : List D → (Rv → Prop) → Prop} {r : List V → Hp → VK → Prop} (h : CallR X f r) (k : ∀ {F H : Hp} {σ0 σ : L2.St} {ρ : List Sl} {B : Addr → Prop} {vs : List V} {ds : List D} {T : Rv → Prop} {Q : VK}, ER X.K F H σ0 ρ σ B → RWs X.K F H vs ds → o ds T →
    (∀ z v F' H', T z → Gt X.K F H F' H' σ0 ρ σ B z v → Q v H') → r vs H Q) : CbS X f o := ⟨⟨r, h, k⟩⟩
theorem CallR.or {X : Cx} {f : Value} {r r' : List V → Hp → VK → Prop} (h : CallR X f r) (h' : CallR X f r') : CallR X f (fun x H Q => r x H Q ∨ r' x H Q) := by
  intro pins s σ H x v Q I rx q
  rcases q with q | q
  · exact h pins s σ H x v Q I rx q
  · exact h' pins s σ H x v Q I rx q
def uB (o : List D → (Rv → Prop) → Prop) (ua : UR) : UE := fun ρ R => ua ρ fun rs ρ1 => wvs ρ1 rs fun ds => o ds fun z => R z ρ1
section
variable {X : Cx} {e : Expr} {es : List Expr} {ua : UR} {p pos : Pos} {x : Str} {id T : String} {o : List D → (Rv → Prop) → Prop}
theorem fe_b (cb : CbS X (.builtin id) o) (hg : Gl X x) (hm : X.mg x = none) (hv : bootBuiltins x = some (.builtin id)) (ha : FR X (e :: es) ua) (hn : x ≠ "__name__" := by decide) (hdb : (x == ("__debug__" : Str)) = false := by decide)
    (he : starEach (e :: es) X.env = (false, eval e X.env) :: starEach es X.env := by rfl) (hpl : (backTo pos (starEach es X.env)).any (·.1) = false := by rfl) : FE X (.Call (.Name x p) (e :: es) [] pos) (uB o ua) := ⟨fun ρ R q F H σ0 σ B Q E g => by
  obtain ⟨r, hr, k⟩ := cb.ex
  refine to_S (pe_callB hr hg hm hv pa_S hn hdb he hpl) (ha ρ _ q F H σ0 σ B _ E fun rs ρ1 vs F1 H1 z G l _ => ?_)
  obtain ⟨ds, w, z⟩ := G.er.seens B l z
  exact k G.er w z fun z v F' H' t G' => g z ρ1 v F' H' t ⟨G.nx.trans G'.nx, G'.er, G'.rr⟩⟩
theorem fe_bt (cb : CbS X (.type T) o) (hg : Gl X x) (hm : X.mg x = none) (hv : bootBuiltins x = some (.type T)) (ha : FR X (e :: es) ua) (hn : x ≠ "__name__" := by decide) (hdb : (x == ("__debug__" : Str)) = false := by decide)
    (he : starEach (e :: es) X.env = (false, eval e X.env) :: starEach es X.env := by rfl) (hpl : (backTo pos (starEach es X.env)).any (·.1) = false := by rfl) : FE X (.Call (.Name x p) (e :: es) [] pos) (uB o ua) := ⟨fun ρ R q F H σ0 σ B Q E g => by
  obtain ⟨r, hr, k⟩ := cb.ex
  refine to_S (pe_callTy hr hg hm hv pa_S hn hdb he hpl) (ha ρ _ q F H σ0 σ B _ E fun rs ρ1 vs F1 H1 z G l _ => ?_)
  obtain ⟨ds, w, z⟩ := G.er.seens B l z
  exact k G.er w z fun z v F' H' t G' => g z ρ1 v F' H' t ⟨G.nx.trans G'.nx, G'.er, G'.rr⟩⟩
end
section
variable {K : PySem.W.Frag} {F H : Hp} {vs : List V}
theorem RWs.one {d : D} (h : RWs K F H vs [d]) : ∃ v, vs = [v] ∧ RW K F H v d := by
  match vs, h with
  | [v], h => exact ⟨v, rfl, h.1⟩
theorem RWs.two {d e : D} (h : RWs K F H vs [d, e]) : ∃ v u, vs = [v, u] ∧ RW K F H v d ∧ RW K F H u e := by
  match vs, h with
  | [v, u], h => exact ⟨v, u, rfl, h.1, h.2.1⟩
theorem RWs.three {d e f : D} (h : RWs K F H vs [d, e, f]) : ∃ v u w, vs = [v, u, w] ∧ RW K F H v d ∧ RW K F H u e ∧ RW K F H w f := by
  match vs, h with
  | [v, u, w], h => exact ⟨v, u, w, rfl, h.1, h.2.1, h.2.2.1⟩
theorem rl_ints : ∀ {vs : List V} {ns : List Int}, RL K F vs (ns.map D.int) → vs = ns.map V.int
  | _, [], h => by cases h; rfl
  | _, n :: ns, h => by cases h with | cons h1 h2 => cases h1; rw [rl_ints h2]; rfl
theorem rl_bls : ∀ {vs : List V} {ns : List Bool}, RL K F vs (ns.map D.bl) → vs = ns.map V.bl
  | _, [], h => by cases h; rfl
  | _, n :: ns, h => by cases h with | cons h1 h2 => cases h1; rw [rl_bls h2]; rfl
theorem rl_strs : ∀ {vs : List V} {ns : List Str}, RL K F vs (ns.map D.str) → vs = ns.map V.str
  | _, [], h => by cases h; rfl
  | _, n :: ns, h => by cases h with | cons h1 h2 => cases h1; rw [rl_strs h2]; rfl
theorem strs_rl : ∀ (ns : List Str), RL K F (ns.map V.str) (ns.map D.str)
  | [] => .nil
  | n :: ns => .cons (.str n) (strs_rl ns)
theorem ints_rl : ∀ (ns : List Int), RL K F (ns.map V.int) (ns.map D.int)
  | [] => .nil
  | n :: ns => .cons (.int n) (ints_rl ns)
end

/-! ### len, int, max, min, sum, all, any, list, tuple, sorted -/
def oLen (ds : List D) (T : Rv → Prop) : Prop := match ds with
  | [.lst l] => T (.val (.int (l.length : Nat)))
  | [.tup l] => T (.val (.int (l.length : Nat)))
  | [.dic l] => T (.val (.int (l.length : Nat)))
  | [.str x] => x.length ≤ sizeLine ∧ T (.val (.int (x.length : Nat)))
  | _ => False
theorem cb_len {X : Cx} : CbS X (.builtin "len") oLen := .of (CallR.or call_len_seq (CallR.or call_lenD call_len_str)) fun {F H σ0 σ ρ B vs ds T Q} E w t g => by
  unfold oLen at t
  split at t
  · obtain ⟨v, rfl, w0⟩ := w.one
    obtain ⟨a, us, rfl, h1, l1⟩ := w0.lst E.sub
    exact .inl ⟨a, us, rfl, .inl (.of h1), by rw [l1.len]; exact gt_val E g t (.int _)⟩
  · obtain ⟨v, rfl, w0⟩ := w.one
    obtain ⟨a, us, rfl, h1, l1⟩ := w0.tup E.sub
    exact .inl ⟨a, us, rfl, .inr h1, by rw [l1.len]; exact gt_val E g t (.int _)⟩
  · obtain ⟨v, rfl, w0⟩ := w.one
    obtain ⟨a, us, rfl, h1, l1⟩ := w0.dic E.sub
    exact .inr (.inl ⟨a, us, rfl, h1, by rw [l1.len]; exact gt_val E g t (.int _)⟩)
  · obtain ⟨v, rfl, w0⟩ := w.one
    cases w0.str
    exact .inr (.inr ⟨_, rfl, t.1, gt_val E g t.2 (.int _)⟩)
  · exact t.elim
def oInt (ds : List D) (T : Rv → Prop) : Prop := match ds with
  | [.int i] => T (.val (.int i))
  | [.bl b] => T (.val (.int (if b then 1 else 0)))
  | _ => False
theorem cb_int {X : Cx} : CbS X (.type "int") oInt := .of call_int1 fun {F H σ0 σ ρ B vs ds T Q} E w t g => by
  unfold oInt at t
  split at t
  · obtain ⟨v, rfl, w0⟩ := w.one
    cases w0.int
    exact .inl ⟨_, rfl, gt_val E g t (.int _)⟩
  · obtain ⟨v, rfl, w0⟩ := w.one
    cases w0.bl
    exact .inr ⟨_, rfl, gt_val E g t (.int _)⟩
  · exact t.elim
def oMax (ds : List D) (T : Rv → Prop) : Prop := match ds with
  | [.int i, .int j] => T (.val (.int (if j > i then j else i)))
  | [.lst l] => ∃ ns : List Int, l = ns.map D.int ∧ 0 < ns.length ∧ ∀ m, m ∈ ns → (∀ y, y ∈ ns → y ≤ m) → T (.val (.int m))
  | _ => False
theorem cb_max {X : Cx} (hc : X.calm = true) : CbS X (.builtin "max") oMax := .of (CallR.or (call_max2 hc) (cr_max hc)) fun {F H σ0 σ ρ B vs ds T Q} E w t g => by
  unfold oMax at t
  split at t
  · obtain ⟨v, u, rfl, w1, w2⟩ := w.two
    cases w1.int; cases w2.int
    exact .inl ⟨_, _, rfl, gt_val E g t (.int _)⟩
  · obtain ⟨ns, rfl, h0, t⟩ := t
    obtain ⟨v, rfl, w0⟩ := w.one
    obtain ⟨a, us, rfl, h1, l1⟩ := w0.lst E.sub
    cases rl_ints l1
    exact .inr ⟨a, ns, rfl, .of h1, h0, fun m hm hx => gt_val E g (t m hm hx) (.int _)⟩
  · exact t.elim
def oMin (ds : List D) (T : Rv → Prop) : Prop := match ds with
  | [.int i, .int j] => T (.val (.int (if j < i then j else i)))
  | [.lst l] => ∃ ns : List Int, l = ns.map D.int ∧ 0 < ns.length ∧ ∀ m, m ∈ ns → (∀ y, y ∈ ns → m ≤ y) → T (.val (.int m))
  | _ => False
theorem cb_min {X : Cx} (hc : X.calm = true) : CbS X (.builtin "min") oMin := .of (CallR.or (call_min2 hc) (cr_min hc)) fun {F H σ0 σ ρ B vs ds T Q} E w t g => by
  unfold oMin at t
  split at t
  · obtain ⟨v, u, rfl, w1, w2⟩ := w.two
    cases w1.int; cases w2.int
    exact .inl ⟨_, _, rfl, gt_val E g t (.int _)⟩
  · obtain ⟨ns, rfl, h0, t⟩ := t
    obtain ⟨v, rfl, w0⟩ := w.one
    obtain ⟨a, us, rfl, h1, l1⟩ := w0.lst E.sub
    cases rl_ints l1
    exact .inr ⟨a, ns, rfl, .of h1, h0, fun m hm hx => gt_val E g (t m hm hx) (.int _)⟩
  · exact t.elim
def oSum (ds : List D) (T : Rv → Prop) : Prop := match ds with
  | [.lst l] => ∃ ns : List Int, l = ns.map D.int ∧ T (.val (.int ns.sum))
  | _ => False
theorem cb_sum {X : Cx} (hc : X.calm = true) : CbS X (.builtin "sum") oSum := .of (cr_sum hc) fun {F H σ0 σ ρ B vs ds T Q} E w t g => by
  unfold oSum at t
  split at t
  · obtain ⟨ns, rfl, t⟩ := t
    obtain ⟨v, rfl, w0⟩ := w.one
    obtain ⟨a, us, rfl, h1, l1⟩ := w0.lst E.sub
    cases rl_ints l1
    exact ⟨a, ns, rfl, .of h1, gt_val E g t (.int _)⟩
  · exact t.elim
def oAll (ds : List D) (T : Rv → Prop) : Prop := match ds with
  | [.lst l] => ∃ bs : List Bool, l = bs.map D.bl ∧ T (.val (.bl (bs.all id)))
  | _ => False
theorem cb_all {X : Cx} (hc : X.calm = true) : CbS X (.builtin "all") oAll := .of (cr_all hc) fun {F H σ0 σ ρ B vs ds T Q} E w t g => by
  unfold oAll at t
  split at t
  · obtain ⟨ns, rfl, t⟩ := t
    obtain ⟨v, rfl, w0⟩ := w.one
    obtain ⟨a, us, rfl, h1, l1⟩ := w0.lst E.sub
    cases rl_bls l1
    exact ⟨a, ns, rfl, .of h1, gt_val E g t (.bl _)⟩
  · exact t.elim
def oAny (ds : List D) (T : Rv → Prop) : Prop := match ds with
  | [.lst l] => ∃ bs : List Bool, l = bs.map D.bl ∧ T (.val (.bl (bs.any id)))
  | _ => False
theorem cb_any {X : Cx} (hc : X.calm = true) : CbS X (.builtin "any") oAny := .of (cr_any hc) fun {F H σ0 σ ρ B vs ds T Q} E w t g => by
  unfold oAny at t
  split at t
  · obtain ⟨ns, rfl, t⟩ := t
    obtain ⟨v, rfl, w0⟩ := w.one
    obtain ⟨a, us, rfl, h1, l1⟩ := w0.lst E.sub
    cases rl_bls l1
    exact ⟨a, ns, rfl, .of h1, gt_val E g t (.bl _)⟩
  · exact t.elim
def oList (ds : List D) (T : Rv → Prop) : Prop := match ds with
  | [.lst l] => T (.own (.lst l))
  | [.tup l] => T (.own (.lst l))
  | _ => False
theorem cb_list {X : Cx} : CbS X (.type "list") oList := .of call_list_of fun {F H σ0 σ ρ B vs ds T Q} E w t g => by
  unfold oList at t
  split at t
  · obtain ⟨v, rfl, w0⟩ := w.one
    obtain ⟨a, us, rfl, h1, l1⟩ := w0.lst E.sub
    exact ⟨a, us, rfl, .inl (.of h1), gt_lst E g t l1⟩
  · obtain ⟨v, rfl, w0⟩ := w.one
    obtain ⟨a, us, rfl, h1, l1⟩ := w0.tup E.sub
    exact ⟨a, us, rfl, .inr h1, gt_lst E g t l1⟩
  · exact t.elim
def oTuple (ds : List D) (T : Rv → Prop) : Prop := match ds with
  | [.lst l] => T (.val (.tup l))
  | [.tup l] => T (.val (.tup l))
  | _ => False
theorem cb_tuple {X : Cx} : CbS X (.type "tuple") oTuple := .of call_tuple_of fun {F H σ0 σ ρ B vs ds T Q} E w t g => by
  unfold oTuple at t
  split at t
  · obtain ⟨v, rfl, w0⟩ := w.one
    obtain ⟨a, us, rfl, h1, l1⟩ := w0.lst E.sub
    exact ⟨a, us, rfl, .inl ⟨.of h1, gt_tup E g t l1⟩⟩
  · obtain ⟨v, rfl, w0⟩ := w.one
    obtain ⟨a, us, e, h1, l1⟩ := w0.tup E.sub
    subst e
    rcases w0 with w0 | w0
    · exact ⟨a, us, rfl, .inr ⟨h1, gt_val E g t w0⟩⟩
    · cases w0
  · exact t.elim
def oSorted (ds : List D) (T : Rv → Prop) : Prop := match ds with
  | [.lst l] => ∃ xs : List Str, l = xs.map D.str ∧ xs.length < 64 ∧ ∀ ys : List Str, ys.Perm xs → sortedS ys = true → T (.own (.lst (ys.map D.str)))
  | _ => False
theorem cb_sorted {X : Cx} : CbS X (.builtin "sorted") oSorted := .of cr_sortedS fun {F H σ0 σ ρ B vs ds T Q} E w t g => by
  unfold oSorted at t
  split at t
  · obtain ⟨xs, rfl, h0, t⟩ := t
    obtain ⟨v, rfl, w0⟩ := w.one
    obtain ⟨a, us, rfl, h1, l1⟩ := w0.lst E.sub
    cases rl_strs l1
    exact ⟨a, xs, rfl, .of h1, h0, fun ys p pm so np => gt_lst E g (t ys pm so) (strs_rl ys) p np⟩
  · exact t.elim
/-- sorted(set(a list of texts)) -/
def oSetSorted (ds : List D) (T : Rv → Prop) : Prop := match ds with
  | [.lst l] => ∃ xs : List Str, l = xs.map D.str ∧ xs.length ≤ 1000 ∧ ∀ m : List Str, m.length ≤ xs.length → (∀ x, x ∈ m ↔ x ∈ xs) → m.length < 64 ∧ ∀ ys : List Str, ys.Perm m → sortedS ys = true → T (.own (.lst (ys.map D.str)))
  | _ => False
def uSetSorted (ua : UR) : UE := uB oSetSorted ua
theorem fe_setsorted {X : Cx} {e : Expr} {ua : UR} {p p2 pos pos2 : Pos} (hc : X.calm = true) (hg : Gl X "sorted") (hm : X.mg "sorted" = none) (hg2 : Gl X "set") (hm2 : X.mg "set" = none) (ha : FR X [e] ua)
    (he : starEach [.Call (.Name "set" p2) [e] [] pos2] X.env = (false, eval (.Call (.Name "set" p2) [e] [] pos2) X.env) :: starEach [] X.env := by rfl) (he2 : starEach [e] X.env = (false, eval e X.env) :: starEach [] X.env := by rfl)
    (hpl : (backTo pos (starEach [] X.env)).any (·.1) = false := by rfl) (hpl2 : (backTo pos2 (starEach [] X.env)).any (·.1) = false := by rfl) :
    FE X (.Call (.Name "sorted" p) [.Call (.Name "set" p2) [e] [] pos2] [] pos) (uSetSorted ua) := ⟨fun ρ R q F H σ0 σ B Q E g => by
  refine to_S (pe_callB (Yard.cr_sortedTx hc) hg hm (by decide +kernel) (pa_cons (pe_callTy (Yard.cr_setTx hc) hg2 hm2 (by decide +kernel) pa_S (by decide) (by decide) he2 hpl2) pa_nil he) (by decide) (by decide) he hpl) (ha ρ _ q F H σ0 σ B _ E fun rs ρ1 vs F1 H1 z G l _ => ?_)
  obtain ⟨ds, w, z⟩ := G.er.seens B l z
  unfold oSetSorted at z
  split at z
  · obtain ⟨xs, rfl, h0, t⟩ := z
    obtain ⟨v, rfl, w0⟩ := w.one
    obtain ⟨a, us, rfl, h1, l1⟩ := w0.lst G.er.sub
    cases rl_strs l1
    refine ⟨a, xs, rfl, .of h1, h0, fun c m nc lm hm' => ?_⟩
    obtain ⟨l64, t⟩ := t m lm hm'
    refine ⟨c, m, rfl, upd_same, l64, fun ys p' pm so np => ?_⟩
    obtain ⟨E2, n2⟩ := G.er.laid_val (o := Yard.TxO X.prog X.w c m) nc
    exact gt_lst E2 (fun z v F' H' t G' => g z ρ1 v F' H' t ⟨G.nx.trans (n2.trans G'.nx), G'.er, G'.rr⟩) (t ys pm so) (strs_rl ys) p' np
  · exact z.elim⟩

/-! ### isinstance -/
def tyD : D → Option String
  | .non => some "NoneType"
  | .bl _ => some "bool"
  | .int _ => some "int"
  | .str _ => some "str"
  | .lst _ => some "list"
  | .tup _ => some "tuple"
  | .dic _ => some "dict"
  | _ => none
theorem RW.tyx {K : PySem.W.Frag} {F H : Hp} {v : V} {d : D} {n : String} (s : Same F H) (h : RW K F H v d) (e : tyD d = some n) : TyX K H v (.type n) := by
  cases d with
  | non => cases e; cases h.non; exact .base .non
  | bl b => cases e; cases h.bl; exact .base (.bl _)
  | int b => cases e; cases h.int; exact .base (.int _)
  | str b => cases e; cases h.str; exact .base (.str _)
  | lst l => cases e; obtain ⟨a, us, rfl, h1, _⟩ := h.lst s; exact .base (.lst h1)
  | tup l =>
    cases e
    obtain ⟨a, us, rfl, h1, _⟩ := h.tup s
    rcases h1 with (h1 | ⟨o, h1⟩) | ⟨o, its, n, h1, h2, _⟩
    · exact .base (.tup h1)
    · exact .fTuple h1
    · exact .kTuple h1 h2
  | dic l => cases e; obtain ⟨a, us, rfl, h1, _⟩ := h.dic s; exact .base (.dK h1)
  | _ => cases e
/-- the answer, for the classes that are asked -/
def isTy (n c : String) : Option Bool :=
  if c = "str" then some (n == "str") else if c = "tuple" then some (n == "tuple") else if c = "list" then some (n == "list") else if c = "dict" then some (n == "dict")
  else if c = "bool" then some (n == "bool") else if c = "int" then some (n == "int" || n == "bool") else none
theorem isTy_ok {d : D} {n c : String} {b : Bool} (h : tyD d = some n) (e : isTy n c = some b) : kitB n c = some b := by
  have kk : ∀ c ∈ ["str", "tuple", "list", "dict", "bool", "int"], ∀ n ∈ ["NoneType", "bool", "int", "str", "list", "tuple", "dict"], kitB n c = isTy n c := by decide +kernel
  have hn : n ∈ ["NoneType", "bool", "int", "str", "list", "tuple", "dict"] := by
    cases d <;> cases h <;> decide
  have hc : c ∈ ["str", "tuple", "list", "dict", "bool", "int"] := by
    unfold isTy at e
    by_cases c1 : c = "str"
    · subst c1; decide
    rw [if_neg c1] at e
    by_cases c2 : c = "tuple"
    · subst c2; decide
    rw [if_neg c2] at e
    by_cases c3 : c = "list"
    · subst c3; decide
    rw [if_neg c3] at e
    by_cases c4 : c = "dict"
    · subst c4; decide
    rw [if_neg c4] at e
    by_cases c5 : c = "bool"
    · subst c5; decide
    rw [if_neg c5] at e
    by_cases c6 : c = "int"
    · subst c6; decide
    rw [if_neg c6] at e
    cases e
  rw [kk c hc n hn]; exact e
def isTyAny (n : String) : List D → Option Bool
  | [] => some false
  | .ty c :: cs => match isTy n c, isTyAny n cs with
    | some b, some b' => some (b || b')
    | _, _ => none
  | _ => none
def oIsi (ds : List D) (T : Rv → Prop) : Prop := match ds with
  | [d, .ty c] => ∃ n b, tyD d = some n ∧ isTy n c = some b ∧ T (.val (.bl b))
  | _ => False
theorem any_ok {K : PySem.W.Frag} {d : D} {n : String} (h : tyD d = some n) : ∀ {cs : List D} {b : Bool} {F : Hp} {vs : List V}, isTyAny n cs = some b → RL K F vs cs → ∃ us, Paired ClsV vs us ∧ PySem.W.kitAny K (.type n) us = some b
  | [], b, F, vs, e, l => by cases l; cases e; exact ⟨[], .nil, rfl⟩
  | c :: cs, b, F, vs, e, l => by
    cases l with
    | @cons v vs _ _ l1 l2 =>
    cases c with
    | ty c =>
      unfold isTyAny at e
      cases q1 : isTy n c with
      | none => rw [q1] at e; cases e
      | some b1 =>
        cases q2 : isTyAny n cs with
        | none => rw [q1, q2] at e; cases e
        | some b2 =>
          rw [q1, q2] at e; cases e
          obtain ⟨us, p, ka⟩ := any_ok h q2 l2
          cases l1
          refine ⟨.type c :: us, .cons (.ty c) p, kitAny_cons (kit_ty (isTy_ok h q1)) (fun z => ?_) fun z => ?_⟩
          · rw [z]; exact ka
          · rw [z]; rfl
    | _ => unfold isTyAny at e; cases e
theorem cb_isi {X : Cx} : CbS X (.builtin "isinstance") oIsi := .of call_isi fun {F H σ0 σ ρ B vs ds T Q} E w t g => by
  unfold oIsi at t
  split at t
  · obtain ⟨n, b, h1, h2, t⟩ := t
    obtain ⟨v, u, rfl, w1, w2⟩ := w.two
    cases w2.ty
    exact ⟨v, _, _, _, b, rfl, .ty _, w1.tyx E.sub h1, kit_ty (isTy_ok h1 h2), gt_val E g t (.bl _)⟩
  · exact t.elim
/-- isinstance(e, (T1, T2)) -/
def uIsiT (ua : UE) (ut : UA) : UE := fun ρ R => ua ρ fun r ρ1 => ut ρ1 fun cs ρ2 => cs.length ≤ sizeLine ∧ wv ρ2 r fun d => ∃ n b, tyD d = some n ∧ isTyAny n cs = some b ∧ R (.val (.bl b)) ρ2
theorem fe_isiT {X : Cx} {e : Expr} {ts : List Expr} {ua : UE} {ut : UA} {p pos pos2 : Pos} {k : Nat} (hg : Gl X "isinstance") (hm : X.mg "isinstance" = none) (ha : FE X e ua) (ht : FA X ts ut)
    (he : starEach [e, .Tuple ts k pos2] X.env = (false, eval e X.env) :: starEach [.Tuple ts k pos2] X.env := by rfl) (he2 : starEach [.Tuple ts k pos2] X.env = (false, eval (.Tuple ts k pos2) X.env) :: starEach [] X.env := by rfl)
    (hpl : (backTo pos (starEach [.Tuple ts k pos2] X.env)).any (·.1) = false := by rfl) : FE X (.Call (.Name "isinstance" p) [e, .Tuple ts k pos2] [] pos) (uIsiT ua ut) := ⟨fun ρ R q F H σ0 σ B Q E g => by
  refine to_S (pe_callB call_isiT hg hm (by decide +kernel) (pa_cons pe_S (pa_cons (pe_tup pa_S) pa_nil he2) he) (by decide) (by decide) he hpl)
    (ha ρ _ q F H σ0 σ B _ E fun r ρ1 v F1 H1 z G => ht ρ1 _ z F1 H1 σ0 σ (hB B r v) _ (G.er.hold G.rr) fun cs ρ2 vs F2 H2 ⟨zl, z2⟩ G2 l => ⟨by rw [l.len]; exact zl, fun tp np => ?_⟩)
  have E2 := G2.er.unhold
  have rr := G.rr.held G.er G2.er G2.nx
  obtain ⟨d, w, n, b, h1, h2, z⟩ := E2.seen rr z2
  obtain ⟨us, pa, ka⟩ := any_ok (K := X.K) h1 h2 l
  have n2 := G2.nx.mono hB_sub (B := B)
  obtain ⟨E3, n3⟩ := E2.laid_val (o := .tup vs) np
  have w3 : RW X.K (upd F2 tp (.tup vs)) (upd H2 tp (.tup vs)) v d := by
    rcases w with w | w
    · exact .inl (w.mono n3.fz)
    · obtain ⟨a, o, e1, e2⟩ := w.there
      subst e1
      exact .inr (w.keep n3.fz (upd_ne fun z => by subst z; rw [np] at e2; cases e2))
  exact ⟨v, tp, vs, _, us, b, rfl, upd_same, pa, w3.tyx E3.sub h1, ka, g _ _ _ _ _ z ⟨G.nx.trans (n2.trans n3), E3, .bl _⟩⟩⟩
end YP
set_option maxRecDepth 100000
/-! The yard's pure layer, part 8: methods of lists and texts, stores to places. -/
namespace PySem
open Sem (wp)
section
variable {prog : Program} {w : World} {A : Around} {R : Result → Shared → Prop} {I : Addr} {fp wr : List Addr} {G : Array GenState → Array GenState → Prop} {n m : Nat} {P P' : Nat → Value → Prop} {St : Nat → Shared → Prop}
/-- a walk's items behind what stands in the list -/
theorem ycodeAny_extend_loop (W : WalksS prog w A.in1 I fp wr G n P St) (hn : m + n ≤ sizeLine) (hP' : ∀ i v, P i v → P' (m + i) v) (S : Addr) (hSf : S ∉ fp) (res : Value) :
    ∀ (k i : Nat) (s : Shared) (acc : Array Value) (c : Nat), n - i = k → i ≤ n → St i s → s.heap.get? S = some { cls := .type "list", dict := none, data := .seq acc c, slots := #[] } → ItemsOf P' acc (m + i) →
    (∀ s' acc' c', Moved (S :: wr) G s s' → s'.heap.get? S = some { cls := .type "list", dict := none, data := .seq acc' c', slots := #[] } → ItemsOf P' acc' (m + n) → R (.ok (.ret res)) s') →
    codeAny (model prog w) A (.builtin "list.extend.loop" ⟨[.ref S, .ref I, res], []⟩) R s := by
  have hSw : S ∉ wr := fun h => hSf (W.sub _ h)
  have hsub : ∀ b ∈ wr, b ∈ S :: wr := fun b hb => List.mem_cons_of_mem _ hb
  intro k
  induction k with
  | zero =>
    intro i s acc c hk hi hst hS hacc hR
    have hin : i = n := by omega
    subst hin
    refine codeAny_builtin F.entry_extend_loop ?_
    rw [Around.under_plainId F.plain_extend_loop _]
    show wpAny _ A.in1 (pyNext (.ref I) >>= _) _ _ s
    refine wpAny_bind (W.done s _ _ hst fun s' hm => ?_)
    exact wpAny_pure (hR s' acc c (hm.mono hsub) (hm.heap S _ hSw hS) hacc)
  | succ k ih =>
    intro i s acc c hk hi hst hS hacc hR
    have hlt : i < n := by omega
    refine codeAny_builtin F.entry_extend_loop ?_
    rw [Around.under_plainId F.plain_extend_loop _]
    show wpAny _ A.in1 (pyNext (.ref I) >>= _) _ _ s
    refine wpAny_bind (W.item i s _ _ hlt hst fun v s' hP hst' hm => ?_)
    have hS' := hm.heap S _ hSw hS
    show wpAny _ A.in1 (updateSeq S (·.push v) >>= _) _ _ _
    refine wpAny_bind ?_
    refine wpAny_updateSeq hS' rfl (wpAny_pure ⟨plainId_quiet F.plain_extend_loop _, ih (i + 1) _ (acc.push v) _ (by omega) hlt (W.frame _ s' _ s'.toks hst' (Nat.le_refl _) fun b hb o e => ?_) (Heap.get?_update_self _ hS' rfl) (hacc.push (hP' i v hP)) fun s'' acc' c' hm'' hS'' hacc' => ?_⟩)
      (by rw [hacc.1]; omega) (by show (acc.push v).size ≤ sizeLine + 1; rw [Array.size_push, hacc.1]; omega)
    · exact (Heap.get?_update_other _ _ (fun h : S = b => hSf (by rw [h]; exact hb))).trans e
    · refine hR s'' acc' c' (Moved.trans W.gtrans ((hm.mono hsub).then_heap (by first | exact Nat.le_refl _ | exact Nat.le_succ _ | omega) fun b o hb e => ?_) hm'') hS'' hacc'
      exact (Heap.get?_update_other _ _ (fun h : S = b => hb (by rw [h]; exact List.mem_cons_self))).trans e
end
section
variable {prog : Program} {w : World} {A : Around} {E : Value → Shared → Prop} {s : Shared}
/-- a list, and a text's signs behind -/
theorem ywpAny_extend_str {R : Result → Shared → Prop} (hh : A.handled = none) (x : Str) (t : Tok) (S : Addr) (res : Value) (its : Array Value) (c₀ : Nat) (hS : s.heap.get? S = some { cls := .type "list", data := .seq its c₀ })
    (hR : ∀ h' tk acc' c', (∀ b o, b ≠ S → s.heap.get? b = some o → h'.get? b = some o) → h'.get? S = some { cls := .type "list", dict := none, data := .seq acc' c', slots := #[] } →
      ItemsOf (fun j v => if j < its.size then its[j]? = some v else SignAt x (j - its.size) v) acc' (its.size + x.cps.size) → R (.ok (.ret res)) { s with heap := h', toks := tk }) (hn : its.size + x.cps.size ≤ sizeLine) :
    wpAny (model prog w) A.in1 (Builtin.List.listExtendWith (.ref S) (.str x t) res)
      (fun fin s' => match fin with | .done f => R (.ok f) s' | .again c' => c'.quiet = true ∧ codeAny (model prog w) A c' R s') (fun e s' => R (.error e) s') s := by
  have hSI : S ≠ s.heap.objs.size := Nat.ne_of_lt (Heap.lt_size hS)
  have hSf : S ∉ [s.heap.objs.size] := fun hm => hSI (List.mem_singleton.mp hm)
  unfold Builtin.List.listExtendWith
  refine wpAny_bind (wpAny_typeOf (T := "str") (v := .str x t) rfl ?_)
  have h1 : Builtin.List.listSameRef (.ref S) (.str x t) = false := rfl
  have h2 : (Value.type "str" == Value.type "list") = false := by decide
  have h3 : (Value.type "str" == Value.type "tuple") = false := by decide
  simp only [h1, h2, h3, Bool.or_false, Bool.false_eq_true, if_false]
  refine wpAny_bind (wpAny_pyIter_str fun o St W hst => ?_)
  refine wpAny_bind (wpAny_holding ?_)
  unfold Builtin.List.listLengthHint
  refine wpAny_bind (wpAny_specialOf (T := "str") (v := .str x t) rfl F.str_len ?_)

  wp_delta
  refine wpAny_bind (wpAny_isInstance (T := "str") (v := .str x t) (b := true) rfl (by rw [isSubtype_type]; kernel_rfl) ?_)
  show wpAny _ _ (typeOf (Value.str x t) >>= _) _ _ _
  refine wpAny_bind (wpAny_typeOf (T := "str") (v := .str x t) rfl ?_)
  refine wpAny_pure ?_
  rw [if_neg (by decide)]
  refine wpAny_pure ⟨plainId_quiet F.plain_extend_loop _, ycodeAny_extend_loop (m := its.size) (P' := fun j v => if j < its.size then its[j]? = some v else SignAt x (j - its.size) v) (W A.in1 hh).toS hn (fun i v hp => ?_) _ hSf _ x.cps.size 0 _ _ _ rfl (Nat.zero_le _) hst (Heap.get?_push_of_some _ hS) ⟨rfl, fun j v hj => ?_⟩ fun s' acc' c' hm hS' hacc => ?_⟩
  · have e1 : ¬ its.size + i < its.size := by omega
    have e2 : its.size + i - its.size = i := by omega
    show if its.size + i < its.size then _ else SignAt x (its.size + i - its.size) v
    rw [if_neg e1, e2]; exact hp
  · have hlt : j < its.size := (Array.getElem?_eq_some_iff.mp hj).1
    show if j < its.size then _ else _
    rw [if_pos hlt]; exact hj
  · rw [Moved.eq_with hm]
    refine hR s'.heap s'.toks acc' c' (fun b ob hb e => hm.heap b ob (fun hmem => ?_) (Heap.get?_push_of_some _ e)) hS' hacc
    rcases List.mem_cons.mp hmem with e' | hmem
    · exact hb e'
    · exact absurd (Heap.lt_size e) (by rw [List.mem_singleton.mp hmem]; exact Nat.lt_irrefl _)
theorem ywpAny_extend_tup {M : Model} {A : Around} {l b : Addr} {res : Value} {its its2 : Array Value} {n : Nat} {Q : Fin → Shared → Prop} (hl : s.heap.get? l = some { cls := .type "list", data := .seq its n }) (hb : PyProof.Rows.IsTup s.heap b its2)
    (hz : its.size + its2.size ≤ sizeLine) (h : Q (.done (.ret res)) { s with heap := s.heap.update l (Obj.mapSeq fun x => x ++ its2) }) : wpAny M A (Builtin.List.listExtendWith (.ref l) (.ref b) res) Q E s := by
  obtain ⟨o, ho, hc, k, hd⟩ := hb
  unfold Builtin.List.listExtendWith
  refine wpAny_bind (wpAny_typeOf_ref ho ?_)
  rw [hc]
  have h3 : (Value.type "tuple" == Value.type "tuple") = true := by decide
  simp only [h3, Bool.or_true, if_true]
  unfold Builtin.List.listItems
  refine wpAny_bind (wpAny_bind (wpAny_seqItems ho hd (wpAny_pure ?_)))
  refine wpAny_bind (wpAny_bind (wpAny_seqItems hl rfl (wpAny_pure ?_)))
  have e : (!its.isEmpty && Builtin.List.listTooLong (its.size + its2.size)) = false := by rw [L2.notLongL hz, Bool.and_false]
  simp only [e, Bool.false_eq_true, if_false]
  refine wpAny_bind ?_
  refine wpAny_updateSeq hl rfl ?_ (by omega) (by show (its ++ its2).size ≤ _; rw [Array.size_append]; omega)
  exact wpAny_pure h
end
end PySem

namespace YP
open PySem PySem.Spec PyProof.Rows L2
section
variable {X : Cx}
theorem mext_tup (l b : Addr) (its its2 : Array Value) (n : Nat) (hz : its.size + its2.size ≤ sizeLine) : Meets (Builtin.«list.extend» ⟨[.ref l, .ref b], []⟩)
    (fun _ R s => s.heap.get? l = some { cls := .type "list", data := .seq its n } ∧ IsTup s.heap b its2 ∧ R (.ok (.ret .none)) { s with heap := s.heap.update l (Obj.mapSeq fun x => x ++ its2) }) := fun prog w A R s h => by
  obtain ⟨hl, hb, h⟩ := h
  show wpAny _ _ (Builtin.List.listExtendWith (.ref l) (.ref b) .none) _ _ _
  exact ywpAny_extend_tup hl hb hz h
theorem mext_str (l : Addr) (its : Array Value) (n : Nat) (x : Str) (t : Tok) (hz : its.size + x.cps.size ≤ sizeLine) : Meets (Builtin.«list.extend» ⟨[.ref l, .str x t], []⟩)
    (fun A R s => A.handled = none ∧ s.heap.get? l = some { cls := .type "list", data := .seq its n } ∧ ∀ h' tk acc' c', (∀ b o, b ≠ l → s.heap.get? b = some o → h'.get? b = some o) → h'.get? l = some { cls := .type "list", dict := none, data := .seq acc' c', slots := #[] } →
      ItemsOf (fun j v => if j < its.size then its[j]? = some v else SignAt x (j - its.size) v) acc' (its.size + x.cps.size) → R (.ok (.ret .none)) { s with heap := h', toks := tk }) := fun prog w A R s h => by
  obtain ⟨hh, hl, h⟩ := h
  show wpAny _ _ (Builtin.List.listExtendWith (.ref l) (.str x t) .none) _ _ _
  exact ywpAny_extend_str hh x t l .none its n hl h hz
theorem pairedOf {α β : Type} {R : α → β → Prop} : ∀ {l : List α} {m : List β}, l.length = m.length → (∀ (i : Nat) x, l[i]? = some x → ∃ y, m[i]? = some y ∧ R x y) → Paired R l m
  | [], [], _, _ => .nil
  | [], _ :: _, h, _ => nomatch h
  | _ :: _, [], h, _ => nomatch h
  | a :: l, b :: m, h, k => by
    obtain ⟨y, e, r⟩ := k 0 a rfl
    cases e
    exact .cons r (pairedOf (Nat.succ.inj h) fun i x e => k (i + 1) x e)
def rExtT (K : PySem.W.Frag) : V → List V → Hp → VK → Prop := fun x vs H Q => ∃ l b xs zs, x = .ref l ∧ vs = [.ref b] ∧ H l = some (.lst xs) ∧ SqT K H b zs ∧ xs.length + zs.length ≤ sizeLine ∧ Q .non (upd H l (.lst (xs ++ zs)))
theorem mt_extT : MtR X "list.extend" (rExtT X.K) := by
  intro pins s σ H x vs v us Q I rx rv h
  obtain ⟨l, b, xs, zs, rfl, rfl, hH, hB, hz, q⟩ := h
  cases rx
  obtain ⟨u, rfl, ru⟩ := rv.one
  cases ru
  obtain ⟨z, its, n, r, hl, e⟩ := I.lstM hH
  obtain ⟨its2, r2, e2, _⟩ := I.tuple hB
  have l2 := r2.length
  refine call_meets F.slot_list_extend ⟨_, e, rfl⟩ F.entry_list_extend (F.args_list_extend_2 _ _) (mext_tup l b its.toArray its2.toArray n (by rw [List.size_toArray, List.size_toArray]; omega)) ⟨e, e2, ?_⟩
  refine ⟨.non, _, I.lset (its' := its ++ its2) (t' := s.toks) hH e (by simp) (r.append r2) ?_, rfl, q⟩
  rw [List.length_append]
  omega
def rExtS : V → List V → Hp → VK → Prop := fun x vs H Q => ∃ l xs z, x = .ref l ∧ vs = [.str z] ∧ H l = some (.lst xs) ∧ xs.length + z.cps.size ≤ sizeLine ∧ Q .non (upd H l (.lst (xs ++ z.cps.toList.map fun c => .str ⟨#[c]⟩)))
theorem mt_extS (hc : X.calm = true) : MtR X "list.extend" rExtS := by
  intro pins s σ H x vs v us Q I rx rv h
  obtain ⟨l, xs, z, rfl, rfl, hH, hz, q⟩ := h
  cases rx
  obtain ⟨u, rfl, ru⟩ := rv.one
  obtain ⟨t, rfl⟩ := ru
  obtain ⟨zl, its, n, r, hl, e⟩ := I.lstM hH
  refine call_meets F.slot_list_extend ⟨_, e, rfl⟩ F.entry_list_extend (F.args_list_extend_2 _ _) (mext_str l its.toArray n z t (by rw [List.size_toArray]; omega)) ⟨I.ok.hd hc, e, fun h' tk acc' c' k e' it => ?_⟩
  have rv' : Vals (xs ++ z.cps.toList.map fun c => V.str ⟨#[c]⟩) acc'.toList := by
    refine pairedOf ?_ fun i x hx => ?_
    · have i1 : acc'.size = its.toArray.size + z.cps.size := it.1
      have i2 : its.toArray.size = its.length := List.size_toArray
      have i3 : acc'.toList.length = acc'.size := Array.length_toList
      have i4 : z.cps.toList.length = z.cps.size := Array.length_toList
      rw [List.length_append, List.length_map]
      omega
    · by_cases hi : i < xs.length
      · rw [List.getElem?_append_left hi] at hx
        obtain ⟨u, e1, r1⟩ := r.get hx
        have hi2 : i < acc'.size := by rw [it.1, List.size_toArray]; omega
        have e3 : acc'[i]? = some acc'[i] := Array.getElem?_eq_getElem hi2
        have p : if i < its.toArray.size then its.toArray[i]? = some acc'[i] else SignAt z (i - its.toArray.size) acc'[i] := it.2 i _ e3
        have hi3 : i < its.toArray.size := by rw [List.size_toArray]; omega
        rw [if_pos hi3] at p
        refine ⟨acc'[i], by rw [Array.getElem?_toList]; exact e3, ?_⟩
        have e4 : its[i]? = some acc'[i] := by simpa using p
        rw [e1] at e4
        cases e4; exact r1
      · rw [List.getElem?_append_right (by omega), List.getElem?_map] at hx
        cases q2 : z.cps.toList[i - xs.length]? with
        | none => rw [q2] at hx; cases hx
        | some c =>
          rw [q2] at hx; cases hx
          have hl2 : i - xs.length < z.cps.toList.length := (List.getElem?_eq_some_iff.mp q2).1
          have i4 : z.cps.toList.length = z.cps.size := Array.length_toList
          rw [i4] at hl2
          have hi2 : i < acc'.size := by rw [it.1, List.size_toArray]; omega
          have e3 : acc'[i]? = some acc'[i] := Array.getElem?_eq_getElem hi2
          have p : if i < its.toArray.size then its.toArray[i]? = some acc'[i] else SignAt z (i - its.toArray.size) acc'[i] := it.2 i _ e3
          have hi3 : ¬ i < its.toArray.size := by rw [List.size_toArray]; omega
          rw [if_neg hi3] at p
          obtain ⟨c', u, e5, e6⟩ := p
          rw [List.size_toArray, ← hl] at e5
          rw [Array.getElem?_toList] at q2
          rw [q2] at e5; cases e5
          exact ⟨acc'[i], by rw [Array.getElem?_toList]; exact e3, u, e6⟩
  have I2 : Inv X pins σ (upd H l (.lst (xs ++ z.cps.toList.map fun c => V.str ⟨#[c]⟩))) { s with heap := h', toks := tk } := by
    refine I.write (x := l) (e := l) (by rw [hH]; exact trivial) (.inl rfl) (fun b u hb hu => k b u hb hu) ⟨_, e'⟩ ?_
    refine ⟨by rw [List.length_append, List.length_map, Array.length_toList]; omega, acc'.toList, c', rv', ?_⟩
    rw [Array.toArray_toList]; exact e'
  exact ⟨.non, _, I2, rfl, q⟩

/-! ### methods that change a list -/
structure MuS (X : Cx) (id : String) (m : List D → List D → (List D → D → Prop) → Prop) : Prop where
  ex : ∃ r, MtR X id r ∧ ∀ {F H : Hp} {a : Addr} {us vs : List V} {l ds : List D} {T : List D → D → Prop} {Q : VK}, Same F H → H a = some (.lst us) → RL X.K F us l → RL X.K F vs ds → m l ds T →
    (∀ l' e v us', T l' e → RL X.K F us' l' → RD X.K F v e → Q v (upd H a (.lst us'))) → r (.ref a) vs H Q
theorem MuS.of {id : String} {m : List D → List D → (List D → D → Prop) → Prop} {r : V → List V → Hp → VK → Prop} (h : MtR X id r) (k : ∀ {F H : Hp} {a : Addr} {us vs : List V} {l ds : List D} {T : List D → D → Prop} {Q : VK}, Same F H → H a = some (.lst us) → RL X.K F us l → RL X.K F vs ds → m l ds T →
    (∀ l' e v us', T l' e → RL X.K F us' l' → RD X.K F v e → Q v (upd H a (.lst us'))) → r (.ref a) vs H Q) : MuS X id m := ⟨⟨r, h, k⟩⟩
theorem MtR.or {id : String} {r r' : V → List V → Hp → VK → Prop} (h : MtR X id r) (h' : MtR X id r') : MtR X id (fun x xs H Q => r x xs H Q ∨ r' x xs H Q) := by
  intro pins s σ H x xs v us Q I rx rxs q
  rcases q with q | q
  · exact h pins s σ H x xs v us Q I rx rxs q
  · exact h' pins s σ H x xs v us Q I rx rxs q
/-- the list that a slot holds as one's own -/
def ownL (ρ : List Sl) (r : Rv) (k : Nat → Bool → List D → Prop) : Prop := match r with
  | .at i => match ρ[i]? with
    | some (.sl true p (.lst l)) => k i p l
    | _ => False
  | _ => False
theorem ownL_of {ρ : List Sl} {r : Rv} {k : Nat → Bool → List D → Prop} (h : ownL ρ r k) : ∃ i p l, r = .at i ∧ ρ[i]? = some (.sl true p (.lst l)) ∧ k i p l := by
  unfold ownL at h
  split at h
  · split at h
    · exact ⟨_, _, _, rfl, ‹_›, h⟩
    · exact h.elim
  · exact h.elim
def uMu (m : List D → List D → (List D → D → Prop) → Prop) (ue : UE) (ua : UA) : UE := fun ρ R => ue ρ fun r ρ1 => ownL ρ1 r fun _ _ _ => ua ρ1 fun ds ρ2 => ownL ρ2 r fun i p l => m l ds fun l' e => R (.val e) (ρ2.set i (.sl true p (.lst l')))
section
variable {o e : Expr} {es : List Expr} {name : Str} {apos cpos : Pos} {id : String} {m : List D → List D → (List D → D → Prop) → Prop} {ue : UE} {ua : UA} {F H : Hp} {σ0 σ : L2.St} {ρ : List Sl} {B : Addr → Prop}
theorem mu_go (k : ∃ r, MtR X id r ∧ ∀ {F H : Hp} {a : Addr} {us vs : List V} {l ds : List D} {T : List D → D → Prop} {Q : VK}, Same F H → H a = some (.lst us) → RL X.K F us l → RL X.K F vs ds → m l ds T →
    (∀ l' e v us', T l' e → RL X.K F us' l' → RD X.K F v e → Q v (upd H a (.lst us'))) → r (.ref a) vs H Q) (ho : FE X o ue) (ha : FA X es ua) {R : Rv → List Sl → Prop} {Q : VK} (q : uMu m ue ua ρ R) (E : ER X.K F H σ0 ρ σ B)
    (g : ∀ r ρ' v F' H', R r ρ' → Gt X.K F H F' H' σ0 ρ' σ B r v → Q v H') : ∃ r, MtR X id r ∧ tS X o σ H fun x H1 => tyV X.K "list" x H1 ∧ tA X es σ H1 fun xs H2 => r x xs H2 Q := by
  obtain ⟨r, hr, k⟩ := k
  refine ⟨r, hr, ho ρ _ q F H σ0 σ B _ E fun r1 ρ1 x F1 H1 z G => ?_⟩
  obtain ⟨i, p, l, rfl, e1, z⟩ := ownL_of z
  have si : σ[i]? = some (some x) := G.rr
  obtain ⟨a, e2, ro, _⟩ := G.er.ow i p _ e1
  rw [si] at e2; cases e2
  cases ro with
  | @lst _ us _ h1 l1 =>
    refine ⟨.inl ⟨rfl, us, .of h1⟩, ha ρ1 _ z F1 H1 σ0 σ B _ G.er fun ds ρ2 vs F2 H2 z G2 l2 => ?_⟩
    obtain ⟨j, p2, l', e3, e4, z⟩ := ownL_of z
    cases e3
    obtain ⟨a', e5, ro2, _⟩ := G2.er.ow _ _ _ e4
    rw [si] at e5; cases e5
    cases ro2 with
    | @lst _ us2 _ h3 l3 =>
      refine k G2.er.sub h3 l3 l2 z fun l'' e v us' t rl rd => ?_
      obtain ⟨E3, n3⟩ := G2.er.wrote e4 si (o := .lst us') (e := .lst l'') (.lst upd_same rl)
      exact g _ _ _ _ _ t ⟨G.nx.trans (G2.nx.trans n3), E3, rd⟩
theorem fe_mu (mu : MuS X id m) (slot : Slot "list" name id) (hty : typeOf (.builtin id) = pure (.type "method_descriptor")) (ho : FE X o ue) (ha : FA X (e :: es) ua)
    (hbase : attributeBase o name X.env (eval o X.env) = eval o X.env := by rfl)
    (hfew : ((backTo cpos (starEach (e :: es) X.env)).all (fun x => !x.1) && (backToKw cpos (keywordEach [] X.env)).all (fun x => x.1.isSome)
      && decide ((e :: es).length + ([] : List Keyword).length + (if ([] : List Keyword).isEmpty then 0 else 1) < 30)) = true := by rfl)
    (hline : (apos.endLine == cpos.line) = true := by rfl) (hs : starEach (e :: es) X.env = (false, eval e X.env) :: starEach es X.env := by rfl) (hplain : (backTo cpos (starEach es X.env)).any (·.1) = false := by rfl) :
    FE X (.Call (.Attribute o name apos) (e :: es) [] cpos) (uMu m ue ua) := ⟨fun ρ R q F H σ0 σ B Q E g => by
  obtain ⟨r, hr, t⟩ := mu_go mu.ex ho ha q E g
  exact to_S (pe_bm PySem.F.plainAttrs_list slot hty hr pe_S pa_S hbase hfew hline hs hplain) t⟩
theorem fe_mu0 (mu : MuS X id m) (slot : Slot "list" name id) (hty : typeOf (.builtin id) = pure (.type "method_descriptor")) (ho : FE X o ue)
    (hbase : attributeBase o name X.env (eval o X.env) = eval o X.env := by rfl) (hline : (apos.endLine == cpos.line) = true := by rfl) :
    FE X (.Call (.Attribute o name apos) [] [] cpos) (uMu m ue uNil) := ⟨fun ρ R q F H σ0 σ B Q E g => by
  obtain ⟨r, hr, k⟩ := mu.ex
  refine to_S (pe_bm0 PySem.F.plainAttrs_list slot hty hr pe_S hbase hline) (ho ρ _ q F H σ0 σ B _ E fun r1 ρ1 x F1 H1 z G => ?_)
  obtain ⟨i, p, l, rfl, e1, z⟩ := ownL_of z
  have si : σ[i]? = some (some x) := G.rr
  obtain ⟨a, e2, ro, _⟩ := G.er.ow i p _ e1
  rw [si] at e2; cases e2
  cases ro with
  | @lst _ us _ h1 l1 =>
    refine ⟨.inl ⟨rfl, us, .of h1⟩, ?_⟩
    obtain ⟨j, p2, l', e3, e4, z⟩ := ownL_of (show ownL ρ1 (.at i) (fun i p l => m l [] fun l' e => R (.val e) (ρ1.set i (Sl.sl true p (D.lst l')))) from z)
    cases e3
    rw [e1] at e4; cases e4
    refine k G.er.sub h1 l1 .nil z fun l'' e v us' t rl rd => ?_
    obtain ⟨E3, n3⟩ := G.er.wrote e1 si (o := .lst us') (e := .lst l'') (.lst upd_same rl)
    exact g _ _ _ _ _ t ⟨G.nx.trans n3, E3, rd⟩⟩
end
def mAppend (l ds : List D) (T : List D → D → Prop) : Prop := match ds with
  | [d] => l.length < sizeLine ∧ T (l ++ [d]) .non
  | _ => False
theorem mu_append : MuS X "list.append" mAppend := .of mt_append fun {F H a us vs l ds T Q} s h rl rv t g => by
  unfold mAppend at t
  split at t
  · cases rv with
    | cons r1 r2 =>
      cases r2
      exact ⟨a, us, _, rfl, rfl, h, by rw [rl.len]; exact t.1, g _ _ _ _ t.2 (rl.snoc r1) .non⟩
  · exact t.elim
def mExtend (l ds : List D) (T : List D → D → Prop) : Prop := match ds with
  | [.lst k] => l.length + k.length ≤ sizeLine ∧ T (l ++ k) .non
  | [.tup k] => l.length + k.length ≤ sizeLine ∧ T (l ++ k) .non
  | [.str x] => l.length + x.cps.size ≤ sizeLine ∧ T (l ++ x.cps.toList.map fun c => .str ⟨#[c]⟩) .non
  | _ => False
theorem signs_rl {K : PySem.W.Frag} {F : Hp} : ∀ l : List Nat, RL K F (l.map fun c => V.str ⟨#[c]⟩) (l.map fun c => D.str ⟨#[c]⟩)
  | [] => .nil
  | c :: l => .cons (.str _) (signs_rl l)
theorem mu_extend (hc : X.calm = true) : MuS X "list.extend" mExtend := .of (MtR.or mt_extend (MtR.or mt_extT (mt_extS hc))) fun {F H a us vs l ds T Q} s h rl rv t g => by
  unfold mExtend at t
  split at t
  · cases rv with
    | cons r1 r2 =>
      cases r2
      cases r1 with
      | @lst b zs _ h2 l2 => exact .inl ⟨a, b, us, zs, rfl, rfl, h, s _ _ h2, by rw [rl.len, l2.len]; exact t.1, g _ _ _ _ t.2 (rl.app l2) .non⟩
  · cases rv with
    | cons r1 r2 =>
      cases r2
      cases r1 with
      | @tup b zs _ h2 l2 => exact .inr (.inl ⟨a, b, us, zs, rfl, rfl, h, .of (s _ _ h2), by rw [rl.len, l2.len]; exact t.1, g _ _ _ _ t.2 (rl.app l2) .non⟩)
  · cases rv with
    | cons r1 r2 =>
      cases r2
      cases r1
      exact .inr (.inr ⟨a, us, _, rfl, rfl, h, by rw [rl.len]; exact t.1, g _ _ _ _ t.2 (rl.app (signs_rl _)) .non⟩)
  · exact t.elim
def mPop (l ds : List D) (T : List D → D → Prop) : Prop := ds = [] ∧ ∃ k d, l = k ++ [d] ∧ T k d
theorem mu_pop : MuS X "list.pop" mPop := .of mt_pop fun {F H a us vs l ds T Q} s h rl rv t g => by
  obtain ⟨rfl, k, d, rfl, t⟩ := t
  cases rv
  obtain ⟨us', v, es, d', e1, e2, l1, r1⟩ := rl.last (by simp)
  obtain ⟨e3, e4⟩ := List.append_inj' e2 rfl
  subst e1 e3
  cases e4
  refine ⟨a, _, v, rfl, rfl, h, by simp, ?_⟩
  rw [List.dropLast_concat]
  exact g _ _ _ _ t l1 r1
end
end YP
set_option maxRecDepth 100000
/-! The yard's pure layer, part 9: join, stores to places, dicts with keys of numbers and texts. -/
namespace YP
open PySem PySem.Spec PyProof.Rows L2
section
variable {X : Cx} {o e f : Expr} {uo ue uf : UE} {apos cpos pos : Pos}

/-! ### sep.join(list of texts) -/
def oJoin (d e : D) (T : Rv → Prop) : Prop := match d, e with
  | .str a, .lst l => ∃ ys : List Str, l = ys.map D.str ∧ (ys.map (·.length)).sum + ys.length * a.length ≤ 16777216 ∧ T (.val (.str (Txt.join a ys)))
  | _, _ => False
def uJoin (ua ub : UE) : UE := fun ρ R => ua ρ fun r ρ1 => match r with
  | .val (.str a) => ub ρ1 fun q ρ2 => wv ρ2 q fun e => oJoin (.str a) e fun z => R z ρ2
  | _ => False
theorem fe_join (ho : FE X o uo) (he : FE X e ue) (hs : starEach [e] X.env = [(false, eval e X.env)] := by rfl) (hbase : attributeBase o "join" X.env (eval o X.env) = eval o X.env := by rfl) (hline : (apos.endLine == cpos.line) = true := by rfl) :
    FE X (.Call (.Attribute o "join" apos) [e] [] cpos) (uJoin uo ue) := ⟨fun ρ R q F H σ0 σ B Q E g => by
  refine to_S (pe_join pe_S pe_S hs hbase hline) (ho ρ _ q F H σ0 σ B _ E fun r ρ1 v F1 H1 z G => ?_)
  split at z
  case h_2 => exact z.elim
  rename_i a
  have rr : RD X.K F1 v (.str a) := G.rr
  cases rr
  refine ⟨⟨a, rfl⟩, he ρ1 _ z F1 H1 σ0 σ B _ G.er fun q ρ2 u F2 H2 z G2 => ?_⟩
  obtain ⟨d, w, z⟩ := G2.er.seen G2.rr z
  unfold oJoin at z
  split at z
  · rename_i l e1
    obtain ⟨ys, rfl, hz, t⟩ := z
    cases e1
    obtain ⟨p, us, rfl, h1, l1⟩ := w.lst G2.er.sub
    cases rl_strs l1
    exact ⟨a, p, ys, rfl, rfl, .inl (.of h1), hz, g _ _ _ _ _ t ⟨G.nx.trans G2.nx, G2.er, .str _⟩⟩
  · exact z.elim⟩

/-! ### l[i] = v, the list one's own -/
def uPutL (uv uo ui : UE) : US := fun E ρ => uv ρ fun r ρ1 => wv ρ1 r fun d => uo (frz ρ1 r) fun q ρ2 => ui ρ2 fun s ρ3 => match s with
  | .val (.int k) => ownL ρ3 q fun i p l => ∃ j, ixN l.length k = some j ∧ E.nx (ρ3.set i (.sl true p (.lst (l.set j d))))
  | _ => False
theorem fs_putL {st : Stmt} {v i : Expr} {uv ui : UE} (h : PS X st (tAsg (tS X v) (gSub (tS X o) (tS X i) rSetL))) (hv : FE X v uv) (ho : FE X o uo) (hi : FE X i ui) : FS X st (uPutL uv uo ui) := ⟨fun E ρ q F H σ0 σ B D er f => by
  refine to_SS h (hv ρ _ q F H σ0 σ B _ er fun r ρ1 x F1 H1 z G => ?_)
  obtain ⟨F2, d, n2, E2, rd, z⟩ := G.er.freeze G.rr z
  refine ho _ _ z F2 H1 σ0 σ B _ E2 fun q ρ2 y F3 H3 z G3 => hi ρ2 _ z F3 H3 σ0 σ (hB B q y) _ (G3.er.hold G3.rr) fun s ρ3 w F4 H4 z G4 => ?_
  split at z
  case h_2 => exact z.elim
  rename_i k
  have E4 := G4.er.unhold
  have rq := G3.rr.held G3.er G4.er G4.nx
  have rs : RD X.K F4 w (.int k) := G4.rr
  cases rs
  obtain ⟨i, p, l, rfl, e1, j, ej, z⟩ := ownL_of z
  have si : σ[i]? = some (some y) := rq
  obtain ⟨a, e2, ro, _⟩ := E4.ow i p _ e1
  rw [si] at e2; cases e2
  cases ro with
  | @lst _ us _ h1 l1 =>
    refine ⟨a, us, k, j, rfl, rfl, h1, by rw [l1.len]; exact ej, ?_⟩
    have rd4 := rd.mono (G3.nx.fz.trans G4.nx.fz)
    obtain ⟨E5, n5⟩ := E4.wrote e1 si (o := .lst (us.set j x)) (e := .lst (l.set j d)) (.lst upd_same (l1.set j rd4))
    exact f.nx _ _ F4 _ z ⟨G.nx.trans (n2.trans (G3.nx.trans ((G4.nx.mono hB_sub).trans n5))), E5⟩⟩

/-! ### dicts -/
def keyD : D → Option Key
  | .int i => some (.inl i)
  | .str x => some (.inr x)
  | _ => none
theorem keyD_v {K : PySem.W.Frag} {F H : Hp} {v : V} {d : D} {k : Key} (h : RW K F H v d) (e : keyD d = some k) : v = kV k := by
  cases d with
  | int i => cases e; exact h.int
  | str x => cases e; exact h.str
  | _ => cases e
def kget (l : List (Key × D)) (k : Key) : Option D := (l.find? fun kv => decide (kv.1 = k)).map (·.2)
def kput (l : List (Key × D)) (k : Key) (d : D) : List (Key × D) :=
  if (l.any fun kv => decide (kv.1 = k)) = true then l.map (fun kv => if kv.1 = k then (kv.1, d) else kv) else l ++ [(k, d)]
theorem RK.get {K : PySem.W.Frag} {F : Hp} {k : Key} : ∀ {vs : List (Key × V)} {ds : List (Key × D)}, RK K F vs ds → (valV vs k = none ∧ kget ds k = none) ∨ ∃ v d, valV vs k = some v ∧ kget ds k = some d ∧ RD K F v d
  | _, _, .nil => .inl ⟨rfl, rfl⟩
  | _, _, @RK.cons _ _ k' v vs d ds h t => by
    by_cases e : k' = k
    · refine .inr ⟨v, d, ?_, ?_, h⟩
      · unfold valV; rw [List.find?_cons]; simp [e]
      · unfold kget; rw [List.find?_cons]; simp [e]
    · have e1 : valV ((k', v) :: vs) k = valV vs k := by unfold valV; rw [List.find?_cons]; simp [e]
      have e2 : kget ((k', d) :: ds) k = kget ds k := by unfold kget; rw [List.find?_cons]; simp [e]
      rw [e1, e2]
      exact t.get
theorem RK.any {K : PySem.W.Frag} {F : Hp} {k : Key} : ∀ {vs : List (Key × V)} {ds : List (Key × D)}, RK K F vs ds → (vs.any fun kv => decide (kv.1 = k)) = (ds.any fun kv => decide (kv.1 = k))
  | _, _, .nil => rfl
  | _, _, .cons _ t => by rw [List.any_cons, List.any_cons, t.any]
theorem RK.snoc {K : PySem.W.Frag} {F : Hp} {k : Key} {v : V} {d : D} (r : RD K F v d) : ∀ {vs : List (Key × V)} {ds : List (Key × D)}, RK K F vs ds → RK K F (vs ++ [(k, v)]) (ds ++ [(k, d)])
  | _, _, .nil => .cons r .nil
  | _, _, .cons h t => .cons h (t.snoc r)
theorem RK.mapp {K : PySem.W.Frag} {F : Hp} {k : Key} {v : V} {d : D} (r : RD K F v d) : ∀ {vs : List (Key × V)} {ds : List (Key × D)}, RK K F vs ds → RK K F (vs.map fun kv => if kv.1 = k then (kv.1, v) else kv) (ds.map fun kv => if kv.1 = k then (kv.1, d) else kv)
  | _, _, .nil => .nil
  | _, _, @RK.cons _ _ k' v' vs d' ds h t => by
    rw [List.map_cons, List.map_cons]
    by_cases e : k' = k
    · rw [if_pos e, if_pos e]; exact .cons r (t.mapp r)
    · rw [if_neg e, if_neg e]; exact .cons h (t.mapp r)
theorem RK.put {K : PySem.W.Frag} {F : Hp} {k : Key} {v : V} {d : D} {vs : List (Key × V)} {ds : List (Key × D)} (h : RK K F vs ds) (r : RD K F v d) : RK K F (putK vs k v) (kput ds k d) := by
  unfold putK kput
  rw [h.any]
  split
  · exact h.mapp r
  · exact h.snoc r
def kmerge (l more : List (Key × D)) : List (Key × D) := more.foldl (fun acc kv => kput acc kv.1 kv.2) l
theorem RK.merge {K : PySem.W.Frag} {F : Hp} : ∀ {vs : List (Key × V)} {ds : List (Key × D)} {us : List (Key × V)} {es : List (Key × D)}, RK K F us es → RK K F vs ds → RK K F (mergeK vs us) (kmerge ds es)
  | _, _, _, _, .nil, h => h
  | vs, ds, _, _, @RK.cons _ _ k v us d es r t, h => (show RK K F (mergeK (putK vs k v) us) (kmerge (kput ds k d) es) from RK.merge t (h.put r))

/-- {} -/
def uDNew : UE := fun ρ R => R (.own (.dic [])) ρ
theorem fe_dnew : FE X (.Dict [] [] pos) uDNew := ⟨fun ρ R q F H σ0 σ B Q E g =>
  to_S pe_dnewK (gt_dic (T := fun z => R z ρ) E (fun z v F' H' t G => g z ρ v F' H' t G) q .nil)⟩
/-- the pairs of a display -/
abbrev UP := List Sl → (List (Key × D) → List Sl → Prop) → Prop
def tP (X : Cx) (pos : Pos) (ks : List (Option Expr)) (vs : List Expr) (σ : L2.St) (H : Hp) (Q : List (V × V) → Hp → Prop) : Prop := ∃ trs, PPs X pos ks vs trs ∧ tPairs trs σ H Q
def FP (X : Cx) (pos : Pos) (ks : List (Option Expr)) (vs : List Expr) (u : UP) : Prop := ∃ trs, PPs X pos ks vs trs ∧ ∀ (ρ : List Sl) (R : List (Key × D) → List Sl → Prop), u ρ R → ∀ (F H : Hp) (σ0 σ : L2.St) (B : Addr → Prop) (Q : List (V × V) → Hp → Prop), ER X.K F H σ0 ρ σ B →
  (∀ ds ρ' kvs F' H', R ds ρ' → Gd X.K F H F' H' σ0 ρ' σ B → RK X.K F' kvs ds → Q (kvs.map fun kv => (kV kv.1, kv.2)) H') → tPairs trs σ H Q
def uPNil : UP := fun ρ R => R [] ρ
def uPCons (uk uv : UE) (u : UP) : UP := fun ρ R => uk ρ fun r ρ1 => match r with
  | .val dk => ∃ k, keyD dk = some k ∧ uv ρ1 fun q ρ2 => wv ρ2 q fun d => u (frz ρ2 q) fun l ρ3 => R ((k, d) :: l) ρ3
  | _ => False
theorem fp_nil : FP X pos [] [] uPNil := ⟨[], pps_nil, fun ρ R q F H σ0 σ B Q E g => g [] ρ [] F H q ⟨.refl _ _ _, E⟩ .nil⟩
theorem fp_cons {k v : Expr} {ks : List (Option Expr)} {vs : List Expr} {uk uv : UE} {u : UP} (hk : FE X k uk) (hv : FE X v uv) (hr : FP X pos ks vs u) : FP X pos (some k :: ks) (v :: vs) (uPCons uk uv u) := by
  obtain ⟨trs, h1, h2⟩ := hr
  refine ⟨_, pps_cons pe_S pe_S h1, fun ρ R q F H σ0 σ B Q E g => ?_⟩
  refine hk ρ _ q F H σ0 σ B _ E fun r ρ1 x F1 H1 z G => ?_
  split at z
  case h_2 => exact z.elim
  rename_i dk
  obtain ⟨k, ek, z⟩ := z
  have rr : RD X.K F1 x dk := G.rr
  have ex := keyD_v (H := H1) (.inl rr) ek
  subst ex
  refine hv ρ1 _ z F1 H1 σ0 σ B _ G.er fun q ρ2 y F2 H2 z G2 => ?_
  obtain ⟨F3, d, n3, E3, rd, z⟩ := G2.er.freeze G2.rr z
  refine h2 _ _ z F3 H2 σ0 σ B _ E3 fun ds ρ4 kvs F4 H4 z G4 rk => ?_
  exact g _ _ ((k, y) :: kvs) F4 H4 z ⟨G.nx.trans (G2.nx.trans (n3.trans G4.nx)), G4.er⟩ (.cons (rd.mono G4.nx.fz) rk)
def uDisp (u : UP) : UE := fun ρ R => u ρ fun l ρ1 => l.length ≤ 15 ∧ R (.own (.dic (kmerge [] l))) ρ1
theorem fe_disp {keys : List (Option Expr)} {values : List Expr} {u : UP} (h : FP X pos keys values u) (hall : keys.all (·.isSome) = true := by rfl) (hl : keys.length = values.length := by rfl) (h0 : keys ≠ [] := by exact fun z => nomatch z)
    (h15 : keys.length ≤ 15 := by decide) : FE X (.Dict keys values pos) (uDisp u) := ⟨fun ρ R q F H σ0 σ B Q E g => by
  obtain ⟨trs, h1, h2⟩ := h
  refine to_S (pe_disp h1 hall hl h0 h15) fun p np => ?_
  have rr : RR X.K F (upd H p (.dK [])) ρ σ B (.own (.dic [])) (.ref p) := E.laid_own np (.dic upd_same .nil)
  have E1 : ER X.K F (upd H p (.dK [])) σ0 ρ σ B := E.laid np
  refine h2 ρ _ q F _ σ0 σ (hB B (.own (.dic [])) (.ref p)) _ (E1.hold rr) fun l ρ2 kvs F2 H2 ⟨z1, z2⟩ G2 rk => ?_
  have E2 := G2.er.unhold
  obtain ⟨a, ea, ro, n2, nb, ns⟩ := rr.held E1 G2.er G2.nx
  cases ea
  have hp : H2 p = some (.dK []) := (G2.nx.out p (.inr rfl)).trans upd_same
  refine ⟨hp, kvs, rfl, by rw [rk.len]; exact z1, ?_⟩
  have E3 : ER X.K F2 (upd H2 p (.dK (mergeK [] kvs))) σ0 ρ2 σ B := by
    refine ⟨E2.len, fun b u q => by rw [upd_ne (ne_of_none q n2)]; exact E2.sub b u q, E2.fz, fun i q d h => ?_, E2.inj, E2.par, fun b hb => ⟨?_, (E2.out b hb).2⟩⟩
    · obtain ⟨c, ec, ro', m, mb⟩ := E2.ow i q d h
      have hc : c ≠ p := fun z => by subst z; exact ns i q d h ec
      exact ⟨c, ec, ro'.keep (Same.refl _) (upd_ne hc), m, mb⟩
    · have hb' : b ≠ p := fun z => by subst z; exact nb hb
      rw [upd_ne hb']; exact (E2.out b hb).1
  refine g _ _ _ F2 _ z2 ⟨(nx_new E np).trans ((G2.nx.mono hB_sub).trans ⟨Same.refl _, fun b hb => upd_ne fun z => by subst z; exact nb hb⟩), E3, p, rfl, .dic upd_same (rk.merge .nil), n2, nb, ns⟩⟩

/-! ### d[k], k in d, d.get(k, x), d[k] = v -/
def oDGet (d e : D) (T : Rv → Prop) : Prop := match d with
  | .dic l => ∃ k x, keyD e = some k ∧ kget l k = some x ∧ T (.val x)
  | _ => False
theorem fe_dget (hu : X.A.units + 1 < cLine) (ho : FE X o uo) (hi : FE X e ue) (hs : NoSl e := by exact fun _ _ => rfl) : FE X (.Subscript o e pos) (uBin oDGet uo ue) := ⟨fun ρ R q F H σ0 σ B Q E g => by
  refine to_S (pe_dget hu pe_S pe_S hs) (FE.two ho hi q E (fun x y H2 => _) fun p q ρ2 x y F2 H2 t n2 E2 r1 r2 => ?_)
  obtain ⟨d, w1, t⟩ := E2.seen r1 t
  obtain ⟨e, w2, t⟩ := E2.seen (r2.weak hB_sub) t
  unfold oDGet at t
  split at t
  · obtain ⟨k, x', ek, eg, t⟩ := t
    obtain ⟨a, kvs, rfl, h1, rk⟩ := w1.dic E2.sub
    cases keyD_v w2 ek
    rcases rk.get (k := k) with ⟨_, z⟩ | ⟨v, d', z1, z2, rd⟩
    · rw [z] at eg; cases eg
    · rw [z2] at eg; cases eg
      refine ⟨a, v, rfl, ?_, g _ _ _ _ _ t ⟨n2, E2, rd⟩⟩
      rw [← z1]; exact .k h1
  · exact t.elim⟩
def oDIn (neg : Bool) (e d : D) (T : Rv → Prop) : Prop := match d with
  | .dic l => ∃ k, keyD e = some k ∧ T (.val (.bl (neg ^^ (kget l k).isSome)))
  | _ => False
theorem rk_some {K : PySem.W.Frag} {F : Hp} {k : Key} {vs : List (Key × V)} {ds : List (Key × D)} (h : RK K F vs ds) : (valV vs k).isSome = (kget ds k).isSome := by
  rcases h.get (k := k) with ⟨z1, z2⟩ | ⟨v, d', z1, z2, _⟩ <;> rw [z1, z2] <;> rfl
theorem din_run {neg : Bool} {R : Rv → List Sl → Prop} {Q : VK} {ρ : List Sl} {F H : Hp} {σ0 σ : L2.St} {B : Addr → Prop} (hi : FE X e ue) (ho : FE X o uo) (q : uBin (oDIn neg) ue uo ρ R) (E : ER X.K F H σ0 ρ σ B)
    (g : ∀ r ρ' v F' H', R r ρ' → Gt X.K F H F' H' σ0 ρ' σ B r v → Q v H') : tS X e σ H fun y H1 => tS X o σ H1 fun x H2 => ∃ a ov, x = .ref a ∧ DGet H2 a y ov ∧ Q (.bl (neg ^^ ov.isSome)) H2 :=
  FE.two hi ho q E (fun x y H2 => _) fun p q ρ2 x y F2 H2 t n2 E2 r1 r2 => by
    obtain ⟨d, w1, t⟩ := E2.seen r1 t
    obtain ⟨e, w2, t⟩ := E2.seen (r2.weak hB_sub) t
    unfold oDIn at t
    split at t
    · obtain ⟨k, ek, t⟩ := t
      obtain ⟨a, kvs, rfl, h1, rk⟩ := w2.dic E2.sub
      cases keyD_v w1 ek
      exact ⟨a, _, rfl, .k h1, by rw [rk_some rk]; exact g _ _ _ _ _ t ⟨n2, E2, .bl _⟩⟩
    · exact t.elim
theorem fe_din (hu : X.A.units + 1 < cLine) (hi : FE X e ue) (ho : FE X o uo) (h1 : behindInMarks .In o = false := by rfl) : FE X (.Compare e [.In] [o] pos) (uBin (oDIn false) ue uo) := ⟨fun ρ R q F H σ0 σ B Q E g =>
  to_S (pe_cmp (pc_din hu pe_S pe_S) h1) (fun pins s I => thn (din_run (Q := Q) hi ho q E g pins s I) fun v s1 ⟨y, H1, I1, r1, q1⟩ => ⟨y, H1, I1, r1, fun pins s I => thn (q1 pins s I) fun v s2 ⟨x, H2, I2, r2, a, ov, e1, e2, q2⟩ => ⟨x, H2, I2, r2, a, ov, e1, e2, by rw [Bool.false_xor] at q2; exact q2⟩⟩)⟩
theorem fe_dnotin (hu : X.A.units + 1 < cLine) (hi : FE X e ue) (ho : FE X o uo) (h1 : behindInMarks .NotIn o = false := by rfl) : FE X (.Compare e [.NotIn] [o] pos) (uBin (oDIn true) ue uo) := ⟨fun ρ R q F H σ0 σ B Q E g =>
  to_S (pe_cmp (pc_dnotin hu pe_S pe_S) h1) (fun pins s I => thn (din_run (Q := Q) hi ho q E g pins s I) fun v s1 ⟨y, H1, I1, r1, q1⟩ => ⟨y, H1, I1, r1, fun pins s I => thn (q1 pins s I) fun v s2 ⟨x, H2, I2, r2, a, ov, e1, e2, q2⟩ => ⟨x, H2, I2, r2, a, ov, e1, e2, by rw [Bool.true_xor] at q2; exact q2⟩⟩)⟩
theorem ft_din (hu : X.A.units + 1 < cLine) (hi : FE X e ue) (ho : FE X o uo) (h1 : behindInMarks .In o = false := by rfl) : FT X (.Compare e [.In] [o] pos) (fun ρ R => uBin (oDIn false) ue uo ρ (isB R)) := ⟨fun ρ R q F H σ0 σ B Q E g =>
  to_ST (pt_cmp (pc_din hu pe_S pe_S) h1) (fun pins s I => thn (din_run (Q := fun v H' => ∃ c, v = .bl c ∧ Q c H') hi ho q E (fun r ρ' v F' H' h G => by
    unfold isB at h
    split at h
    · rename_i c
      have rr : RD X.K F' v (.bl c) := G.rr
      cases rr
      exact ⟨c, rfl, g c ρ' F' H' h ⟨G.nx, G.er⟩⟩
    · exact h.elim) pins s I) fun v s1 ⟨y, H1, I1, r1, q1⟩ => ⟨y, H1, I1, r1, fun pins s I => thn (q1 pins s I) fun v s2 ⟨x, H2, I2, r2, a, ov, e1, e2, q2⟩ => ⟨x, H2, I2, r2, a, ov, e1, e2, by rw [Bool.false_xor] at q2; exact q2⟩⟩)⟩
theorem ft_dnotin (hu : X.A.units + 1 < cLine) (hi : FE X e ue) (ho : FE X o uo) (h1 : behindInMarks .NotIn o = false := by rfl) : FT X (.Compare e [.NotIn] [o] pos) (fun ρ R => uBin (oDIn true) ue uo ρ (isB R)) := ⟨fun ρ R q F H σ0 σ B Q E g =>
  to_ST (pt_cmp (pc_dnotin hu pe_S pe_S) h1) (fun pins s I => thn (din_run (Q := fun v H' => ∃ c, v = .bl c ∧ Q c H') hi ho q E (fun r ρ' v F' H' h G => by
    unfold isB at h
    split at h
    · rename_i c
      have rr : RD X.K F' v (.bl c) := G.rr
      cases rr
      exact ⟨c, rfl, g c ρ' F' H' h ⟨G.nx, G.er⟩⟩
    · exact h.elim) pins s I) fun v s1 ⟨y, H1, I1, r1, q1⟩ => ⟨y, H1, I1, r1, fun pins s I => thn (q1 pins s I) fun v s2 ⟨x, H2, I2, r2, a, ov, e1, e2, q2⟩ => ⟨x, H2, I2, r2, a, ov, e1, e2, by rw [Bool.true_xor] at q2; exact q2⟩⟩)⟩
/-- d.get(k, x) -/
def uDGet2 (uo ue uf : UE) : UE := fun ρ R => uo ρ fun r ρ1 => wv ρ1 r fun d => match d with
  | .dic _ => ue ρ1 fun q ρ2 => uf ρ2 fun s ρ3 => wv ρ3 r fun d => wv ρ3 q fun e => wv ρ3 s fun x => match d with
    | .dic l => ∃ k, keyD e = some k ∧ R (.val ((kget l k).getD x)) (frz ρ3 s)
    | _ => False
  | _ => False
theorem fe_dget2 (hu : X.A.units + 1 < cLine) (ho : FE X o uo) (he : FE X e ue) (hf : FE X f uf) (m : M2 X o "get" apos e f cpos := by exact ⟨rfl, rfl, rfl, rfl⟩) : FE X (.Call (.Attribute o "get" apos) [e, f] [] cpos) (uDGet2 uo ue uf) := ⟨fun ρ R q F H σ0 σ B Q E g => by
  refine to_S (pe_dget2 hu pe_S pe_S pe_S m) (ho ρ _ q F H σ0 σ B _ E fun r ρ1 x F1 H1 z G => ?_)
  obtain ⟨d, w, z⟩ := G.er.seen G.rr z
  split at z
  case h_2 => exact z.elim
  obtain ⟨a, kvs, rfl, h1, rk⟩ := w.dic G.er.sub
  refine ⟨a, rfl, .inl ⟨kvs, .inl h1⟩, he ρ1 _ z F1 H1 σ0 σ (hB B r (.ref a)) _ (G.er.hold G.rr) fun q ρ2 y F2 H2 z G2 => hf ρ2 _ z F2 H2 σ0 σ (hB (hB B r (.ref a)) q y) _ (G2.er.hold G2.rr) fun s ρ3 u F3 H3 z G3 => ?_⟩
  have E3' := G3.er.unhold
  have E3 := E3'.unhold
  have rr := G.rr.held G.er E3' (G2.nx.trans (G3.nx.mono hB_sub))
  have rq := (G2.rr.held G2.er G3.er G3.nx).weak hB_sub
  have rs : RR X.K F3 H3 ρ3 σ B s u := (G3.rr.weak hB_sub).weak hB_sub
  obtain ⟨d, w, z⟩ := E3.seen rr z
  obtain ⟨e, w2, z⟩ := E3.seen rq z
  obtain ⟨F4, x', n4, E4, rd4, z⟩ := E3.freeze rs z
  split at z
  case h_2 => exact z.elim
  obtain ⟨k, ek, z⟩ := z
  obtain ⟨a', kvs, ea, h1, rk⟩ := w.dic E3.sub
  cases ea
  cases keyD_v w2 ek
  have nn := G.nx.trans ((G2.nx.mono hB_sub).trans (((G3.nx.mono hB_sub).mono hB_sub).trans n4))
  refine ⟨_, .k h1, ?_⟩
  rcases rk.get (k := k) with ⟨z1, z2⟩ | ⟨v, d', z1, z2, rd⟩
  · rw [z2] at z; rw [z1]
    exact g _ _ _ F4 H3 z ⟨nn, E4, rd4⟩
  · rw [z2] at z; rw [z1]
    exact g _ _ _ F4 H3 z ⟨nn, E4, rd.mono n4.fz⟩⟩
/-- the dict that a slot holds as one's own -/
def ownK (ρ : List Sl) (r : Rv) (k : Nat → Bool → List (Key × D) → Prop) : Prop := match r with
  | .at i => match ρ[i]? with
    | some (.sl true p (.dic l)) => k i p l
    | _ => False
  | _ => False
theorem ownK_of {ρ : List Sl} {r : Rv} {k : Nat → Bool → List (Key × D) → Prop} (h : ownK ρ r k) : ∃ i p l, r = .at i ∧ ρ[i]? = some (.sl true p (.dic l)) ∧ k i p l := by
  unfold ownK at h
  split at h
  · split at h
    · exact ⟨_, _, _, rfl, ‹_›, h⟩
    · exact h.elim
  · exact h.elim
def uPutK (uv uo ui : UE) : US := fun E ρ => uv ρ fun r ρ1 => wv ρ1 r fun d => uo (frz ρ1 r) fun q ρ2 => ui ρ2 fun s ρ3 => wv ρ3 s fun e => ownK ρ3 q fun i p l => ∃ k, keyD e = some k ∧ l.length < sizeLine ∧ E.nx (ρ3.set i (.sl true p (.dic (kput l k d))))
theorem fs_putK {v i : Expr} {uv ui : UE} {pos' : Pos} (hu : X.A.units + 1 < cLine) (hv : FE X v uv) (ho : FE X o uo) (hi : FE X i ui) (hs : swapsWith v (some (.Subscript o i pos')) pos.line X.env = pure false := by rfl) : FS X (.Assign [.Subscript o i pos'] v pos) (uPutK uv uo ui) := ⟨fun E ρ q F H σ0 σ B D er f => by
  refine to_SS (ps_dput hu pe_S pe_S pe_S hs) (hv ρ _ q F H σ0 σ B _ er fun r ρ1 x F1 H1 z G => ?_)
  obtain ⟨F2, d, n2, E2, rd, z⟩ := G.er.freeze G.rr z
  refine ho _ _ z F2 H1 σ0 σ B _ E2 fun q ρ2 y F3 H3 z G3 => hi ρ2 _ z F3 H3 σ0 σ (hB B q y) _ (G3.er.hold G3.rr) fun s ρ3 w F4 H4 z G4 => ?_
  have E4 := G4.er.unhold
  have rq := G3.rr.held G3.er G4.er G4.nx
  obtain ⟨e, we, z⟩ := E4.seen (G4.rr.weak hB_sub) z
  obtain ⟨i, p, l, rfl, e1, k, ek, hl, z⟩ := ownK_of z
  have si : σ[i]? = some (some y) := rq
  obtain ⟨a, e2, ro, _⟩ := E4.ow i p _ e1
  rw [si] at e2; cases e2
  cases ro with
  | @dic _ kvs _ h1 rk =>
    cases keyD_v we ek
    have rd4 := rd.mono (G3.nx.fz.trans G4.nx.fz)
    obtain ⟨E5, n5⟩ := E4.wrote e1 si (o := .dK (putK kvs k x)) (e := .dic (kput l k d)) (.dic upd_same (rk.put rd4))
    exact ⟨a, _, rfl, .k h1 (by rw [rk.len]; exact hl), f.nx _ _ F4 _ z ⟨G.nx.trans (n2.trans (G3.nx.trans ((G4.nx.mono hB_sub).trans n5))), E5⟩⟩⟩
end
end YP
set_option maxRecDepth 100000
set_option maxHeartbeats 1000000
/-! The yard's pure layer, part 10: (i, x) < (j, y); calls without arguments; a pure promise as one over the heap; slices up to. -/
namespace YP
open PySem PySem.Spec PyProof.Rows L2
def oLtIS (d e : D) (T : Rv → Prop) : Prop := match d, e with
  | .tup [.int i, .str u], .tup [.int j, .str v] => T (.val (.bl (if i = j then decide (u.cps.toList < v.cps.toList) else decide (i < j))))
  | _, _ => False
theorem rl_is {K : PySem.W.Frag} {F : Hp} {vs : List V} {i : Int} {u : Str} (h : RL K F vs [.int i, .str u]) : vs = [.int i, .str u] := by
  cases h with
  | cons a r =>
    cases a
    cases r with
    | cons b r =>
      cases b
      cases r
      rfl
theorem os_ltIS {X : Cx} (hu : X.A.units < cLine) : OpS X (compareOp .Lt) oLtIS := .of (Yard.op_ltIS hu) fun {F H σ0 σ ρ B x y d e T Q} E w1 w2 t g => by
  unfold oLtIS at t
  split at t
  · obtain ⟨a, us, rfl, h1, l1⟩ := w1.tup E.sub
    obtain ⟨b, vs, rfl, h2, l2⟩ := w2.tup E.sub
    cases rl_is l1
    cases rl_is l2
    exact ⟨a, b, _, _, _, _, rfl, rfl, h1, h2, gt_val E g t (.bl _)⟩
  · exact t.elim
/-- f(), which tells a constant -/
theorem fe_call0c {X : Cx} {CX : CXT} {k : Nat} {f : Addr} {fd : FuncData} {sp : Sp} {x : Str} {p pos : Pos} {v : V} {d : D} (Fn : FnOk X.prog X.w X.K X.mg X.base CX k f fd [] sp) (hr : Room k X.A) (hg : Gl X x) (hm : X.mg x = some (.ref f)) (hk : PySem.W.keepIn X.K (.ref f) = true) (hb : Binds X.K fd [] [])
    (hx : Passes CX X fun _ _ _ => False) (hsp : ∀ (H : Hp) (Q : VK), Q v H → sp [] H Q (fun _ _ _ => False)) (rd : ∀ F, RD X.K F v d) (hdb : (x == ("__debug__" : Str)) = false := by decide) : FE X (.Call (.Name x p) [] [] pos) (uC d) := ⟨fun ρ R q F H σ0 σ B Q E g =>
  to_S (pe_call0 (E := fun _ _ _ => False) Fn hr hg hm hk hb .nil hx hdb) (hsp H _ (g _ ρ v F H q ⟨.refl _ _ _, E, rd F⟩))⟩
/-! ### a pure promise over the heap -/
def RWv (K : PySem.W.Frag) (F H : Hp) : Rv → V → Prop
  | .val d, v => RD K F v d
  | .own d, v => ∃ a, v = .ref a ∧ RO K F H v d ∧ F a = none
  | .at _, _ => False
def OSp (K : PySem.W.Frag) (n : Nat) (u : UF) : Sp := fun vs H Q _ => ∃ (ds : List D) (R : Rv → List Sl → Prop), vs.length = n ∧ RL K H vs ds ∧ u (ds.map fun d => Sl.sl false false d) R ∧
  ∀ r ss v F' H', R r ss → Same H F' → Same F' H' → RWv K F' H' r v → Q v H'
theorem old_of {P : Program} {w : World} {K : PySem.W.Frag} {mg : Str → Option Value} {base : Heap} {CX : CXT} {k n : Nat} {f : Addr} {fd : FuncData} {ps : List Str} {u : UF} (Fn : FnOk P w K mg base CX k f fd ps (PSp K n u)) : FnOk P w K mg base CX k f fd ps (OSp K n u) := by
  refine Fn.imp fun vs H Q E ⟨ds, R, hl, l, hu, g⟩ => ?_
  refine ⟨ds.map fun d => Sl.sl false false d, H, fun _ => False, R, by rw [List.length_map, ← l.len]; exact hl, hl, ?_, hu, fun r ρ' v F' H' hr nx er rr na => g r ρ' v F' H' hr nx.fz er.sub ?_⟩
  · have at_ : ∀ (i : Nat) o p d, (ds.map fun d => Sl.sl false false d)[i]? = some (Sl.sl o p d) → o = false ∧ p = false ∧ ds[i]? = some d := fun i o p d h => by
      rw [List.getElem?_map] at h
      obtain ⟨e, he, z⟩ := Option.map_eq_some_iff.mp h
      cases z
      exact ⟨rfl, rfl, he⟩
    refine ⟨by rw [List.length_map, List.length_map, l.len], Same.refl _, fun i p d h => ?_, fun i p d h => ?_, fun i j a p q d e h _ _ _ => ?_, fun i o d h => ?_, fun a h => h.elim⟩
    · obtain ⟨v, hv, rd⟩ := l.got (at_ _ _ _ _ h).2.2
      exact ⟨v, by rw [List.getElem?_map, hv]; rfl, rd⟩
    · exact nomatch (at_ _ _ _ _ h).1
    · exact nomatch (at_ _ _ _ _ h).1
    · exact nomatch (at_ _ _ _ _ h).2.1
  · cases r with
    | val d => exact rr
    | own d =>
      obtain ⟨a, e, ro, n, _⟩ := rr
      exact ⟨a, e, ro, n⟩
    | «at» i => exact na i rfl
theorem ycut_to {α : Type} (xs : List α) (k : Nat) : YP.cut xs none (some (k : Int)) = xs.take k := by
  unfold YP.cut
  rw [HT.sIx_nat, HT.sIx_none, List.drop_zero, Nat.sub_zero]
  rcases Nat.le_total k xs.length with h | h
  · rw [Nat.min_eq_left h]
  · rw [Nat.min_eq_right h, List.take_length, List.take_of_length_le h]
end YP
/-! Law k01: what patterns spell: the mathematics (patterns, their texts, places, what is due). -/
namespace K01
/-- a pattern -/
inductive Pa where
  | sg (l : List Nat)
  | em
  | th (a b : Pa)
  | or (a b : Pa)
  | ag (a : Pa)
  | mo (a : Pa)
  | mb (a : Pa)
  deriving DecidableEq
/-- some of L, one behind the other -/
inductive Star (L : List Nat → Prop) : List Nat → Prop
  | nil : Star L []
  | app {u v : List Nat} : L u → Star L v → Star L (u ++ v)
def Cat (A B : List Nat → Prop) (w : List Nat) : Prop := ∃ u v, w = u ++ v ∧ A u ∧ B v
/-- what a pattern spells -/
def Lg : Pa → List Nat → Prop
  | .sg l, w => ∃ c, c ∈ l ∧ w = [c]
  | .em, w => w = []
  | .th a b, w => Cat (Lg a) (Lg b) w
  | .or a b, w => Lg a w ∨ Lg b w
  | .ag a, w => Star (Lg a) w
  | .mo a, w => Cat (Lg a) (Star (Lg a)) w
  | .mb a, w => w = [] ∨ Lg a w
theorem Cat.nil {A B : List Nat → Prop} : Cat A B [] ↔ A [] ∧ B [] := by
  constructor
  · rintro ⟨u, v, e, h, k⟩
    obtain ⟨rfl, rfl⟩ := List.append_eq_nil_iff.mp e.symm
    exact ⟨h, k⟩
  · exact fun ⟨h, k⟩ => ⟨[], [], rfl, h, k⟩
theorem Cat.cons {A B : List Nat → Prop} {c : Nat} {w : List Nat} : Cat A B (c :: w) ↔ Cat (fun u => A (c :: u)) B w ∨ (A [] ∧ B (c :: w)) := by
  constructor
  · rintro ⟨u, v, e, h, k⟩
    cases u with
    | nil => exact .inr ⟨h, by rw [e]; exact k⟩
    | cons d u =>
      rw [List.cons_append] at e
      obtain ⟨rfl, rfl⟩ := List.cons.inj e
      exact .inl ⟨u, v, rfl, h, k⟩
  · rintro (⟨u, v, rfl, h, k⟩ | ⟨h, k⟩)
    · exact ⟨c :: u, v, rfl, h, k⟩
    · exact ⟨[], c :: w, rfl, h, k⟩
/-- the first of a row that isn't none takes a sign -/
theorem Star.cons {L : List Nat → Prop} {c : Nat} {w : List Nat} : Star L (c :: w) ↔ Cat (fun u => L (c :: u)) (Star L) w := by
  constructor
  · intro h
    have key : ∀ x, Star L x → x = c :: w → Cat (fun u => L (c :: u)) (Star L) w := by
      intro x hx
      induction hx with
      | nil => intro e; cases e
      | @app u v hu hv ih =>
        intro e
        cases u with
        | nil => exact ih e
        | cons d u =>
          rw [List.cons_append] at e
          obtain ⟨rfl, rfl⟩ := List.cons.inj e
          exact ⟨u, v, rfl, hu, hv⟩
    exact key _ h rfl
  · rintro ⟨u, v, rfl, h, k⟩
    exact Star.app (u := c :: u) h k
theorem Cat.mono {A B A' B' : List Nat → Prop} {w : List Nat} (h : ∀ u, A u → A' u) (k : ∀ u, B u → B' u) : Cat A B w → Cat A' B' w :=
  fun ⟨u, v, e, x, y⟩ => ⟨u, v, e, h u x, k v y⟩
theorem Cat.star {L : List Nat → Prop} {w : List Nat} : Cat L (Star L) w → Star L w := fun ⟨_, _, e, x, y⟩ => e ▸ .app x y
theorem Cat.exi {ι : Type} {A : ι → List Nat → Prop} {P : ι → Prop} {B : List Nat → Prop} {w : List Nat} : Cat (fun u => ∃ i, P i ∧ A i u) B w ↔ ∃ i, P i ∧ Cat (A i) B w := by
  constructor
  · rintro ⟨u, v, e, ⟨i, p, x⟩, y⟩
    exact ⟨i, p, u, v, e, x, y⟩
  · rintro ⟨i, p, u, v, e, x, y⟩
    exact ⟨u, v, e, ⟨i, p, x⟩, y⟩
theorem Cat.assoc {A B C : List Nat → Prop} {w : List Nat} : Cat (Cat A B) C w ↔ Cat A (Cat B C) w := by
  constructor
  · rintro ⟨u, v, e, ⟨x, y, f, hx, hy⟩, hv⟩
    exact ⟨x, y ++ v, by rw [e, f, List.append_assoc], hx, y, v, rfl, hy, hv⟩
  · rintro ⟨x, u, e, hx, y, v, f, hy, hv⟩
    exact ⟨x ++ y, v, by rw [e, f, List.append_assoc], ⟨x, y, rfl, hx, hy⟩, hv⟩
theorem Cat.congr {A B A' B' : List Nat → Prop} {w : List Nat} (h : ∀ u, A u ↔ A' u) (k : ∀ u, B u ↔ B' u) : Cat A B w ↔ Cat A' B' w :=
  ⟨Cat.mono (fun u => (h u).mp) (fun u => (k u).mp), Cat.mono (fun u => (h u).mpr) (fun u => (k u).mpr)⟩

/-! ### does it spell none -/
def nul : Pa → Bool
  | .sg _ => false
  | .em => true
  | .th a b => nul a && nul b
  | .or a b => nul a || nul b
  | .ag _ => true
  | .mo a => nul a
  | .mb _ => true
theorem nul_iff : ∀ p : Pa, nul p = true ↔ Lg p []
  | .sg l => by simp [nul, Lg]
  | .em => by simp [nul, Lg]
  | .th a b => by simp only [nul, Bool.and_eq_true, nul_iff a, nul_iff b]; exact Cat.nil.symm
  | .or a b => by simp only [nul, Bool.or_eq_true, nul_iff a, nul_iff b]; rfl
  | .ag a => by simp only [nul, true_iff]; exact Star.nil
  | .mo a => by
    simp only [nul, nul_iff a]
    exact ⟨fun h => Cat.nil.mpr ⟨h, .nil⟩, fun h => (Cat.nil.mp h).1⟩
  | .mb a => by simp [nul, Lg]

/-! ### places: numbers from n on, one for each text of signs, from the left -/
def size : Pa → Nat
  | .sg _ => 1
  | .em => 0
  | .th a b => size a + size b
  | .or a b => size a + size b
  | .ag a => size a
  | .mo a => size a
  | .mb a => size a
/-- the signs by place -/
def sgs : Pa → List (List Nat)
  | .sg l => [l]
  | .em => []
  | .th a b => sgs a ++ sgs b
  | .or a b => sgs a ++ sgs b
  | .ag a => sgs a
  | .mo a => sgs a
  | .mb a => sgs a
theorem sgs_len : ∀ p, (sgs p).length = size p
  | .sg _ => rfl
  | .em => rfl
  | .th a b => by simp [sgs, size, sgs_len a, sgs_len b]
  | .or a b => by simp [sgs, size, sgs_len a, sgs_len b]
  | .ag a => sgs_len a
  | .mo a => sgs_len a
  | .mb a => sgs_len a
/-- places with which it begins, ends; what comes behind a place -/
def fst : Pa → Nat → Nat → Prop
  | .sg _, n, i => i = n
  | .em, _, _ => False
  | .th a b, n, i => fst a n i ∨ (nul a = true ∧ fst b (n + size a) i)
  | .or a b, n, i => fst a n i ∨ fst b (n + size a) i
  | .ag a, n, i => fst a n i
  | .mo a, n, i => fst a n i
  | .mb a, n, i => fst a n i
def lst : Pa → Nat → Nat → Prop
  | .sg _, n, i => i = n
  | .em, _, _ => False
  | .th a b, n, i => lst b (n + size a) i ∨ (nul b = true ∧ lst a n i)
  | .or a b, n, i => lst a n i ∨ lst b (n + size a) i
  | .ag a, n, i => lst a n i
  | .mo a, n, i => lst a n i
  | .mb a, n, i => lst a n i
def flw : Pa → Nat → Nat → Nat → Prop
  | .sg _, _, _, _ => False
  | .em, _, _, _ => False
  | .th a b, n, i, j => flw a n i j ∨ flw b (n + size a) i j ∨ (lst a n i ∧ fst b (n + size a) j)
  | .or a b, n, i, j => flw a n i j ∨ flw b (n + size a) i j
  | .ag a, n, i, j => flw a n i j ∨ (lst a n i ∧ fst a n j)
  | .mo a, n, i, j => flw a n i j ∨ (lst a n i ∧ fst a n j)
  | .mb a, n, i, j => flw a n i j
/-- the signs at a place -/
def sgn : Pa → Nat → Nat → Nat → Prop
  | .sg l, n, i, c => i = n ∧ c ∈ l
  | .em, _, _, _ => False
  | .th a b, n, i, c => sgn a n i c ∨ sgn b (n + size a) i c
  | .or a b, n, i, c => sgn a n i c ∨ sgn b (n + size a) i c
  | .ag a, n, i, c => sgn a n i c
  | .mo a, n, i, c => sgn a n i c
  | .mb a, n, i, c => sgn a n i c
def In (p : Pa) (n i : Nat) : Prop := n ≤ i ∧ i < n + size p
theorem fst_in : ∀ (p : Pa) (n i : Nat), fst p n i → In p n i
  | .sg l, n, i, h => by cases h; exact ⟨Nat.le_refl _, by show n < n + 1; omega⟩
  | .em, _, _, h => h.elim
  | .th a b, n, i, h => by
    rcases h with h | ⟨_, h⟩
    · have := fst_in a n i h; unfold In at *; simp only [size]; omega
    · have := fst_in b _ i h; unfold In at *; simp only [size]; omega
  | .or a b, n, i, h => by
    rcases h with h | h
    · have := fst_in a n i h; unfold In at *; simp only [size]; omega
    · have := fst_in b _ i h; unfold In at *; simp only [size]; omega
  | .ag a, n, i, h => fst_in a n i h
  | .mo a, n, i, h => fst_in a n i h
  | .mb a, n, i, h => fst_in a n i h
theorem lst_in : ∀ (p : Pa) (n i : Nat), lst p n i → In p n i
  | .sg l, n, i, h => by cases h; exact ⟨Nat.le_refl _, by show n < n + 1; omega⟩
  | .em, _, _, h => h.elim
  | .th a b, n, i, h => by
    rcases h with h | ⟨_, h⟩
    · have := lst_in b _ i h; unfold In at *; simp only [size]; omega
    · have := lst_in a n i h; unfold In at *; simp only [size]; omega
  | .or a b, n, i, h => by
    rcases h with h | h
    · have := lst_in a n i h; unfold In at *; simp only [size]; omega
    · have := lst_in b _ i h; unfold In at *; simp only [size]; omega
  | .ag a, n, i, h => lst_in a n i h
  | .mo a, n, i, h => lst_in a n i h
  | .mb a, n, i, h => lst_in a n i h
theorem flw_in : ∀ (p : Pa) (n i j : Nat), flw p n i j → In p n i ∧ In p n j
  | .sg l, _, _, _, h => h.elim
  | .em, _, _, _, h => h.elim
  | .th a b, n, i, j, h => by
    rcases h with h | h | ⟨h, k⟩
    · have := flw_in a n i j h; unfold In at *; simp only [size]; omega
    · have := flw_in b _ i j h; unfold In at *; simp only [size]; omega
    · have := lst_in a n i h; have := fst_in b _ j k; unfold In at *; simp only [size]; omega
  | .or a b, n, i, j, h => by
    rcases h with h | h
    · have := flw_in a n i j h; unfold In at *; simp only [size]; omega
    · have := flw_in b _ i j h; unfold In at *; simp only [size]; omega
  | .ag a, n, i, j, h => by
    rcases h with h | ⟨h, k⟩
    · exact flw_in a n i j h
    · exact ⟨lst_in a n i h, fst_in a n j k⟩
  | .mo a, n, i, j, h => by
    rcases h with h | ⟨h, k⟩
    · exact flw_in a n i j h
    · exact ⟨lst_in a n i h, fst_in a n j k⟩
  | .mb a, n, i, j, h => flw_in a n i j h
theorem sgn_in : ∀ (p : Pa) (n i c : Nat), sgn p n i c → In p n i
  | .sg l, n, i, c, h => by obtain ⟨rfl, _⟩ := h; exact ⟨Nat.le_refl _, by show i < i + 1; omega⟩
  | .em, _, _, _, h => h.elim
  | .th a b, n, i, c, h => by
    rcases h with h | h
    · have := sgn_in a n i c h; unfold In at *; simp only [size]; omega
    · have := sgn_in b _ i c h; unfold In at *; simp only [size]; omega
  | .or a b, n, i, c, h => by
    rcases h with h | h
    · have := sgn_in a n i c h; unfold In at *; simp only [size]; omega
    · have := sgn_in b _ i c h; unfold In at *; simp only [size]; omega
  | .ag a, n, i, c, h => sgn_in a n i c h
  | .mo a, n, i, c, h => sgn_in a n i c h
  | .mb a, n, i, c, h => sgn_in a n i c h
/-- what may still come behind a place -/
def res : Pa → Nat → Nat → List Nat → Prop
  | .sg _, _, _, w => w = []
  | .em, _, _, _ => False
  | .th a b, n, i, w => if i < n + size a then Cat (res a n i) (Lg b) w else res b (n + size a) i w
  | .or a b, n, i, w => if i < n + size a then res a n i w else res b (n + size a) i w
  | .ag a, n, i, w => Cat (res a n i) (Star (Lg a)) w
  | .mo a, n, i, w => Cat (res a n i) (Star (Lg a)) w
  | .mb a, n, i, w => res a n i w
theorem res_nil : ∀ (p : Pa) (n i : Nat), In p n i → (res p n i [] ↔ lst p n i)
  | .sg l, n, i, h => by
    have : i = n := by unfold In size at h; omega
    simp [res, lst, this]
  | .em, n, i, h => by unfold In size at h; omega
  | .th a b, n, i, h => by
    unfold In at h; simp only [size] at h
    simp only [res, lst]
    by_cases k : i < n + size a
    · rw [if_pos k, Cat.nil, res_nil a n i ⟨h.1, k⟩, ← nul_iff b]
      constructor
      · exact fun ⟨x, y⟩ => .inr ⟨y, x⟩
      · rintro (x | ⟨x, y⟩)
        · have := lst_in b _ i x; unfold In at this; omega
        · exact ⟨y, x⟩
    · rw [if_neg k, res_nil b _ i ⟨by omega, by omega⟩]
      constructor
      · exact .inl
      · rintro (x | ⟨x, y⟩)
        · exact x
        · have := lst_in a n i y; unfold In at this; omega
  | .or a b, n, i, h => by
    unfold In at h; simp only [size] at h
    simp only [res, lst]
    by_cases k : i < n + size a
    · rw [if_pos k, res_nil a n i ⟨h.1, k⟩]
      constructor
      · exact .inl
      · rintro (x | x)
        · exact x
        · have := lst_in b _ i x; unfold In at this; omega
    · rw [if_neg k, res_nil b _ i ⟨by omega, by omega⟩]
      constructor
      · exact .inr
      · rintro (x | x)
        · have := lst_in a n i x; unfold In at this; omega
        · exact x
  | .ag a, n, i, h => by
    simp only [res, lst]
    rw [Cat.nil, res_nil a n i h]
    exact ⟨fun x => x.1, fun x => ⟨x, .nil⟩⟩
  | .mo a, n, i, h => by
    simp only [res, lst]
    rw [Cat.nil, res_nil a n i h]
    exact ⟨fun x => x.1, fun x => ⟨x, .nil⟩⟩
  | .mb a, n, i, h => res_nil a n i h
/-- a first sign: by a place that begins -/
theorem lg_cons : ∀ (p : Pa) (n c : Nat) (w : List Nat), Lg p (c :: w) ↔ ∃ i, (fst p n i ∧ sgn p n i c) ∧ res p n i w
  | .sg l, n, c, w => by
    simp only [Lg, fst, sgn, res]
    constructor
    · rintro ⟨d, hd, e⟩
      obtain ⟨rfl, rfl⟩ := List.cons.inj e
      exact ⟨n, ⟨rfl, rfl, hd⟩, rfl⟩
    · rintro ⟨i, ⟨rfl, _, h⟩, rfl⟩
      exact ⟨c, h, rfl⟩
  | .em, n, c, w => by simp [Lg, fst]
  | .th a b, n, c, w => by
    simp only [Lg, fst, sgn, res]
    rw [Cat.cons, Cat.congr (fun u => lg_cons a n c u) (fun _ => Iff.rfl), Cat.exi, lg_cons b (n + size a) c w, ← nul_iff a]
    constructor
    · rintro (⟨i, ⟨h, k⟩, r⟩ | ⟨z, i, ⟨h, k⟩, r⟩)
      · have := fst_in a n i h; unfold In at this
        exact ⟨i, ⟨.inl h, .inl k⟩, by rw [if_pos this.2]; exact r⟩
      · have := fst_in b _ i h; unfold In at this
        exact ⟨i, ⟨.inr ⟨z, h⟩, .inr k⟩, by rw [if_neg (by omega)]; exact r⟩
    · rintro ⟨i, ⟨h, k⟩, r⟩
      rcases h with h | ⟨z, h⟩
      · have i1 := fst_in a n i h; unfold In at i1
        rw [if_pos i1.2] at r
        refine .inl ⟨i, ⟨h, ?_⟩, r⟩
        rcases k with k | k
        · exact k
        · have := sgn_in b _ i c k; unfold In at this; omega
      · have i1 := fst_in b _ i h; unfold In at i1
        rw [if_neg (by omega)] at r
        refine .inr ⟨z, i, ⟨h, ?_⟩, r⟩
        rcases k with k | k
        · have := sgn_in a _ i c k; unfold In at this; omega
        · exact k
  | .or a b, n, c, w => by
    simp only [Lg, fst, sgn, res]
    rw [lg_cons a n c w, lg_cons b (n + size a) c w]
    constructor
    · rintro (⟨i, ⟨h, k⟩, r⟩ | ⟨i, ⟨h, k⟩, r⟩)
      · have := fst_in a n i h; unfold In at this
        exact ⟨i, ⟨.inl h, .inl k⟩, by rw [if_pos this.2]; exact r⟩
      · have := fst_in b _ i h; unfold In at this
        exact ⟨i, ⟨.inr h, .inr k⟩, by rw [if_neg (by omega)]; exact r⟩
    · rintro ⟨i, ⟨h, k⟩, r⟩
      rcases h with h | h
      · have i1 := fst_in a n i h; unfold In at i1
        rw [if_pos i1.2] at r
        refine .inl ⟨i, ⟨h, ?_⟩, r⟩
        rcases k with k | k
        · exact k
        · have := sgn_in b _ i c k; unfold In at this; omega
      · have i1 := fst_in b _ i h; unfold In at i1
        rw [if_neg (by omega)] at r
        refine .inr ⟨i, ⟨h, ?_⟩, r⟩
        rcases k with k | k
        · have := sgn_in a _ i c k; unfold In at this; omega
        · exact k
  | .ag a, n, c, w => by
    simp only [Lg, fst, sgn, res]
    rw [Star.cons, Cat.congr (fun u => lg_cons a n c u) (fun _ => Iff.rfl), Cat.exi]
  | .mo a, n, c, w => by
    simp only [Lg, fst, sgn, res]
    rw [Cat.cons, Star.cons, Cat.congr (fun u => lg_cons a n c u) (fun _ => Iff.rfl), Cat.exi]
    exact ⟨fun h => h.elim id fun h => h.2, .inl⟩
  | .mb a, n, c, w => by
    simp only [Lg, fst, sgn, res]
    rw [lg_cons a n c w]
    simp
/-- a further sign: by a place behind -/
theorem res_cons : ∀ (p : Pa) (n i c : Nat) (w : List Nat), In p n i → (res p n i (c :: w) ↔ ∃ j, (flw p n i j ∧ sgn p n j c) ∧ res p n j w)
  | .sg l, n, i, c, w, h => by simp [res, flw]
  | .em, n, i, c, w, h => by simp [res, flw]
  | .th a b, n, i, c, w, h => by
    unfold In at h; simp only [size] at h
    simp only [flw, sgn, res]
    by_cases k : i < n + size a
    · rw [if_pos k, Cat.cons, Cat.congr (fun u => res_cons a n i c u ⟨h.1, k⟩) (fun _ => Iff.rfl), Cat.exi, res_nil a n i ⟨h.1, k⟩, lg_cons b (n + size a) c w]
      constructor
      · rintro (⟨j, ⟨f, s⟩, r⟩ | ⟨z, j, ⟨f, s⟩, r⟩)
        · have := flw_in a n i j f; unfold In at this
          exact ⟨j, ⟨.inl f, .inl s⟩, by rw [if_pos this.2.2]; exact r⟩
        · have := fst_in b _ j f; unfold In at this
          exact ⟨j, ⟨.inr (.inr ⟨z, f⟩), .inr s⟩, by rw [if_neg (by omega)]; exact r⟩
      · rintro ⟨j, ⟨f, s⟩, r⟩
        rcases f with f | f | ⟨z, f⟩
        · have i1 := flw_in a n i j f; unfold In at i1
          rw [if_pos i1.2.2] at r
          refine .inl ⟨j, ⟨f, ?_⟩, r⟩
          rcases s with s | s
          · exact s
          · have := sgn_in b _ j c s; unfold In at this; omega
        · have i1 := flw_in b _ i j f; unfold In at i1; omega
        · have i1 := fst_in b _ j f; unfold In at i1
          rw [if_neg (by omega)] at r
          refine .inr ⟨z, j, ⟨f, ?_⟩, r⟩
          rcases s with s | s
          · have := sgn_in a _ j c s; unfold In at this; omega
          · exact s
    · rw [if_neg k, res_cons b _ i c w ⟨by omega, by omega⟩]
      constructor
      · rintro ⟨j, ⟨f, s⟩, r⟩
        have := flw_in b _ i j f; unfold In at this
        exact ⟨j, ⟨.inr (.inl f), .inr s⟩, by rw [if_neg (by omega)]; exact r⟩
      · rintro ⟨j, ⟨f, s⟩, r⟩
        rcases f with f | f | ⟨z, f⟩
        · have i1 := flw_in a n i j f; unfold In at i1; omega
        · have i1 := flw_in b _ i j f; unfold In at i1
          rw [if_neg (by omega)] at r
          refine ⟨j, ⟨f, ?_⟩, r⟩
          rcases s with s | s
          · have := sgn_in a _ j c s; unfold In at this; omega
          · exact s
        · have i1 := lst_in a n i z; unfold In at i1; omega
  | .or a b, n, i, c, w, h => by
    unfold In at h; simp only [size] at h
    simp only [flw, sgn, res]
    by_cases k : i < n + size a
    · rw [if_pos k, res_cons a n i c w ⟨h.1, k⟩]
      constructor
      · rintro ⟨j, ⟨f, s⟩, r⟩
        have := flw_in a n i j f; unfold In at this
        exact ⟨j, ⟨.inl f, .inl s⟩, by rw [if_pos this.2.2]; exact r⟩
      · rintro ⟨j, ⟨f, s⟩, r⟩
        rcases f with f | f
        · have i1 := flw_in a n i j f; unfold In at i1
          rw [if_pos i1.2.2] at r
          refine ⟨j, ⟨f, ?_⟩, r⟩
          rcases s with s | s
          · exact s
          · have := sgn_in b _ j c s; unfold In at this; omega
        · have i1 := flw_in b _ i j f; unfold In at i1; omega
    · rw [if_neg k, res_cons b _ i c w ⟨by omega, by omega⟩]
      constructor
      · rintro ⟨j, ⟨f, s⟩, r⟩
        have := flw_in b _ i j f; unfold In at this
        exact ⟨j, ⟨.inr f, .inr s⟩, by rw [if_neg (by omega)]; exact r⟩
      · rintro ⟨j, ⟨f, s⟩, r⟩
        rcases f with f | f
        · have i1 := flw_in a n i j f; unfold In at i1; omega
        · have i1 := flw_in b _ i j f; unfold In at i1
          rw [if_neg (by omega)] at r
          refine ⟨j, ⟨f, ?_⟩, r⟩
          rcases s with s | s
          · have := sgn_in a _ j c s; unfold In at this; omega
          · exact s
  | .ag a, n, i, c, w, h => by
    simp only [flw, sgn, res]
    rw [Cat.cons, Cat.congr (fun u => res_cons a n i c u h) (fun _ => Iff.rfl), Cat.exi, res_nil a n i h, Star.cons, Cat.congr (fun u => lg_cons a n c u) (fun _ => Iff.rfl), Cat.exi]
    constructor
    · rintro (⟨j, ⟨f, s⟩, r⟩ | ⟨z, j, ⟨f, s⟩, r⟩)
      · exact ⟨j, ⟨.inl f, s⟩, r⟩
      · exact ⟨j, ⟨.inr ⟨z, f⟩, s⟩, r⟩
    · rintro ⟨j, ⟨f | ⟨z, f⟩, s⟩, r⟩
      · exact .inl ⟨j, ⟨f, s⟩, r⟩
      · exact .inr ⟨z, j, ⟨f, s⟩, r⟩
  | .mo a, n, i, c, w, h => by
    simp only [flw, sgn, res]
    rw [Cat.cons, Cat.congr (fun u => res_cons a n i c u h) (fun _ => Iff.rfl), Cat.exi, res_nil a n i h, Star.cons, Cat.congr (fun u => lg_cons a n c u) (fun _ => Iff.rfl), Cat.exi]
    constructor
    · rintro (⟨j, ⟨f, s⟩, r⟩ | ⟨z, j, ⟨f, s⟩, r⟩)
      · exact ⟨j, ⟨.inl f, s⟩, r⟩
      · exact ⟨j, ⟨.inr ⟨z, f⟩, s⟩, r⟩
    · rintro ⟨j, ⟨f | ⟨z, f⟩, s⟩, r⟩
      · exact .inl ⟨j, ⟨f, s⟩, r⟩
      · exact .inr ⟨z, j, ⟨f, s⟩, r⟩
  | .mb a, n, i, c, w, h => res_cons a n i c w h
end K01
namespace K01
/-! ### what is due: rows of patterns, opened -/
def LgR : List Pa → List Nat → Prop
  | [], w => w = []
  | p :: r, w => Cat (Lg p) (LgR r) w
def opn : List Pa → List (List Pa)
  | [] => []
  | .sg _ :: _ => []
  | .em :: r => [r]
  | .th a b :: r => [a :: b :: r]
  | .or a b :: r => [a :: r, b :: r]
  | .ag a :: r => [a :: .ag a :: r, r]
  | .mo a :: r => [a :: .ag a :: r]
  | .mb a :: r => [a :: r, r]
def fin : List Pa → Bool
  | [] => true
  | .sg _ :: _ => true
  | _ => false
theorem opn_len : ∀ x, (opn x).length ≤ 2
  | [] => by simp [opn]
  | p :: r => by cases p <;> simp [opn]
theorem cat_nil_l {B : List Nat → Prop} {w : List Nat} : Cat (fun u => u = []) B w ↔ B w := by
  constructor
  · rintro ⟨u, v, rfl, rfl, h⟩; exact h
  · exact fun h => ⟨[], w, rfl, rfl, h⟩
theorem star_unfold {L : List Nat → Prop} {w : List Nat} : Star L w ↔ w = [] ∨ Cat L (Star L) w := by
  constructor
  · intro h
    cases h with
    | nil => exact .inl rfl
    | app x y => exact .inr ⟨_, _, rfl, x, y⟩
  · rintro (rfl | h)
    · exact .nil
    · exact h.star
theorem cat_or {A B C : List Nat → Prop} {w : List Nat} : Cat (fun u => A u ∨ B u) C w ↔ Cat A C w ∨ Cat B C w := by
  constructor
  · rintro ⟨u, v, e, h | h, k⟩
    · exact .inl ⟨u, v, e, h, k⟩
    · exact .inr ⟨u, v, e, h, k⟩
  · rintro (⟨u, v, e, h, k⟩ | ⟨u, v, e, h, k⟩)
    · exact ⟨u, v, e, .inl h, k⟩
    · exact ⟨u, v, e, .inr h, k⟩
/-- an opened row spells no more than the row -/
theorem opn_sound : ∀ (x y : List Pa) (w : List Nat), y ∈ opn x → LgR y w → LgR x w
  | [], y, w, h, _ => by simp [opn] at h
  | .sg l :: r, y, w, h, _ => by simp [opn] at h
  | .em :: r, y, w, h, k => by
    simp only [opn, List.mem_singleton] at h; subst h
    exact cat_nil_l.mpr k
  | .th a b :: r, y, w, h, k => by
    simp only [opn, List.mem_singleton] at h; subst h
    exact Cat.assoc.mpr k
  | .or a b :: r, y, w, h, k => by
    simp only [opn, List.mem_cons, List.not_mem_nil, or_false] at h
    refine cat_or.mpr ?_
    rcases h with rfl | rfl
    · exact .inl k
    · exact .inr k
  | .ag a :: r, y, w, h, k => by
    simp only [opn, List.mem_cons, List.not_mem_nil, or_false] at h
    rcases h with rfl | rfl
    · have q : Cat (Cat (Lg a) (Star (Lg a))) (LgR r) w := Cat.assoc.mpr k
      exact Cat.mono (fun u => Cat.star) (fun _ z => z) q
    · exact ⟨[], w, rfl, .nil, k⟩
  | .mo a :: r, y, w, h, k => by
    simp only [opn, List.mem_singleton] at h; subst h
    exact Cat.assoc.mpr k
  | .mb a :: r, y, w, h, k => by
    simp only [opn, List.mem_cons, List.not_mem_nil, or_false] at h
    refine cat_or.mpr ?_
    rcases h with rfl | rfl
    · exact .inr k
    · exact .inl (cat_nil_l.mpr k)
/-- rows closed under opening -/
def Clo (S : List Pa → Prop) : Prop := ∀ x, S x → ∀ y ∈ opn x, S y
section
variable {S : List Pa → Prop}
theorem clo_none (C : Clo S) : ∀ (p : Pa) (k : List Pa), nul p = true → S (p :: k) → S k
  | .sg l, k, h, _ => by simp [nul] at h
  | .em, k, h, s => C _ s _ (by simp [opn])
  | .th a b, k, h, s => by
    simp only [nul, Bool.and_eq_true] at h
    exact clo_none C b k h.2 (clo_none C a _ h.1 (C _ s _ (by simp [opn])))
  | .or a b, k, h, s => by
    simp only [nul, Bool.or_eq_true] at h
    rcases h with h | h
    · exact clo_none C a k h (C _ s _ (by simp [opn]))
    · exact clo_none C b k h (C _ s _ (by simp [opn]))
  | .ag a, k, h, s => C _ s _ (by simp [opn])
  | .mo a, k, h, s => by
    have s1 : S (.ag a :: k) := clo_none C a _ h (C _ s _ (by simp [opn]))
    exact C _ s1 _ (by simp [opn])
  | .mb a, k, h, s => C _ s _ (by simp [opn])
theorem clo_sign (C : Clo S) : ∀ (p : Pa) (c : Nat) (u : List Nat) (k : List Pa), Lg p (c :: u) → S (p :: k) → ∃ l r, S (.sg l :: r) ∧ c ∈ l ∧ ∀ v, LgR k v → LgR r (u ++ v)
  | .sg l, c, u, k, h, s => by
    obtain ⟨d, hd, e⟩ := h
    obtain ⟨rfl, rfl⟩ := List.cons.inj e
    exact ⟨l, k, s, hd, fun v hv => hv⟩
  | .em, c, u, k, h, s => by cases h
  | .th a b, c, u, k, h, s => by
    have s1 : S (a :: b :: k) := C _ s _ (by simp [opn])
    rcases Cat.cons.mp h with ⟨x, y, rfl, hx, hy⟩ | ⟨hx, hy⟩
    · obtain ⟨l, r, h1, h2, h3⟩ := clo_sign C a c x (b :: k) hx s1
      exact ⟨l, r, h1, h2, fun v hv => by rw [List.append_assoc]; exact h3 _ ⟨y, v, rfl, hy, hv⟩⟩
    · exact clo_sign C b c u k hy (clo_none C a _ ((nul_iff a).mpr hx) s1)
  | .or a b, c, u, k, h, s => by
    rcases h with h | h
    · exact clo_sign C a c u k h (C _ s _ (by simp [opn]))
    · exact clo_sign C b c u k h (C _ s _ (by simp [opn]))
  | .ag a, c, u, k, h, s => by
    have s1 : S (a :: .ag a :: k) := C _ s _ (by simp [opn])
    obtain ⟨x, y, rfl, hx, hy⟩ := Star.cons.mp h
    obtain ⟨l, r, h1, h2, h3⟩ := clo_sign C a c x (.ag a :: k) hx s1
    exact ⟨l, r, h1, h2, fun v hv => by rw [List.append_assoc]; exact h3 _ ⟨y, v, rfl, hy, hv⟩⟩
  | .mo a, c, u, k, h, s => by
    have s1 : S (a :: .ag a :: k) := C _ s _ (by simp [opn])
    have key : ∀ x y, Lg a (c :: x) → Star (Lg a) y → u = x ++ y → ∀ s2 : S (a :: .ag a :: k), ∃ l r, S (.sg l :: r) ∧ c ∈ l ∧ ∀ v, LgR k v → LgR r (u ++ v) := fun x y hx hy e s2 => by
      obtain ⟨l, r, h1, h2, h3⟩ := clo_sign C a c x (.ag a :: k) hx s2
      exact ⟨l, r, h1, h2, fun v hv => by rw [e, List.append_assoc]; exact h3 _ ⟨y, v, rfl, hy, hv⟩⟩
    rcases Cat.cons.mp h with ⟨x, y, e, hx, hy⟩ | ⟨hx, hy⟩
    · exact key x y hx hy e s1
    · obtain ⟨x, y, e, hx2, hy2⟩ := Star.cons.mp hy
      exact key x y hx2 hy2 e s1
  | .mb a, c, u, k, h, s => by
    rcases h with h | h
    · cases h
    · exact clo_sign C a c u k h (C _ s _ (by simp [opn]))
/-- what a row of a closed many spells, an opened one of them spells -/
theorem clo_fin (C : Clo S) : ∀ (x : List Pa) (w : List Nat), S x → LgR x w → ∃ t, S t ∧ fin t = true ∧ LgR t w
  | [], w, s, h => ⟨[], s, rfl, h⟩
  | p :: k, w, s, h => by
    obtain ⟨u, v, e, hu, hv⟩ := h
    cases u with
    | nil =>
      obtain ⟨t, h1, h2, h3⟩ := clo_fin C k v (clo_none C p k ((nul_iff p).mpr hu) s) hv
      exact ⟨t, h1, h2, by rw [e]; exact h3⟩
    | cons c u =>
      obtain ⟨l, r, h1, h2, h3⟩ := clo_sign C p c u k hu s
      exact ⟨_, h1, rfl, [c], u ++ v, by rw [e]; rfl, ⟨c, h2, rfl⟩, h3 v hv⟩
end
/-! ### the rows that can come up -/
def tls : List Pa → List (List Pa)
  | .sg _ :: r => [r]
  | _ => []
def cla : Pa → List (List Pa)
  | .sg l => [[.sg l], []]
  | .em => [[.em], []]
  | .th a b => [.th a b] :: ((cla a).map (· ++ [b]) ++ cla b)
  | .or a b => [.or a b] :: (cla a ++ cla b)
  | .ag a => [.ag a] :: [] :: (cla a).map (· ++ [.ag a])
  | .mo a => [.mo a] :: [] :: (cla a).map (· ++ [.ag a])
  | .mb a => [.mb a] :: [] :: cla a
def nod : Pa → Nat
  | .sg _ => 1
  | .em => 1
  | .th a b => nod a + nod b + 1
  | .or a b => nod a + nod b + 1
  | .ag a => nod a + 1
  | .mo a => nod a + 1
  | .mb a => nod a + 1
theorem cla_len : ∀ p, (cla p).length ≤ 3 * nod p
  | .sg l => by simp [cla, nod]
  | .em => by simp [cla, nod]
  | .th a b => by have := cla_len a; have := cla_len b; simp [cla, nod]; omega
  | .or a b => by have := cla_len a; have := cla_len b; simp [cla, nod]; omega
  | .ag a => by have := cla_len a; simp [cla, nod]; omega
  | .mo a => by have := cla_len a; simp [cla, nod]; omega
  | .mb a => by have := cla_len a; simp [cla, nod]; omega
theorem cla_self : ∀ p, [p] ∈ cla p := fun p => by cases p <;> simp [cla]
theorem cla_nil : ∀ p, [] ∈ cla p
  | .sg l => by simp [cla]
  | .em => by simp [cla]
  | .th a b => by simp [cla, cla_nil b]
  | .or a b => by simp [cla, cla_nil b]
  | .ag a => by simp [cla]
  | .mo a => by simp [cla]
  | .mb a => by simp [cla]
theorem opn_app : ∀ (x k : List Pa), x ≠ [] → opn (x ++ k) = (opn x).map (· ++ k)
  | [], k, h => absurd rfl h
  | p :: r, k, _ => by cases p <;> simp [opn]
theorem tls_app : ∀ (x k : List Pa), x ≠ [] → tls (x ++ k) = (tls x).map (· ++ k)
  | [], k, h => absurd rfl h
  | p :: r, k, _ => by cases p <;> simp [tls]
/-- further rows of one of them are of them -/
theorem cla_step : ∀ (p : Pa) (x y : List Pa), x ∈ cla p → (y ∈ opn x ∨ y ∈ tls x) → y ∈ cla p
  | .sg l, x, y, h, k => by
    simp only [cla, List.mem_cons, List.not_mem_nil, or_false] at h
    rcases h with rfl | rfl <;> simp [opn, tls] at k
    subst k; simp [cla]
  | .em, x, y, h, k => by
    simp only [cla, List.mem_cons, List.not_mem_nil, or_false] at h
    rcases h with rfl | rfl <;> simp [opn, tls] at k
    subst k; simp [cla]
  | .th a b, x, y, h, k => by
    simp only [cla, List.mem_cons, List.mem_append, List.mem_map] at h ⊢
    rcases h with rfl | ⟨z, hz, rfl⟩ | h
    · simp [opn, tls] at k
      exact .inr (.inl ⟨[a], cla_self a, k.symm⟩)
    · by_cases e : z = []
      · subst e
        exact .inr (.inr (cla_step b _ y (cla_self b) k))
      · rw [opn_app _ _ e, tls_app _ _ e, List.mem_map, List.mem_map] at k
        rcases k with ⟨t, ht, rfl⟩ | ⟨t, ht, rfl⟩
        · exact .inr (.inl ⟨t, cla_step a z t hz (.inl ht), rfl⟩)
        · exact .inr (.inl ⟨t, cla_step a z t hz (.inr ht), rfl⟩)
    · exact .inr (.inr (cla_step b x y h k))
  | .or a b, x, y, h, k => by
    simp only [cla, List.mem_cons, List.mem_append] at h ⊢
    rcases h with rfl | h | h
    · simp [opn, tls] at k
      rcases k with rfl | rfl
      · exact .inr (.inl (cla_self a))
      · exact .inr (.inr (cla_self b))
    · exact .inr (.inl (cla_step a x y h k))
    · exact .inr (.inr (cla_step b x y h k))
  | .ag a, x, y, h, k => by
    simp only [cla, List.mem_cons, List.mem_map] at h ⊢
    have self : ∀ y, (y ∈ opn [Pa.ag a] ∨ y ∈ tls [Pa.ag a]) → y = [Pa.ag a] ∨ y = [] ∨ ∃ z, z ∈ cla a ∧ z ++ [Pa.ag a] = y := fun y k => by
      simp [opn, tls] at k
      rcases k with rfl | rfl
      · exact .inr (.inr ⟨[a], cla_self a, rfl⟩)
      · exact .inr (.inl rfl)
    rcases h with rfl | rfl | ⟨z, hz, rfl⟩
    · exact self y k
    · simp [opn, tls] at k
    · by_cases e : z = []
      · subst e
        exact self y k
      · rw [opn_app _ _ e, tls_app _ _ e, List.mem_map, List.mem_map] at k
        rcases k with ⟨t, ht, rfl⟩ | ⟨t, ht, rfl⟩
        · exact .inr (.inr ⟨t, cla_step a z t hz (.inl ht), rfl⟩)
        · exact .inr (.inr ⟨t, cla_step a z t hz (.inr ht), rfl⟩)
  | .mo a, x, y, h, k => by
    simp only [cla, List.mem_cons, List.mem_map] at h ⊢
    rcases h with rfl | rfl | ⟨z, hz, rfl⟩
    · simp [opn, tls] at k
      subst k
      exact .inr (.inr ⟨[a], cla_self a, rfl⟩)
    · simp [opn, tls] at k
    · by_cases e : z = []
      · subst e
        simp [opn, tls] at k
        rcases k with rfl | rfl
        · exact .inr (.inr ⟨[a], cla_self a, rfl⟩)
        · exact .inr (.inl rfl)
      · rw [opn_app _ _ e, tls_app _ _ e, List.mem_map, List.mem_map] at k
        rcases k with ⟨t, ht, rfl⟩ | ⟨t, ht, rfl⟩
        · exact .inr (.inr ⟨t, cla_step a z t hz (.inl ht), rfl⟩)
        · exact .inr (.inr ⟨t, cla_step a z t hz (.inr ht), rfl⟩)
  | .mb a, x, y, h, k => by
    simp only [cla, List.mem_cons] at h ⊢
    rcases h with rfl | rfl | h
    · simp [opn, tls] at k
      rcases k with rfl | rfl
      · exact .inr (.inr (cla_self a))
      · exact .inr (.inl rfl)
    · simp [opn, tls] at k
    · exact .inr (.inr (cla_step a x y h k))
/-! ### opening: a stack, and what was seen -/
structure Opened (U start owes seen found : List (List Pa)) : Prop where
  nd : seen.Nodup
  fd : found = seen.filter fin
  inU : ∀ x, x ∈ seen ∨ x ∈ owes → x ∈ U
  cl : ∀ x ∈ seen, ∀ y ∈ opn x, y ∈ seen ∨ y ∈ owes
  st : ∀ x ∈ start, x ∈ seen ∨ x ∈ owes
  snd : ∀ x, x ∈ seen ∨ x ∈ owes → ∀ w, LgR x w → ∃ s ∈ start, LgR s w
theorem opened_start {U start : List (List Pa)} (h : ∀ x ∈ start, x ∈ U) : Opened U start start [] [] where
  nd := List.nodup_nil
  fd := rfl
  inU := fun x hx => h x (hx.elim (fun z => nomatch z) id)
  cl := fun _ h => nomatch h
  st := fun _ h => .inr h
  snd := fun x hx w l => ⟨x, hx.elim (fun z => nomatch z) id, l⟩
theorem opened_old {U start owes seen found : List (List Pa)} {x : List Pa} (I : Opened U start (owes ++ [x]) seen found) (h : x ∈ seen) : Opened U start owes seen found := by
  have mem : ∀ y, y ∈ seen ∨ y ∈ owes ++ [x] → y ∈ seen ∨ y ∈ owes := fun y hy => by
    rcases hy with hy | hy
    · exact .inl hy
    · rcases List.mem_append.mp hy with q | q
      · exact .inr q
      · rw [List.mem_singleton.mp q]; exact .inl h
  have mem2 : ∀ y, y ∈ seen ∨ y ∈ owes → y ∈ seen ∨ y ∈ owes ++ [x] := fun y hy => hy.imp id fun z => List.mem_append_left _ z
  exact ⟨I.nd, I.fd, fun y hy => I.inU y (mem2 y hy), fun y hy z hz => mem z (I.cl y hy z hz), fun y hy => mem y (I.st y hy), fun y hy => I.snd y (mem2 y hy)⟩
theorem opened_new {U start owes seen found : List (List Pa)} {x : List Pa} (CU : ∀ x ∈ U, ∀ y ∈ opn x, y ∈ U) (I : Opened U start (owes ++ [x]) seen found) (h : x ∉ seen) :
    Opened U start (owes ++ opn x) (seen ++ [x]) (if fin x = true then found ++ [x] else found) := by
  have xU : x ∈ U := I.inU x (.inr (List.mem_append_right _ (List.mem_singleton.mpr rfl)))
  have mem : ∀ y, y ∈ seen ∨ y ∈ owes ++ [x] → y ∈ seen ++ [x] ∨ y ∈ owes ++ opn x := fun y hy => by
    rcases hy with hy | hy
    · exact .inl (List.mem_append_left _ hy)
    · rcases List.mem_append.mp hy with q | q
      · exact .inr (List.mem_append_left _ q)
      · exact .inl (List.mem_append_right _ q)
  have old : ∀ y, y ∈ seen ++ [x] ∨ y ∈ owes ++ opn x → (y ∈ seen ∨ y ∈ owes ++ [x]) ∨ y ∈ opn x := fun y hy => by
    rcases hy with hy | hy
    · rcases List.mem_append.mp hy with q | q
      · exact .inl (.inl q)
      · exact .inl (.inr (List.mem_append_right _ q))
    · rcases List.mem_append.mp hy with q | q
      · exact .inl (.inr (List.mem_append_left _ q))
      · exact .inr q
  refine ⟨?_, ?_, fun y hy => ?_, fun y hy z hz => ?_, fun y hy => mem y (I.st y hy), fun y hy w l => ?_⟩
  · refine List.nodup_append.mpr ⟨I.nd, by simp, fun a ha b hb => ?_⟩
    rw [List.mem_singleton.mp hb]
    exact fun e => h (e ▸ ha)
  · rw [List.filter_append, I.fd]
    cases q : fin x <;> simp [q]
  · rcases old y hy with q | q
    · exact I.inU y q
    · exact CU x xU y q
  · rcases List.mem_append.mp hy with q | q
    · exact mem z (I.cl y q z hz)
    · rw [List.mem_singleton.mp q] at hz
      exact .inr (List.mem_append_right _ hz)
  · rcases old y hy with q | q
    · exact I.snd y q w l
    · exact I.snd x (.inr (List.mem_append_right _ (List.mem_singleton.mpr rfl))) w (opn_sound x y w q l)
/-- at the end: what was opened spells just what was due -/
theorem opened_end {U start seen found : List (List Pa)} (I : Opened U start [] seen found) (w : List Nat) : (∃ t ∈ found, LgR t w) ↔ ∃ s ∈ start, LgR s w := by
  constructor
  · rintro ⟨t, ht, l⟩
    rw [I.fd] at ht
    exact I.snd t (.inl (List.mem_filter.mp ht).1) w l
  · rintro ⟨s, hs, l⟩
    have C : Clo (fun x => x ∈ seen) := fun x hx y hy => (I.cl x hx y hy).elim id fun z => nomatch z
    obtain ⟨t, h1, h2, h3⟩ := clo_fin C s w ((I.st s hs).elim id fun z => nomatch z) l
    exact ⟨t, by rw [I.fd]; exact List.mem_filter.mpr ⟨h1, h2⟩, h3⟩
theorem opened_fin {U start owes seen found : List (List Pa)} (I : Opened U start owes seen found) : ∀ t ∈ found, fin t = true := fun t ht => by
  rw [I.fd] at ht; exact (List.mem_filter.mp ht).2
theorem opened_few {U start owes seen found : List (List Pa)} (I : Opened U start owes seen found) : seen.length ≤ U.length ∧ found.length ≤ U.length := by
  have h1 : seen.length ≤ U.length := (List.subset_def.mpr fun {x} hx => I.inU x (.inl hx)) |> I.nd.length_le_of_subset
  refine ⟨h1, ?_⟩
  rw [I.fd]
  exact Nat.le_trans (List.length_filter_le _ _) h1
/-- a sign led over what is opened -/
theorem led_sign {found : List (List Pa)} (hf : ∀ t ∈ found, fin t = true) (c : Nat) (w : List Nat) : (∃ t ∈ found, LgR t (c :: w)) ↔ ∃ s, (∃ l, .sg l :: s ∈ found ∧ c ∈ l) ∧ LgR s w := by
  constructor
  · rintro ⟨t, ht, l⟩
    have f := hf t ht
    match t, f with
    | [], _ => cases l
    | .sg m :: s, _ =>
      obtain ⟨u, v, e, ⟨d, hd, rfl⟩, hv⟩ := l
      obtain ⟨rfl, rfl⟩ := List.cons.inj e
      exact ⟨s, ⟨_, ht, hd⟩, hv⟩
  · rintro ⟨s, ⟨l, h, hc⟩, k⟩
    exact ⟨_, h, [c], w, rfl, ⟨c, hc, rfl⟩, k⟩
theorem fin_nil {found : List (List Pa)} (hf : ∀ t ∈ found, fin t = true) : (∃ t ∈ found, LgR t []) ↔ [] ∈ found := by
  constructor
  · rintro ⟨t, ht, l⟩
    have f := hf t ht
    match t, f with
    | [], _ => exact ht
    | .sg m :: s, _ =>
      obtain ⟨u, v, e, ⟨d, hd, rfl⟩, hv⟩ := l
      cases e
  · exact fun h => ⟨[], h, rfl⟩
end K01
namespace K01
/-! ### the least text, the only one -/
/-- shorter, or as long and less sign by sign -/
def sl (u v : List Nat) : Prop := u.length < v.length ∨ (u.length = v.length ∧ u < v)
instance : DecidableRel sl := fun u v => by unfold sl; exact inferInstance
theorem sl_irr (u : List Nat) : ¬ sl u u := fun h => by
  rcases h with h | ⟨_, h⟩
  · exact Nat.lt_irrefl _ h
  · exact List.lt_irrefl u h
theorem sl_not {u v : List Nat} : ¬ sl u v ↔ v.length < u.length ∨ (v.length = u.length ∧ v ≤ u) := by
  unfold sl
  constructor
  · intro h
    rcases Nat.lt_trichotomy u.length v.length with k | k | k
    · exact absurd (.inl k) h
    · exact .inr ⟨k.symm, fun l => h (.inr ⟨k, l⟩)⟩
    · exact .inl k
  · rintro (h | ⟨h, k⟩) (l | ⟨l, m⟩)
    · omega
    · omega
    · omega
    · exact k m
theorem sl_total {u v : List Nat} (h : ¬ sl u v) (k : ¬ sl v u) : u = v := by
  rcases sl_not.mp h with a | ⟨a, b⟩
  · exact absurd (.inl a) k
  · rcases sl_not.mp k with c | ⟨c, d⟩
    · omega
    · exact List.le_antisymm d b
theorem sl_trans_le {u v w : List Nat} (h : ¬ sl v u) (k : ¬ sl w v) : ¬ sl w u := by
  rcases sl_not.mp h with a | ⟨a, b⟩ <;> rcases sl_not.mp k with c | ⟨c, d⟩ <;> refine sl_not.mpr ?_
  · exact .inl (by omega)
  · exact .inl (by omega)
  · exact .inl (by omega)
  · exact .inr ⟨by omega, List.le_trans b d⟩
theorem append_le {a b c d : List Nat} (h : a.length = b.length) (k : a ≤ b) (l : c ≤ d) : a ++ c ≤ b ++ d := by
  induction a generalizing b with
  | nil =>
    cases b with
    | nil => exact l
    | cons y b => cases h
  | cons x a ih =>
    cases b with
    | nil => cases h
    | cons y b =>
      rw [List.cons_append, List.cons_append]
      rcases List.cons_le_cons_iff.mp k with e | ⟨e, f⟩
      · exact List.cons_le_cons_iff.mpr (.inl e)
      · exact List.cons_le_cons_iff.mpr (.inr ⟨e, ih (by simpa using h) f⟩)
theorem sl_append {a b c d : List Nat} (h : ¬ sl b a) (k : ¬ sl d c) : ¬ sl (b ++ d) (a ++ c) := by
  rcases sl_not.mp h with x | ⟨x, y⟩ <;> rcases sl_not.mp k with z | ⟨z, t⟩ <;> refine sl_not.mpr ?_
  · exact .inl (by rw [List.length_append, List.length_append]; omega)
  · exact .inl (by rw [List.length_append, List.length_append]; omega)
  · exact .inl (by rw [List.length_append, List.length_append]; omega)
  · exact .inr ⟨by rw [List.length_append, List.length_append]; omega, append_le x y t⟩
theorem sl_nil (u : List Nat) : ¬ sl u [] := fun h => by
  rcases h with h | ⟨_, h⟩
  · exact absurd h (Nat.not_lt_zero _)
  · exact List.not_lt_nil _ h
/-- texts of signs aren't empty, and rise -/
def Wf : Pa → Prop
  | .sg l => l ≠ [] ∧ l.Pairwise (· ≤ ·)
  | .em => True
  | .th a b => Wf a ∧ Wf b
  | .or a b => Wf a ∧ Wf b
  | .ag a => Wf a
  | .mo a => Wf a
  | .mb a => Wf a
def least : Pa → List Nat
  | .sg l => [l.headD 0]
  | .em => []
  | .th a b => least a ++ least b
  | .or a b => if sl (least a) (least b) then least a else least b
  | .ag _ => []
  | .mo a => least a
  | .mb _ => []
theorem least_in : ∀ p, Wf p → Lg p (least p)
  | .sg l, h => by
    cases l with
    | nil => exact absurd rfl h.1
    | cons c l => exact ⟨c, List.mem_cons_self, rfl⟩
  | .em, _ => rfl
  | .th a b, h => ⟨_, _, rfl, least_in a h.1, least_in b h.2⟩
  | .or a b, h => by
    show Lg (.or a b) (if sl (least a) (least b) then least a else least b)
    by_cases q : sl (least a) (least b)
    · rw [if_pos q]; exact .inl (least_in a h.1)
    · rw [if_neg q]; exact .inr (least_in b h.2)
  | .ag _, _ => .nil
  | .mo a, h => ⟨least a, [], (List.append_nil _).symm, least_in a h, .nil⟩
  | .mb _, _ => .inl rfl
theorem least_le : ∀ (p : Pa) (w : List Nat), Wf p → Lg p w → ¬ sl w (least p)
  | .sg l, w, h, k => by
    obtain ⟨c, hc, rfl⟩ := k
    cases l with
    | nil => cases hc
    | cons d l =>
      refine sl_not.mpr (.inr ⟨rfl, ?_⟩)
      show [d] ≤ [c]
      rcases List.mem_cons.mp hc with e | e
      · rw [e]; exact List.le_refl _
      · have q := (List.pairwise_cons.mp h.2).1 c e
        rcases Nat.lt_or_ge d c with z | z
        · exact List.cons_le_cons_iff.mpr (.inl z)
        · rw [show c = d by omega]; exact List.le_refl _
  | .em, w, _, k => by rw [show w = [] from k]; exact sl_irr _
  | .th a b, w, h, ⟨u, v, e, hu, hv⟩ => by
    rw [e]
    exact sl_append (least_le a u h.1 hu) (least_le b v h.2 hv)
  | .or a b, w, h, k => by
    have la : ¬ sl (least a) (least (.or a b)) := by
      show ¬ sl (least a) (if sl (least a) (least b) then least a else least b)
      by_cases q : sl (least a) (least b)
      · rw [if_pos q]; exact sl_irr _
      · rw [if_neg q]; exact q
    have lb : ¬ sl (least b) (least (.or a b)) := by
      show ¬ sl (least b) (if sl (least a) (least b) then least a else least b)
      by_cases q : sl (least a) (least b)
      · rw [if_pos q]
        intro z
        rcases q with q | ⟨q, r⟩ <;> rcases z with z | ⟨z, t⟩
        · omega
        · omega
        · omega
        · exact List.lt_irrefl _ (List.lt_trans r t)
      · rw [if_neg q]; exact sl_irr _
    rcases k with k | k
    · exact sl_trans_le la (least_le a w h.1 k)
    · exact sl_trans_le lb (least_le b w h.2 k)
  | .ag _, w, _, _ => sl_nil w
  | .mo a, w, h, ⟨u, v, e, hu, hv⟩ => by
    rw [e]
    have := sl_append (c := []) (d := v) (least_le a u h hu) (sl_nil v)
    rw [List.append_nil] at this
    exact this
  | .mb _, w, _, _ => sl_nil w
def only : Pa → Option (List Nat)
  | .sg l => if l.length = 1 then some l else Option.none
  | .em => some []
  | .th a b => match only a, only b with
    | some u, some v => some (u ++ v)
    | _, _ => Option.none
  | .or a b => if only a = only b then only a else Option.none
  | .ag a => if only a = some [] then some [] else Option.none
  | .mo a => if only a = some [] then some [] else Option.none
  | .mb a => if only a = some [] then some [] else Option.none
theorem only_least : ∀ (p : Pa) (t : List Nat), only p = some t → least p = t
  | .sg l, t, h => by
    unfold only at h
    split at h
    · next q =>
      cases h
      match l, q with
      | [c], _ => rfl
    · cases h
  | .em, t, h => by cases h; rfl
  | .th a b, t, h => by
    unfold only at h
    cases ha : only a with
    | none => rw [ha] at h; cases h
    | some u =>
      cases hb : only b with
      | none => rw [ha, hb] at h; cases h
      | some v =>
        rw [ha, hb] at h
        cases h
        show least a ++ least b = _
        rw [only_least a u ha, only_least b v hb]
  | .or a b, t, h => by
    unfold only at h
    split at h
    · next q =>
      have e1 := only_least a t h
      have e2 := only_least b t (q ▸ h)
      show (if sl (least a) (least b) then least a else least b) = t
      rw [e1, e2, ite_self]
    · cases h
  | .ag a, t, h => by
    unfold only at h
    split at h
    · cases h; rfl
    · cases h
  | .mo a, t, h => by
    unfold only at h
    split at h
    · next q => cases h; exact only_least a [] q
    · cases h
  | .mb a, t, h => by
    unfold only at h
    split at h
    · cases h; rfl
    · cases h
end K01
namespace K01
open PySem
/-! ### whole numbers as sets of places -/
theorem tb_double (a i : Nat) : (2 * a).testBit (i + 1) = a.testBit i := by
  rw [Nat.testBit_succ, Nat.mul_div_cancel_left _ (by decide)]
theorem tb_double1 (a i : Nat) : (2 * a + 1).testBit (i + 1) = a.testBit i := by
  rw [Nat.testBit_succ, show (2 * a + 1) / 2 = a by omega]
theorem tb_double0 (a : Nat) : (2 * a).testBit 0 = false := by
  rw [Nat.testBit_zero, show 2 * a % 2 = 0 by omega]; rfl
theorem tb_double10 (a : Nat) : (2 * a + 1).testBit 0 = true := by
  rw [Nat.testBit_zero, show (2 * a + 1) % 2 = 1 by omega]; rfl
theorem low_bit : ∀ m : Nat, m ≠ 0 → ∃ k, m &&& (m - 1) = m - 2 ^ k ∧ 2 ^ k ≤ m ∧ m.testBit k = true ∧ ∀ i, (m - 2 ^ k).testBit i = (m.testBit i && decide (i ≠ k)) := by
  intro m
  induction m using Nat.strongRecOn with
  | _ m ih =>
    intro h
    rcases Nat.mod_two_eq_zero_or_one m with e | e
    · obtain ⟨a, rfl⟩ : ∃ a, m = 2 * a := ⟨m / 2, by omega⟩
      have ha : a ≠ 0 := by omega
      obtain ⟨k, h1, h2, h3, h4⟩ := ih a (by omega) ha
      have e2 : 2 * a - 1 = 2 * (a - 1) + 1 := by omega
      have p2 : 2 ^ (k + 1) = 2 * 2 ^ k := by rw [Nat.pow_succ]; omega
      refine ⟨k + 1, ?_, by omega, by rw [tb_double]; exact h3, fun i => ?_⟩
      · have e3 : 2 * a &&& (2 * a - 1) = 2 * (a &&& (a - 1)) := by
          rw [e2]
          refine Nat.eq_of_testBit_eq fun i => ?_
          cases i with
          | zero => rw [Nat.testBit_and, tb_double0, tb_double0]; rfl
          | succ i => rw [Nat.testBit_and, tb_double, tb_double, tb_double1, Nat.testBit_and]
        rw [e3, h1, p2]
        omega
      · rw [show 2 * a - 2 ^ (k + 1) = 2 * (a - 2 ^ k) by omega]
        cases i with
        | zero => rw [tb_double0, tb_double0]; rfl
        | succ i =>
          rw [tb_double, tb_double, h4 i]
          congr 1
          exact decide_eq_decide.mpr ⟨fun q r => q (by omega), fun q r => q (by omega)⟩
    · obtain ⟨a, rfl⟩ : ∃ a, m = 2 * a + 1 := ⟨m / 2, by omega⟩
      refine ⟨0, ?_, by omega, tb_double10 a, fun i => ?_⟩
      · rw [show 2 * a + 1 - 1 = 2 * a by omega]
        refine Nat.eq_of_testBit_eq fun i => ?_
        cases i with
        | zero => rw [Nat.testBit_and, tb_double0, Bool.and_false]
        | succ i => rw [Nat.testBit_and, tb_double, tb_double1, Bool.and_self]
      · rw [show 2 * a + 1 - 2 ^ 0 = 2 * a by omega]
        cases i with
        | zero => rw [tb_double0]; simp
        | succ i => rw [tb_double, tb_double1]; simp
theorem and_low {m : Nat} (h : m ≠ 0) : ∃ k, Builtin.bitAnd (m : Int) (-(m : Int)) = ((2 ^ k : Nat) : Int) ∧ 2 ^ k ≤ m ∧ m.testBit k = true ∧ ∀ i, (m - 2 ^ k).testBit i = (m.testBit i && decide (i ≠ k)) := by
  obtain ⟨k, h1, h2, h3, h4⟩ := low_bit m h
  refine ⟨k, ?_, h2, h3, h4⟩
  unfold Builtin.bitAnd
  rw [decide_eq_true (show (0 : Int) ≤ (m : Int) by omega), decide_eq_false (show ¬ (0 : Int) ≤ -(m : Int) by omega)]
  show (m : Int) - (((m : Int).toNat &&& (Builtin.bitNot (-(m : Int))).toNat : Nat) : Int) = _
  have e : (Builtin.bitNot (-(m : Int))).toNat = m - 1 := by
    unfold Builtin.bitNot
    omega
  rw [e, Int.toNat_natCast, h1]
  omega
theorem bits_pow (k : Nat) : Builtin.Int.intBits ((2 ^ k : Nat) : Int) = k + 1 := by
  unfold Builtin.Int.intBits
  have p := Nat.two_pow_pos k
  have z : ¬ ((((2 ^ k : Nat) : Int) == 0) = true) := by
    rw [beq_iff_eq]
    omega
  rw [if_neg z]
  show (2 ^ k : Nat).log2 + 1 = k + 1
  rw [Nat.log2_two_pow]
theorem or_nat (a b : Nat) : Builtin.bitOr (a : Int) (b : Int) = ((a ||| b : Nat) : Int) := by
  rw [Bits.bitOr_pp (by omega) (by omega), Int.toNat_natCast, Int.toNat_natCast]
theorem and_nat (a b : Nat) : Builtin.bitAnd (a : Int) (b : Int) = ((a &&& b : Nat) : Int) := by
  unfold Builtin.bitAnd
  rw [decide_eq_true (show (0 : Int) ≤ (a : Int) by omega), decide_eq_true (show (0 : Int) ≤ (b : Int) by omega)]
  rfl
/-- the places of a number, in some order, each once -/
structure Nums (m : Nat) (ds : List Nat) : Prop where
  nd : ds.Nodup
  iff : ∀ i, i ∈ ds ↔ m.testBit i = true
/-- part way: those found, and what is left -/
structure NumsTo (m r : Nat) (ds : List Nat) : Prop where
  nd : ds.Nodup
  iff : ∀ i, m.testBit i = true ↔ i ∈ ds ∨ r.testBit i = true
  off : ∀ i ∈ ds, r.testBit i = false
theorem NumsTo.start (m : Nat) : NumsTo m m [] := ⟨List.nodup_nil, fun i => by simp, fun _ h => nomatch h⟩
theorem NumsTo.step {m r k : Nat} {ds : List Nat} (h : NumsTo m r ds) (hk : r.testBit k = true) (hr : ∀ i, (r - 2 ^ k).testBit i = (r.testBit i && decide (i ≠ k))) : NumsTo m (r - 2 ^ k) (ds ++ [k]) := by
  have nk : k ∉ ds := fun z => by have := h.off k z; rw [hk] at this; cases this
  refine ⟨?_, fun i => ?_, fun i hi => ?_⟩
  · refine List.nodup_append.mpr ⟨h.nd, by simp, fun a ha b hb => ?_⟩
    rw [List.mem_singleton.mp hb]
    exact fun e => nk (e ▸ ha)
  · rw [h.iff i, hr i, Bool.and_eq_true, decide_eq_true_eq, List.mem_append, List.mem_singleton]
    constructor
    · rintro (z | z)
      · exact .inl (.inl z)
      · by_cases e : i = k
        · exact .inl (.inr e)
        · exact .inr ⟨z, e⟩
    · rintro ((z | z) | ⟨z, _⟩)
      · exact .inl z
      · exact .inr (z ▸ hk)
      · exact .inr z
  · rw [hr i]
    rcases List.mem_append.mp hi with z | z
    · rw [h.off i z]; rfl
    · rw [List.mem_singleton.mp z]; simp
theorem NumsTo.end_ {m : Nat} {ds : List Nat} (h : NumsTo m 0 ds) : Nums m ds := ⟨h.nd, fun i => by rw [h.iff i]; simp⟩
theorem Nums.len {m B : Nat} {ds : List Nat} (h : Nums m ds) (hb : m < 2 ^ B) : ds.length ≤ B := by
  have s : ds ⊆ List.range B := fun i hi => by
    rw [List.mem_range]
    refine Classical.byContradiction fun z => ?_
    have := Nat.testBit_lt_two_pow (x := m) (i := i) (Nat.lt_of_lt_of_le hb (Nat.pow_le_pow_right (by decide) (by omega)))
    rw [(h.iff i).mp hi] at this
    cases this
  have := h.nd.length_le_of_subset s
  rwa [List.length_range] at this
theorem NumsTo.len {m r B : Nat} {ds : List Nat} (h : NumsTo m r ds) (hb : m < 2 ^ B) : ds.length ≤ B := by
  have s : ds ⊆ List.range B := fun i hi => by
    rw [List.mem_range]
    refine Classical.byContradiction fun z => ?_
    have := Nat.testBit_lt_two_pow (x := m) (i := i) (Nat.lt_of_lt_of_le hb (Nat.pow_le_pow_right (by decide) (by omega)))
    rw [(h.iff i).mpr (.inl hi)] at this
    cases this
  have := h.nd.length_le_of_subset s
  rwa [List.length_range] at this
/-- links: at the places of la, fi more -/
def lnk (bh : List Nat) (ds : List Nat) (fi : Nat) : List Nat := bh.mapIdx fun i b => if i ∈ ds then b ||| fi else b
theorem lnk_len (bh ds : List Nat) (fi : Nat) : (lnk bh ds fi).length = bh.length := by unfold lnk; simp
theorem lnk_nil (bh : List Nat) (fi : Nat) : lnk bh [] fi = bh := by
  unfold lnk
  refine List.ext_getElem (by simp) fun i h1 h2 => by simp
theorem lnk_step {bh ds : List Nat} {fi k : Nat} (h : k ∉ ds) (hk : k < bh.length) : (lnk bh ds fi).set k ((lnk bh ds fi)[k]'(by rw [lnk_len]; exact hk) ||| fi) = lnk bh (ds ++ [k]) fi := by
  refine List.ext_getElem (by simp [lnk]) fun i h1 h2 => ?_
  rw [List.getElem_set]
  unfold lnk
  by_cases e : k = i
  · subst e
    simp [h]
  · rw [if_neg e]
    simp only [List.getElem_mapIdx, List.mem_append, List.mem_singleton]
    have : ¬ i = k := fun q => e q.symm
    simp [this]
end K01
namespace K01
/-! ### what laying a pattern leaves -/
structure Laid (p : Pa) (n : Nat) (sg : List (List Nat)) (bh : List Nat) (sg' : List (List Nat)) (bh' : List Nat) (F La : Nat) : Prop where
  hs : sg.length = n
  hb : bh.length = n
  sgs : sg' = sg ++ sgs p
  len : bh'.length = n + size p
  old : ∀ i, i < n → bh'[i]? = bh[i]?
  new : ∀ i b, n ≤ i → bh'[i]? = some b → ∀ j, b.testBit j = true ↔ flw p n i j
  F : ∀ j, F.testBit j = true ↔ fst p n j
  La : ∀ j, La.testBit j = true ↔ lst p n j
theorem two_bit (n j : Nat) : (2 ^ n).testBit j = true ↔ j = n := by
  rw [Nat.testBit_two_pow, decide_eq_true_eq]
  exact ⟨fun h => h.symm, fun h => h.symm⟩
section
variable {a b : Pa} {n : Nat} {sg sg' sg'' : List (List Nat)} {bh bh' bh'' : List Nat} {F La Fb Lb : Nat} {ds : List Nat}
theorem laid_sg {l : List Nat} (hs : sg.length = n) (hb : bh.length = n) : Laid (.sg l) n sg bh (sg ++ [l]) (bh ++ [0]) (2 ^ n) (2 ^ n) where
  hs := hs
  hb := hb
  sgs := rfl
  len := by rw [List.length_append, hb]; rfl
  old := fun i hi => List.getElem?_append_left (by omega)
  new := fun i b hi h j => by
    rw [List.getElem?_append_right (by omega)] at h
    have e : i - bh.length = 0 := by
      refine Classical.byContradiction fun z => ?_
      rw [List.getElem?_eq_none (by simp; omega)] at h
      cases h
    rw [e] at h
    cases h
    simp [flw]
  F := fun j => two_bit n j
  La := fun j => two_bit n j
theorem laid_em (hs : sg.length = n) (hb : bh.length = n) : Laid .em n sg bh sg bh 0 0 where
  hs := hs
  hb := hb
  sgs := (List.append_nil _).symm
  len := hb
  old := fun i hi => rfl
  new := fun i b hi h j => by
    rw [List.getElem?_eq_none (by omega)] at h
    cases h
  F := fun j => by simp [fst]
  La := fun j => by simp [lst]
theorem laid_mb (h : Laid a n sg bh sg' bh' F La) : Laid (.mb a) n sg bh sg' bh' F La :=
  ⟨h.hs, h.hb, h.sgs, h.len, h.old, h.new, h.F, h.La⟩
theorem Laid.in_La (h : Laid a n sg bh sg' bh' F La) {i : Nat} (hi : La.testBit i = true) : n ≤ i ∧ i < n + size a := lst_in a n i ((h.La i).mp hi)
theorem lnk_get (bh ds : List Nat) (fi i : Nat) : (lnk bh ds fi)[i]? = (bh[i]?).map fun b => if i ∈ ds then b ||| fi else b := by
  unfold lnk
  rw [List.getElem?_mapIdx]
theorem or_bit (x y j : Nat) : (x ||| y).testBit j = true ↔ x.testBit j = true ∨ y.testBit j = true := by
  rw [Nat.testBit_or, Bool.or_eq_true]
theorem laid_link (h : Laid a n sg bh sg' bh' F La) (hd : Nums La ds) (i b : Nat) (hi : n ≤ i) (e : (lnk bh' ds F)[i]? = some b) (j : Nat) : b.testBit j = true ↔ flw a n i j ∨ (lst a n i ∧ fst a n j) := by
  rw [lnk_get] at e
  cases q : bh'[i]? with
  | none => rw [q] at e; cases e
  | some x =>
    rw [q] at e
    have e2 : (if i ∈ ds then x ||| F else x) = b := Option.some.inj e
    have fx := h.new i x hi q j
    by_cases k : i ∈ ds
    · rw [if_pos k] at e2
      rw [← e2, or_bit, fx, h.F j]
      have l : lst a n i := (h.La i).mp ((hd.iff i).mp k)
      exact ⟨fun z => z.imp id fun y => ⟨l, y⟩, fun z => z.imp id fun y => y.2⟩
    · rw [if_neg k] at e2
      rw [← e2, fx]
      constructor
      · exact .inl
      · rintro (z | ⟨z, _⟩)
        · exact z
        · exact absurd ((hd.iff i).mpr ((h.La i).mpr z)) k
theorem laid_ag (h : Laid a n sg bh sg' bh' F La) (hd : Nums La ds) : Laid (.ag a) n sg bh sg' (lnk bh' ds F) F La where
  hs := h.hs
  hb := h.hb
  sgs := h.sgs
  len := by rw [lnk_len]; exact h.len
  old := fun i hi => by
    have k : i ∉ ds := fun z => by have := h.in_La ((hd.iff i).mp z); omega
    rw [lnk_get, h.old i hi]
    simp [k]
  new := fun i b hi e j => laid_link h hd i b hi e j
  F := h.F
  La := h.La
theorem laid_mo (h : Laid a n sg bh sg' bh' F La) (hd : Nums La ds) : Laid (.mo a) n sg bh sg' (lnk bh' ds F) F La :=
  have k := laid_ag h hd
  ⟨k.hs, k.hb, k.sgs, k.len, k.old, k.new, k.F, k.La⟩
theorem laid_or (h : Laid a n sg bh sg' bh' F La) (k : Laid b (n + size a) sg' bh' sg'' bh'' Fb Lb) : Laid (.or a b) n sg bh sg'' bh'' (F ||| Fb) (La ||| Lb) where
  hs := h.hs
  hb := h.hb
  sgs := by rw [k.sgs, h.sgs, List.append_assoc]; rfl
  len := by rw [k.len]; simp only [size]; omega
  old := fun i hi => (k.old i (by omega)).trans (h.old i hi)
  new := fun i x hi e j => by
    by_cases q : i < n + size a
    · rw [k.old i q] at e
      refine (h.new i x hi e j).trans ⟨.inl, ?_⟩
      rintro (z | z)
      · exact z
      · have := flw_in b _ i j z; unfold In at this; omega
    · refine (k.new i x (by omega) e j).trans ⟨.inr, ?_⟩
      rintro (z | z)
      · have := flw_in a _ i j z; unfold In at this; omega
      · exact z
  F := fun j => by rw [or_bit, h.F j, k.F j]; rfl
  La := fun j => by rw [or_bit, h.La j, k.La j]; rfl
theorem laid_th (h : Laid a n sg bh sg' bh' F La) (k : Laid b (n + size a) sg' bh' sg'' bh'' Fb Lb) (hd : Nums La ds) :
    Laid (.th a b) n sg bh sg'' (lnk bh'' ds Fb) (if nul a = true then F ||| Fb else F) (if nul b = true then Lb ||| La else Lb) where
  hs := h.hs
  hb := h.hb
  sgs := by rw [k.sgs, h.sgs, List.append_assoc]; rfl
  len := by rw [lnk_len, k.len]; simp only [size]; omega
  old := fun i hi => by
    have z : i ∉ ds := fun z => by have := h.in_La ((hd.iff i).mp z); omega
    rw [lnk_get, k.old i (by omega), h.old i hi]
    simp [z]
  new := fun i x hi e j => by
    rw [lnk_get] at e
    cases q : bh''[i]? with
    | none => rw [q] at e; cases e
    | some y =>
      rw [q] at e
      have e2 : (if i ∈ ds then y ||| Fb else y) = x := Option.some.inj e
      have inds : i ∈ ds ↔ lst a n i := (hd.iff i).trans (h.La i)
      have fy : y.testBit j = true ↔ flw a n i j ∨ flw b (n + size a) i j := by
        by_cases r : i < n + size a
        · rw [k.old i r] at q
          refine (h.new i y hi q j).trans ⟨.inl, ?_⟩
          rintro (z | z)
          · exact z
          · have := flw_in b _ i j z; unfold In at this; omega
        · refine (k.new i y (by omega) q j).trans ⟨.inr, ?_⟩
          rintro (z | z)
          · have := flw_in a _ i j z; unfold In at this; omega
          · exact z
      show _ ↔ flw a n i j ∨ flw b (n + size a) i j ∨ (lst a n i ∧ fst b (n + size a) j)
      by_cases r : i ∈ ds
      · rw [if_pos r] at e2
        rw [← e2, or_bit, fy, k.F j]
        have l := inds.mp r
        constructor
        · rintro ((z | z) | z)
          · exact .inl z
          · exact .inr (.inl z)
          · exact .inr (.inr ⟨l, z⟩)
        · rintro (z | z | ⟨_, z⟩)
          · exact .inl (.inl z)
          · exact .inl (.inr z)
          · exact .inr z
      · rw [if_neg r] at e2
        rw [← e2, fy]
        constructor
        · rintro (z | z)
          · exact .inl z
          · exact .inr (.inl z)
        · rintro (z | z | ⟨z, _⟩)
          · exact .inl z
          · exact .inr z
          · exact absurd (inds.mpr z) r
  F := fun j => by
    show _ ↔ fst a n j ∨ (nul a = true ∧ fst b (n + size a) j)
    by_cases q : nul a = true
    · rw [if_pos q, or_bit, h.F j, k.F j]
      exact ⟨fun z => z.imp id fun y => ⟨q, y⟩, fun z => z.imp id fun y => y.2⟩
    · rw [if_neg q, h.F j]
      exact ⟨.inl, fun z => z.elim id fun y => absurd y.1 q⟩
  La := fun j => by
    show _ ↔ lst b (n + size a) j ∨ (nul b = true ∧ lst a n j)
    by_cases q : nul b = true
    · rw [if_pos q, or_bit, h.La j, k.La j]
      exact ⟨fun z => z.imp id fun y => ⟨q, y⟩, fun z => z.imp id fun y => y.2⟩
    · rw [if_neg q, k.La j]
      exact ⟨.inl, fun z => z.elim id fun y => absurd y.1 q⟩
end
/-! ### reading a text by places -/
/-- the places reached by u -/
def Run (p : Pa) (u : List Nat) (R : Nat) : Prop := (u = [] ∧ R = 1) ∨ (u ≠ [] ∧ (∀ i, R.testBit i = true → In p 1 i) ∧ ∀ w, Lg p (u ++ w) ↔ ∃ i, R.testBit i = true ∧ res p 1 i w)
theorem run_start (p : Pa) : Run p [] 1 := .inl ⟨rfl, rfl⟩
theorem one_bit (i : Nat) : (1 : Nat).testBit i = true ↔ i = 0 := two_bit 0 i
theorem run_step {p : Pa} {sg sg' : List (List Nat)} {bh bh' tb : List Nat} {F La R R' c : Nat} {u : List Nat} (L : Laid p 1 sg bh sg' bh' F La) (ht : ∀ i, 1 ≤ i → tb[i]? = bh'[i]?) (h0 : tb[0]? = some F)
    (h : Run p u R) (hR : ∀ j, R'.testBit j = true ↔ (∃ i b, R.testBit i = true ∧ tb[i]? = some b ∧ b.testBit j = true) ∧ sgn p 1 j c) : Run p (u ++ [c]) R' := by
  refine .inr ⟨by simp, fun i hi => sgn_in p 1 i c ((hR i).mp hi).2, fun w => ?_⟩
  rw [List.append_assoc, List.singleton_append]
  rcases h with ⟨rfl, rfl⟩ | ⟨_, hin, hw⟩
  · rw [List.nil_append, lg_cons p 1 c w]
    constructor
    · rintro ⟨i, ⟨f, s⟩, r⟩
      exact ⟨i, (hR i).mpr ⟨⟨0, F, (one_bit 0).mpr rfl, h0, (L.F i).mpr f⟩, s⟩, r⟩
    · rintro ⟨i, hi, r⟩
      obtain ⟨⟨k, b, hk, hb, hj⟩, s⟩ := (hR i).mp hi
      have k0 := (one_bit k).mp hk
      subst k0
      rw [h0] at hb
      cases hb
      exact ⟨i, ⟨(L.F i).mp hj, s⟩, r⟩
  · rw [hw (c :: w)]
    constructor
    · rintro ⟨i, hi, r⟩
      obtain ⟨j, ⟨f, s⟩, r2⟩ := (res_cons p 1 i c w (hin i hi)).mp r
      have ii := hin i hi
      unfold In at ii
      have li : i < bh'.length := by rw [L.len]; omega
      refine ⟨j, (hR j).mpr ⟨⟨i, bh'[i], hi, ?_, ?_⟩, s⟩, r2⟩
      · rw [ht i ii.1, List.getElem?_eq_getElem li]
      · exact (L.new i _ ii.1 (List.getElem?_eq_getElem li) j).mpr f
    · rintro ⟨j, hj, r⟩
      obtain ⟨⟨i, b, hi, hb, hbj⟩, s⟩ := (hR j).mp hj
      have ii := hin i hi
      have i1 : 1 ≤ i := ii.1
      rw [ht i i1] at hb
      exact ⟨i, hi, (res_cons p 1 i c w ii).mpr ⟨j, ⟨(L.new i b i1 hb j).mp hbj, s⟩, r⟩⟩
theorem and_ne (x y : Nat) : x &&& y ≠ 0 ↔ ∃ i, x.testBit i = true ∧ y.testBit i = true := by
  constructor
  · intro h
    obtain ⟨i, hi⟩ := Nat.exists_testBit_of_ne_zero h
    rw [Nat.testBit_and, Bool.and_eq_true] at hi
    exact ⟨i, hi⟩
  · rintro ⟨i, h, k⟩ e
    have : (x &&& y).testBit i = true := by rw [Nat.testBit_and, h, k]; rfl
    rw [e] at this
    simp at this
theorem run_end {p : Pa} {sg sg' : List (List Nat)} {bh bh' : List Nat} {F La R : Nat} {u : List Nat} (L : Laid p 1 sg bh sg' bh' F La) (h : Run p u R) :
    ((if nul p = true then La ||| 1 else La) &&& R ≠ 0) ↔ Lg p u := by
  rw [and_ne]
  have eb : ∀ i, (if nul p = true then La ||| 1 else La).testBit i = true ↔ lst p 1 i ∨ (nul p = true ∧ i = 0) := fun i => by
    by_cases q : nul p = true
    · rw [if_pos q, or_bit, L.La i, one_bit]
      exact ⟨fun z => z.imp id fun y => ⟨q, y⟩, fun z => z.imp id fun y => y.2⟩
    · rw [if_neg q, L.La i]
      exact ⟨.inl, fun z => z.elim id fun y => absurd y.1 q⟩
  rcases h with ⟨rfl, rfl⟩ | ⟨hu, hin, hw⟩
  · rw [← nul_iff p]
    constructor
    · rintro ⟨i, h, k⟩
      have i0 := (one_bit i).mp k
      subst i0
      rcases (eb 0).mp h with z | z
      · have := lst_in p 1 0 z; unfold In at this; omega
      · exact z.1
    · exact fun h => ⟨0, (eb 0).mpr (.inr ⟨h, rfl⟩), (one_bit 0).mpr rfl⟩
  · have := hw []
    rw [List.append_nil] at this
    rw [this]
    constructor
    · rintro ⟨i, h, k⟩
      have ii := hin i k
      rcases (eb i).mp h with z | z
      · exact ⟨i, k, (res_nil p 1 i ii).mpr z⟩
      · unfold In at ii; omega
    · rintro ⟨i, k, r⟩
      exact ⟨i, (eb i).mpr (.inl ((res_nil p 1 i (hin i k)).mp r)), k⟩
/-- the signs at a place, by the list of them -/
theorem sgn_at : ∀ (p : Pa) (n i c : Nat), sgn p n i c ↔ n ≤ i ∧ ∃ l, (sgs p)[i - n]? = some l ∧ c ∈ l
  | .sg l, n, i, c => by
    simp only [sgn, sgs]
    constructor
    · rintro ⟨rfl, h⟩
      exact ⟨Nat.le_refl _, l, by rw [Nat.sub_self]; rfl, h⟩
    · rintro ⟨h, m, e, k⟩
      have : i - n = 0 := by
        refine Classical.byContradiction fun z => ?_
        rw [List.getElem?_eq_none (by simp; omega)] at e
        cases e
      rw [this] at e
      cases e
      exact ⟨by omega, k⟩
  | .em, n, i, c => by simp [sgn, sgs]
  | .th a b, n, i, c => by
    simp only [sgn, sgs]
    rw [sgn_at a n i c, sgn_at b (n + size a) i c]
    constructor
    · rintro (⟨h, l, e, k⟩ | ⟨h, l, e, k⟩)
      · have hl : i - n < (sgs a).length := (List.getElem?_eq_some_iff.mp e).1
        exact ⟨h, l, by rw [List.getElem?_append_left hl]; exact e, k⟩
      · refine ⟨by omega, l, ?_, k⟩
        rw [List.getElem?_append_right (by rw [sgs_len]; omega), sgs_len, show i - n - size a = i - (n + size a) by omega]
        exact e
    · rintro ⟨h, l, e, k⟩
      by_cases q : i - n < (sgs a).length
      · rw [List.getElem?_append_left q] at e
        exact .inl ⟨h, l, e, k⟩
      · rw [List.getElem?_append_right (by omega)] at e
        rw [sgs_len] at e q
        exact .inr ⟨by omega, l, by rw [show i - (n + size a) = i - n - size a by omega]; exact e, k⟩
  | .or a b, n, i, c => by
    simp only [sgn, sgs]
    rw [sgn_at a n i c, sgn_at b (n + size a) i c]
    constructor
    · rintro (⟨h, l, e, k⟩ | ⟨h, l, e, k⟩)
      · have hl : i - n < (sgs a).length := (List.getElem?_eq_some_iff.mp e).1
        exact ⟨h, l, by rw [List.getElem?_append_left hl]; exact e, k⟩
      · refine ⟨by omega, l, ?_, k⟩
        rw [List.getElem?_append_right (by rw [sgs_len]; omega), sgs_len, show i - n - size a = i - (n + size a) by omega]
        exact e
    · rintro ⟨h, l, e, k⟩
      by_cases q : i - n < (sgs a).length
      · rw [List.getElem?_append_left q] at e
        exact .inl ⟨h, l, e, k⟩
      · rw [List.getElem?_append_right (by omega)] at e
        rw [sgs_len] at e q
        exact .inr ⟨by omega, l, by rw [show i - (n + size a) = i - n - size a by omega]; exact e, k⟩
  | .ag a, n, i, c => sgn_at a n i c
  | .mo a, n, i, c => sgn_at a n i c
  | .mb a, n, i, c => sgn_at a n i c
end K01
set_option maxRecDepth 100000
set_option maxHeartbeats 1000000
namespace K01
open PySem PySem.Spec PyProof.Rows L2 Yard
/-! ### the text -/
def topS (i : Nat) : Stmt := PySem.Challenge.pw_tongueyard_k01_what_patterns_spell.main.body.getD i (.Pass ⟨0, 0, 0, 0⟩)
def inC (i : Nat) : Stmt := inClass (topS 3) i
abbrev sNums : Stmt := topS 2
abbrev sSpells : Stmt := topS 6
abbrev sSnone : Stmt := topS 7
abbrev sLeast : Stmt := topS 8
abbrev sLesser : Stmt := topS 9
abbrev sOnly : Stmt := topS 10
abbrev sJar : Stmt := topS 12
abbrev sDip : Stmt := topS 13
abbrev sAll : Stmt := topS 14
abbrev sAlike : Stmt := topS 15
abbrev sOf : Stmt := topS 16
abbrev sMould : Stmt := topS 17
abbrev sOpened : Stmt := topS 18
abbrev sLed : Stmt := topS 19
abbrev sTakes : Stmt := topS 20
abbrev sPool : Stmt := topS 21
abbrev sText : Stmt := topS 22
abbrev sAlong : Stmt := topS 23
abbrev sLonger : Stmt := topS 24
abbrev sLessr : Stmt := topS 25
abbrev sLonly : Stmt := topS 26
abbrev sAgains : Stmt := topS 27
abbrev sAround : Stmt := topS 28
abbrev sRight : Stmt := topS 29
abbrev mInit : Stmt := inC 0
abbrev mLaid : Stmt := inC 1
abbrev mLaidS : Stmt := inC 2
abbrev mLink : Stmt := inC 3
abbrev mBehind : Stmt := inC 4
abbrev mBysigns : Stmt := inC 5
abbrev mFend : Stmt := inC 6
abbrev mSinit : Stmt := inClass (topS 5) 0
abbrev mStakes : Stmt := inClass (topS 5) 1
abbrev sLaw : Stmt := topS 30
/-- a method of the class, as the top has left it -/
structure Dm (K : PySem.W.Frag) (C : Addr) (x q : Str) (st : Stmt) (ps : List Str) (f : Addr) (fd : FuncData) : Prop where
  fn : Fun K x q st f fd
  bd : Binds K fd ps []
  mt : Meth K C x f
/-- what the top has left -/
structure Tx (K : PySem.W.Frag) (w : World) (mg : Str → Option Value) where
  (aNums aSpells aSnone aLeast aLesser aOnly aJar aDip aAll aAlike aOf aMould aOpened aLed aTakes aPool aText aAlong aLonger aLessr aLonly aAgains aAround aRight : Addr)
  (fNums fSpells fSnone fLeast fLesser fOnly fJar fDip fAll fAlike fOf fMould fOpened fLed fTakes fPool fText fAlong fLonger fLessr fLonly fAgains fAround fRight : FuncData)
  nums : Df K mg "numbers_of" sNums ["places"] aNums fNums
  spells : Df K mg "spells" sSpells ["pattern", "text"] aSpells fSpells
  snone : Df K mg "spells_none" sSnone ["pattern"] aSnone fSnone
  least : Df K mg "least_spelled" sLeast ["pattern"] aLeast fLeast
  lesser : Df K mg "lesser" sLesser ["one", "other"] aLesser fLesser
  only : Df K mg "only_text" sOnly ["pattern"] aOnly fOnly
  jar : Df K mg "_law_jar" sJar ["script", "k"] aJar fJar
  dip : Df K mg "_law_dip" sDip ["jar", "many"] aDip fDip
  all : Df K mg "_law_all_signs" sAll [] aAll fAll
  alike : Df K mg "_law_alike" sAlike ["found", "owed"] aAlike fAlike
  of : Df K mg "_law_signs_of" sOf ["jar", "plain"] aOf fOf
  mould : Df K mg "_law_mould" sMould ["jar", "plain", "deep"] aMould fMould
  opened : Df K mg "_law_opened" sOpened ["owes"] aOpened fOpened
  led : Df K mg "_law_led" sLed ["owes", "line"] aLed fLed
  takes : Df K mg "_law_takes" sTakes ["mould", "line"] aTakes fTakes
  pool : Df K mg "_law_pool" sPool ["rack"] aPool fPool
  text : Df K mg "_law_text" sText ["jar", "rack", "most"] aText fText
  along : Df K mg "_law_along" sAlong ["jar", "mould"] aAlong fAlong
  longer : Df K mg "_law_longer" sLonger ["level", "pool"] aLonger fLonger
  lessr : Df K mg "_law_lesser" sLessr ["mould", "pool", "line"] aLessr fLessr
  lonly : Df K mg "_law_only" sLonly ["mould"] aLonly fLonly
  agains : Df K mg "_law_agains" sAgains ["mould"] aAgains fAgains
  around : Df K mg "_law_around" sAround ["jar", "mould"] aAround fAround
  right : Df K mg "_law_right" sRight ["jar"] aRight fRight
  (C : Addr)
  (bInit bLaid bLaidS bLink bBehind bBysigns bFend : Addr)
  (gInit gLaid gLaidS gLink gBehind gBysigns gFend : FuncData)
  mlaid : Dm K C "laid" "Places.laid" mLaid ["self", "pattern"] bLaid gLaid
  mlaidS : Dm K C "laid_signs" "Places.laid_signs" mLaidS ["self", "signs"] bLaidS gLaidS
  mlink : Dm K C "link" "Places.link" mLink ["self", "lasts", "firsts"] bLink gLink
  mbehind : Dm K C "all_behind" "Places.all_behind" mBehind ["self", "places"] bBehind gBehind
  mbysigns : Dm K C "by_signs" "Places.by_signs" mBysigns ["self"] bBysigns gBysigns
  mfend : Dm K C "first_end" "Places.first_end" mFend ["self", "places"] bFend gFend
  minit : Fun K "__init__" "Places.__init__" mInit bInit gInit
  minitB : Binds K gInit ["self", "patterns"] []
  mkC : Mk K C bInit
  cl : Cls K C
  naS : NoAttr K C "signs"
  naB : NoAttr K C "behind"
  naE : NoAttr K C "ends"
  cPlaces : mg "Places" = some (.ref C)
  (C2 : Addr)
  (bSinit bStakes : Addr)
  (gSinit gStakes : FuncData)
  mstakes : Dm K C2 "takes" "Speller.takes" mStakes ["self", "text"] bStakes gStakes
  msinit : Fun K "__init__" "Speller.__init__" mSinit bSinit gSinit
  msinitB : Binds K gSinit ["self", "pattern"] []
  mkC2 : Mk K C2 bSinit
  cl2 : Cls K C2
  naP : NoAttr K C2 "_places"
  naH : NoAttr K C2 "_having"
  cSpeller : mg "Speller" = some (.ref C2)
  (tB : Tok)
  cBEG : mg "BEGINNING" = some (.int 1 tB)
  len : mg "len" = none
  bRange : mg "range" = none
  bMax : mg "max" = none
  bMin : mg "min" = none
  bInt : mg "int" = none
  bStr : mg "str" = none
  bTuple : mg "tuple" = none
  bList : mg "list" = none
  bBool : mg "bool" = none
  bSet : mg "set" = none
  bSorted : mg "sorted" = none
  bAll : mg "all" = none
  bIsinstance : mg "isinstance" = none
  bEnum : mg "enumerate" = none
  bSum : mg "sum" = none
section
variable {P : Program} {w : World} {K : PySem.W.Frag} {mg : Str → Option Value} {base : Heap}

/-! ### _law_all_signs -/
def lowS : Str := "\n !\"#$&'()*+,-./0123456789:;<=>?@ABCDEFGHIJKLMNOPQRSTUVWXYZ[\\]^_`"
def allS : Str := lowS ++ ("abcdefghijklmnopqrstuvwxyz{|}~" : Str)
def spAll : Sp := fun vs H Q _ => vs = [] ∧ Q (.str allS) H
theorem scAll : FnScope ["low"] [] (defScope sAll) := ⟨rfl, rfl, rfl, by decide +kernel, rfl, by decide +kernel, by decide +kernel⟩
theorem ok_all (T : Tx K w mg) : FnOk P w K mg base CX0 1 T.aAll T.fAll [] spAll := by
  refine T.all.fn.ok scAll (fun vs H Q E h => ?_) (fun cdv A outer s H vs Q E hr h => ?_)
  · rw [h.1]; rfl
  · obtain ⟨rfl, q⟩ := h
    refine ⟨_, (pss_cons (ps_set (i := 0) scAll.nd rfl (.inl rfl) pe_str) (pss_one (ps_ret (pe_op op_add_str (pv 0) pe_str)))), ?_⟩
    refine ⟨_, rfl, _, _, rfl, rfl, by rw [sizeLine_eq]; decide +kernel, ?_⟩
    exact q

/-! ### _law_jar -/
def spJar (K : PySem.W.Frag) : Sp := fun vs H Q _ => ∃ (a : Addr) (ns : List Int) (k : Nat), vs = [.ref a, .int k] ∧ SqL K H a (ns.map V.int) ∧ ns.length ≤ 63 ∧ k ≤ 30 ∧
  ∀ p H', H p = none → Same H H' → JarAt H' p 0 → Q (.ref p) H'
theorem scJar : FnScope ["script", "k", "cell"] ["script", "k"] (defScope sJar) := ⟨rfl, rfl, rfl, by decide +kernel, rfl, by decide +kernel, by decide +kernel⟩
theorem ok_jar (T : Tx K w mg) : FnOk P w K mg base CX0 1 T.aJar T.fJar ["script", "k"] (spJar K) := by
  refine T.jar.fn.ok scJar (fun vs H Q E h => ?_) (fun cdv A outer s H vs Q E hr h => ?_)
  · obtain ⟨a, ns, k, rfl, _⟩ := h
    rfl
  · obtain ⟨a, ns, k, rfl, hS, hlen, hk, q⟩ := h
    refine ⟨_, (pss_cons (ps_set (i := 2) scJar.nd rfl (.inl rfl) pe_int)
      (pss_cons (ps_if (pt_cmpR op_lt (pv 1) (pe_callB call_len_seq (by rfl) T.len PySem.boot_len (pa_cons (pv 0) pa_nil)) (nomark _))
        (pss_one (ps_set (i := 2) scJar.nd rfl (.inl rfl) (pe_ix ix_list (pv 0) (pv 1) (fun _ _ => rfl)))) pss_nil)
      (pss_one (ps_ret (pe_lst (pa_cons (pe_callB (call_max2 rfl) (by rfl) T.bMax (by decide +kernel) (pa_cons pe_int (pa_cons (pe_op op_sub (pv 2) (pe_op op_powW pe_int pe_int)) pa_nil))) (pa_cons (pe_op op_add (pe_op op_mod (pv 2) pe_int) (pe_op op_mul pe_int (pv 1))) (pa_cons pe_int pa_nil)))))))), ?_⟩
    -- behind the cell's reading
    have rest : ∀ c : Int, tRet (tLst (tCons (tCB (fun xs H Q => ∃ i j, xs = [.int i, .int j] ∧ Q (.int (if j > i then j else i)) H) (tCons (tC (.int 0)) (tCons (tOp (rI0 fun i j => .int (i - j)) (tVar 2) (tOp (rI CPowW fun i j => .int (i ^ j.toNat)) (tC (.int 10)) (tC (.int 18)))) tNil)))
        (tCons (tOp (rI0 fun i j => .int (i + j)) (tOp (rI (fun _ j => 0 < j) fun i j => .int (i % j)) (tVar 2) (tC (.int 618970019642690137449562111))) (tOp (rI CMul fun i j => .int (i * j)) (tC (.int 7919)) (tVar 1))) (tCons (tC (.int 0)) tNil))))
        { nx := fun _ H' => Q .non H', rt := Q } [some (.ref a), some (.int k), some (.int c)] H := by
      intro c
      refine ⟨_, rfl, 10, 18, rfl, rfl, ⟨by decide, 4, by decide, by decide, by decide⟩, _, _, rfl, rfl, _, _, rfl, ?_⟩
      refine ⟨_, rfl, _, _, rfl, rfl, by show (0 : Int) < _; decide, _, rfl, _, _, rfl, rfl, .inl ⟨by decide, by decide⟩, _, _, rfl, rfl, by show 3 ≤ sizeLine; decide, fun p hp => ?_⟩
      refine q p _ hp (same_new hp) ⟨_, _, _, upd_same, ?_, ?_, ?_, Int.le_refl _, Int.le_refl _⟩
      · split <;> omega
      · have h1 : 0 ≤ c % 618970019642690137449562111 := Int.emod_nonneg _ (by decide)
        omega
      · have h1 : c % 618970019642690137449562111 < 618970019642690137449562111 := Int.emod_lt_of_pos _ (by decide)
        have e : (2 : Int) ^ 100 = 1267650600228229401496703205376 := by decide +kernel
        omega
    refine ⟨_, rfl, .ref a, rfl, a, _, rfl, .inl hS, _, _, rfl, rfl, _, rfl, ite2 (fun e => ?_) (fun e => rest 0)⟩
    have e' : (k : Int) < ((ns.map V.int).length : Nat) := of_decide_eq_true e
    rw [List.length_map] at e'
    have hk : k < ns.length := by omega
    have g : (ns.map V.int)[k]? = some (.int ns[k]) := by rw [List.getElem?_map, List.getElem?_eq_getElem hk] <;> rfl
    refine ⟨_, rfl, _, rfl, a, _, _, _, rfl, rfl, hS, atI_nat g, ?_⟩
    exact rest _

/-! ### _law_dip -/
def spDip : Sp := fun vs H Q _ => ∃ (a : Addr) (m : Int) (c : Nat), vs = [.ref a, .int m] ∧ JarAt H a c ∧ 0 < m ∧ m < 1073741824 ∧ c < 1000000 ∧
  ∀ r H', 0 ≤ r → r < m → Off a H H' → JarAt H' a (c + 1) → Q (.int r) H'
theorem scDip : FnScope ["jar", "many", "digit", "mixed"] ["jar", "many"] (defScope sDip) := ⟨rfl, rfl, rfl, by decide +kernel, rfl, by decide +kernel, by decide +kernel⟩
theorem ok_dip (T : Tx K w mg) : FnOk P w K mg base CX0 1 T.aDip T.fDip ["jar", "many"] spDip := by
  refine T.dip.fn.ok scDip (fun vs H Q E h => ?_) (fun cdv A outer s H vs Q E hr h => ?_)
  · obtain ⟨a, m, c, rfl, _⟩ := h
    rfl
  · obtain ⟨a, m, c, rfl, ⟨x, y, z, e, hx, hy, hy2, hz, hz2⟩, m0, m1, hc, q⟩ := h
    refine ⟨_, (pss_cons (ps_if (pt_cmpR op_gt (pe_ix ix_list (pv 0) pe_int (fun _ _ => rfl)) pe_int (nomark _))
      (pss_cons (ps_set (i := 2) scDip.nd rfl (.inl rfl) (pe_op op_mod (pe_ix ix_list (pv 0) pe_int (fun _ _ => rfl)) (pv 1)))
      (pss_cons (ps_asg (pe_op op_fdiv (pe_ix ix_list (pv 0) pe_int (fun _ _ => rfl)) (pv 1)) (pg_sub (pv 0) pe_int set_list))
      (pss_one (ps_ret (pv 2)))))
      pss_nil)
      (pss_cons (ps_asg (pe_op op_add (pe_ix ix_list (pv 0) pe_int (fun _ _ => rfl)) pe_int) (pg_sub (pv 0) pe_int set_list))
      (pss_cons (ps_set (i := 3) scDip.nd rfl (.inl rfl) (pe_op op_mod (pe_op op_powW (pe_op op_add (pe_ix ix_list (pv 0) pe_int (fun _ _ => rfl)) (pe_op op_mul pe_int (pe_ix ix_list (pv 0) pe_int (fun _ _ => rfl)))) pe_int) pe_int))
      (pss_cons (ps_set (i := 3) scDip.nd rfl (.inl rfl) (pe_op op_mod (pe_op op_powW (pe_op op_add (pv 3) (pe_op op_mul pe_int (pe_ix ix_list (pv 0) pe_int (fun _ _ => rfl)))) pe_int) pe_int))
      (pss_one (ps_ret (pe_op op_mod (pe_op op_fdiv (pv 3) pe_int) (pv 1)))))))), ?_⟩
    have g0 : atI [V.int x, V.int y, V.int z] 0 = some (.int x) := rfl
    have g2 : atI [V.int x, V.int y, V.int z] 2 = some (.int z) := rfl
    have k1 : atI [V.int x, V.int y, V.int (z + 1)] 1 = some (.int y) := rfl
    have k2 : atI [V.int x, V.int y, V.int (z + 1)] 2 = some (.int (z + 1)) := rfl
    have eS : SqL K H a [.int x, .int y, .int z] := SqL.of e
    refine ⟨_, rfl, a, _, 0, _, rfl, rfl, eS, g0, _, _, rfl, rfl, _, rfl, ite2 (fun _ => ?_) (fun _ => ?_)⟩
    · refine ⟨_, rfl, a, _, 0, _, rfl, rfl, eS, g0, _, rfl, _, _, rfl, rfl, by show (0 : Int) < m; exact m0, ?_⟩
      refine ⟨_, rfl, a, _, 0, _, rfl, rfl, eS, g0, _, rfl, _, _, rfl, rfl, ⟨m0, m1⟩, _, rfl, a, _, 0, 0, rfl, rfl, e, rfl, ?_⟩
      refine ⟨_, rfl, q _ _ (Int.emod_nonneg _ (by omega)) (Int.emod_lt_of_pos _ m0) Off.at_ ⟨_, _, _, upd_same, Int.ediv_nonneg hx (by omega), hy, hy2, hz, by omega⟩⟩
    · have e2 : (upd H a (.lst [.int x, .int y, .int (z + 1)])) a = some (.lst [.int x, .int y, .int (z + 1)]) := upd_same
      have fS : SqL K (upd H a (.lst [.int x, .int y, .int (z + 1)])) a [.int x, .int y, .int (z + 1)] := SqL.of e2
      have b1 : (2 : Int) ^ 100 = 1267650600228229401496703205376 := by decide +kernel
      have b2 : (2 : Nat) ^ 101 = 2535301200456458802993406410752 := by decide +kernel
      refine ⟨_, rfl, a, _, 2, _, rfl, rfl, eS, g2, _, _, rfl, rfl, _, rfl, a, _, 2, 2, rfl, rfl, e, rfl, ?_⟩
      refine ⟨_, rfl, a, _, 1, _, rfl, rfl, fS, k1, _, rfl, a, _, 2, _, rfl, rfl, fS, k2, _, _, rfl, rfl, .inl ⟨by decide, by decide⟩, _, _, rfl, rfl, _, _, rfl, rfl,
        ⟨by decide, 101, ?_, by decide, by decide⟩, _, _, rfl, rfl, by show (0 : Int) < _; decide, ?_⟩
      · omega
      have n1 : 0 ≤ (y + 104729 * (z + 1)) ^ (3 : Int).toNat % 618970019642690137449562111 := Int.emod_nonneg _ (by decide)
      have n2 : (y + 104729 * (z + 1)) ^ (3 : Int).toNat % 618970019642690137449562111 < 618970019642690137449562111 := Int.emod_lt_of_pos _ (by decide)
      generalize (y + 104729 * (z + 1)) ^ (3 : Int).toNat % 618970019642690137449562111 = u at n1 n2 ⊢
      refine ⟨_, rfl, _, rfl, a, _, 2, _, rfl, rfl, fS, k2, _, _, rfl, rfl, .inl ⟨by decide, by decide⟩, _, _, rfl, rfl, _, _, rfl, rfl,
        ⟨by decide, 101, ?_, by decide, by decide⟩, _, _, rfl, rfl, by show (0 : Int) < _; decide, ?_⟩
      · omega
      refine ⟨_, rfl, _, _, rfl, rfl, ⟨by decide, by decide⟩, _, rfl, _, _, rfl, rfl, m0, ?_⟩
      exact q _ _ (Int.emod_nonneg _ (by omega)) (Int.emod_lt_of_pos _ m0) Off.at_ ⟨_, _, _, upd_same, hx, hy, hy2, by omega, by omega⟩

end
theorem join_ones : ∀ l : List Nat, TL.joinL [] (l.map fun c => [c]) = l
  | [] => rfl
  | [c] => rfl
  | c :: d :: l => by
    show c :: ([] ++ TL.joinL [] ((d :: l).map fun c => [c])) = _
    rw [join_ones (d :: l)]; rfl
theorem joined (l : List Nat) : Txt.join "" (l.map fun c => (⟨#[c]⟩ : Str)) = ⟨l.toArray⟩ := by
  have e := TL.tl_join "" (l.map fun c => (⟨#[c]⟩ : Str))
  rw [List.map_map] at e
  have e2 : TL.tl (Str.join "" (l.map fun c => (⟨#[c]⟩ : Str))) = l := e.trans (join_ones l)
  rw [TL.join_eq]
  refine TL.ext_tl (e2.trans ?_)
  rfl
theorem filter_at {α : Type} (l : List Nat) (p : Nat → Bool) (f : Nat → α) : (((List.range l.length).filter fun i => p (l.getD i 0)).map fun i => f (l.getD i 0)) = (l.filter p).map f := by
  have e : (List.range l.length).map (fun i => l.getD i 0) = l := by
    refine List.ext_getElem (by simp) fun i h1 h2 => ?_
    simp [List.getD_eq_getElem?_getD, List.getElem?_eq_getElem h2]
  have e2 : ((List.range l.length).filter fun i => p (l.getD i 0)).map (fun i => l.getD i 0) = l.filter p := by
    have := List.filter_map (f := fun i => l.getD i 0) (p := p) (l := List.range l.length)
    rw [e] at this
    rw [this]
    rfl
  rw [← e2, List.map_map]
  rfl
theorem ones_len (l : List Nat) : ((l.map fun c => (⟨#[c]⟩ : Str)).map (·.length)).sum = l.length := by
  induction l with
  | nil => rfl
  | cons c l ih =>
    rw [List.map_cons, List.map_cons, List.sum_cons, ih, List.length_cons]
    show 1 + l.length = _
    omega

/-- a text that may be drawn from -/
structure PoolOk (x : Str) : Prop where
  some_ : 0 < x.length
  few : x.length ≤ 1000
  low : ∀ c ∈ x.cps.toList, c < 128

theorem pool_all : PoolOk allS := ⟨by decide +kernel, by decide +kernel, by decide +kernel⟩
theorem one_of : ∀ {ys : List Str}, (∀ y ∈ ys, ∃ c : Nat, c < 128 ∧ y = ⟨#[c]⟩) → ∃ l : List Nat, ys = l.map (fun c => (⟨#[c]⟩ : Str)) ∧ ∀ c ∈ l, c < 128
  | [], _ => ⟨[], rfl, fun _ h => nomatch h⟩
  | y :: ys, h => by
    obtain ⟨c, hc, e⟩ := h y List.mem_cons_self
    obtain ⟨l, el, hl⟩ := one_of fun z hz => h z (List.mem_cons_of_mem _ hz)
    refine ⟨c :: l, by rw [e, el]; rfl, fun z hz => ?_⟩
    rcases List.mem_cons.mp hz with q | q
    · rw [q]; exact hc
    · exact hl z q

theorem no_fn {P : Program} {w : World} {K : PySem.W.Frag} {mg : Str → Option Value} {base : Heap} {f : Addr} {fd : FuncData} {ps : List Str} {k : Nat} : FnOk P w K mg base CX0 k f fd ps (fun _ _ _ _ => False) :=
  ⟨fun _ _ _ _ h => h.elim, fun _ _ _ _ _ _ _ _ _ _ _ _ _ h => h.elim⟩


def spBefore (sp : Nat → Sp) : Nat → Sp
  | 0 => fun _ _ _ _ => False
  | n + 1 => sp n
end K01
set_option maxRecDepth 100000
set_option maxHeartbeats 1000000
namespace K01
open PySem PySem.Spec PyProof.Rows L2 Yard
section
variable {P : Program} {w : World} {K : PySem.W.Frag} {mg : Str → Option Value} {base : Heap}
def vN (i : Nat) : V := .int i
/-! ### numbers_of -/
def spNums : Sp := fun vs H Q _ => ∃ m : Nat, vs = [.int m] ∧ m < 2 ^ 100000 ∧ ∀ p ds H', H p = none → Same H H' → H' p = some (.lst (ds.map vN)) → Nums m ds → Q (.ref p) H'
theorem scNums : FnScope ["places", "numbers", "lowest"] ["places"] (defScope sNums) := ⟨rfl, rfl, rfl, by decide +kernel, rfl, by decide +kernel, by decide +kernel⟩
theorem ok_nums (T : Tx K w mg) : FnOk P w K mg base CX0 1 T.aNums T.fNums ["places"] spNums := by
  refine T.nums.fn.ok scNums (fun vs H Q E h => ?_) (fun cdv A outer s H vs Q E hr h => ?_)
  · obtain ⟨m, rfl, _⟩ := h
    rfl
  · obtain ⟨m, rfl, hm, q⟩ := h
    refine ⟨_, (pss_cons (ps_set (i := 1) scNums.nd rfl (.inl rfl) (pe_lst pa_nil))
      (pss_cons (ps_while PassesOwn.never (pt_truth (pv 0) (by intro _; rfl))
        (pss_cons (ps_set (i := 2) scNums.nd rfl (.inl rfl) (pe_op op_and (pv 0) (pe_un un_neg (pv 0))))
        (pss_cons (ps_expr (pe_bm PySem.F.plainAttrs_list PySem.F.slot_list_append PySem.F.type_list_append mt_append (pv 1) (pa_cons (pe_op op_sub (pe_bits (pv 2)) pe_int) pa_nil)))
        (pss_one (ps_set (i := 0) scNums.nd rfl (.inl rfl) (pe_op op_sub (pv 0) (pv 2)))))))
      (pss_one (ps_ret (pv 1))))), ?_⟩
    refine ⟨Nat.zero_le _, fun p np => ?_⟩
    dsimp only [gName, List.set]
    refine ⟨fun k σ H' => ∃ ds x2, σ = [some (.int (k : Nat)), some (.ref p), x2] ∧ Same H H' ∧ H' p = some (.lst (ds.map vN)) ∧ NumsTo m k ds, ⟨m, [], _, rfl, same_new np, upd_same, .start m⟩, ?_⟩
    rintro k σ H1 ⟨ds, x2, rfl, s1, e1, N1⟩
    refine ⟨_, rfl, ((k : Int) != 0), rfl, ite2 (fun e => ?_) (fun e => ?_)⟩
    · have k0 : k ≠ 0 := by
        rw [bne_iff_ne] at e
        omega
      obtain ⟨j, h1, h2, h3, h4⟩ := and_low k0
      refine ⟨fun σ' H' => ∃ ds x2, σ' = [some (.int ((k - 2 ^ j : Nat) : Nat)), some (.ref p), x2] ∧ Same H H' ∧ H' p = some (.lst (ds.map vN)) ∧ NumsTo m (k - 2 ^ j) ds, ?_, ?_⟩
      · rintro σ' H' h
        exact ⟨k - 2 ^ j, by have := Nat.two_pow_pos j; omega, h⟩
      · refine ⟨_, rfl, _, rfl, k, rfl, _, _, rfl, rfl, ?_⟩
        dsimp only [gName, List.set]
        rw [h1]
        have fit := N1.len hm
        refine ⟨_, rfl, .inl ⟨rfl, _, SqL.of e1⟩, _, rfl, _, rfl, _, _, rfl, rfl, p, _, _, rfl, rfl, e1, by rw [sizeLine_eq, List.length_map]; omega, ?_⟩
        refine ⟨_, rfl, _, rfl, _, _, rfl, rfl, ?_⟩
        have eb : ((Builtin.Int.intBits ((2 ^ j : Nat) : Int) : Nat) : Int) - 1 = ((j : Nat) : Int) := by
          rw [bits_pow]; omega
        refine ⟨ds ++ [j], some (.int ((2 ^ j : Nat) : Int)), ?_, ?_, ?_, N1.step h3 h4⟩
        · show [some (V.int ((k : Int) - ((2 ^ j : Nat) : Int))), _, _] = _
          rw [show (k : Int) - ((2 ^ j : Nat) : Int) = ((k - 2 ^ j : Nat) : Int) by omega]
        · exact fun b o z => by rw [upd_ne (ne_of_none z np)]; exact s1 b o z
        · show upd H1 p (.lst (ds.map vN ++ [V.int (((Builtin.Int.intBits ((2 ^ j : Nat) : Int) : Nat) : Int) - 1)])) p = _
          rw [upd_same, eb, List.map_append]; rfl
    · have k0 : k = 0 := by
        refine Classical.byContradiction fun z => e (bne_iff_ne.mpr ?_)
        omega
      subst k0
      exact ⟨_, rfl, q p ds H1 np s1 e1 N1.end_⟩
end
end K01
set_option maxRecDepth 100000
set_option maxHeartbeats 1000000
namespace K01
open PySem PySem.Spec PyProof.Rows L2 Yard
def pf (l1 l2 l3 : Addr) : List (Str × V) := [("signs", .ref l1), ("behind", .ref l2), ("ends", .ref l3)]
theorem pf_s (l1 l2 l3 : Addr) : (pf l1 l2 l3).lookup ("signs" : Str) = some (.ref l1) := rfl
theorem pf_b (l1 l2 l3 : Addr) : (pf l1 l2 l3).lookup ("behind" : Str) = some (.ref l2) := rfl
theorem pf_e (l1 l2 l3 : Addr) : (pf l1 l2 l3).lookup ("ends" : Str) = some (.ref l3) := rfl
/-- the places at p, made behind the heap H0 -/
structure PlAt (C : Addr) (H0 H : Hp) (p dx l1 l2 l3 : Addr) (sg : List Str) (bh en : List Nat) : Prop where
  sm : Same H0 H
  p0 : H0 p = none
  n1 : H0 l1 = none
  n2 : H0 l2 = none
  n3 : H0 l3 = none
  d12 : l1 ≠ l2
  d13 : l1 ≠ l3
  d23 : l2 ≠ l3
  obj : H p = some (.ins C dx (pf l1 l2 l3))
  e1 : H l1 = some (.lst (sg.map V.str))
  e2 : H l2 = some (.lst (bh.map vN))
  e3 : H l3 = some (.lst (en.map vN))
section
variable {C : Addr} {H0 H H' : Hp} {p dx l1 l2 l3 : Addr} {sg : List Str} {bh en : List Nat}
theorem PlAt.mono (h : PlAt C H0 H p dx l1 l2 l3 sg bh en) (s : Same H H') : PlAt C H0 H' p dx l1 l2 l3 sg bh en :=
  ⟨fun b o e => s b o (h.sm b o e), h.p0, h.n1, h.n2, h.n3, h.d12, h.d13, h.d23, s _ _ h.obj, s _ _ h.e1, s _ _ h.e2, s _ _ h.e3⟩
theorem PlAt.p1 (h : PlAt C H0 H p dx l1 l2 l3 sg bh en) : p ≠ l1 ∧ p ≠ l2 ∧ p ≠ l3 := by
  refine ⟨fun e => ?_, fun e => ?_, fun e => ?_⟩
  · have a := h.obj; rw [e, h.e1] at a; cases a
  · have a := h.obj; rw [e, h.e2] at a; cases a
  · have a := h.obj; rw [e, h.e3] at a; cases a
theorem upd_old {H0 H : Hp} {a : Addr} {o : HO} (s : Same H0 H) (n : H0 a = none) : Same H0 (upd H a o) := fun b u e => by
  rw [upd_ne (ne_of_none e n)]; exact s b u e
theorem PlAt.set1 (h : PlAt C H0 H p dx l1 l2 l3 sg bh en) (sg' : List Str) : PlAt C H0 (upd H l1 (.lst (sg'.map V.str))) p dx l1 l2 l3 sg' bh en :=
  ⟨upd_old h.sm h.n1, h.p0, h.n1, h.n2, h.n3, h.d12, h.d13, h.d23, by rw [upd_ne h.p1.1]; exact h.obj, upd_same, by rw [upd_ne h.d12.symm]; exact h.e2, by rw [upd_ne h.d13.symm]; exact h.e3⟩
theorem PlAt.set2 (h : PlAt C H0 H p dx l1 l2 l3 sg bh en) (bh' : List Nat) : PlAt C H0 (upd H l2 (.lst (bh'.map vN))) p dx l1 l2 l3 sg bh' en :=
  ⟨upd_old h.sm h.n2, h.p0, h.n1, h.n2, h.n3, h.d12, h.d13, h.d23, by rw [upd_ne h.p1.2.1]; exact h.obj, by rw [upd_ne h.d12]; exact h.e1, upd_same, by rw [upd_ne h.d23.symm]; exact h.e3⟩
theorem PlAt.set3 (h : PlAt C H0 H p dx l1 l2 l3 sg bh en) (en' : List Nat) : PlAt C H0 (upd H l3 (.lst (en'.map vN))) p dx l1 l2 l3 sg bh en' :=
  ⟨upd_old h.sm h.n3, h.p0, h.n1, h.n2, h.n3, h.d12, h.d13, h.d23, by rw [upd_ne h.p1.2.2]; exact h.obj, by rw [upd_ne h.d13]; exact h.e1, by rw [upd_ne h.d23]; exact h.e2, upd_same⟩
end
section
variable {P : Program} {w : World} {K : PySem.W.Frag} {mg : Str → Option Value} {base : Heap}
theorem ixN_at {n j : Nat} (hj : j < n) : ixN n (j : Int) = some j := by
  unfold ixN
  rw [if_pos (by omega), if_pos (by omega)]
  rw [Int.toNat_natCast]
/-! ### link -/
def spLink (C : Addr) : Sp := fun vs H Q _ => ∃ (H0 : Hp) (p dx l1 l2 l3 : Addr) (sg : List Str) (bh en : List Nat) (la fi : Nat), vs = [.ref p, .int la, .int fi] ∧ PlAt C H0 H p dx l1 l2 l3 sg bh en ∧ bh.length ≤ 1000 ∧ la < 2 ^ bh.length ∧
  ∀ ds H', PlAt C H0 H' p dx l1 l2 l3 sg (lnk bh ds fi) en → Nums la ds → Q .non H'
theorem scLink : FnScope ["self", "lasts", "firsts", "number"] ["self", "lasts", "firsts"] (defScope mLink) := ⟨rfl, rfl, rfl, by decide +kernel, rfl, by decide +kernel, by decide +kernel⟩
theorem nums_lt {m B : Nat} {ds : List Nat} (h : Nums m ds) (hb : m < 2 ^ B) {i : Nat} (hi : i ∈ ds) : i < B := by
  refine Classical.byContradiction fun z => ?_
  have := Nat.testBit_lt_two_pow (x := m) (i := i) (Nat.lt_of_lt_of_le hb (Nat.pow_le_pow_right (by decide) (by omega)))
  rw [(h.iff i).mp hi] at this
  cases this
theorem ok_link (T : Tx K w mg) : FnOk P w K mg base CX0 2 T.bLink T.gLink ["self", "lasts", "firsts"] (spLink T.C) := by
  refine T.mlink.fn.ok scLink (fun vs H Q E h => ?_) (fun cdv A outer s H vs Q E hr h => ?_)
  · obtain ⟨H0, p, dx, l1, l2, l3, sg, bh, en, la, fi, rfl, _⟩ := h
    rfl
  · obtain ⟨H0, p, dx, l1, l2, l3, sg, bh, en, la, fi, rfl, hp, hl, hla, q⟩ := h
    refine ⟨_, (pss_one (ps_for PassesOwn.never rfl (pi_list (pe_call (ok_nums T) hr (by rfl) T.nums.at_ T.nums.kp T.nums.bd .nil pass0 (pa_cons (pv 1) pa_nil))) (pg_name (i := 3) scLink.nd rfl (.inl rfl))
      (pss_one (ps_asg (pe_op op_or (pe_ix ix_list (pe_fld (pv 0) rfl) (pv 3) (fun _ _ => rfl)) (pv 2)) (pg_sub (pe_fld (pv 0) rfl) (pv 3) set_list))))), ?_⟩
    refine ⟨_, rfl, la, rfl, Nat.lt_of_lt_of_le hla (Nat.pow_le_pow_right (by decide) (by omega)), fun z ds H1 nz s1 ez nd => ?_⟩
    refine ⟨z, rfl, ⟨_, SqL.of ez⟩, ?_⟩
    have hp1 := hp.mono s1
    have nz2 : z ≠ l2 := fun e => by rw [e, hp.e2] at nz; cases nz
    refine for_it (walk_list (K := K) (a := z) (xs := ds.map vN)) (fun t σ' H' => ∃ x3, σ' = [some (.ref p), some (.int (la : Nat)), some (.int (fi : Nat)), x3] ∧ PlAt T.C H0 H' p dx l1 l2 l3 sg (lnk bh (ds.take t) fi) en ∧ H' z = some (.lst (ds.map vN))) ⟨_, rfl, by rw [List.take_zero, lnk_nil]; exact hp1, ez⟩ (fun t σ' H' _ ⟨_, _, _, e⟩ => SqL.of e) ?_ ?_
    · rintro t y σ H2 H3 ht ⟨x3, rfl, hq, ez2⟩ ⟨rfl, hy⟩
      rw [List.length_map] at ht
      have ey : y = .int (ds[t] : Nat) := by
        rw [List.getElem?_map, List.getElem?_eq_getElem ht] at hy
        exact (Option.some.inj hy).symm
      subst ey
      have kb : ds[t] < bh.length := nums_lt nd hla (List.getElem_mem ht)
      have kl : ds[t] < (lnk bh (ds.take t) fi).length := by rw [lnk_len]; exact kb
      have nin : ds[t] ∉ ds.take t := fun h => by
        obtain ⟨i, hi, e⟩ := List.mem_iff_getElem.mp h
        rw [List.length_take] at hi
        rw [List.getElem_take] at e
        exact List.pairwise_iff_getElem.mp nd.nd i t (by omega) ht (by omega) e
      dsimp only [gName, List.set]
      refine ⟨_, rfl, p, T.C, dx, _, _, rfl, hq.obj, T.cl, T.naB, pf_b _ _ _, _, rfl, l2, _, _, vN (lnk bh (ds.take t) fi)[ds[t]], rfl, rfl, SqL.of hq.e2, atI_nat (by rw [List.getElem?_map, List.getElem?_eq_getElem kl]; rfl), _, rfl, _, _, rfl, rfl, ?_⟩
      refine ⟨_, rfl, p, T.C, dx, _, _, rfl, hq.obj, T.cl, T.naB, pf_b _ _ _, _, rfl, l2, _, _, ds[t], rfl, rfl, hq.e2, ixN_at (by rw [List.length_map]; exact kl), ?_⟩
      have e1 : ((lnk bh (ds.take t) fi).map vN).set ds[t] (V.int (Builtin.bitOr ((lnk bh (ds.take t) fi)[ds[t]] : Nat) (fi : Nat))) = (lnk bh (ds.take (t + 1)) fi).map vN := by
        rw [or_nat, List.take_succ_eq_append_getElem ht, ← lnk_step nin kb, List.map_set]
        rfl
      refine ⟨_, rfl, ?_, ?_⟩
      · show PlAt T.C H0 (upd H3 l2 (.lst (((lnk bh (ds.take t) fi).map vN).set ds[t] (V.int (Builtin.bitOr ((lnk bh (ds.take t) fi)[ds[t]] : Nat) (fi : Nat)))))) p dx l1 l2 l3 sg _ en
        rw [e1]
        exact hq.set2 _
      · rw [upd_ne nz2]; exact ez2
    · rintro σ H2 ⟨x3, rfl, hq, ez2⟩
      rw [List.length_map, List.take_length] at hq
      exact q ds H2 hq nd
end
end K01
set_option maxRecDepth 100000
set_option maxHeartbeats 1000000
namespace K01
open PySem PySem.Spec PyProof.Rows L2 Yard
/-! ### patterns as data -/
def toS (l : List Nat) : Str := ⟨l.toArray⟩
def toD : Pa → PyData
  | .sg l => .tuple [.str "signs", .str (toS l)]
  | .em => .tuple [.str "empty"]
  | .th a b => .tuple [.str "then", toD a, toD b]
  | .or a b => .tuple [.str "or", toD a, toD b]
  | .ag a => .tuple [.str "again", toD a]
  | .mo a => .tuple [.str "more", toD a]
  | .mb a => .tuple [.str "maybe", toD a]
def dep : Pa → Nat
  | .sg _ => 0
  | .em => 0
  | .th a b => max (dep a) (dep b) + 1
  | .or a b => max (dep a) (dep b) + 1
  | .ag a => dep a + 1
  | .mo a => dep a + 1
  | .mb a => dep a + 1
section
variable {H : Hp} {v : V}
theorem inv_str {x : Str} (h : Dq H v (.str x)) : v = .str x := by cases h; rfl
theorem inv1 {d0 : PyData} (h : Dq H v (.tuple [d0])) : ∃ a x0, v = .ref a ∧ H a = some (.tup [x0]) ∧ Dq H x0 d0 := by
  cases h with
  | @tup a xs _ e hl =>
    cases hl with
    | cons h0 t => cases t; exact ⟨a, _, rfl, e, h0⟩
theorem inv2 {d0 d1 : PyData} (h : Dq H v (.tuple [d0, d1])) : ∃ a x0 x1, v = .ref a ∧ H a = some (.tup [x0, x1]) ∧ Dq H x0 d0 ∧ Dq H x1 d1 := by
  cases h with
  | @tup a xs _ e hl =>
    cases hl with
    | cons h0 t =>
      cases t with
      | cons h1 t => cases t; exact ⟨a, _, _, rfl, e, h0, h1⟩
theorem inv3 {d0 d1 d2 : PyData} (h : Dq H v (.tuple [d0, d1, d2])) : ∃ a x0 x1 x2, v = .ref a ∧ H a = some (.tup [x0, x1, x2]) ∧ Dq H x0 d0 ∧ Dq H x1 d1 ∧ Dq H x2 d2 := by
  cases h with
  | @tup a xs _ e hl =>
    cases hl with
    | cons h0 t =>
      cases t with
      | cons h1 t =>
        cases t with
        | cons h2 t => cases t; exact ⟨a, _, _, _, rfl, e, h0, h1, h2⟩
end
section
variable {P : Program} {w : World} {K : PySem.W.Frag} {mg : Str → Option Value} {base : Heap}
/-! ### laid_signs -/
def spLaidS (C : Addr) : Sp := fun vs H Q _ => ∃ (H0 : Hp) (p dx l1 l2 l3 : Addr) (sg : List Str) (bh en : List Nat) (x : Str), vs = [.ref p, .str x] ∧ PlAt C H0 H p dx l1 l2 l3 sg bh en ∧ sg.length ≤ 1000 ∧ bh.length ≤ 1000 ∧
  ∀ t H', PlAt C H0 H' p dx l1 l2 l3 (sg ++ [x]) (bh ++ [0]) en → H' t = some (.tup [.bl false, vN (2 ^ sg.length), vN (2 ^ sg.length)]) → Q (.ref t) H'
theorem scLaidS : FnScope ["self", "signs", "place"] ["self", "signs"] (defScope mLaidS) := ⟨rfl, rfl, rfl, by decide +kernel, rfl, by decide +kernel, by decide +kernel⟩
theorem ok_laidS (T : Tx K w mg) : FnOk P w K mg base CX0 1 T.bLaidS T.gLaidS ["self", "signs"] (spLaidS T.C) := by
  refine T.mlaidS.fn.ok scLaidS (fun vs H Q E h => ?_) (fun cdv A outer s H vs Q E hr h => ?_)
  · obtain ⟨H0, p, dx, l1, l2, l3, sg, bh, en, x, rfl, _⟩ := h
    rfl
  · obtain ⟨H0, p, dx, l1, l2, l3, sg, bh, en, x, rfl, hp, h1, h2, q⟩ := h
    refine ⟨_, (pss_cons (ps_set (i := 2) scLaidS.nd rfl (.inl rfl) (pe_op op_shlW pe_int (pe_callB call_len_seq (by rfl) T.len PySem.boot_len (pa_cons (pe_fld (pv 0) rfl) pa_nil))))
      (pss_cons (ps_expr (pe_bm PySem.F.plainAttrs_list PySem.F.slot_list_append PySem.F.type_list_append mt_append (pe_fld (pv 0) rfl) (pa_cons (pv 1) pa_nil)))
      (pss_cons (ps_expr (pe_bm PySem.F.plainAttrs_list PySem.F.slot_list_append PySem.F.type_list_append mt_append (pe_fld (pv 0) rfl) (pa_cons pe_int pa_nil)))
      (pss_one (ps_ret (pe_tup (pa_cons pe_bl (pa_cons (pv 2) (pa_cons (pv 2) pa_nil))))))))), ?_⟩
    refine ⟨_, rfl, p, T.C, dx, _, _, rfl, hp.obj, T.cl, T.naS, pf_s _ _ _, l1, _, rfl, .inl (SqL.of hp.e1), _, _, rfl, rfl, ?_, ?_⟩
    · refine shl_ok (n := 1) (by decide) ?_
      rw [List.length_map]; omega
    dsimp only [gName, List.set]
    have hp1 := hp.set1 (sg ++ [x])
    rw [List.map_append] at hp1
    refine ⟨_, rfl, p, T.C, dx, _, _, rfl, hp.obj, T.cl, T.naS, pf_s _ _ _, .inl ⟨rfl, _, SqL.of hp.e1⟩, _, rfl, l1, _, _, rfl, rfl, hp.e1, by rw [sizeLine_eq, List.length_map]; omega, ?_⟩
    have hp2 := hp1.set2 (bh ++ [0])
    rw [List.map_append] at hp2
    refine ⟨_, rfl, p, T.C, dx, _, _, rfl, hp1.obj, T.cl, T.naB, pf_b _ _ _, .inl ⟨rfl, _, SqL.of hp1.e2⟩, l2, _, _, rfl, rfl, hp1.e2, by rw [sizeLine_eq, List.length_map]; omega, ?_⟩
    refine ⟨_, rfl, _, rfl, by show 3 ≤ sizeLine; decide, fun t nt => ?_⟩
    refine q t _ (hp2.mono (same_new nt)) ?_
    rw [upd_same]
    have e : (1 : Int) * 2 ^ ((((sg.map V.str).length : Nat) : Int)).toNat = ((2 ^ sg.length : Nat) : Int) := by
      rw [Int.toNat_natCast, List.length_map, Int.one_mul]
      norm_cast
    rw [e]
    rfl
end
end K01
set_option maxRecDepth 100000
set_option maxHeartbeats 2000000
namespace K01
open PySem PySem.Spec PyProof.Rows L2 Yard
section
variable {P : Program} {w : World} {K : PySem.W.Frag} {mg : Str → Option Value} {base : Heap}
theorem cut {A R : Prop} (h : R → A) (r : R) : A := h r
/-! ### laid -/
/-- a pattern with parts -/
def Sub (H0 : Hp) (v : V) (pa : Pa) (wd : Str) (a : Pa) (a0 : Addr) (x1 : V) (r : List V) : Prop := v = .ref a0 ∧ H0 a0 = some (.tup (.str wd :: x1 :: r)) ∧ Dq H0 x1 (toD a) ∧
  ((wd = "maybe" ∧ pa = .mb a) ∨ (wd = "again" ∧ pa = .ag a) ∨ (wd = "more" ∧ pa = .mo a) ∨ ∃ b x2, r = [x2] ∧ Dq H0 x2 (toD b) ∧ ((wd = "or" ∧ pa = .or a b) ∨ (wd = "then" ∧ pa = .th a b)))
theorem sub_of {H0 : Hp} {v : V} {pa : Pa} (h : Dq H0 v (toD pa)) : (∃ l, pa = .sg l) ∨ pa = .em ∨ ∃ wd a a0 x1 r, Sub H0 v pa wd a a0 x1 r := by
  cases pa with
  | sg l => exact .inl ⟨l, rfl⟩
  | em => exact .inr (.inl rfl)
  | mb a =>
    obtain ⟨a0, x0, x1, rfl, e, h0, h1⟩ := inv2 h
    cases inv_str h0
    exact .inr (.inr ⟨_, a, a0, x1, [], rfl, e, h1, .inl ⟨rfl, rfl⟩⟩)
  | ag a =>
    obtain ⟨a0, x0, x1, rfl, e, h0, h1⟩ := inv2 h
    cases inv_str h0
    exact .inr (.inr ⟨_, a, a0, x1, [], rfl, e, h1, .inr (.inl ⟨rfl, rfl⟩)⟩)
  | mo a =>
    obtain ⟨a0, x0, x1, rfl, e, h0, h1⟩ := inv2 h
    cases inv_str h0
    exact .inr (.inr ⟨_, a, a0, x1, [], rfl, e, h1, .inr (.inr (.inl ⟨rfl, rfl⟩))⟩)
  | or a b =>
    obtain ⟨a0, x0, x1, x2, rfl, e, h0, h1, h2⟩ := inv3 h
    cases inv_str h0
    exact .inr (.inr ⟨_, a, a0, x1, [x2], rfl, e, h1, .inr (.inr (.inr ⟨b, x2, rfl, h2, .inl ⟨rfl, rfl⟩⟩))⟩)
  | th a b =>
    obtain ⟨a0, x0, x1, x2, rfl, e, h0, h1, h2⟩ := inv3 h
    cases inv_str h0
    exact .inr (.inr ⟨_, a, a0, x1, [x2], rfl, e, h1, .inr (.inr (.inr ⟨b, x2, rfl, h2, .inr ⟨rfl, rfl⟩⟩))⟩)
def spLaid (C : Addr) (k : Nat) : Sp := fun vs H Q _ => ∃ (H0 : Hp) (p dx l1 l2 l3 : Addr) (gs : List (List Nat)) (bh en : List Nat) (v : V) (pa : Pa), vs = [.ref p, v] ∧ PlAt C H0 H p dx l1 l2 l3 (gs.map toS) bh en ∧ dep pa ≤ k ∧ Dq H0 v (toD pa) ∧
  gs.length = bh.length ∧ bh.length + size pa ≤ 1000 ∧
  ∀ t F La bh' H', PlAt C H0 H' p dx l1 l2 l3 ((gs ++ sgs pa).map toS) bh' en → Laid pa bh.length gs bh (gs ++ sgs pa) bh' F La → H' t = some (.tup [.bl (nul pa), vN F, vN La]) → Q (.ref t) H'
theorem scLaid : FnScope ["self", "pattern", "word", "none", "firsts", "lasts", "other_none", "other_firsts", "other_lasts"] ["self", "pattern"] (defScope mLaid) := ⟨rfl, rfl, rfl, by decide +kernel, rfl, by decide +kernel, by decide +kernel⟩
theorem lt_of_bits {m B : Nat} (h : ∀ i, m.testBit i = true → i < B) : m < 2 ^ B :=
  Nat.lt_pow_two_of_testBit m fun i hi => by
    cases e : m.testBit i with
    | false => rfl
    | true => have := h i e; omega
theorem laid_step (T : Tx K w mg) (k : Nat) (G : FnOk P w K mg base CX0 (k + 2) T.bLaid T.gLaid ["self", "pattern"] (spBefore (spLaid T.C) k)) :
    FnOk P w K mg base CX0 (k + 3) T.bLaid T.gLaid ["self", "pattern"] (spLaid T.C k) := by
  refine T.mlaid.fn.ok scLaid (fun vs H Q E h => ?_) (fun cdv A outer s H vs Q E hr h => ?_)
  · obtain ⟨H0, p, dx, l1, l2, l3, gs, bh, en, v, pa, rfl, _⟩ := h
    rfl
  · obtain ⟨H0, p, dx, l1, l2, l3, gs, bh, en, v, pa, rfl, hp, hdep, hd, hgl, hsz, q⟩ := h
    have hr1 : Room 1 _ := hr.mono (by omega)
    have hr2 : Room 2 _ := hr.mono (by omega)
    refine ⟨_, (pss_cons (ps_set (i := 2) scLaid.nd rfl (.inl rfl) (pe_ix ix_tup (pv 1) pe_int (fun _ _ => rfl)))
      (pss_cons (ps_if (pt_cmpR op_eq (pv 2) pe_str (nomark _))
        (pss_one (ps_ret (pe_meth (pv 0) T.cl T.mlaidS.mt (ok_laidS T) hr1 T.mlaidS.bd .nil pass0 (pa_cons (pe_ix ix_tup (pv 1) pe_int (fun _ _ => rfl)) pa_nil)))) pss_nil)
      (pss_cons (ps_if (pt_cmpR op_eq (pv 2) pe_str (nomark _))
        (pss_one (ps_ret (pe_tup (pa_cons pe_bl (pa_cons pe_int (pa_cons pe_int pa_nil)))))) pss_nil)
      (pss_cons (ps_asg (pe_meth (pv 0) T.cl T.mlaid.mt G hr T.mlaid.bd .nil pass0 (pa_cons (pe_ix ix_tup (pv 1) pe_int (fun _ _ => rfl)) pa_nil)) (pg_tup rfl (pgs_cons (pg_name (i := 3) scLaid.nd rfl (.inl rfl)) (pgs_cons (pg_name (i := 4) scLaid.nd rfl (.inl rfl)) (pgs_cons (pg_name (i := 5) scLaid.nd rfl (.inl rfl)) pgs_nil)))))
      (pss_cons (ps_if (pt_cmpR op_eq (pv 2) pe_str (nomark _))
        (pss_one (ps_ret (pe_tup (pa_cons pe_bl (pa_cons (pv 4) (pa_cons (pv 5) pa_nil)))))) pss_nil)
      (pss_cons (ps_if (PW.pt (pw_or (pt_cmpR op_eq (pv 2) pe_str (nomark _)) (pw_or1 (pt_cmpR op_eq (pv 2) pe_str (nomark _)))))
        (pss_cons (ps_expr (pe_meth (pv 0) T.cl T.mlink.mt (ok_link T) hr2 T.mlink.bd .nil pass0 (pa_cons (pv 5) (pa_cons (pv 4) pa_nil))))
        (pss_one (ps_ret (pe_tup (pa_cons (pe_or (pv 3) (pe_one (pe_cmpR op_eq (pv 2) pe_str (nomark _)))) (pa_cons (pv 4) (pa_cons (pv 5) pa_nil))))))) pss_nil)
      (pss_cons (ps_asg (pe_meth (pv 0) T.cl T.mlaid.mt G hr T.mlaid.bd .nil pass0 (pa_cons (pe_ix ix_tup (pv 1) pe_int (fun _ _ => rfl)) pa_nil)) (pg_tup rfl (pgs_cons (pg_name (i := 6) scLaid.nd rfl (.inl rfl)) (pgs_cons (pg_name (i := 7) scLaid.nd rfl (.inl rfl)) (pgs_cons (pg_name (i := 8) scLaid.nd rfl (.inl rfl)) pgs_nil)))))
      (pss_cons (ps_if (pt_cmpR op_eq (pv 2) pe_str (nomark _))
        (pss_one (ps_ret (pe_tup (pa_cons (pe_or (pv 3) (pe_one (pv 6))) (pa_cons (pe_op op_or (pv 4) (pv 7)) (pa_cons (pe_op op_or (pv 5) (pv 8)) pa_nil)))))) pss_nil)
      (pss_cons (ps_expr (pe_meth (pv 0) T.cl T.mlink.mt (ok_link T) hr2 T.mlink.bd .nil pass0 (pa_cons (pv 5) (pa_cons (pv 7) pa_nil))))
      (pss_cons (ps_if (pt_val (pv 3)) (pss_one (ps_set (i := 4) scLaid.nd rfl (.inl rfl) (pe_op op_or (pv 4) (pv 7)))) pss_nil)
      (pss_cons (ps_if (pt_val (pv 6)) (pss_one (ps_set (i := 8) scLaid.nd rfl (.inl rfl) (pe_op op_or (pv 8) (pv 5)))) pss_nil)
      (pss_one (ps_ret (pe_tup (pa_cons (pe_and (pv 3) (pe_one (pv 6))) (pa_cons (pv 4) (pa_cons (pv 8) pa_nil))))))))))))))))), ?_⟩
    rcases sub_of hd with ⟨l, rfl⟩ | rfl | ⟨wd, a, a0, x1, r, rfl, ea0, h1, ways⟩
    · obtain ⟨a, x0, x1, rfl, ea, h0, h1⟩ := inv2 (hp.sm |> fun s => hd.mono s)
      cases inv_str h0
      cases inv_str h1
      refine ⟨_, rfl, a, _, 0, _, rfl, rfl, SqT.of ea, atI_nat (j := 0) rfl, ?_⟩
      dsimp only [gName, List.set]
      refine ⟨_, rfl, rfl, _, rfl, iteT ?_⟩
      refine ⟨_, rfl, p, dx, _, rfl, hp.obj, rfl, _, rfl, a, _, 1, _, rfl, rfl, SqT.of ea, atI_nat (j := 1) rfl, ?_⟩
      refine ⟨H0, p, dx, l1, l2, l3, gs.map toS, bh, en, toS l, rfl, hp, by rw [List.length_map]; simp only [size] at hsz; omega, by simp only [size] at hsz; omega, fun t H' hp' et => ?_⟩
      refine q t (2 ^ bh.length) (2 ^ bh.length) (bh ++ [0]) H' (by rw [List.map_append]; exact hp') (laid_sg hgl rfl) ?_
      rw [et, List.length_map, hgl]
      rfl
    · obtain ⟨a, x0, rfl, ea, h0⟩ := inv1 (hp.sm |> fun s => hd.mono s)
      cases inv_str h0
      refine ⟨_, rfl, a, _, 0, _, rfl, rfl, SqT.of ea, atI_nat (j := 0) rfl, ?_⟩
      dsimp only [gName, List.set]
      refine ⟨_, rfl, rfl, _, rfl, iteF ?_⟩
      refine ⟨_, rfl, rfl, _, rfl, iteT ?_⟩
      refine ⟨by show 3 ≤ sizeLine; decide, fun t nt => ?_⟩
      refine q t 0 0 bh _ ?_ ?_ upd_same
      · show PlAt T.C H0 _ p dx l1 l2 l3 ((gs ++ []).map toS) bh en
        rw [List.append_nil]
        exact hp.mono (same_new nt)
      · show Laid .em bh.length gs bh (gs ++ []) bh 0 0
        rw [List.append_nil]
        exact laid_em hgl rfl
    · have ns : wd ≠ "signs" := by
        rcases ways with ⟨rfl, _⟩ | ⟨rfl, _⟩ | ⟨rfl, _⟩ | ⟨b, x2, _, _, ⟨rfl, _⟩ | ⟨rfl, _⟩⟩ <;> decide +kernel
      have ne : wd ≠ "empty" := by
        rcases ways with ⟨rfl, _⟩ | ⟨rfl, _⟩ | ⟨rfl, _⟩ | ⟨b, x2, _, _, ⟨rfl, _⟩ | ⟨rfl, _⟩⟩ <;> decide +kernel
      have da : dep a + 1 ≤ k := by
        rcases ways with ⟨_, rfl⟩ | ⟨_, rfl⟩ | ⟨_, rfl⟩ | ⟨b, x2, _, _, ⟨_, rfl⟩ | ⟨_, rfl⟩⟩ <;> simp only [dep] at hdep <;> omega
      have sa : size a ≤ size pa := by
        rcases ways with ⟨_, rfl⟩ | ⟨_, rfl⟩ | ⟨_, rfl⟩ | ⟨b, x2, _, _, ⟨_, rfl⟩ | ⟨_, rfl⟩⟩ <;> simp only [size] <;> omega
      obtain ⟨m, rfl⟩ : ∃ m, k = m + 1 := ⟨k - 1, by omega⟩
      have ea := hp.sm _ _ ea0
      have df : ∀ {x y : Str}, x ≠ y → ¬ decide (V.str x = V.str y) = true := fun h e => h (V.str.inj (of_decide_eq_true e))
      refine ⟨_, rfl, a0, _, 0, _, rfl, rfl, SqT.of ea, atI_nat (j := 0) rfl, ?_⟩
      dsimp only [gName, List.set]
      refine ⟨_, rfl, rfl, _, rfl, ite2 (fun e => absurd e (df ns)) (fun _ => ?_)⟩
      refine ⟨_, rfl, rfl, _, rfl, ite2 (fun e => absurd e (df ne)) (fun _ => ?_)⟩
      -- the first part
      refine ⟨_, rfl, p, dx, _, rfl, hp.obj, rfl, _, rfl, a0, _, 1, _, rfl, rfl, SqT.of ea, atI_nat (j := 1) rfl, ?_⟩
      refine ⟨H0, p, dx, l1, l2, l3, gs, bh, en, x1, a, rfl, hp, by omega, h1, hgl, by omega, fun t1 F La bh1 H1 hp1 L1 et1 => ?_⟩
      refine ⟨t1, _, rfl, SqT.of et1, rfl, _, _, rfl, _, _, rfl, _, _, rfl, rfl, ?_⟩
      dsimp only [gName, List.set]
      have lenA := L1.len
      have laA : La < 2 ^ bh1.length := lt_of_bits fun i hi => by have := L1.in_La hi; omega
      rcases ways with ⟨rfl, rfl⟩ | ways
      · -- maybe
        refine ⟨_, rfl, rfl, _, rfl, iteT ?_⟩
        refine ⟨_, rfl, _, rfl, by show 3 ≤ sizeLine; decide, fun t nt => ?_⟩
        exact q t F La bh1 _ (hp1.mono (same_new nt)) (laid_mb L1) upd_same
      have nm : wd ≠ "maybe" := by
        rcases ways with ⟨rfl, _⟩ | ⟨rfl, _⟩ | ⟨b, x2, _, _, ⟨rfl, _⟩ | ⟨rfl, _⟩⟩ <;> decide +kernel
      refine ⟨_, rfl, rfl, _, rfl, ite2 (fun e => absurd e (df nm)) (fun _ => ?_)⟩
      rcases ways with ⟨rfl, rfl⟩ | ⟨rfl, rfl⟩ | ⟨b, x2, rfl, h2, ways⟩
      · -- again
        refine ⟨_, rfl, rfl, _, rfl, iteT ?_⟩
        refine ⟨_, rfl, p, dx, _, rfl, hp1.obj, rfl, _, rfl, _, rfl, H0, p, dx, l1, l2, l3, _, bh1, en, La, F, rfl, hp1, by omega, laA, fun ds H2 hp2 nd => ?_⟩
        have fin : ∀ c : Bool, c = true → ∀ t, H2 t = none → Q (.ref t) (upd H2 t (.tup [.bl c, vN F, vN La])) := fun c hc t nt => by
          rw [hc]
          exact q t F La _ _ (hp2.mono (same_new nt)) (laid_ag L1 nd) upd_same
        refine ⟨_, rfl, nul a, rfl, ite2 (fun e => ?_) (fun e => ?_)⟩
        · exact ⟨_, rfl, _, rfl, by show 3 ≤ sizeLine; decide, fin true rfl⟩
        · exact ⟨_, rfl, rfl, _, rfl, _, rfl, by show 3 ≤ sizeLine; decide, fin _ (decide_eq_true rfl)⟩
      · -- more
        refine ⟨_, rfl, rfl, _, rfl, iteF ?_⟩
        refine ⟨_, rfl, rfl, _, rfl, iteT ?_⟩
        refine ⟨_, rfl, p, dx, _, rfl, hp1.obj, rfl, _, rfl, _, rfl, H0, p, dx, l1, l2, l3, _, bh1, en, La, F, rfl, hp1, by omega, laA, fun ds H2 hp2 nd => ?_⟩
        have fin : ∀ c : Bool, c = nul a → ∀ t, H2 t = none → Q (.ref t) (upd H2 t (.tup [.bl c, vN F, vN La])) := fun c hc t nt => by
          rw [hc]
          exact q t F La _ _ (hp2.mono (same_new nt)) (laid_mo L1 nd) upd_same
        refine ⟨_, rfl, nul a, rfl, ite2 (fun e => ?_) (fun e => ?_)⟩
        · exact ⟨_, rfl, _, rfl, by show 3 ≤ sizeLine; decide, fin true e.symm⟩
        · exact ⟨_, rfl, rfl, _, rfl, _, rfl, by show 3 ≤ sizeLine; decide, fin _ (by rw [Bool.not_eq_true] at e; rw [e]; decide +kernel)⟩
      · -- or, then
        have na : wd ≠ "again" := by
          rcases ways with ⟨rfl, _⟩ | ⟨rfl, _⟩ <;> decide +kernel
        have nmo : wd ≠ "more" := by
          rcases ways with ⟨rfl, _⟩ | ⟨rfl, _⟩ <;> decide +kernel
        have db : dep b + 1 ≤ m + 1 := by
          rcases ways with ⟨_, rfl⟩ | ⟨_, rfl⟩ <;> simp only [dep] at hdep <;> omega
        have sb : size pa = size a + size b := by
          rcases ways with ⟨_, rfl⟩ | ⟨_, rfl⟩ <;> rfl
        have ea1 := hp1.sm _ _ ea0
        refine ⟨_, rfl, rfl, _, rfl, ite2 (fun e => absurd e (df na)) (fun _ => ?_)⟩
        refine ⟨_, rfl, rfl, _, rfl, ite2 (fun e => absurd e (df nmo)) (fun _ => ?_)⟩
        refine ⟨_, rfl, p, dx, _, rfl, hp1.obj, rfl, _, rfl, a0, _, 2, _, rfl, rfl, SqT.of ea1, atI_nat (j := 2) rfl, ?_⟩
        have gl2 : (gs ++ sgs a).length = bh1.length := by rw [List.length_append, sgs_len, hgl, lenA]
        refine ⟨H0, p, dx, l1, l2, l3, gs ++ sgs a, bh1, en, x2, b, rfl, hp1, by omega, h2, gl2, by omega, fun t2 Fb Lb bh2 H2 hp2 L2 et2 => ?_⟩
        refine ⟨t2, _, rfl, SqT.of et2, rfl, _, _, rfl, _, _, rfl, _, _, rfl, rfl, ?_⟩
        dsimp only [gName, List.set]
        rw [lenA] at L2
        have lenB := L2.len
        rcases ways with ⟨rfl, rfl⟩ | ⟨rfl, rfl⟩
        · -- or
          refine ⟨_, rfl, rfl, _, rfl, iteT ?_⟩
          have LO := laid_or L1 L2
          have fin : ∀ c : Bool, c = (nul a || nul b) → ∀ t, H2 t = none → Q (.ref t) (upd H2 t (.tup [.bl c, .int (Builtin.bitOr (F : Nat) (Fb : Nat)), .int (Builtin.bitOr (La : Nat) (Lb : Nat))])) := fun c hc t nt => by
            rw [hc, or_nat, or_nat]
            refine q t (F ||| Fb) (La ||| Lb) bh2 _ ?_ ?_ upd_same
            · show PlAt _ _ _ _ _ _ _ _ ((gs ++ (sgs a ++ sgs b)).map toS) bh2 en
              rw [← List.append_assoc]
              exact hp2.mono (same_new nt)
            · show Laid _ _ _ _ (gs ++ (sgs a ++ sgs b)) bh2 _ _
              rw [← List.append_assoc]
              exact LO
          refine ⟨_, rfl, nul a, rfl, ite2 (fun e => ?_) (fun e => ?_)⟩
          · exact ⟨_, rfl, _, rfl, _, _, rfl, rfl, _, rfl, _, rfl, _, _, rfl, rfl, by show 3 ≤ sizeLine; decide, fin true (by rw [e]; rfl)⟩
          · exact ⟨_, rfl, _, rfl, _, rfl, _, _, rfl, rfl, _, rfl, _, rfl, _, _, rfl, rfl, by show 3 ≤ sizeLine; decide, fin (nul b) (by rw [Bool.not_eq_true] at e; rw [e]; rfl)⟩
        · -- then
          refine ⟨_, rfl, rfl, _, rfl, iteF ?_⟩
          refine ⟨_, rfl, p, dx, _, rfl, hp2.obj, rfl, _, rfl, _, rfl, H0, p, dx, l1, l2, l3, _, bh2, en, La, Fb, rfl, hp2, by omega, Nat.lt_of_lt_of_le laA (Nat.pow_le_pow_right (by decide) (by omega)), fun ds H3 hp3 nd => ?_⟩
          have LT := laid_th L1 L2 nd
          have fin : ∀ (c : Bool) (X Y : Nat), c = (nul a && nul b) → X = (if nul a = true then F ||| Fb else F) → Y = (if nul b = true then Lb ||| La else Lb) → ∀ t, H3 t = none → Q (.ref t) (upd H3 t (.tup [.bl c, vN X, vN Y])) := fun c X Y hc hX hY t nt => by
            rw [hc]
            refine q t X Y (lnk bh2 ds Fb) _ ?_ ?_ upd_same
            · show PlAt _ _ _ _ _ _ _ _ ((gs ++ (sgs a ++ sgs b)).map toS) _ en
              rw [← List.append_assoc]
              exact hp3.mono (same_new nt)
            · show Laid _ _ _ _ (gs ++ (sgs a ++ sgs b)) _ _ _
              rw [← List.append_assoc, hX, hY]
              exact LT
          refine ⟨_, rfl, nul a, rfl, ite2 (fun e => ?_) (fun e => ?_)⟩
          · refine ⟨_, rfl, _, rfl, _, _, rfl, rfl, ?_⟩
            dsimp only [gName, List.set]
            rw [or_nat]
            refine ⟨_, rfl, nul b, rfl, ite2 (fun f => ?_) (fun f => ?_)⟩
            · refine ⟨_, rfl, _, rfl, _, _, rfl, rfl, ?_⟩
              dsimp only [gName, List.set]
              rw [or_nat]
              exact ⟨_, rfl, nul a, rfl, ite2 (fun _ => ⟨_, rfl, _, rfl, _, rfl, by show 3 ≤ sizeLine; decide, fin (nul b) _ _ (by rw [e]; rfl) (by rw [if_pos e]) (by rw [if_pos f])⟩) (fun z => absurd e z)⟩
            · exact ⟨_, rfl, nul a, rfl, ite2 (fun _ => ⟨_, rfl, _, rfl, _, rfl, by show 3 ≤ sizeLine; decide, fin (nul b) _ _ (by rw [e]; rfl) (by rw [if_pos e]) (by rw [if_neg f])⟩) (fun z => absurd e z)⟩
          · refine ⟨_, rfl, nul b, rfl, ite2 (fun f => ?_) (fun f => ?_)⟩
            · refine ⟨_, rfl, _, rfl, _, _, rfl, rfl, ?_⟩
              dsimp only [gName, List.set]
              rw [or_nat]
              exact ⟨_, rfl, nul a, rfl, ite2 (fun z => absurd z e) (fun _ => ⟨_, rfl, _, rfl, by show 3 ≤ sizeLine; decide, fin false _ _ (by rw [Bool.not_eq_true] at e; rw [e]; rfl) (by rw [if_neg e]) (by rw [if_pos f])⟩)⟩
            · exact ⟨_, rfl, nul a, rfl, ite2 (fun z => absurd z e) (fun _ => ⟨_, rfl, _, rfl, by show 3 ≤ sizeLine; decide, fin false _ _ (by rw [Bool.not_eq_true] at e; rw [e]; rfl) (by rw [if_neg e]) (by rw [if_neg f])⟩)⟩
theorem ok_laid (T : Tx K w mg) : ∀ k : Nat, FnOk P w K mg base CX0 (k + 3) T.bLaid T.gLaid ["self", "pattern"] (spLaid T.C k)
  | 0 => laid_step T 0 no_fn
  | k + 1 => laid_step T (k + 1) (ok_laid T k)
end
end K01
set_option maxRecDepth 100000
set_option maxHeartbeats 1000000
namespace K01
open PySem PySem.Spec PyProof.Rows L2 Yard
/-- some place of R has j behind it -/
def Bh (bh : List Nat) (ds : List Nat) (j : Nat) : Prop := ∃ i b, i ∈ ds ∧ bh[i]? = some b ∧ b.testBit j = true
section
variable {P : Program} {w : World} {K : PySem.W.Frag} {mg : Str → Option Value} {base : Heap}
/-! ### all_behind -/
def spBehind (C : Addr) : Sp := fun vs H Q _ => ∃ (H0 : Hp) (p dx l1 l2 l3 : Addr) (sg : List Str) (bh en : List Nat) (R : Nat), vs = [.ref p, .int R] ∧ PlAt C H0 H p dx l1 l2 l3 sg bh en ∧ bh.length ≤ 1000 ∧ R < 2 ^ bh.length ∧
  ∀ X H', Same H H' → (∀ j, X.testBit j = true ↔ ∃ i b, R.testBit i = true ∧ bh[i]? = some b ∧ b.testBit j = true) → Q (vN X) H'
theorem scBehind : FnScope ["self", "places", "behind", "lowest"] ["self", "places"] (defScope mBehind) := ⟨rfl, rfl, rfl, by decide +kernel, rfl, by decide +kernel, by decide +kernel⟩
theorem ok_behind (T : Tx K w mg) : FnOk P w K mg base CX0 2 T.bBehind T.gBehind ["self", "places"] (spBehind T.C) := by
  refine T.mbehind.fn.ok scBehind (fun vs H Q E h => ?_) (fun cdv A outer s H vs Q E hr h => ?_)
  · obtain ⟨H0, p, dx, l1, l2, l3, sg, bh, en, R, rfl, _⟩ := h
    rfl
  · obtain ⟨H0, p, dx, l1, l2, l3, sg, bh, en, R, rfl, hp, hl, hR, q⟩ := h
    refine ⟨_, (pss_cons (ps_set (i := 2) scBehind.nd rfl (.inl rfl) pe_int)
      (pss_cons (ps_while PassesOwn.never (pt_truth (pv 1) (by intro _; rfl))
        (pss_cons (ps_set (i := 3) scBehind.nd rfl (.inl rfl) (pe_op op_and (pv 1) (pe_un un_neg (pv 1))))
        (pss_cons (ps_set (i := 2) scBehind.nd rfl (.inl rfl) (pe_op op_or (pv 2) (pe_ix ix_list (pe_fld (pv 0) rfl) (pe_op op_sub (pe_bits (pv 3)) pe_int) (fun _ _ => rfl))))
        (pss_one (ps_set (i := 1) scBehind.nd rfl (.inl rfl) (pe_op op_sub (pv 1) (pv 3)))))))
      (pss_one (ps_ret (pv 2))))), ?_⟩
    dsimp only [gName, List.set]
    refine ⟨fun k σ H' => ∃ (ds : List Nat) (X : Nat) (x3 : Option V), σ = [some (.ref p), some (.int (k : Nat)), some (vN X), x3] ∧ H' = H ∧ NumsTo R k ds ∧ ∀ j, X.testBit j = true ↔ Bh bh ds j, ⟨R, [], 0, _, rfl, rfl, .start R, fun j => ?_⟩, ?_⟩
    · rw [Nat.zero_testBit]
      exact ⟨(fun h => nomatch h), (fun ⟨_, _, h, _⟩ => nomatch h)⟩
    rintro k σ H1 ⟨ds, X, x3, rfl, rfl, N1, hX⟩
    refine ⟨_, rfl, ((k : Int) != 0), rfl, ite2 (fun e => ?_) (fun e => ?_)⟩
    · have k0 : k ≠ 0 := by
        rw [bne_iff_ne] at e
        omega
      obtain ⟨j, h1, h2, h3, h4⟩ := and_low k0
      have N2 := N1.step h3 h4
      have kb : j < bh.length := by
        refine Classical.byContradiction fun z => ?_
        have := Nat.testBit_lt_two_pow (x := R) (i := j) (Nat.lt_of_lt_of_le hR (Nat.pow_le_pow_right (by decide) (by omega)))
        rw [(N2.iff j).mpr (.inl (List.mem_append_right _ (List.mem_singleton.mpr rfl)))] at this
        cases this
      refine ⟨fun σ' H' => ∃ (ds : List Nat) (X : Nat) (x3 : Option V), σ' = [some (.ref p), some (.int ((k - 2 ^ j : Nat) : Nat)), some (vN X), x3] ∧ H' = H1 ∧ NumsTo R (k - 2 ^ j) ds ∧ ∀ j, X.testBit j = true ↔ Bh bh ds j, ?_, ?_⟩
      · rintro σ' H' h
        exact ⟨k - 2 ^ j, by have := Nat.two_pow_pos j; omega, h⟩
      · refine ⟨_, rfl, _, rfl, k, rfl, _, _, rfl, rfl, ?_⟩
        dsimp only [gName, List.set]
        rw [h1]
        have eb : ((Builtin.Int.intBits ((2 ^ j : Nat) : Int) : Nat) : Int) - 1 = ((j : Nat) : Int) := by
          rw [bits_pow]; omega
        refine ⟨_, rfl, _, rfl, p, T.C, dx, _, _, rfl, hp.obj, T.cl, T.naB, pf_b _ _ _, _, rfl, _, rfl, _, _, rfl, rfl, ?_⟩
        refine ⟨l2, _, ((j : Nat) : Int), vN bh[j], rfl, congrArg V.int eb, SqL.of hp.e2, atI_nat (by rw [List.getElem?_map, List.getElem?_eq_getElem kb]; rfl), _, _, rfl, rfl, ?_⟩
        dsimp only [gName, List.set]
        rw [or_nat]
        refine ⟨_, rfl, _, rfl, _, _, rfl, rfl, ?_⟩
        refine ⟨ds ++ [j], X ||| bh[j], some (.int ((2 ^ j : Nat) : Int)), ?_, rfl, N2, fun i => ?_⟩
        · show [_, some (V.int ((k : Int) - ((2 ^ j : Nat) : Int))), _, _] = _
          rw [show (k : Int) - ((2 ^ j : Nat) : Int) = ((k - 2 ^ j : Nat) : Int) by omega]
          rfl
        · rw [or_bit, hX i]
          constructor
          · rintro (⟨i', b, h1, h2, h3⟩ | h)
            · exact ⟨i', b, List.mem_append_left _ h1, h2, h3⟩
            · exact ⟨j, _, List.mem_append_right _ (List.mem_singleton.mpr rfl), List.getElem?_eq_getElem kb, h⟩
          · rintro ⟨i', b, h1, h2, h3⟩
            rcases List.mem_append.mp h1 with h | h
            · exact .inl ⟨i', b, h, h2, h3⟩
            · rw [List.mem_singleton.mp h, List.getElem?_eq_getElem kb] at h2
              cases h2
              exact .inr h3
    · have k0 : k = 0 := by
        refine Classical.byContradiction fun z => e (bne_iff_ne.mpr ?_)
        omega
      subst k0
      have nd := N1.end_
      refine ⟨_, rfl, q X H1 (fun _ _ z => z) fun j => ?_⟩
      rw [hX j]
      constructor
      · rintro ⟨i, b, h1, h2, h3⟩
        exact ⟨i, b, (nd.iff i).mp h1, h2, h3⟩
      · rintro ⟨i, b, h1, h2, h3⟩
        exact ⟨i, b, (nd.iff i).mpr h1, h2, h3⟩
/-! ### first_end, of one pattern -/
def spFend (C : Addr) : Sp := fun vs H Q _ => ∃ (H0 : Hp) (p dx l1 l2 l3 : Addr) (sg : List Str) (bh : List Nat) (en R : Nat), vs = [.ref p, .int R] ∧ PlAt C H0 H p dx l1 l2 l3 sg bh [en] ∧
  ∀ H', Same H H' → Q (if en &&& R ≠ 0 then .int 0 else .non) H'
theorem scFend : FnScope ["self", "places", "number", "ends"] ["self", "places"] (defScope mFend) := ⟨rfl, rfl, rfl, by decide +kernel, rfl, by decide +kernel, by decide +kernel⟩
theorem ok_fend (T : Tx K w mg) : FnOk P w K mg base CX0 1 T.bFend T.gFend ["self", "places"] (spFend T.C) := by
  refine T.mfend.fn.ok scFend (fun vs H Q E h => ?_) (fun cdv A outer s H vs Q E hr h => ?_)
  · obtain ⟨H0, p, dx, l1, l2, l3, sg, bh, en, R, rfl, _⟩ := h
    rfl
  · obtain ⟨H0, p, dx, l1, l2, l3, sg, bh, en, R, rfl, hp, q⟩ := h
    refine ⟨_, (pss_cons (ps_for PassesOwn.never rfl (pi_enum rfl T.bEnum (pa_cons (pe_fld (pv 0) rfl) pa_nil)) (pg_tup rfl (pgs_cons (pg_name (i := 2) scFend.nd rfl (.inl rfl)) (pgs_cons (pg_name (i := 3) scFend.nd rfl (.inl rfl)) pgs_nil)))
        (pss_one (ps_if (pt_truth (pe_op op_and (pv 3) (pv 1)) (by intro _; rfl)) (pss_one (ps_ret (pv 2))) pss_nil)))
      (pss_one (ps_ret pe_non))), ?_⟩
    refine ⟨_, rfl, p, T.C, dx, _, _, rfl, hp.obj, T.cl, T.naE, pf_e _ _ _, l3, _, rfl, SqL.of hp.e3, ?_⟩
    refine for_it (walk_enum (K := K) (a := l3) (xs := [vN en])) (fun t σ' H' => ∃ (x2 x3 : Option V), σ' = [some (.ref p), some (.int (R : Nat)), x2, x3] ∧ Same H H' ∧ (0 < t → en &&& R = 0)) ⟨_, _, rfl, fun _ _ z => z, fun z => absurd z (Nat.lt_irrefl 0)⟩ (fun t σ' H' _ ⟨_, _, _, sm, _⟩ => SqL.of (sm _ _ hp.e3)) ?_ ?_
    · rintro t y σ H2 H3 ht ⟨x2, x3, rfl, sm, _⟩ ⟨z, a1, a2, rfl, nz, rfl, e1, e2⟩
      have t0 : t = 0 := by
        have : [vN en].length = 1 := rfl
        omega
      subst t0
      cases e1
      cases e2
      refine ⟨z, _, rfl, SqT.of upd_same, rfl, _, _, rfl, _, _, rfl, rfl, ?_⟩
      dsimp only [gName, List.set]
      have sm2 : Same H (upd H2 z (.tup [.int ((0 : Nat) : Int), vN en])) := fun b o e => by rw [upd_ne (ne_of_none (sm b o e) nz)]; exact sm b o e
      refine ⟨_, rfl, _, rfl, _, _, rfl, rfl, ?_⟩
      dsimp only
      rw [and_nat]
      refine ⟨_, rfl, ite2 (fun e => ?_) (fun e => ?_)⟩
      · have ne : en &&& R ≠ 0 := by
          rw [bne_iff_ne] at e
          omega
        have z := q _ sm2
        rw [if_pos ne] at z
        exact ⟨_, rfl, z⟩
      · have ne : en &&& R = 0 := by
          refine Classical.byContradiction fun c => e (bne_iff_ne.mpr ?_)
          omega
        exact ⟨_, _, rfl, sm2, fun _ => ne⟩
    · rintro σ H2 ⟨x2, x3, rfl, sm, h⟩
      have ne := h Nat.zero_lt_one
      have z := q H2 sm
      rw [if_neg (by rw [ne]; exact fun c => c rfl)] at z
      exact z
end
end K01
set_option maxRecDepth 100000
set_option maxHeartbeats 1000000
namespace K01
open PySem PySem.Spec PyProof.Rows L2 Yard
section
variable {P : Program} {w : World} {K : PySem.W.Frag} {mg : Str → Option Value} {base : Heap}
theorem pf_made (l1 l2 l3 : Addr) : putF "ends" (.ref l3) (putF "behind" (.ref l2) (putF "signs" (.ref l1) [])) = pf l1 l2 l3 := rfl
/-! ### Places([pattern]) -/
def spInit (C : Addr) (k : Nat) : Sp := fun vs H Q _ => ∃ (H0 : Hp) (p dx lp : Addr) (v : V) (pa : Pa), vs = [.ref p, .ref lp] ∧ Same H0 H ∧ H0 p = none ∧ H p = some (.ins C dx []) ∧ H0 lp = some (.lst [v]) ∧ Dq H0 v (toD pa) ∧ dep pa ≤ k ∧ size pa ≤ 900 ∧
  ∀ l1 l2 l3 tb bh F La H', PlAt C H0 H' p dx l1 l2 l3 (([[]] ++ sgs pa).map toS) tb [if nul pa = true then La ||| 1 else La] → Laid pa 1 [[]] [0] ([[]] ++ sgs pa) bh F La → tb.length = bh.length → tb[0]? = some F → (∀ i, 1 ≤ i → tb[i]? = bh[i]?) → Q .non H'
theorem scInit : FnScope ["self", "patterns", "pattern", "spells_none", "firsts", "lasts"] ["self", "patterns"] (defScope mInit) := ⟨rfl, rfl, rfl, by decide +kernel, rfl, by decide +kernel, by decide +kernel⟩
theorem ok_init (T : Tx K w mg) (k : Nat) : FnOk P w K mg base CX0 (k + 4) T.bInit T.gInit ["self", "patterns"] (spInit T.C k) := by
  have G := ok_laid (P := P) (base := base) T k
  refine T.minit.ok scInit (fun vs H Q E h => ?_) (fun cdv A outer s H vs Q E hr h => ?_)
  · obtain ⟨H0, p, dx, lp, v, pa, rfl, _⟩ := h
    rfl
  · obtain ⟨H0, p, dx, lp, v, pa, rfl, s0, p0, hp, ep, hd, hk, hsz, q⟩ := h
    refine ⟨_, (pss_cons (ps_fld (pv 0) (pe_lst (pa_cons pe_str pa_nil)) rfl)
      (pss_cons (ps_fld (pv 0) (pe_lst (pa_cons pe_int pa_nil)) rfl)
      (pss_cons (ps_fld (pv 0) (pe_lst pa_nil) rfl)
      (pss_one (ps_for PassesOwn.never rfl (pi_list (pv 1)) (pg_name (i := 2) scInit.nd rfl (.inl rfl))
        (pss_cons (ps_asg (pe_meth (pv 0) T.cl T.mlaid.mt G hr T.mlaid.bd .nil pass0 (pa_cons (pv 2) pa_nil)) (pg_tup rfl (pgs_cons (pg_name (i := 3) scInit.nd rfl (.inl rfl)) (pgs_cons (pg_name (i := 4) scInit.nd rfl (.inl rfl)) (pgs_cons (pg_name (i := 5) scInit.nd rfl (.inl rfl)) pgs_nil)))))
        (pss_cons (ps_asg (pe_op op_or (pe_ix ix_list (pe_fld (pv 0) rfl) pe_int (fun _ _ => rfl)) (pv 4)) (pg_sub (pe_fld (pv 0) rfl) pe_int set_list))
        (pss_one (ps_expr (pe_bm PySem.F.plainAttrs_list PySem.F.slot_list_append PySem.F.type_list_append mt_append (pe_fld (pv 0) rfl) (pa_cons (pe_ifExp (pt_val (pv 3)) (pe_op op_or (pv 5) (pe_glob (v := .int 1) rfl T.cBEG ⟨_, rfl⟩)) (pv 5)) pa_nil))))))))))), ?_⟩
    refine ⟨by show 1 ≤ sizeLine; decide, fun l1 n1 => ?_⟩
    have d1 : p ≠ l1 := ne_of_none hp n1
    refine ⟨_, rfl, p, T.C, dx, [], rfl, by rw [upd_ne d1]; exact hp, T.cl, T.naS, by show 0 < 1000; decide, ?_⟩
    have n1' : H l1 = none := n1
    refine ⟨by show 1 ≤ sizeLine; decide, fun l2 n2 => ?_⟩
    have d2 : p ≠ l2 := fun e => by rw [e, upd_same] at n2; cases n2
    have d12 : l1 ≠ l2 := fun e => by rw [e] at n2; rw [upd_ne (by rw [← e]; exact d1.symm), ← e, upd_same] at n2; cases n2
    refine ⟨_, rfl, p, T.C, dx, _, rfl, by rw [upd_ne d2]; exact upd_same, T.cl, T.naB, by show 1 < 1000; decide, ?_⟩
    have n2' : H l2 = none := by
      rw [upd_ne d2.symm, upd_ne d12.symm] at n2
      exact n2
    refine ⟨Nat.zero_le _, fun l3 n3 => ?_⟩
    have d3 : p ≠ l3 := fun e => by rw [e, upd_same] at n3; cases n3
    have d23 : l2 ≠ l3 := fun e => by rw [← e, upd_ne d2.symm, upd_same] at n3; cases n3
    have d13 : l1 ≠ l3 := fun e => by rw [← e, upd_ne d1.symm, upd_ne d12, upd_ne d1.symm, upd_same] at n3; cases n3
    have n3' : H l3 = none := by
      rw [upd_ne d3.symm, upd_ne d23.symm, upd_ne d3.symm, upd_ne d13.symm] at n3
      exact n3
    refine ⟨_, rfl, p, T.C, dx, _, rfl, by rw [upd_ne d3]; exact upd_same, T.cl, T.naE, by show 2 < 1000; decide, ?_⟩
    have hpl : PlAt T.C H0 (upd (upd (upd (upd (upd (upd H l1 (.lst [.str ""])) p (.ins T.C dx (putF "signs" (.ref l1) []))) l2 (.lst [.int 0])) p (.ins T.C dx (putF "behind" (.ref l2) (putF "signs" (.ref l1) [])))) l3 (.lst [])) p (.ins T.C dx (putF "ends" (.ref l3) (putF "behind" (.ref l2) (putF "signs" (.ref l1) []))))) p dx l1 l2 l3 ([[]].map toS) [0] [] := by
      have free : ∀ {l : Addr}, H l = none → H0 l = none := fun {l} h => by
        cases e : H0 l with
        | none => rfl
        | some o => rw [s0 _ _ e] at h; cases h
      refine ⟨fun b o e => ?_, p0, free n1', free n2', free n3', d12, d13, d23, upd_same, ?_, ?_, ?_⟩
      · have hb := s0 b o e
        have bp : b ≠ p := fun z => by rw [z, p0] at e; cases e
        rw [upd_ne bp, upd_ne (ne_of_none hb n3'), upd_ne bp, upd_ne (ne_of_none hb n2'), upd_ne bp, upd_ne (ne_of_none hb n1')]
        exact hb
      · rw [upd_ne d1.symm, upd_ne d13, upd_ne d1.symm, upd_ne d12, upd_ne d1.symm]
        exact upd_same
      · rw [upd_ne d2.symm, upd_ne d23, upd_ne d2.symm]
        exact upd_same
      · rw [upd_ne d3.symm]
        exact upd_same
    have elp := hpl.sm _ _ ep
    refine ⟨_, rfl, lp, rfl, ⟨_, SqL.of elp⟩, ?_⟩
    refine for_it (walk_list (K := K) (a := lp) (xs := [v])) (fun t σ' H' => Same H0 H' ∧ ((t = 0 ∧ (∃ x2 x3 x4 x5, σ' = [some (.ref p), some (.ref lp), x2, x3, x4, x5]) ∧ PlAt T.C H0 H' p dx l1 l2 l3 ([[]].map toS) [0] []) ∨ (t = 1 ∧ Q .non H'))) ⟨hpl.sm, .inl ⟨rfl, ⟨_, _, _, _, rfl⟩, hpl⟩⟩ (fun t σ' H' _ ⟨sm, _⟩ => SqL.of (sm _ _ ep)) ?_ ?_
    · rintro t y σ H2 H3 ht ⟨sm, hh⟩ ⟨rfl, hy⟩
      rcases hh with ⟨rfl, ⟨x2, x3, x4, x5, rfl⟩, hq⟩ | ⟨rfl, _⟩
      · cases hy
        dsimp only [gName, List.set]
        refine ⟨_, rfl, p, dx, _, rfl, hq.obj, rfl, _, rfl, H0, p, dx, l1, l2, l3, [[]], [0], [], v, pa, rfl, hq, hk, hd, rfl, by show 1 + _ ≤ _; omega, fun t1 F La bh H4 hp4 L et => ?_⟩
        refine ⟨t1, _, rfl, SqT.of et, rfl, _, _, rfl, _, _, rfl, _, _, rfl, rfl, ?_⟩
        dsimp only [gName, List.set]
        have L : Laid pa 1 [[]] [0] ([[]] ++ sgs pa) bh F La := L
        have lb : 0 < bh.length := by rw [L.len]; omega
        have b0 : bh[0]? = some 0 := L.old 0 (by decide)
        refine ⟨_, rfl, p, T.C, dx, _, _, rfl, hp4.obj, T.cl, T.naB, pf_b _ _ _, l2, _, 0, vN 0, rfl, rfl, SqL.of hp4.e2, ?_, _, rfl, _, _, rfl, rfl, ?_⟩
        · refine atI_nat (j := 0) ?_
          rw [List.getElem?_map, b0]
          rfl
        have e0 : Builtin.bitOr ((0 : Nat) : Int) (F : Nat) = ((F : Nat) : Int) := by rw [or_nat, Nat.zero_or]
        refine ⟨_, rfl, p, T.C, dx, _, _, rfl, hp4.obj, T.cl, T.naB, pf_b _ _ _, l2, _, 0, 0, rfl, rfl, hp4.e2, ixN_at (j := 0) (by rw [List.length_map]; exact lb), ?_⟩
        have eset : ((bh.map vN).set 0 (V.int (Builtin.bitOr ((0 : Nat) : Int) (F : Nat)))) = (bh.set 0 F).map vN := by
          rw [e0, List.map_set]; rfl
        have hp5 : PlAt T.C H0 (upd H4 l2 (.lst ((bh.map vN).set 0 (V.int (Builtin.bitOr ((0 : Nat) : Int) (F : Nat)))))) p dx l1 l2 l3 (([[]] ++ sgs pa).map toS) (bh.set 0 F) [] := by
          rw [eset]
          exact hp4.set2 _
        have fin : ∀ (E : Nat) (sm5 : Same H0 (upd H4 l2 (.lst ((bh.map vN).set 0 (V.int (Builtin.bitOr ((0 : Nat) : Int) (F : Nat))))))), E = (if nul pa = true then La ||| 1 else La) →
            Same H0 (upd (upd H4 l2 (.lst ((bh.map vN).set 0 (V.int (Builtin.bitOr ((0 : Nat) : Int) (F : Nat)))))) l3 (.lst ([] ++ [vN E]))) ∧ Q .non (upd (upd H4 l2 (.lst ((bh.map vN).set 0 (V.int (Builtin.bitOr ((0 : Nat) : Int) (F : Nat)))))) l3 (.lst ([] ++ [vN E]))) := fun E sm5 hE => by
          have h6 := hp5.set3 [E]
          refine ⟨h6.sm, q l1 l2 l3 (bh.set 0 F) bh F La _ (hE ▸ h6) L (List.length_set ..) ?_ fun i hi => ?_⟩
          · rw [List.getElem?_set_self lb]
          · rw [List.getElem?_set_ne (by omega)]
        refine ⟨_, rfl, p, T.C, dx, _, _, rfl, hp5.obj, T.cl, T.naE, pf_e _ _ _, .inl ⟨rfl, _, SqL.of hp5.e3⟩, _, rfl, nul pa, rfl, ite2 (fun e => ?_) (fun e => ?_)⟩
        · refine ⟨_, rfl, _, _, rfl, rfl, l3, _, _, rfl, rfl, hp5.e3, by show 0 < sizeLine; decide, ?_⟩
          have f := fin (La ||| 1) hp5.sm (by rw [if_pos e])
          have e1 : Builtin.bitOr ((La : Nat) : Int) 1 = ((La ||| 1 : Nat) : Int) := or_nat La 1
          dsimp only
          rw [e1]
          exact ⟨f.1, .inr ⟨rfl, f.2⟩⟩
        · refine ⟨_, rfl, l3, _, _, rfl, rfl, hp5.e3, by show 0 < sizeLine; decide, ?_⟩
          have f := fin La hp5.sm (by rw [if_neg e])
          exact ⟨f.1, .inr ⟨rfl, f.2⟩⟩
      · exact absurd ht (by show ¬ (1 < 1); omega)
    · rintro σ H2 ⟨sm, ⟨h, _⟩ | ⟨_, h⟩⟩
      · cases h
      · exact h
end
end K01
set_option maxRecDepth 100000
set_option maxHeartbeats 1000000
namespace K01
open PySem PySem.Spec PyProof.Rows L2 Yard
/-- a drawn pattern -/
structure Pk (p : Pa) (n : Nat) : Prop where
  wf : Wf p
  low : ∀ l ∈ sgs p, ∀ c ∈ l, c < 128
  few : ∀ l ∈ sgs p, l.length ≤ 3
  dp : dep p ≤ n
  sz : size p ≤ 2 ^ n
  nd : nod p + 1 ≤ 2 ^ (n + 1)
theorem Pk.mono {p : Pa} {n m : Nat} (h : Pk p n) (k : n ≤ m) : Pk p m :=
  ⟨h.wf, h.low, h.few, Nat.le_trans h.dp k, Nat.le_trans h.sz (Nat.pow_le_pow_right (by decide) k), Nat.le_trans h.nd (Nat.pow_le_pow_right (by decide) (by omega))⟩
theorem pk_sg {l : List Nat} (h : l ≠ []) (s : l.Pairwise (· ≤ ·)) (lo : ∀ c ∈ l, c < 128) (f : l.length ≤ 3) : Pk (.sg l) 0 :=
  ⟨⟨h, s⟩, fun m hm => by rw [show m = l from by simpa [sgs] using hm]; exact lo, fun m hm => by rw [show m = l from by simpa [sgs] using hm]; exact f, Nat.le_refl _, Nat.le_refl _, by show 1 + 1 ≤ 2; omega⟩
theorem pk_em : Pk .em 0 := ⟨trivial, fun m hm => by simp [sgs] at hm, fun m hm => by simp [sgs] at hm, Nat.le_refl _, by decide, by decide⟩
theorem pk_two {a b : Pa} {n : Nat} (h : Pk a n) (k : Pk b n) : Pk (.th a b) (n + 1) ∧ Pk (.or a b) (n + 1) := by
  have e1 : 2 ^ (n + 1) = 2 ^ n + 2 ^ n := by rw [Nat.pow_succ]; omega
  have e2 : 2 ^ (n + 1 + 1) = 2 ^ (n + 1) + 2 ^ (n + 1) := by rw [Nat.pow_succ]; omega
  have mem : ∀ l, l ∈ sgs a ++ sgs b → l ∈ sgs a ∨ l ∈ sgs b := fun l hl => List.mem_append.mp hl
  have h1 := h.dp; have h2 := k.dp; have h3 := h.sz; have h4 := k.sz; have h5 := h.nd; have h6 := k.nd
  refine ⟨⟨⟨h.wf, k.wf⟩, fun l hl => (mem l hl).elim (h.low l) (k.low l), fun l hl => (mem l hl).elim (h.few l) (k.few l), ?_, ?_, ?_⟩, ⟨⟨h.wf, k.wf⟩, fun l hl => (mem l hl).elim (h.low l) (k.low l), fun l hl => (mem l hl).elim (h.few l) (k.few l), ?_, ?_, ?_⟩⟩
  all_goals simp only [dep, size, nod]
  all_goals omega
theorem pk_one {a : Pa} {n : Nat} (h : Pk a n) : Pk (.ag a) (n + 1) ∧ Pk (.mo a) (n + 1) ∧ Pk (.mb a) (n + 1) := by
  have e1 : 2 ^ (n + 1) = 2 ^ n + 2 ^ n := by rw [Nat.pow_succ]; omega
  have e2 : 2 ^ (n + 1 + 1) = 2 ^ (n + 1) + 2 ^ (n + 1) := by rw [Nat.pow_succ]; omega
  have p1 := Nat.two_pow_pos n
  have h1 := h.dp; have h3 := h.sz; have h5 := h.nd
  refine ⟨⟨h.wf, h.low, h.few, ?_, ?_, ?_⟩, ⟨h.wf, h.low, h.few, ?_, ?_, ?_⟩, ⟨h.wf, h.low, h.few, ?_, ?_, ?_⟩⟩
  all_goals simp only [dep, size, nod]
  all_goals omega
theorem rising_le : ∀ (l : List Nat) (c : Nat), risingS ⟨#[c]⟩ (l.map fun z => (⟨#[z]⟩ : Str)) = true → (c :: l).Pairwise (· ≤ ·)
  | [], c, _ => by simp
  | d :: l, c, h => by
    have h' : (!ltCps [d] [c] && risingS ⟨#[d]⟩ (l.map fun z => (⟨#[z]⟩ : Str))) = true := h
    rw [Bool.and_eq_true] at h'
    have r := rising_le l d h'.2
    have cd : c ≤ d := by
      have q := h'.1
      refine Nat.le_of_not_lt fun z => ?_
      have e : ltCps [d] [c] = true := by
        show (decide (d < c) || (d == c && ltCps [] [])) = true
        rw [decide_eq_true z]; rfl
      rw [e] at q
      cases q
    refine List.pairwise_cons.mpr ⟨fun x hx => ?_, r⟩
    rcases List.mem_cons.mp hx with e | e
    · rw [e]; exact cd
    · exact Nat.le_trans cd ((List.pairwise_cons.mp r).1 x e)
theorem sorted_le {l : List Nat} (h : sortedS (l.map fun z => (⟨#[z]⟩ : Str)) = true) : l.Pairwise (· ≤ ·) := by
  cases l with
  | nil => exact .nil
  | cons c l => exact rising_le l c h
section
variable {P : Program} {w : World} {K : PySem.W.Frag} {mg : Str → Option Value} {base : Heap}
/-! ### _law_signs_of -/
def spOf : Sp := fun vs H Q _ => ∃ (a : Addr) (c : Nat) (x : Str), vs = [.ref a, .str x] ∧ JarAt H a c ∧ c ≤ 900000 ∧ PoolOk x ∧
  ∀ v p H', Off a H H' → JarAt H' a (c + 5) → Dq (wo a H') v (toD p) → Pk p 0 → Q v H'
theorem scOf : FnScope ["jar", "plain", "pool", "some", "k"] ["jar", "plain"] (defScope sOf) := ⟨rfl, rfl, rfl, by decide +kernel, rfl, by decide +kernel, by decide +kernel⟩
theorem ok_of (T : Tx K w mg) : FnOk P w K mg base CX0 2 T.aOf T.fOf ["jar", "plain"] spOf := by
  refine T.of.fn.ok scOf (fun vs H Q E h => ?_) (fun cdv A outer s H vs Q E hr h => ?_)
  · obtain ⟨a, c, x, rfl, _⟩ := h
    rfl
  · obtain ⟨a, c, x, rfl, hj, hc, hx, q⟩ := h
    refine ⟨_, (pss_cons (ps_set (i := 2) scOf.nd rfl (.inr rfl) (pe_ix ix_list (pe_lst (pa_cons (pv 1) (pa_cons (pe_call0 (ok_all T) hr (by rfl) T.all.at_ T.all.kp T.all.bd .nil pass0) pa_nil))) (pe_callTy call_int1 (by rfl) T.bInt (by decide +kernel) (pa_cons (pe_cmpR op_eq (pe_call (ok_dip T) hr (by rfl) T.dip.at_ T.dip.kp T.dip.bd .nil pass0 (pa_cons (pv 0) (pa_cons pe_int pa_nil))) pe_int (nomark _)) pa_nil)) (fun _ _ => rfl)))
      (pss_cons (ps_set (i := 3) scOf.nd rfl (.inl rfl) (pe_callB (cr_sortedTx rfl) (by rfl) T.bSorted (by decide +kernel) (pa_cons (pe_callTy (cr_setTx rfl) (by rfl) T.bSet (by decide +kernel) (pa_cons (pe_lc (own := [("k", 4)]) (g := gName 4) (tt := tYes) rfl scOf.nd (pi_range1 rfl T.bRange (pa_cons (pe_op op_add pe_int (pe_call (ok_dip T) hr (by rfl) T.dip.at_ T.dip.kp T.dip.bd .nil pass0 (pa_cons (pv 0) (pa_cons pe_int pa_nil)))) pa_nil)) (blkOk_by (own := [("k", 4)]) (N := ["jar", "plain", "pool", "some", "k"]) (sc := defScope sOf) (by decide +kernel)) (fun _ _ _ _ _ => pg_name (i := 4) scOf.nd rfl (.inl rfl)) (fun _ _ _ _ _ => pts_nil) (fun _ _ _ _ _ => (pe_ix ix_str (pv 2) (pe_call (ok_dip T) hr (by rfl) T.dip.at_ T.dip.kp T.dip.bd .nil pass0 (pa_cons (pv 0) (pa_cons (pe_callB call_len_str (by rfl) T.len PySem.boot_len (pa_cons (pv 2) pa_nil)) pa_nil))) (fun _ _ => rfl)))) pa_nil)) pa_nil)))
      (pss_one (ps_ret (pe_tup (pa_cons pe_str (pa_cons (pe_join pe_str (pv 3)) pa_nil))))))), ?_⟩
    refine ⟨_, rfl, rfl, by show 2 ≤ sizeLine; decide, fun p0 np0 => ?_⟩
    have j1 := hj.same (same_new (o := .lst [.str x, .str allS]) np0)
    refine ⟨_, rfl, a, 12, c, rfl, j1, by decide, by decide, by omega, fun r H1 r0 r1 of1 j2 => ⟨rfl, .inr ⟨_, rfl, ?_⟩⟩⟩
    have e1 : H1 p0 = some (.lst [.str x, .str allS]) := of1 _ _ (hj.ne np0) upd_same
    have of0 : Off a H H1 := (Off.of_same (same_new np0)).trans of1
    clear of1 j1 np0 r0 r1
    obtain ⟨pool, hp, g⟩ : ∃ pool, PoolOk pool ∧ atI [V.str x, V.str allS] (if decide (V.int r = V.int 0) = true then 1 else 0) = some (.str pool) := by
      split
      · exact ⟨allS, pool_all, rfl⟩
      · exact ⟨x, hx, rfl⟩
    refine ⟨p0, _, _, _, rfl, rfl, SqL.of e1, g, ?_⟩
    -- the draws
    refine ⟨_, rfl, a, 3, c + 1, rfl, j2, by decide, by decide, by omega, fun m H2 m0 m1 of2 j3 => ⟨_, _, rfl, rfl, 1 + m, rfl, by omega, by omega, fun D nD => ?_⟩⟩
    have of3 : Off a H H2 := of0.trans of2
    have nDa : D ≠ a := j3.ne nD
    have pl : pool.cps.toList.length = pool.length := Array.length_toList
    refine lc_acc (walk_range (lo := 0) (n := (1 + m).toNat)) (fun i acc H3 => Off a H2 H3 ∧ JarAt H3 a (c + 2 + i) ∧ ∃ ts : List Nat, acc = (ts.map fun z => (⟨#[z]⟩ : Str)).map V.str ∧ ∀ z ∈ ts, z < 128) (by rw [sizeLine_eq]; omega) ?_ (fun _ _ _ _ _ => trivial) ?_ ?_
    · exact ⟨Off.new nD, j3.same (same_new nD), [], rfl, fun _ h => nomatch h⟩
    · rintro i y H3 H4 acc N hi ⟨of4, j4, ts, rfl, hts⟩ eD hl ⟨rfl, rfl⟩ fin
      refine ⟨rfl, _, rfl, _, rfl, _, rfl, _, rfl, by rw [sizeLine_eq]; have := hp.few; omega, a, pool.length, c + 2 + i, rfl, j4, by have := hp.some_; omega, by have := hp.few; omega, by omega, fun r2 H5 r20 r21 of5 j5 => ?_⟩
      have hlt : r2.toNat < pool.cps.toList.length := by omega
      refine ⟨pool, r2, _, rfl, rfl, by rw [sizeLine_eq]; have := hp.few; omega, atI_at r20 hlt, ?_⟩
      · refine fin _ H5 (of5 _ _ nDa eD) ⟨?_, ?_, ts ++ [pool.cps.toList[r2.toNat]'hlt], ?_, ?_⟩
        · exact (of4.trans of5).upd nD
        · exact j5.upd nDa
        · simp
        · intro z hz
          rcases List.mem_append.mp hz with q1 | q1
          · exact hts z q1
          · rw [List.mem_singleton.mp q1]
            exact hp.low _ (List.getElem_mem hlt)
    · rintro H3 acc ⟨of4, j4, ts, rfl, hts⟩ eD hl
      have nts : ts.length ≤ 3 := by
        rw [List.length_map, List.length_map] at hl
        omega
      refine ⟨D, _, rfl, SqL.of eD, by rw [List.length_map]; omega, fun sa ms nsa hms mem => ?_⟩
      have hms : ms.length ≤ 3 := by rw [List.length_map] at hms; omega
      refine ⟨sa, ms, rfl, upd_same, by omega, fun ys sp pm so nsp => ?_⟩
      obtain ⟨l, rfl, hl2⟩ := one_of (ys := ys) fun y hy => by
        obtain ⟨z, hz, rfl⟩ := List.mem_map.mp ((mem y).mp (pm.mem_iff.mp hy))
        exact ⟨z, hts z hz, rfl⟩
      have ll : l.length ≤ 3 := by
        have := pm.length_eq
        rw [List.length_map] at this
        omega
      have ln : l ≠ [] := fun z => by
        subst z
        have t0 : ts.length = (1 + m).toNat := by rw [List.length_map, List.length_map] at hl; exact hl
        cases ts with
        | nil => simp at t0; omega
        | cons a r =>
          have h1 := pm.mem_iff.mpr ((mem ⟨#[a]⟩).mpr (List.mem_map.mpr ⟨a, List.mem_cons_self, rfl⟩))
          cases h1
      refine ⟨⟨_, rfl⟩, _, rfl, "", sp, _, rfl, rfl, .inl (SqL.of upd_same), ?_, by show 2 ≤ sizeLine; decide, fun q1 nq1 => ?_⟩
      · rw [ones_len]
        have e0 : (("" : Str).length) = 0 := rfl
        rw [e0, Nat.mul_zero]
        omega
      · have nsaa : sa ≠ a := j4.ne nsa
        have j5 := (j4.upd (o := TxO P w sa ms) nsaa)
        have nspa : sp ≠ a := j5.ne nsp
        have j6 := j5.upd (o := .lst ((l.map fun z => (⟨#[z]⟩ : Str)).map V.str)) nspa
        have nqa : q1 ≠ a := j6.ne nq1
        refine q (.ref q1) (.sg l) _ ?_ ?_ ?_ ?_
        · exact (of3.trans of4).trans ((Off.of_same (same_new nsa)).trans ((Off.of_same (same_new nsp)).trans (Off.of_same (same_new nq1))))
        · refine (j6.upd (o := .tup _) nqa).mono ?_
          omega
        · rw [joined]
          exact .tup (wo_get nqa upd_same) (.cons (.str _) (.cons (.str _) .nil))
        · exact pk_sg ln (sorted_le so) hl2 ll
end
end K01
set_option maxRecDepth 100000
set_option maxHeartbeats 1000000
namespace K01
open PySem PySem.Spec PyProof.Rows L2 Yard
section
variable {P : Program} {w : World} {K : PySem.W.Frag} {mg : Str → Option Value} {base : Heap}
/-! ### _law_mould -/
def costM : Nat → Nat
  | 0 => 6
  | n + 1 => 1 + 2 * costM n
theorem costM_ge : ∀ n, 6 ≤ costM n
  | 0 => Nat.le_refl _
  | n + 1 => by have := costM_ge n; show 6 ≤ 1 + 2 * costM n; omega
def spMould (n : Nat) : Sp := fun vs H Q _ => ∃ (a : Addr) (c : Nat) (x : Str), vs = [.ref a, .str x, .int n] ∧ JarAt H a c ∧ c + costM n ≤ 900000 ∧ PoolOk x ∧
  ∀ v p H', Off a H H' → JarAt H' a (c + costM n) → Dq (wo a H') v (toD p) → Pk p n → Q v H'
theorem scMould : FnScope ["jar", "plain", "deep", "way", "one"] ["jar", "plain", "deep"] (defScope sMould) := ⟨rfl, rfl, rfl, by decide +kernel, rfl, by decide +kernel, by decide +kernel⟩
theorem mould_step (T : Tx K w mg) (n : Nat) (G : FnOk P w K mg base CX0 (n + 2) T.aMould T.fMould ["jar", "plain", "deep"] (spBefore spMould n)) :
    FnOk P w K mg base CX0 (n + 3) T.aMould T.fMould ["jar", "plain", "deep"] (spMould n) := by
  refine T.mould.fn.ok scMould (fun vs H Q E h => ?_) (fun cdv A outer s H vs Q E hr h => ?_)
  · obtain ⟨a, c, x, rfl, _⟩ := h
    rfl
  · obtain ⟨a, c, x, rfl, hj, hc, hx, q⟩ := h
    have hr1 : Room 1 _ := hr.mono (by omega)
    have hr2 : Room 2 _ := hr.mono (by omega)
    have c6 := costM_ge n
    refine ⟨_, (pss_cons (ps_set (i := 3) scMould.nd rfl (.inl rfl) (pe_call (ok_dip T) hr1 (by rfl) T.dip.at_ T.dip.kp T.dip.bd .nil pass0 (pa_cons (pv 0) (pa_cons pe_int pa_nil))))
      (pss_cons (ps_if (PW.pt (pw_or (pt_cmpR op_lt (pv 2) pe_int (nomark _)) (pw_or1 (pt_cmpR op_lt (pv 3) pe_int (nomark _)))))
        (pss_one (ps_ret (pe_call (ok_of T) hr2 (by rfl) T.of.at_ T.of.kp T.of.bd .nil pass0 (pa_cons (pv 0) (pa_cons (pv 1) pa_nil)))))
        pss_nil)
      (pss_cons (ps_if (pt_cmpR op_eq (pv 3) pe_int (nomark _))
        (pss_one (ps_ret (pe_tup (pa_cons pe_str pa_nil))))
        pss_nil)
      (pss_cons (ps_set (i := 4) scMould.nd rfl (.inl rfl) (pe_call G hr (by rfl) T.mould.at_ T.mould.kp T.mould.bd .nil pass0 (pa_cons (pv 0) (pa_cons (pv 1) (pa_cons (pe_op op_sub (pv 2) pe_int) pa_nil)))))
      (pss_cons (ps_if (pt_cmpR op_lt (pv 3) pe_int (nomark _))
        (pss_one (ps_ret (pe_tup (pa_cons (pe_ix ix_list (pe_lst (pa_cons pe_str (pa_cons pe_str (pa_cons pe_str pa_nil)))) (pe_op op_sub (pv 3) pe_int) (fun _ _ => rfl)) (pa_cons (pv 4) (pa_cons (pe_call G hr (by rfl) T.mould.at_ T.mould.kp T.mould.bd .nil pass0 (pa_cons (pv 0) (pa_cons (pv 1) (pa_cons (pe_op op_sub (pv 2) pe_int) pa_nil)))) pa_nil))))))
        pss_nil)
      (pss_one (ps_ret (pe_tup (pa_cons (pe_ix ix_list (pe_lst (pa_cons pe_str (pa_cons pe_str (pa_cons pe_str pa_nil)))) (pe_op op_sub (pv 3) pe_int) (fun _ _ => rfl)) (pa_cons (pv 4) pa_nil)))))))))), ?_⟩
    refine ⟨_, rfl, a, 10, c, rfl, hj, by decide, by decide, by omega, fun r H1 r0 r1 of1 j1 => ?_⟩
    have leaf : spOf [.ref a, .str x] H1 Q E0 := ⟨a, c + 1, x, rfl, j1, by omega, hx, fun v p H' of' j' dq pk =>
      q v p H' (of1.trans of') (j'.mono (by omega)) dq (pk.mono (Nat.zero_le _))⟩
    refine ⟨_, rfl, _, _, rfl, rfl, _, rfl, ite2 (fun e => ?_) (fun e => ?_)⟩
    · exact ⟨_, rfl, _, rfl, leaf⟩
    have n2 : ¬ ((n : Int) < 2) := fun h => e (decide_eq_true h)
    obtain ⟨m, rfl⟩ : ∃ m, n = m + 1 := ⟨n - 1, by omega⟩
    have cm : costM (m + 1) = 1 + 2 * costM m := rfl
    refine ⟨_, rfl, _, _, rfl, rfl, _, rfl, ite2 (fun e2 => ?_) (fun e2 => ?_)⟩
    · exact ⟨_, rfl, _, rfl, leaf⟩
    have r3 : 3 ≤ r := by
      have : ¬ (r < 3) := fun h => e2 (decide_eq_true h)
      omega
    refine ⟨_, rfl, rfl, _, rfl, ite2 (fun e3 => ?_) (fun e3 => ?_)⟩
    · refine ⟨by show 1 ≤ sizeLine; decide, fun p np => ?_⟩
      have npa := j1.ne np
      exact q (.ref p) .em _ (of1.trans (Off.new np)) ((j1.upd npa).mono (by omega)) (.tup (wo_get npa upd_same) (.cons (.str _) .nil)) (pk_em.mono (Nat.zero_le _))
    have r9 : r ≠ 9 := fun h => e3 (by rw [h]; exact decide_eq_true rfl)
    refine ⟨_, rfl, _, rfl, _, rfl, _, _, rfl, rfl, a, c + 1, x, ?_, j1, by omega, hx, fun v1 p1 H2 of2 j2 dq1 pk1 => ?_⟩
    · show [V.ref a, V.str x, V.int (((m + 1 : Nat) : Int) - 1)] = _
      rw [show ((m + 1 : Nat) : Int) - 1 = (m : Int) by omega]
    refine ⟨_, rfl, _, _, rfl, rfl, _, rfl, ite2 (fun e4 => ?_) (fun e4 => ?_)⟩
    · -- then, or
      have r6 : r < 6 := of_decide_eq_true e4
      refine ⟨by show 3 ≤ sizeLine; decide, fun p np => ?_⟩
      obtain ⟨wd, hwd, g⟩ : ∃ wd : Str, (wd = "then" ∨ wd = "or") ∧ atI [V.str "then", V.str "then", V.str "or"] (r - 3) = some (.str wd) := by
        obtain h | h | h : r = 3 ∨ r = 4 ∨ r = 5 := by omega
        · subst h; exact ⟨"then", .inl rfl, rfl⟩
        · subst h; exact ⟨"then", .inl rfl, rfl⟩
        · subst h; exact ⟨"or", .inr rfl, rfl⟩
      have npa := j2.ne np
      have j3 := j2.upd (o := .lst [.str "then", .str "then", .str "or"]) npa
      have of3 := of1.trans (of2.trans (Off.new (o := .lst [.str "then", .str "then", .str "or"]) np))
      refine ⟨_, rfl, _, _, rfl, rfl, p, _, _, _, rfl, rfl, SqL.of upd_same, g, _, rfl, _, rfl, _, rfl, _, rfl, _, _, rfl, rfl, a, c + 1 + costM m, x, ?_, j3, by omega, hx, fun v2 p2 H3 of4 j4 dq2 pk2 => ?_⟩
      · show [V.ref a, V.str x, V.int (((m + 1 : Nat) : Int) - 1)] = _
        rw [show ((m + 1 : Nat) : Int) - 1 = (m : Int) by omega]
      refine ⟨by show 3 ≤ sizeLine; decide, fun p3 np2 => ?_⟩
      have npa2 := j4.ne np2
      have off := of3.trans (of4.trans (Off.new (o := .tup [.str wd, v1, v2]) np2))
      have dq1' : Dq (wo a (upd H3 p3 (.tup [.str wd, v1, v2]))) v1 (toD p1) := dq1.mono (wo_off ((Off.new np).trans (of4.trans (Off.new np2))))
      have dq2' : Dq (wo a (upd H3 p3 (.tup [.str wd, v1, v2]))) v2 (toD p2) := dq2.mono (wo_off (Off.new np2))
      have jj := (j4.upd (o := .tup [.str wd, v1, v2]) npa2).mono (c' := c + costM (m + 1)) (by omega)
      rcases hwd with rfl | rfl
      · exact q (.ref p3) (.th p1 p2) _ off jj (.tup (wo_get npa2 upd_same) (.cons (.str _) (.cons dq1' (.cons dq2' .nil)))) (pk_two pk1 pk2).1
      · exact q (.ref p3) (.or p1 p2) _ off jj (.tup (wo_get npa2 upd_same) (.cons (.str _) (.cons dq1' (.cons dq2' .nil)))) (pk_two pk1 pk2).2
    · -- again, more, maybe
      have r6 : ¬ (r < 6) := fun h => e4 (decide_eq_true h)
      refine ⟨by show 3 ≤ sizeLine; decide, fun p np => ?_⟩
      obtain ⟨wd, hwd, g⟩ : ∃ wd : Str, (wd = "again" ∨ wd = "more" ∨ wd = "maybe") ∧ atI [V.str "again", V.str "more", V.str "maybe"] (r - 6) = some (.str wd) := by
        obtain h | h | h : r = 6 ∨ r = 7 ∨ r = 8 := by omega
        · subst h; exact ⟨"again", .inl rfl, rfl⟩
        · subst h; exact ⟨"more", .inr (.inl rfl), rfl⟩
        · subst h; exact ⟨"maybe", .inr (.inr rfl), rfl⟩
      have npa := j2.ne np
      have j3 := j2.upd (o := .lst [.str "again", .str "more", .str "maybe"]) npa
      refine ⟨_, rfl, _, _, rfl, rfl, p, _, _, _, rfl, rfl, SqL.of upd_same, g, _, rfl, by show 2 ≤ sizeLine; decide, fun p3 np2 => ?_⟩
      have npa2 := j3.ne np2
      have off := of1.trans (of2.trans ((Off.new (o := .lst [.str "again", .str "more", .str "maybe"]) np).trans (Off.new (o := .tup [.str wd, v1]) np2)))
      have dq1' := dq1.mono (wo_off ((Off.new (o := .lst [.str "again", .str "more", .str "maybe"]) np).trans (Off.new (o := .tup [.str wd, v1]) np2)))
      have jj := (j3.upd (o := .tup [.str wd, v1]) npa2).mono (c' := c + costM (m + 1)) (by omega)
      rcases hwd with rfl | rfl | rfl
      · exact q (.ref p3) (.ag p1) _ off jj (.tup (wo_get npa2 upd_same) (.cons (.str _) (.cons dq1' .nil))) (pk_one pk1).1
      · exact q (.ref p3) (.mo p1) _ off jj (.tup (wo_get npa2 upd_same) (.cons (.str _) (.cons dq1' .nil))) (pk_one pk1).2.1
      · exact q (.ref p3) (.mb p1) _ off jj (.tup (wo_get npa2 upd_same) (.cons (.str _) (.cons dq1' .nil))) (pk_one pk1).2.2
theorem ok_mould (T : Tx K w mg) : ∀ n : Nat, FnOk P w K mg base CX0 (n + 3) T.aMould T.fMould ["jar", "plain", "deep"] (spMould n)
  | 0 => mould_step T 0 no_fn
  | n + 1 => mould_step T (n + 1) (ok_mould T n)
end
end K01
set_option maxRecDepth 100000
set_option maxHeartbeats 1000000
namespace K01
open PySem PySem.Spec PyProof.Rows L2 Yard
section
variable {P : Program} {w : World} {K : PySem.W.Frag} {mg : Str → Option Value} {base : Heap}
/-! ### spells_none -/
def spSnone (k : Nat) : Sp := fun vs H Q _ => ∃ (v : V) (p : Pa), vs = [v] ∧ Dq H v (toD p) ∧ dep p ≤ k ∧ Q (.bl (nul p)) H
theorem scSnone : FnScope ["pattern", "word"] ["pattern"] (defScope sSnone) := ⟨rfl, rfl, rfl, by decide +kernel, rfl, by decide +kernel, by decide +kernel⟩
theorem snone_step (T : Tx K w mg) (k : Nat) (G : FnOk P w K mg base CX0 k T.aSnone T.fSnone ["pattern"] (spBefore spSnone k)) :
    FnOk P w K mg base CX0 (k + 1) T.aSnone T.fSnone ["pattern"] (spSnone k) := by
  refine T.snone.fn.ok scSnone (fun vs H Q E h => ?_) (fun cdv A outer s H vs Q E hr h => ?_)
  · obtain ⟨v, p, rfl, _⟩ := h
    rfl
  · obtain ⟨v, p, rfl, hd, hk, q⟩ := h
    refine ⟨_, (pss_cons (ps_set (i := 1) scSnone.nd rfl (.inl rfl) (pe_ix ix_tup (pv 0) pe_int (fun _ _ => rfl)))
      (pss_cons (ps_if (pt_cmpR op_eq (pv 1) pe_str (nomark _))
        (pss_one (ps_ret pe_bl)) pss_nil)
      (pss_cons (ps_if (pt_cmpR op_eq (pv 1) pe_str (nomark _))
        (pss_one (ps_ret (pe_and (pe_call G hr (by rfl) T.snone.at_ T.snone.kp T.snone.bd .nil pass0 (pa_cons (pe_ix ix_tup (pv 0) pe_int (fun _ _ => rfl)) pa_nil)) (pe_one (pe_call G hr (by rfl) T.snone.at_ T.snone.kp T.snone.bd .nil pass0 (pa_cons (pe_ix ix_tup (pv 0) pe_int (fun _ _ => rfl)) pa_nil)))))) pss_nil)
      (pss_cons (ps_if (pt_cmpR op_eq (pv 1) pe_str (nomark _))
        (pss_one (ps_ret (pe_or (pe_call G hr (by rfl) T.snone.at_ T.snone.kp T.snone.bd .nil pass0 (pa_cons (pe_ix ix_tup (pv 0) pe_int (fun _ _ => rfl)) pa_nil)) (pe_one (pe_call G hr (by rfl) T.snone.at_ T.snone.kp T.snone.bd .nil pass0 (pa_cons (pe_ix ix_tup (pv 0) pe_int (fun _ _ => rfl)) pa_nil)))))) pss_nil)
      (pss_one (ps_ret (pe_or (pe_cmpR op_ne (pv 1) pe_str (nomark _)) (pe_one (pe_call G hr (by rfl) T.snone.at_ T.snone.kp T.snone.bd .nil pass0 (pa_cons (pe_ix ix_tup (pv 0) pe_int (fun _ _ => rfl)) pa_nil)))))))))), ?_⟩
    cases p with
    | sg l =>
      obtain ⟨a, x0, x1, rfl, ea, h0, h1⟩ := inv2 hd
      cases inv_str h0
      refine ⟨_, rfl, a, _, 0, _, rfl, rfl, SqT.of ea, atI_nat (j := 0) rfl, ?_⟩
      dsimp only [gName, List.set]
      exact ⟨_, rfl, rfl, _, rfl, iteT q⟩
    | em =>
      obtain ⟨a, x0, rfl, ea, h0⟩ := inv1 hd
      cases inv_str h0
      refine ⟨_, rfl, a, _, 0, _, rfl, rfl, SqT.of ea, atI_nat (j := 0) rfl, ?_⟩
      dsimp only [gName, List.set]
      exact ⟨_, rfl, rfl, _, rfl, iteF ⟨_, rfl, rfl, _, rfl, iteF ⟨_, rfl, rfl, _, rfl, iteF ⟨_, rfl, rfl, _, rfl, iteT q⟩⟩⟩⟩
    | ag b =>
      obtain ⟨a, x0, x1, rfl, ea, h0, h1⟩ := inv2 hd
      cases inv_str h0
      refine ⟨_, rfl, a, _, 0, _, rfl, rfl, SqT.of ea, atI_nat (j := 0) rfl, ?_⟩
      dsimp only [gName, List.set]
      exact ⟨_, rfl, rfl, _, rfl, iteF ⟨_, rfl, rfl, _, rfl, iteF ⟨_, rfl, rfl, _, rfl, iteF ⟨_, rfl, rfl, _, rfl, iteT q⟩⟩⟩⟩
    | mb b =>
      obtain ⟨a, x0, x1, rfl, ea, h0, h1⟩ := inv2 hd
      cases inv_str h0
      refine ⟨_, rfl, a, _, 0, _, rfl, rfl, SqT.of ea, atI_nat (j := 0) rfl, ?_⟩
      dsimp only [gName, List.set]
      exact ⟨_, rfl, rfl, _, rfl, iteF ⟨_, rfl, rfl, _, rfl, iteF ⟨_, rfl, rfl, _, rfl, iteF ⟨_, rfl, rfl, _, rfl, iteT q⟩⟩⟩⟩
    | mo b =>
      obtain ⟨a, x0, x1, rfl, ea, h0, h1⟩ := inv2 hd
      cases inv_str h0
      simp only [dep] at hk
      obtain ⟨m, rfl⟩ : ∃ m, k = m + 1 := ⟨k - 1, by omega⟩
      refine ⟨_, rfl, a, _, 0, _, rfl, rfl, SqT.of ea, atI_nat (j := 0) rfl, ?_⟩
      dsimp only [gName, List.set]
      refine ⟨_, rfl, rfl, _, rfl, iteF ⟨_, rfl, rfl, _, rfl, iteF ⟨_, rfl, rfl, _, rfl, iteF ⟨_, rfl, rfl, _, rfl, iteF ?_⟩⟩⟩⟩
      exact ⟨_, rfl, a, _, 1, _, rfl, rfl, SqT.of ea, atI_nat (j := 1) rfl, x1, b, rfl, h1, by omega, q⟩
    | th b c =>
      obtain ⟨a, x0, x1, x2, rfl, ea, h0, h1, h2⟩ := inv3 hd
      cases inv_str h0
      simp only [dep] at hk
      obtain ⟨m, rfl⟩ : ∃ m, k = m + 1 := ⟨k - 1, by omega⟩
      refine ⟨_, rfl, a, _, 0, _, rfl, rfl, SqT.of ea, atI_nat (j := 0) rfl, ?_⟩
      dsimp only [gName, List.set]
      refine ⟨_, rfl, rfl, _, rfl, iteF ⟨_, rfl, rfl, _, rfl, iteT ?_⟩⟩
      refine ⟨_, rfl, a, _, 1, _, rfl, rfl, SqT.of ea, atI_nat (j := 1) rfl, x1, b, rfl, h1, by omega, nul b, rfl, ite2 (fun e => ?_) (fun e => ?_)⟩
      · refine ⟨_, rfl, a, _, 2, _, rfl, rfl, SqT.of ea, atI_nat (j := 2) rfl, x2, c, rfl, h2, by omega, ?_⟩
        have q' : Q (.bl (nul b && nul c)) H := q
        rw [e] at q'
        exact q'
      · have q' : Q (.bl (nul b && nul c)) H := q
        rw [Bool.not_eq_true] at e
        rw [e] at q'
        exact q'
    | or b c =>
      obtain ⟨a, x0, x1, x2, rfl, ea, h0, h1, h2⟩ := inv3 hd
      cases inv_str h0
      simp only [dep] at hk
      obtain ⟨m, rfl⟩ : ∃ m, k = m + 1 := ⟨k - 1, by omega⟩
      refine ⟨_, rfl, a, _, 0, _, rfl, rfl, SqT.of ea, atI_nat (j := 0) rfl, ?_⟩
      dsimp only [gName, List.set]
      refine ⟨_, rfl, rfl, _, rfl, iteF ⟨_, rfl, rfl, _, rfl, iteF ⟨_, rfl, rfl, _, rfl, iteT ?_⟩⟩⟩
      refine ⟨_, rfl, a, _, 1, _, rfl, rfl, SqT.of ea, atI_nat (j := 1) rfl, x1, b, rfl, h1, by omega, nul b, rfl, ite2 (fun e => ?_) (fun e => ?_)⟩
      · have q' : Q (.bl (nul b || nul c)) H := q
        rw [e] at q'
        exact q'
      · refine ⟨_, rfl, a, _, 2, _, rfl, rfl, SqT.of ea, atI_nat (j := 2) rfl, x2, c, rfl, h2, by omega, ?_⟩
        have q' : Q (.bl (nul b || nul c)) H := q
        rw [Bool.not_eq_true] at e
        rw [e] at q'
        exact q'
theorem ok_snone (T : Tx K w mg) : ∀ k : Nat, FnOk P w K mg base CX0 (k + 1) T.aSnone T.fSnone ["pattern"] (spSnone k)
  | 0 => snone_step T 0 no_fn
  | k + 1 => snone_step T (k + 1) (ok_snone T k)
end
end K01
set_option maxRecDepth 100000
set_option maxHeartbeats 1000000
namespace K01
open PySem PySem.Spec PyProof.Rows L2 Yard
theorem toS_len (l : List Nat) : (toS l).length = l.length := by
  show l.toArray.size = _
  simp
theorem toS_cps (l : List Nat) : (toS l).cps.toList = l := by
  show l.toArray.toList = l
  simp
theorem toS_app (a b : List Nat) : toS a ++ toS b = toS (a ++ b) := by
  refine TL.ext_tl ?_
  show TL.tl (toS a ++ toS b) = TL.tl (toS (a ++ b))
  rw [TL.tl_append]
  show a.toArray.toList ++ b.toArray.toList = (a ++ b).toArray.toList
  simp
theorem least_len : ∀ p, (least p).length ≤ size p
  | .sg _ => Nat.le_refl _
  | .em => Nat.le_refl _
  | .th a b => by
    have h1 := least_len a; have h2 := least_len b
    show (least a ++ least b).length ≤ size a + size b
    rw [List.length_append]; omega
  | .or a b => by
    have h1 := least_len a; have h2 := least_len b
    show (if sl (least a) (least b) then least a else least b).length ≤ size a + size b
    by_cases q : sl (least a) (least b)
    · rw [if_pos q]; omega
    · rw [if_neg q]; omega
  | .ag _ => Nat.zero_le _
  | .mo a => least_len a
  | .mb _ => Nat.zero_le _
section
variable {P : Program} {w : World} {K : PySem.W.Frag} {mg : Str → Option Value} {base : Heap}
/-! ### lesser -/
def spLesser : Sp := fun vs H Q _ => ∃ (a b : List Nat), vs = [.str (toS a), .str (toS b)] ∧ a.length ≤ 10000 ∧ b.length ≤ 10000 ∧ ∀ H', Same H H' → Q (.str (toS (if sl a b then a else b))) H'
theorem scLesser : FnScope ["one", "other"] ["one", "other"] (defScope sLesser) := ⟨rfl, rfl, rfl, by decide +kernel, rfl, by decide +kernel, by decide +kernel⟩
theorem sl_test (a b : List Nat) : (if ((a.length : Nat) : Int) = ((b.length : Nat) : Int) then decide (a < b) else decide (((a.length : Nat) : Int) < ((b.length : Nat) : Int))) = decide (sl a b) := by
  by_cases e : ((a.length : Nat) : Int) = ((b.length : Nat) : Int)
  · rw [if_pos e]
    refine decide_eq_decide.mpr ⟨fun h => .inr ⟨by omega, h⟩, fun h => ?_⟩
    rcases h with h | ⟨_, h⟩
    · omega
    · exact h
  · rw [if_neg e]
    refine decide_eq_decide.mpr ⟨fun h => .inl (by omega), fun h => ?_⟩
    rcases h with h | ⟨h, _⟩
    · omega
    · omega
theorem ok_lesser (T : Tx K w mg) : FnOk P w K mg base CX0 1 T.aLesser T.fLesser ["one", "other"] spLesser := by
  refine T.lesser.fn.ok scLesser (fun vs H Q E h => ?_) (fun cdv A outer s H vs Q E hr h => ?_)
  · obtain ⟨a, b, rfl, _⟩ := h
    rfl
  · obtain ⟨a, b, rfl, la, lb, q⟩ := h
    refine ⟨_, (pss_one (ps_ret (pe_ifExp (pt_cmpR (op_ltIS hr.units0) (pe_tup (pa_cons (pe_callB call_len_str (by rfl) T.len PySem.boot_len (pa_cons (pv 0) pa_nil)) (pa_cons (pv 0) pa_nil))) (pe_tup (pa_cons (pe_callB call_len_str (by rfl) T.len PySem.boot_len (pa_cons (pv 1) pa_nil)) (pa_cons (pv 1) pa_nil))) (nomark _)) (pv 0) (pv 1)))), ?_⟩
    have fa : (toS a).length ≤ sizeLine := by rw [toS_len, sizeLine_eq]; omega
    have fb : (toS b).length ≤ sizeLine := by rw [toS_len, sizeLine_eq]; omega
    refine ⟨_, rfl, _, rfl, fa, _, rfl, by show 2 ≤ sizeLine; decide, fun p np => ?_⟩
    refine ⟨_, rfl, _, rfl, fb, _, rfl, by show 2 ≤ sizeLine; decide, fun r nr => ?_⟩
    have e1 : (upd (upd H p (.tup [.int ((toS a).length : Nat), .str (toS a)])) r (.tup [.int ((toS b).length : Nat), .str (toS b)])) p = some (.tup [.int ((toS a).length : Nat), .str (toS a)]) := by
      rw [upd_ne (ne_of_none upd_same nr)]; exact upd_same
    refine ⟨p, r, _, _, _, _, rfl, rfl, SqT.of e1, SqT.of upd_same, _, rfl, ?_⟩
    rw [toS_cps, toS_cps, toS_len, toS_len, sl_test]
    have sm : Same H (upd (upd H p (.tup [.int ((toS a).length : Nat), .str (toS a)])) r (.tup [.int ((toS b).length : Nat), .str (toS b)])) := fun c o z => (same_new nr) c o ((same_new np) c o z)
    rw [toS_len, toS_len] at sm
    have z := q _ sm
    refine ite2 (fun e => ⟨_, rfl, ?_⟩) (fun e => ⟨_, rfl, ?_⟩)
    · rw [if_pos (of_decide_eq_true e)] at z
      exact z
    · rw [if_neg (fun h => e (decide_eq_true h))] at z
      exact z
/-! ### least_spelled -/
def spLeast (k : Nat) : Sp := fun vs H Q _ => ∃ (v : V) (p : Pa), vs = [v] ∧ Dq H v (toD p) ∧ dep p ≤ k ∧ Wf p ∧ size p ≤ 10000 ∧ (∀ l ∈ sgs p, l.length ≤ 200) ∧ ∀ H', Same H H' → Q (.str (toS (least p))) H'
theorem scLeast : FnScope ["pattern", "word"] ["pattern"] (defScope sLeast) := ⟨rfl, rfl, rfl, by decide +kernel, rfl, by decide +kernel, by decide +kernel⟩
theorem least_step (T : Tx K w mg) (k : Nat) (G : FnOk P w K mg base CX0 (k + 1) T.aLeast T.fLeast ["pattern"] (spBefore spLeast k)) :
    FnOk P w K mg base CX0 (k + 2) T.aLeast T.fLeast ["pattern"] (spLeast k) := by
  refine T.least.fn.ok scLeast (fun vs H Q E h => ?_) (fun cdv A outer s H vs Q E hr h => ?_)
  · obtain ⟨v, p, rfl, _⟩ := h
    rfl
  · obtain ⟨v, p, rfl, hd, hk, wf, hsz, few, q⟩ := h
    have hr1 : Room 1 _ := hr.mono (by omega)
    refine ⟨_, (pss_cons (ps_set (i := 1) scLeast.nd rfl (.inl rfl) (pe_ix ix_tup (pv 0) pe_int (fun _ _ => rfl)))
      (pss_cons (ps_if (pt_cmpR op_eq (pv 1) pe_str (nomark _))
        (pss_one (ps_ret (pe_ix ix_str (pe_ix ix_tup (pv 0) pe_int (fun _ _ => rfl)) pe_int (fun _ _ => rfl)))) pss_nil)
      (pss_cons (ps_if (pt_cmpR op_eq (pv 1) pe_str (nomark _))
        (pss_one (ps_ret (pe_op op_add_str (pe_call G hr (by rfl) T.least.at_ T.least.kp T.least.bd .nil pass0 (pa_cons (pe_ix ix_tup (pv 0) pe_int (fun _ _ => rfl)) pa_nil)) (pe_call G hr (by rfl) T.least.at_ T.least.kp T.least.bd .nil pass0 (pa_cons (pe_ix ix_tup (pv 0) pe_int (fun _ _ => rfl)) pa_nil))))) pss_nil)
      (pss_cons (ps_if (pt_cmpR op_eq (pv 1) pe_str (nomark _))
        (pss_one (ps_ret (pe_call (ok_lesser T) hr1 (by rfl) T.lesser.at_ T.lesser.kp T.lesser.bd .nil pass0 (pa_cons (pe_call G hr (by rfl) T.least.at_ T.least.kp T.least.bd .nil pass0 (pa_cons (pe_ix ix_tup (pv 0) pe_int (fun _ _ => rfl)) pa_nil)) (pa_cons (pe_call G hr (by rfl) T.least.at_ T.least.kp T.least.bd .nil pass0 (pa_cons (pe_ix ix_tup (pv 0) pe_int (fun _ _ => rfl)) pa_nil)) pa_nil))))) pss_nil)
      (pss_one (ps_ret (pe_ifExp (pt_cmpR op_eq (pv 1) pe_str (nomark _)) (pe_call G hr (by rfl) T.least.at_ T.least.kp T.least.bd .nil pass0 (pa_cons (pe_ix ix_tup (pv 0) pe_int (fun _ _ => rfl)) pa_nil)) pe_str))))))), ?_⟩
    cases p with
    | sg l =>
      obtain ⟨a, x0, x1, rfl, ea, h0, h1⟩ := inv2 hd
      cases inv_str h0
      cases inv_str h1
      refine ⟨_, rfl, a, _, 0, _, rfl, rfl, SqT.of ea, atI_nat (j := 0) rfl, ?_⟩
      dsimp only [gName, List.set]
      refine ⟨_, rfl, rfl, _, rfl, iteT ?_⟩
      have fl := few l (by simp [sgs])
      cases l with
      | nil => exact absurd rfl wf.1
      | cons c l =>
        refine ⟨_, rfl, a, _, 1, _, rfl, rfl, SqT.of ea, atI_nat (j := 1) rfl, toS (c :: l), 0, c, rfl, rfl, by rw [toS_len, sizeLine_eq]; omega, ?_, ?_⟩
        · rw [toS_cps]
          exact atI_nat (j := 0) rfl
        · exact q H fun _ _ z => z
    | em =>
      obtain ⟨a, x0, rfl, ea, h0⟩ := inv1 hd
      cases inv_str h0
      refine ⟨_, rfl, a, _, 0, _, rfl, rfl, SqT.of ea, atI_nat (j := 0) rfl, ?_⟩
      dsimp only [gName, List.set]
      exact ⟨_, rfl, rfl, _, rfl, iteF ⟨_, rfl, rfl, _, rfl, iteF ⟨_, rfl, rfl, _, rfl, iteF ⟨_, rfl, rfl, _, rfl, iteF (q H fun _ _ z => z)⟩⟩⟩⟩
    | ag b =>
      obtain ⟨a, x0, x1, rfl, ea, h0, h1⟩ := inv2 hd
      cases inv_str h0
      refine ⟨_, rfl, a, _, 0, _, rfl, rfl, SqT.of ea, atI_nat (j := 0) rfl, ?_⟩
      dsimp only [gName, List.set]
      exact ⟨_, rfl, rfl, _, rfl, iteF ⟨_, rfl, rfl, _, rfl, iteF ⟨_, rfl, rfl, _, rfl, iteF ⟨_, rfl, rfl, _, rfl, iteF (q H fun _ _ z => z)⟩⟩⟩⟩
    | mb b =>
      obtain ⟨a, x0, x1, rfl, ea, h0, h1⟩ := inv2 hd
      cases inv_str h0
      refine ⟨_, rfl, a, _, 0, _, rfl, rfl, SqT.of ea, atI_nat (j := 0) rfl, ?_⟩
      dsimp only [gName, List.set]
      exact ⟨_, rfl, rfl, _, rfl, iteF ⟨_, rfl, rfl, _, rfl, iteF ⟨_, rfl, rfl, _, rfl, iteF ⟨_, rfl, rfl, _, rfl, iteF (q H fun _ _ z => z)⟩⟩⟩⟩
    | mo b =>
      obtain ⟨a, x0, x1, rfl, ea, h0, h1⟩ := inv2 hd
      cases inv_str h0
      simp only [dep] at hk
      obtain ⟨m, rfl⟩ : ∃ m, k = m + 1 := ⟨k - 1, by omega⟩
      refine ⟨_, rfl, a, _, 0, _, rfl, rfl, SqT.of ea, atI_nat (j := 0) rfl, ?_⟩
      dsimp only [gName, List.set]
      refine ⟨_, rfl, rfl, _, rfl, iteF ⟨_, rfl, rfl, _, rfl, iteF ⟨_, rfl, rfl, _, rfl, iteF ⟨_, rfl, rfl, _, rfl, iteT ?_⟩⟩⟩⟩
      exact ⟨_, rfl, a, _, 1, _, rfl, rfl, SqT.of ea, atI_nat (j := 1) rfl, x1, b, rfl, h1, by omega, wf, hsz, few, fun H' s' => q H' s'⟩
    | th b c =>
      obtain ⟨a, x0, x1, x2, rfl, ea, h0, h1, h2⟩ := inv3 hd
      cases inv_str h0
      simp only [dep] at hk
      simp only [size] at hsz
      obtain ⟨m, rfl⟩ : ∃ m, k = m + 1 := ⟨k - 1, by omega⟩
      have lb := least_len b
      have lc := least_len c
      refine ⟨_, rfl, a, _, 0, _, rfl, rfl, SqT.of ea, atI_nat (j := 0) rfl, ?_⟩
      dsimp only [gName, List.set]
      refine ⟨_, rfl, rfl, _, rfl, iteF ⟨_, rfl, rfl, _, rfl, iteT ?_⟩⟩
      refine ⟨_, rfl, a, _, 1, _, rfl, rfl, SqT.of ea, atI_nat (j := 1) rfl, x1, b, rfl, h1, by omega, wf.1, by omega, fun l hl => few l (List.mem_append_left _ hl), fun H1 s1 => ?_⟩
      refine ⟨_, rfl, a, _, 2, _, rfl, rfl, SqT.of (s1 _ _ ea), atI_nat (j := 2) rfl, x2, c, rfl, h2.mono s1, by omega, wf.2, by omega, fun l hl => few l (List.mem_append_right _ hl), fun H2 s2 => ?_⟩
      refine ⟨_, _, rfl, rfl, by rw [toS_len, toS_len, sizeLine_eq]; omega, ?_⟩
      rw [toS_app]
      exact q H2 fun b o z => s2 b o (s1 b o z)
    | or b c =>
      obtain ⟨a, x0, x1, x2, rfl, ea, h0, h1, h2⟩ := inv3 hd
      cases inv_str h0
      simp only [dep] at hk
      simp only [size] at hsz
      obtain ⟨m, rfl⟩ : ∃ m, k = m + 1 := ⟨k - 1, by omega⟩
      have lb := least_len b
      have lc := least_len c
      refine ⟨_, rfl, a, _, 0, _, rfl, rfl, SqT.of ea, atI_nat (j := 0) rfl, ?_⟩
      dsimp only [gName, List.set]
      refine ⟨_, rfl, rfl, _, rfl, iteF ⟨_, rfl, rfl, _, rfl, iteF ⟨_, rfl, rfl, _, rfl, iteT ?_⟩⟩⟩
      refine ⟨_, rfl, a, _, 1, _, rfl, rfl, SqT.of ea, atI_nat (j := 1) rfl, x1, b, rfl, h1, by omega, wf.1, by omega, fun l hl => few l (List.mem_append_left _ hl), fun H1 s1 => ?_⟩
      refine ⟨_, rfl, a, _, 2, _, rfl, rfl, SqT.of (s1 _ _ ea), atI_nat (j := 2) rfl, x2, c, rfl, h2.mono s1, by omega, wf.2, by omega, fun l hl => few l (List.mem_append_right _ hl), fun H2 s2 => ?_⟩
      exact ⟨least b, least c, rfl, by omega, by omega, fun H3 s3 => q H3 fun b o z => s3 b o (s2 b o (s1 b o z))⟩
theorem ok_least (T : Tx K w mg) : ∀ k : Nat, FnOk P w K mg base CX0 (k + 2) T.aLeast T.fLeast ["pattern"] (spLeast k)
  | 0 => least_step T 0 no_fn
  | k + 1 => least_step T (k + 1) (ok_least T k)
end
end K01
set_option maxRecDepth 100000
set_option maxHeartbeats 1000000
namespace K01
open PySem PySem.Spec PyProof.Rows L2 Yard
/-! ### a dict from signs to sets of places -/
def one (c : Nat) : Str := ⟨#[c]⟩
theorem one_inj {c d : Nat} : ((.inr (one c) : Key) = .inr (one d)) ↔ c = d := by
  constructor
  · intro h
    have e := Sum.inr.inj h
    have e2 := congrArg (fun s : Str => s.cps.toList) e
    have e3 : [c] = [d] := e2
    cases e3; rfl
  · rintro rfl; rfl
theorem toS_injL {a b : List Nat} (h : toS a = toS b) : a = b := by
  have e := congrArg (fun s : Str => s.cps.toList) h
  rwa [toS_cps, toS_cps] at e
section
variable {α : Type} [DecidableEq α]
/-- a dict from texts to numbers -/
def DG (mk : α → Str) (cs : List α) (f : α → Nat) : List (Key × V) := cs.map fun c => (.inr (mk c), vN (f c))
/-- c behind the others, if it isn't there -/
def ins (c : α) (cs : List α) : List α := if c ∈ cs then cs else cs ++ [c]
theorem mem_ins {c x : α} {cs : List α} : x ∈ ins c cs ↔ x ∈ cs ∨ x = c := by
  unfold ins
  by_cases h : c ∈ cs
  · rw [if_pos h]
    exact ⟨.inl, fun z => z.elim id fun e => e ▸ h⟩
  · rw [if_neg h, List.mem_append, List.mem_singleton]
theorem nodup_ins {c : α} {cs : List α} (h : cs.Nodup) : (ins c cs).Nodup := by
  unfold ins
  split
  · exact h
  · next k =>
    refine List.nodup_append.mpr ⟨h, by simp, fun a ha b hb => ?_⟩
    rw [List.mem_singleton.mp hb]
    exact fun e => k (e ▸ ha)
variable {mk : α → Str} (inj : ∀ a b, mk a = mk b → a = b)
include inj
theorem key_inj {c d : α} : ((.inr (mk c) : Key) = .inr (mk d)) ↔ c = d :=
  ⟨fun h => inj _ _ (Sum.inr.inj h), fun h => by rw [h]⟩
theorem valV_DG (f : α → Nat) (c : α) : ∀ cs : List α, valV (DG mk cs f) (.inr (mk c)) = if c ∈ cs then some (vN (f c)) else none
  | [] => rfl
  | d :: cs => by
    show valV ((.inr (mk d), vN (f d)) :: DG mk cs f) (.inr (mk c)) = _
    by_cases e : d = c
    · subst e
      rw [valV_pos rfl, if_pos List.mem_cons_self]
    · rw [valV_neg (fun z => e ((key_inj inj).mp z)), valV_DG f c cs]
      by_cases k : c ∈ cs
      · rw [if_pos k, if_pos (List.mem_cons_of_mem _ k)]
      · rw [if_neg k, if_neg (fun z => (List.mem_cons.mp z).elim (fun y => e y.symm) k)]
theorem getD_DG (f : α → Nat) (c : α) (cs : List α) (off : ∀ c, c ∉ cs → f c = 0) : (valV (DG mk cs f) (.inr (mk c))).getD (.int 0) = vN (f c) := by
  rw [valV_DG inj]
  by_cases k : c ∈ cs
  · rw [if_pos k]; rfl
  · rw [if_neg k, off c k]; rfl
theorem any_DG (f : α → Nat) (c : α) (cs : List α) : ((DG mk cs f).any fun kv => decide (kv.1 = .inr (mk c))) = decide (c ∈ cs) := by
  rw [Bool.eq_iff_iff, List.any_eq_true, decide_eq_true_eq]
  constructor
  · rintro ⟨kv, h, e⟩
    obtain ⟨d, hd, rfl⟩ := List.mem_map.mp h
    rw [← (key_inj inj).mp (of_decide_eq_true e)]
    exact hd
  · intro h
    exact ⟨_, List.mem_map.mpr ⟨c, h, rfl⟩, decide_eq_true rfl⟩
theorem putK_DG (f : α → Nat) (c : α) (m : Nat) (cs : List α) : putK (DG mk cs f) (.inr (mk c)) (vN m) = DG mk (ins c cs) (fun d => if d = c then m else f d) := by
  unfold putK ins
  rw [any_DG inj]
  by_cases h : c ∈ cs
  · rw [if_pos (decide_eq_true h), if_pos h]
    unfold DG
    rw [List.map_map]
    refine List.map_congr_left fun d _ => ?_
    show (if (.inr (mk d) : Key) = .inr (mk c) then ((.inr (mk d) : Key), vN m) else (.inr (mk d), vN (f d))) = _
    show _ = ((.inr (mk d) : Key), vN (if d = c then m else f d))
    by_cases e : d = c
    · rw [if_pos ((key_inj inj).mpr e), if_pos e]
    · rw [if_neg (fun z => e ((key_inj inj).mp z)), if_neg e]
  · rw [if_neg (fun z => h (of_decide_eq_true z)), if_neg h]
    unfold DG
    rw [List.map_append]
    congr 1
    · refine List.map_congr_left fun d hd => ?_
      show _ = ((.inr (mk d) : Key), vN (if d = c then m else f d))
      rw [if_neg (fun e : d = c => h (e ▸ hd))]
    · show [_] = [((.inr (mk c) : Key), vN (if c = c then m else f c))]
      rw [if_pos rfl]
end
/-- what is off behind a put -/
theorem off_ins {α : Type} [DecidableEq α] {cs : List α} {f : α → Nat} {c : α} {m : Nat} (off : ∀ c, c ∉ cs → f c = 0) : ∀ x, x ∉ ins c cs → (if x = c then m else f x) = 0 := fun x hx => by
  have h := mt mem_ins.mpr hx
  rw [if_neg (fun e => h (.inr e))]
  exact off x fun z => h (.inl z)
abbrev DM (cs : List Nat) (f : Nat → Nat) : List (Key × V) := DG one cs f
abbrev DT (ts : List (List Nat)) (f : List Nat → Nat) : List (Key × V) := DG toS ts f
theorem oneI (a b : Nat) (h : one a = one b) : a = b := one_inj.mp (by rw [h])
theorem toSI (a b : List Nat) (h : toS a = toS b) : a = b := toS_injL h
theorem valV_DM (f : Nat → Nat) (c : Nat) (cs : List Nat) : valV (DM cs f) (.inr (one c)) = if c ∈ cs then some (vN (f c)) else none := valV_DG oneI f c cs
theorem putK_DM (f : Nat → Nat) (c m : Nat) (cs : List Nat) : putK (DM cs f) (.inr (one c)) (vN m) = DM (if c ∈ cs then cs else cs ++ [c]) (fun d => if d = c then m else f d) := putK_DG oneI f c m cs
/-- texts of one sign each, in another order -/
theorem perm_ones {ys : List Str} {cs : List Nat} (h : ys.Perm (cs.map one)) : ∃ l : List Nat, ys = l.map one ∧ l.Perm cs := by
  refine ⟨ys.map fun s => s.cps.toList.headD 0, ?_, ?_⟩
  · rw [List.map_map]
    symm
    have : ∀ y ∈ ys, (one ∘ fun s : Str => s.cps.toList.headD 0) y = y := fun y hy => by
      obtain ⟨c, _, rfl⟩ := List.mem_map.mp (h.mem_iff.mp hy)
      rfl
    calc ys.map (one ∘ fun s : Str => s.cps.toList.headD 0) = ys.map id := List.map_congr_left this
      _ = ys := List.map_id ys
  · have := h.map fun s : Str => s.cps.toList.headD 0
    rw [List.map_map] at this
    have e : cs.map ((fun s : Str => s.cps.toList.headD 0) ∘ one) = cs := by
      calc cs.map ((fun s : Str => s.cps.toList.headD 0) ∘ one) = cs.map id := List.map_congr_left fun c _ => rfl
        _ = cs := List.map_id cs
    rw [e] at this
    exact this
section
variable {P : Program} {w : World} {K : PySem.W.Frag} {mg : Str → Option Value} {base : Heap}
/-! ### by_signs -/
/-- the places with a sign -/
def Places (gs : List (List Nat)) (t : Nat) (f : Nat → Nat) : Prop := ∀ c i, (f c).testBit i = true ↔ i < t ∧ ∃ l, gs[i]? = some l ∧ c ∈ l
def spBysigns (C : Addr) : Sp := fun vs H Q _ => ∃ (H0 : Hp) (p dx l1 l2 l3 : Addr) (gs : List (List Nat)) (bh en : List Nat), vs = [.ref p] ∧ PlAt C H0 H p dx l1 l2 l3 (gs.map toS) bh en ∧ gs.length ≤ 1000 ∧ gs.flatten.length ≤ 60 ∧
  ∀ D cs f H', Same H H' → H' D = some (.dK (DM cs f)) → (∀ c, c ∉ cs → f c = 0) → Places gs gs.length f → Q (.ref D) H'
theorem scBysigns : FnScope ["self", "by_texts", "number", "signs", "found", "having", "sign"] ["self"] (defScope mBysigns) := ⟨rfl, rfl, rfl, by decide +kernel, rfl, by decide +kernel, by decide +kernel⟩
theorem ok_bysigns (T : Tx K w mg) : FnOk P w K mg base CX0 1 T.bBysigns T.gBysigns ["self"] (spBysigns T.C) := by
  refine T.mbysigns.fn.ok scBysigns (fun vs H Q E h => ?_) (fun cdv A outer s H vs Q E hr h => ?_)
  · obtain ⟨H0, p, dx, l1, l2, l3, gs, bh, en, rfl, _⟩ := h
    rfl
  · obtain ⟨H0, p, dx, l1, l2, l3, gs, bh, en, rfl, hp, hl, hfl, q⟩ := h
    refine ⟨_, (pss_cons (ps_set (i := 1) scBysigns.nd rfl (.inl rfl) pe_dnewK)
      (pss_cons (ps_for PassesOwn.never rfl (pi_enum rfl T.bEnum (pa_cons (pe_fld (pv 0) rfl) pa_nil)) (pg_tup rfl (pgs_cons (pg_name (i := 2) scBysigns.nd rfl (.inl rfl)) (pgs_cons (pg_name (i := 3) scBysigns.nd rfl (.inl rfl)) pgs_nil)))
        (pss_one (ps_asg (pe_op op_or (pe_dget2 (hu_of hr) (pv 1) (pv 3) pe_int ⟨rfl, rfl, rfl, rfl⟩) (pe_op op_shlW pe_int (pv 2))) (pg_sub (pv 1) (pv 3) (set_dict (hu_of hr))))))
      (pss_cons (ps_set (i := 4) scBysigns.nd rfl (.inr rfl) pe_dnewK)
      (pss_cons (ps_lock (ps_for PassesOwn.never rfl (pi_items (pv 1)) (pg_tup rfl (pgs_cons (pg_name (i := 3) scBysigns.nd rfl (.inl rfl)) (pgs_cons (pg_name (i := 5) scBysigns.nd rfl (.inl rfl)) pgs_nil)))
        (pss_one (ps_for PassesOwn.never rfl (pi_str (pv 3)) (pg_name (i := 6) scBysigns.nd rfl (.inl rfl))
          (pss_one (ps_asg (pe_op op_or (pe_dget2 (hu_of hr) (pv 4) (pv 6) pe_int ⟨rfl, rfl, rfl, rfl⟩) (pv 5)) (pg_sub (pv 4) (pv 6) (set_dict (hu_of hr)))))))))
      (pss_one (ps_ret (pe_dc (own := [("sign", 6)]) (g := gName 6) (tt := tYes) rfl scBysigns.nd (pi_list (pe_callB (call_sortedD rfl) (by rfl) T.bSorted (by decide +kernel) (pa_cons (pv 4) pa_nil))) (blkOk_by (own := [("sign", 6)]) (N := ["self", "by_texts", "number", "signs", "found", "having", "sign"]) (sc := defScope mBysigns) (by decide +kernel)) (fun _ _ _ _ _ => pg_name (i := 6) scBysigns.nd rfl (.inl rfl)) (fun _ _ _ _ _ => pts_nil) (fun _ _ _ _ _ => pv 6) (fun _ _ _ _ _ => pe_dget (hu_of hr) (pv 4) (pv 6) (fun _ _ => rfl))))))))), ?_⟩
    refine fun d0 nd0 => ?_
    dsimp only [gName, List.set]
    have hp1 := hp.mono (same_new (o := .dK []) nd0)
    have s1 : Same H (upd H d0 (.dK [])) := same_new nd0
    have dl0 : d0 ≠ l1 := fun e => by rw [e, hp.e1] at nd0; cases nd0
    have ed : (upd H d0 (.dK [])) d0 = some (.dK (DT [] fun _ => 0)) := upd_same
    generalize upd H d0 (HO.dK []) = H1 at hp1 s1 ed ⊢
    refine ⟨_, rfl, p, T.C, dx, _, _, rfl, hp1.obj, T.cl, T.naS, pf_s _ _ _, l1, _, rfl, SqL.of hp1.e1, ?_⟩
    -- the places of each text
    refine for_it (walk_enum (K := K) (a := l1) (xs := (gs.map toS).map V.str)) (fun t σ' H' => ∃ (x2 x3 x4 x5 x6 : Option V) (ts : List (List Nat)) (f : List Nat → Nat), σ' = [some (.ref p), some (.ref d0), x2, x3, x4, x5, x6] ∧ Same H H' ∧ H' d0 = some (.dK (DT ts f)) ∧ ts.Nodup ∧ (∀ l ∈ ts, l ∈ gs) ∧ (∀ l, l ∉ ts → f l = 0) ∧ ∀ l i, (f l).testBit i = true ↔ i < t ∧ gs[i]? = some l)
      ⟨_, _, _, _, _, [], fun _ => 0, rfl, s1, ed, List.nodup_nil, (fun _ h => nomatch h), (fun _ _ => rfl), fun c i => by rw [Nat.zero_testBit]; exact ⟨(fun h => nomatch h), fun h => absurd h.1 (Nat.not_lt_zero _)⟩⟩ (fun t σ' H' _ ⟨_, _, _, _, _, _, _, _, sm, _⟩ => SqL.of (sm _ _ hp.e1)) ?_ ?_
    · rintro t y σ H2 H3 ht ⟨x2, x3, x4, x5, x6, ts, f, rfl, sm, ed2, ndt, sub, off, hP⟩ ⟨z, a1, a2, rfl, nz, rfl, e1, e2⟩
      rw [List.length_map, List.length_map] at ht
      have e1' : V.int (t : Nat) = a1 := Option.some.inj e1
      have e2' : V.str (toS gs[t]) = a2 := by
        dsimp only at e2
        rw [List.getElem?_map, List.getElem?_map, List.getElem?_eq_getElem ht] at e2
        exact Option.some.inj e2
      subst e1' e2'
      have nzd : z ≠ d0 := fun e => by rw [e, ed2] at nz; cases nz
      refine ⟨z, _, rfl, SqT.of upd_same, rfl, _, _, rfl, _, _, rfl, rfl, ?_⟩
      dsimp only [gName, List.set]
      have sm2 : Same H (upd H2 z (.tup [.int (t : Nat), .str (toS gs[t])])) := fun b o e => by rw [upd_ne (ne_of_none (sm b o e) nz)]; exact sm b o e
      have ed3 : (upd H2 z (.tup [.int (t : Nat), .str (toS gs[t])])) d0 = some (.dK (DT ts f)) := by rw [upd_ne nzd.symm]; exact ed2
      generalize upd H2 z (HO.tup [.int (t : Nat), .str (toS gs[t])]) = H3 at sm2 ed3 ⊢
      have few : ts.length ≤ 1000 := Nat.le_trans (ndt.length_le_of_subset fun x hx => sub x hx) hl
      have eg := getD_DG toSI f gs[t] ts off
      refine ⟨_, rfl, d0, rfl, .inl ⟨_, .inl ed3⟩, _, rfl, valV (DT ts f) (.inr (toS gs[t])), DGet.k (k := .inr (toS gs[t])) ed3, ?_⟩
      rw [eg]
      refine ⟨_, rfl, _, _, rfl, rfl, shl_ok (n := 1) (by decide) (by omega), _, _, rfl, rfl, ?_⟩
      refine ⟨_, rfl, _, rfl, d0, _, rfl, DPut.k (k := .inr (toS gs[t])) ed3 (by rw [sizeLine_eq]; unfold DT DG; rw [List.length_map]; omega), ?_⟩
      have e2 : (1 : Int) * 2 ^ (((t : Nat) : Int)).toNat = ((2 ^ t : Nat) : Int) := by
        rw [Int.toNat_natCast, Int.one_mul]; norm_cast
      dsimp only
      rw [e2, or_nat]
      have e3 : putK (DT ts f) (.inr (toS gs[t])) (V.int ((f gs[t] ||| 2 ^ t : Nat) : Int)) = DT (ins gs[t] ts) (fun d => if d = gs[t] then f gs[t] ||| 2 ^ t else f d) := putK_DG toSI f gs[t] _ ts
      rw [e3]
      refine ⟨_, _, _, _, _, _, _, rfl, fun b o z => ?_, upd_same, nodup_ins ndt, fun l hm => ?_, off_ins off, fun l i => ?_⟩
      · have nbd : b ≠ d0 := fun e => by rw [e, nd0] at z; cases z
        rw [upd_ne nbd]; exact sm2 b o z
      · rcases mem_ins.mp hm with h | h
        · exact sub l h
        · rw [h]; exact List.getElem_mem ht
      · show (if l = gs[t] then f gs[t] ||| 2 ^ t else f l).testBit i = true ↔ _
        by_cases k : l = gs[t]
        · rw [if_pos k, or_bit, hP, two_bit, k]
          constructor
          · rintro (⟨h1, h2⟩ | h)
            · exact ⟨by omega, h2⟩
            · subst h; exact ⟨by omega, List.getElem?_eq_getElem ht⟩
          · rintro ⟨h1, h2⟩
            by_cases q : i = t
            · exact .inr q
            · exact .inl ⟨by omega, h2⟩
        · rw [if_neg k, hP]
          constructor
          · rintro ⟨h1, h2⟩; exact ⟨by omega, h2⟩
          · rintro ⟨h1, h2⟩
            refine ⟨?_, h2⟩
            have : i ≠ t := fun e => by
              subst e
              rw [List.getElem?_eq_getElem ht] at h2
              exact k (Option.some.inj h2).symm
            omega
    rintro σ H2 ⟨x2, x3, x4, x5, x6, ts, f, rfl, sm, ed, ndt, sub, off, hP⟩
    rw [List.length_map, List.length_map] at hP
    have inT : ∀ l i, gs[i]? = some l → l ∈ ts := fun l i e => by
      refine Classical.byContradiction fun h => ?_
      have hi : i < gs.length := (List.getElem?_eq_some_iff.mp e).1
      have b := (hP l i).mpr ⟨hi, e⟩
      rw [off l h, Nat.zero_testBit] at b
      cases b
    refine fun d nd => ?_
    dsimp only [gName, List.set]
    have ndd : d ≠ d0 := fun e => by rw [e, ed] at nd; cases nd
    have dn : H d = none := by
      cases e : H d with
      | none => rfl
      | some o => rw [sm _ _ e] at nd; cases nd
    have sm1 : Same H (upd H2 d (.dK [])) := fun b o e => same_new nd b o (sm b o e)
    have ed1 : (upd H2 d (.dK [])) d = some (.dK (DM [] fun _ => 0)) := upd_same
    have ed0 : (upd H2 d (.dK [])) d0 = some (.dK (DT ts f)) := by rw [upd_ne ndd.symm]; exact ed
    generalize upd H2 d (HO.dK []) = H3 at sm1 ed1 ed0 ⊢
    refine ⟨d0, _, ed0, trivial, fun od => ?_⟩
    have sm2 : Same H (upd H3 d0 (.frz od (.dK (DT ts f)))) := fun b o e => by
      have nb : b ≠ d0 := fun z => by rw [z, nd0] at e; cases e
      rw [upd_ne nb]; exact sm1 b o e
    have ed2 : (upd H3 d0 (.frz od (.dK (DT ts f)))) d = some (.dK (DM [] fun _ => 0)) := by rw [upd_ne ndd]; exact ed1
    have ef : (upd H3 d0 (.frz od (.dK (DT ts f)))) d0 = some (.frz od (.dK (DT ts f))) := upd_same
    generalize upd H3 d0 (.frz od (.dK (DT ts f))) = H4 at sm2 ed2 ef ⊢
    refine ⟨_, rfl, d0, od, DT ts f, rfl, ef, ?_⟩
    have nT : (DT ts f).length = ts.length := List.length_map _
    refine for_it (walk_items (d := d0) (o := od) (kvs := DT ts f)) (fun t σ' H' => ∃ (x2 x3 x5 x6 : Option V) (cs : List Nat) (g : Nat → Nat), σ' = [some (.ref p), some (.ref d0), x2, x3, some (.ref d), x5, x6] ∧ Same H H' ∧ H' d0 = some (.frz od (.dK (DT ts f))) ∧ H' d = some (.dK (DM cs g)) ∧ cs.Nodup ∧ (∀ c ∈ cs, c ∈ gs.flatten) ∧ (∀ c, c ∉ cs → g c = 0) ∧
      ∀ c i, (g c).testBit i = true ↔ ∃ l, l ∈ ts.take t ∧ c ∈ l ∧ gs[i]? = some l) ⟨_, _, _, _, [], fun _ => 0, rfl, sm2, ef, ed2, List.nodup_nil, (fun _ h => nomatch h), (fun _ _ => rfl), fun c i => by
        rw [Nat.zero_testBit, List.take_zero]; exact ⟨(fun h => nomatch h), fun ⟨_, h, _⟩ => nomatch h⟩⟩ (fun t σ' H' _ ⟨_, _, _, _, _, _, _, _, e, _⟩ => e) ?_ ?_
    · rintro t y σ H5 H6 ht ⟨x2, x3, x5, x6, cs, g, rfl, sm, ef, ed, ndc, subc, offc, hG⟩ ⟨z, a1, a2, rfl, nz, rfl, e1, e2⟩
      rw [nT] at ht
      have get : (DT ts f)[t]? = some (.inr (toS ts[t]), vN (f ts[t])) := by
        unfold DT DG
        rw [List.getElem?_map, List.getElem?_eq_getElem ht]
        rfl
      dsimp only at e1 e2
      rw [get] at e1 e2
      have e1' : V.str (toS ts[t]) = a1 := Option.some.inj e1
      have e2' : vN (f ts[t]) = a2 := Option.some.inj e2
      subst e1' e2'
      have nz0 : z ≠ d0 := fun e => by rw [e, ef] at nz; cases nz
      have nzd : z ≠ d := fun e => by rw [e, ed] at nz; cases nz
      refine ⟨z, _, rfl, SqT.of upd_same, rfl, _, _, rfl, _, _, rfl, rfl, ?_⟩
      dsimp only [gName, List.set]
      have sm2 : Same H (upd H5 z (.tup [.str (toS ts[t]), vN (f ts[t])])) := fun b o e => by rw [upd_ne (ne_of_none (sm b o e) nz)]; exact sm b o e
      have ed3 : (upd H5 z (.tup [.str (toS ts[t]), vN (f ts[t])])) d = some (.dK (DM cs g)) := by rw [upd_ne nzd.symm]; exact ed
      have ef3 : (upd H5 z (.tup [.str (toS ts[t]), vN (f ts[t])])) d0 = some (.frz od (.dK (DT ts f))) := by rw [upd_ne nz0.symm]; exact ef
      generalize upd H5 z (HO.tup [.str (toS ts[t]), vN (f ts[t])]) = H6 at sm2 ed3 ef3 ⊢
      refine ⟨_, rfl, _, rfl, ?_⟩
      have tg : ts[t] ∈ gs := sub _ (List.getElem_mem ht)
      have inflat : ∀ c, c ∈ ts[t] → c ∈ gs.flatten := fun c hc => List.mem_flatten.mpr ⟨ts[t], tg, hc⟩
      have cps : (toS ts[t]).cps.toList = ts[t] := toS_cps _
      refine for_it (walk_str (z := toS ts[t])) (fun u σ' H' => ∃ (x6 : Option V) (cs : List Nat) (g : Nat → Nat), σ' = [some (.ref p), some (.ref d0), x2, some (.str (toS ts[t])), some (.ref d), some (vN (f ts[t])), x6] ∧ Same H H' ∧ H' d0 = some (.frz od (.dK (DT ts f))) ∧ H' d = some (.dK (DM cs g)) ∧ cs.Nodup ∧ (∀ c ∈ cs, c ∈ gs.flatten) ∧ (∀ c, c ∉ cs → g c = 0) ∧
        ∀ c i, (g c).testBit i = true ↔ (∃ l, l ∈ ts.take t ∧ c ∈ l ∧ gs[i]? = some l) ∨ (c ∈ ts[t].take u ∧ gs[i]? = some ts[t])) ⟨_, cs, g, rfl, sm2, ef3, ed3, ndc, subc, offc, fun c i => ?_⟩ (fun _ _ _ _ _ => trivial) ?_ ?_
      · rw [hG c i, List.take_zero]
        exact ⟨.inl, fun h => h.elim id fun z => nomatch z.1⟩
      · rintro u y σ H4 H5 hu ⟨x6, cs, g, rfl, sm, ef, ed, ndc, subc, offc, hG⟩ ⟨rfl, c, hc, rfl⟩
        have hu2 : ts[t][u]? = some c := by
          rw [← cps, Array.getElem?_toList]; exact hc
        have hcm : c ∈ ts[t] := List.mem_of_getElem? hu2
        have eg := getD_DG oneI g c cs offc
        have few : cs.length ≤ 60 := Nat.le_trans (ndc.length_le_of_subset fun x hx => subc x hx) hfl
        dsimp only [gName, List.set]
        refine ⟨_, rfl, d, rfl, .inl ⟨_, .inl ed⟩, _, rfl, valV (DM cs g) (.inr (one c)), DGet.k (k := .inr (one c)) ed, ?_⟩
        rw [eg]
        refine ⟨_, rfl, _, _, rfl, rfl, ?_⟩
        refine ⟨_, rfl, _, rfl, d, _, rfl, DPut.k (k := .inr (one c)) ed (by rw [sizeLine_eq]; unfold DM DG; rw [List.length_map]; omega), ?_⟩
        dsimp only
        rw [or_nat]
        have e3 : putK (DM cs g) (.inr (one c)) (V.int ((g c ||| f ts[t] : Nat) : Int)) = DM (ins c cs) (fun d => if d = c then g c ||| f ts[t] else g d) := putK_DG oneI g c _ cs
        rw [e3]
        refine ⟨_, _, _, rfl, fun b o z => ?_, ?_, upd_same, nodup_ins ndc, fun x hx => ?_, off_ins offc, fun x i => ?_⟩
        · have nbd : b ≠ d := fun e => by rw [e, dn] at z; cases z
          rw [upd_ne nbd]; exact sm b o z
        · rw [upd_ne ndd.symm]; exact ef
        · rcases mem_ins.mp hx with h | h
          · exact subc x h
          · rw [h]; exact inflat c hcm
        · have tk : ts[t].take (u + 1) = ts[t].take u ++ [c] := by
            rw [List.take_succ, hu2]; rfl
          show (if x = c then g c ||| f ts[t] else g x).testBit i = true ↔ _
          rw [tk]
          by_cases k : x = c
          · subst k
            rw [if_pos rfl, or_bit, hG x i, hP]
            constructor
            · rintro ((h | ⟨h1, h2⟩) | ⟨_, h⟩)
              · exact .inl h
              · exact .inr ⟨List.mem_append_left _ h1, h2⟩
              · exact .inr ⟨List.mem_append_right _ (List.mem_singleton.mpr rfl), h⟩
            · rintro (h | ⟨_, h2⟩)
              · exact .inl (.inl h)
              · exact .inr ⟨(List.getElem?_eq_some_iff.mp h2).1, h2⟩
          · rw [if_neg k, hG x i]
            constructor
            · rintro (h | ⟨h1, h2⟩)
              · exact .inl h
              · exact .inr ⟨List.mem_append_left _ h1, h2⟩
            · rintro (h | ⟨h1, h2⟩)
              · exact .inl h
              · rcases List.mem_append.mp h1 with z | z
                · exact .inr ⟨z, h2⟩
                · exact absurd (List.mem_singleton.mp z) k
      · rintro σ H4 ⟨x6, cs, g, rfl, sm, ef, ed, ndc, subc, offc, hG⟩
        have sz : (toS ts[t]).cps.size = ts[t].length := toS_len _
        rw [sz, List.take_length] at hG
        refine ⟨_, _, _, _, cs, g, rfl, sm, ef, ed, ndc, subc, offc, fun c i => ?_⟩
        rw [hG c i, List.take_succ_eq_append_getElem ht]
        constructor
        · rintro (⟨l, h, k⟩ | ⟨k, e⟩)
          · exact ⟨l, List.mem_append_left _ h, k⟩
          · exact ⟨ts[t], List.mem_append_right _ (List.mem_singleton.mpr rfl), k, e⟩
        · rintro ⟨l, h, k, e⟩
          rcases List.mem_append.mp h with z | z
          · exact .inl ⟨l, z, k, e⟩
          · rw [List.mem_singleton.mp z] at k e
            exact .inr ⟨k, e⟩
    rintro σ H5 ⟨x2, x3, x5, x6, cs, g, rfl, sm, ef, ed, ndc, subc, offc, hG⟩
    rw [nT, List.take_length] at hG
    have hPl : Places gs gs.length g := fun c i => by
      rw [hG c i]
      constructor
      · rintro ⟨l, _, hc, e⟩
        exact ⟨(List.getElem?_eq_some_iff.mp e).1, l, e, hc⟩
      · rintro ⟨_, l, e, hc⟩
        exact ⟨l, inT l i e, hc, e⟩
    refine ⟨ef, ?_⟩
    have sm6 : Same H (upd H5 d0 (.dK (DT ts f))) := fun b o e => by
      have nb : b ≠ d0 := fun z => by rw [z, nd0] at e; cases e
      rw [upd_ne nb]; exact sm b o e
    have ed6 : (upd H5 d0 (.dK (DT ts f))) d = some (.dK (DM cs g)) := by rw [upd_ne ndd]; exact ed
    clear hG hP inT ed ef sm sm1 sm2 ed0 ed1 ed2 off sub
    generalize upd H5 d0 (HO.dK (DT ts f)) = H2 at sm6 ed6 ⊢
    have few : cs.length ≤ 60 := Nat.le_trans (ndc.length_le_of_subset fun x hx => subc x hx) hfl
    have keys : (DM cs g).map (·.1) = (cs.map one).map Sum.inr := by
      unfold DM DG
      rw [List.map_map, List.map_map]
      rfl
    refine ⟨_, rfl, d, DM cs g, cs.map one, rfl, .inl ed6, keys, by rw [List.length_map]; omega, fun ys r pm so nr => ?_⟩
    obtain ⟨l, rfl, pl⟩ := perm_ones pm
    have nrd : d ≠ r := fun e => by rw [← e, ed6] at nr; cases nr
    have s2 : Same H2 (upd H2 r (.lst ((l.map one).map V.str))) := same_new nr
    have er : (upd H2 r (.lst ((l.map one).map V.str))) r = some (.lst ((l.map one).map V.str)) := upd_same
    have ed2 := s2 _ _ ed6
    have sm2 : Same H (upd H2 r (.lst ((l.map one).map V.str))) := fun b o e => s2 b o (sm6 b o e)
    generalize upd H2 r (HO.lst ((l.map one).map V.str)) = H3 at er ed2 sm2 ⊢
    refine ⟨r, rfl, ⟨_, SqL.of er⟩, fun D nD => ?_⟩
    have ndl : l.Nodup := pl.nodup_iff.mpr ndc
    have ll : ((l.map one).map V.str).length = l.length := by rw [List.length_map, List.length_map]
    have wk := walk_list (K := K) (a := r) (xs := (l.map one).map V.str)
    rw [ll] at wk
    refine ⟨fun i m H' => m = l.length - i ∧ i ≤ l.length ∧ Same H3 H' ∧ H' D = some (.dK (DM (l.take i) g)), ⟨l.length, by simp, Nat.zero_le _, same_new nD, upd_same⟩, ?_⟩
    rintro i m H4 ⟨rfl, hi, s4, e4⟩
    have sq : SqL K H4 r ((l.map one).map V.str) := SqL.of (s4 _ _ er)
    by_cases hlt : i < l.length
    · refine .inr ⟨wk.goes i H4 hlt sq, fun H' => Same H3 H' ∧ H' D = some (.dK (DM (l.take (i + 1)) g)), fun H' h => ⟨l.length - (i + 1), by omega, rfl, hlt, h⟩, fun x H5 y => ?_⟩
      obtain ⟨rfl, hx⟩ := wk.yields i H4 x H5 hlt sq y
      have ex : x = .str (one l[i]) := by
        rw [List.getElem?_map, List.getElem?_map, List.getElem?_eq_getElem hlt] at hx
        exact (Option.some.inj hx).symm
      subst ex
      have cin : l[i] ∈ cs := pl.mem_iff.mp (List.getElem_mem hlt)
      have nin : l[i] ∉ l.take i := fun h => by
        obtain ⟨j, hj, e⟩ := List.mem_iff_getElem.mp h
        rw [List.length_take] at hj
        rw [List.getElem_take] at e
        exact List.pairwise_iff_getElem.mp ndl j i (by omega) hlt (by omega) e
      have gd : DGet H5 d (.str (one l[i])) (some (vN (g l[i]))) := by
        have z := DGet.k (k := (.inr (one l[i]) : Key)) (s4 _ _ ed2)
        rw [valV_DM, if_pos cin] at z
        exact z
      refine ⟨rfl, ?_⟩
      dsimp only [tYes]
      rw [if_pos rfl]
      refine ⟨_, rfl, _, rfl, _, rfl, d, vN (g l[i]), rfl, gd, DM (l.take i) g, .inr (one l[i]), rfl, e4, ?_, ?_, ?_⟩
      · unfold DM DG
        rw [List.length_map, List.length_take, sizeLine_eq]
        have := pl.length_eq
        omega
      · exact fun b o z => by rw [upd_ne (ne_of_none z nD)]; exact s4 b o z
      · rw [upd_same, putK_DM, if_neg nin, List.take_succ_eq_append_getElem hlt]
        congr 2
        unfold DM DG
        refine List.map_congr_left fun x _ => ?_
        show ((.inr (one x) : Key), vN (if x = l[i] then g l[i] else g x)) = _
        by_cases k : x = l[i]
        · rw [if_pos k, k]
        · rw [if_neg k]
    · have e : i = l.length := by omega
      subst e
      rw [List.take_length] at e4
      refine .inl ⟨wk.stops H4 sq, ?_⟩
      exact q D l g H4 (fun b o z => s4 b o (sm2 b o z)) e4 (fun c hc => offc c fun h => hc (pl.mem_iff.mpr h)) hPl
end
end K01
set_option maxRecDepth 100000
set_option maxHeartbeats 1000000
namespace K01
open PySem PySem.Spec PyProof.Rows L2 Yard
section
variable {P : Program} {w : World} {K : PySem.W.Frag} {mg : Str → Option Value} {base : Heap}
/-! ### spells -/
def spSpells (k : Nat) : Sp := fun vs H Q _ => ∃ (v : V) (p : Pa) (x : Str), vs = [v, .str x] ∧ Dq H v (toD p) ∧ dep p ≤ k ∧ size p ≤ 900 ∧ (sgs p).flatten.length ≤ 60 ∧ x.length ≤ 10000 ∧
  ∀ b H', Same H H' → (b = true ↔ Lg p x.cps.toList) → Q (.bl b) H'
theorem sgn_place {p : Pa} {j c : Nat} : (j < ([[]] ++ sgs p).length ∧ ∃ l, ([[]] ++ sgs p)[j]? = some l ∧ c ∈ l) ↔ sgn p 1 j c := by
  rw [sgn_at p 1 j c]
  constructor
  · rintro ⟨_, l, e, k⟩
    cases j with
    | zero => cases e; cases k
    | succ j => exact ⟨by omega, l, e, k⟩
  · rintro ⟨h, l, e, k⟩
    cases j with
    | zero => omega
    | succ j =>
      have e' : (sgs p)[j]? = some l := e
      refine ⟨?_, l, e', k⟩
      have := (List.getElem?_eq_some_iff.mp e').1
      rw [List.length_append]
      show j + 1 < 1 + _
      omega
/-! ### a speller -/
theorem back {H0 H1 : Hp} (s : Same H0 H1) {b : Addr} (n : H1 b = none) : H0 b = none := by
  cases e : H0 b with
  | none => rfl
  | some o => rw [s _ _ e] at n; cases n
theorem PlAt.below {C : Addr} {H0 H1 H : Hp} {p dx l1 l2 l3 : Addr} {sg : List Str} {bh en : List Nat} (h : PlAt C H1 H p dx l1 l2 l3 sg bh en) (s : Same H0 H1) : PlAt C H0 H p dx l1 l2 l3 sg bh en :=
  ⟨fun b o e => h.sm b o (s b o e), back s h.p0, back s h.n1, back s h.n2, back s h.n3, h.d12, h.d13, h.d23, h.obj, h.e1, h.e2, h.e3⟩
theorem PlAt.over {C : Addr} {H0 H : Hp} {p dx l1 l2 l3 S : Addr} {o : HO} {sg : List Str} {bh en : List Nat} (h : PlAt C H0 H p dx l1 l2 l3 sg bh en) (n : H0 S = none) (a : S ≠ p) (b : S ≠ l1) (c : S ≠ l2) (d : S ≠ l3) : PlAt C H0 (upd H S o) p dx l1 l2 l3 sg bh en :=
  ⟨upd_old h.sm n, h.p0, h.n1, h.n2, h.n3, h.d12, h.d13, h.d23, by rw [upd_ne a.symm]; exact h.obj, by rw [upd_ne b.symm]; exact h.e1, by rw [upd_ne c.symm]; exact h.e2, by rw [upd_ne d.symm]; exact h.e3⟩
def sf (p D : Addr) : List (Str × V) := [("_places", .ref p), ("_having", .ref D)]
theorem sf_p (p D : Addr) : (sf p D).lookup ("_places" : Str) = some (.ref p) := rfl
theorem sf_h (p D : Addr) : (sf p D).lookup ("_having" : Str) = some (.ref D) := rfl
/-- the speller at S of the pattern pa, made behind the heap H0 -/
def SpAt (C C2 : Addr) (H0 H : Hp) (S : Addr) (pa : Pa) : Prop := ∃ (sx p dx l1 l2 l3 D : Addr) (tb bh : List Nat) (F La : Nat) (cs : List Nat) (f : Nat → Nat), H S = some (.ins C2 sx (sf p D)) ∧ PlAt C H0 H p dx l1 l2 l3 (([[]] ++ sgs pa).map toS) tb [if nul pa = true then La ||| 1 else La] ∧
  Laid pa 1 [[]] [0] ([[]] ++ sgs pa) bh F La ∧ tb.length = bh.length ∧ tb[0]? = some F ∧ (∀ i, 1 ≤ i → tb[i]? = bh[i]?) ∧ H D = some (.dK (DM cs f)) ∧ (∀ c, c ∉ cs → f c = 0) ∧ Places ([[]] ++ sgs pa) ([[]] ++ sgs pa).length f
def spSinit (C C2 : Addr) (k : Nat) : Sp := fun vs H Q _ => ∃ (H0 : Hp) (S sx : Addr) (v : V) (pa : Pa), vs = [.ref S, v] ∧ Same H0 H ∧ H0 S = none ∧ H S = some (.ins C2 sx []) ∧ Dq H0 v (toD pa) ∧ dep pa ≤ k ∧ size pa ≤ 900 ∧ (sgs pa).flatten.length ≤ 60 ∧
  ∀ H', Same H0 H' → SpAt C C2 H0 H' S pa → Q .non H'
theorem scSinit : FnScope ["self", "pattern"] ["self", "pattern"] (defScope mSinit) := ⟨rfl, rfl, rfl, by decide +kernel, rfl, by decide +kernel, by decide +kernel⟩
theorem ok_sinit (T : Tx K w mg) (k : Nat) : FnOk P w K mg base CX0 (k + 6) T.bSinit T.gSinit ["self", "pattern"] (spSinit T.C T.C2 k) := by
  refine T.msinit.ok scSinit (fun vs H Q E h => ?_) (fun cdv A outer s H vs Q E hr h => ?_)
  · obtain ⟨H0, S, sx, v, pa, rfl, _⟩ := h
    rfl
  · obtain ⟨H0, S, sx, v, pa, rfl, s0, n0, eS, hd, hk, hsz, hfl, q⟩ := h
    have hr1 : Room 1 _ := hr.mono (by omega)
    refine ⟨_, (pss_cons (ps_fld (pv 0) (pe_make T.mkC (ok_init T k) hr rfl T.cPlaces T.minitB .nil pass0 (pa_cons (pe_lst (pa_cons (pv 1) pa_nil)) pa_nil)) rfl)
      (pss_one (ps_fld (pv 0) (pe_meth0 (pe_fld (pv 0) rfl) T.cl T.mbysigns.mt (ok_bysigns T) hr1 T.mbysigns.bd .nil pass0) rfl))), ?_⟩
    refine ⟨_, rfl, by show 1 ≤ sizeLine; decide, fun lp nlp p dx npl ndx nex => ?_⟩
    have s1 : Same H (upd H lp (.lst [v])) := same_new nlp
    have elp : (upd H lp (.lst [v])) lp = some (.lst [v]) := upd_same
    generalize upd H lp (HO.lst [v]) = H1 at s1 elp npl ndx ⊢
    have s2 : Same H1 (upd (upd H1 dx (.own p)) p (.ins T.C dx [])) := fun b o z => by
      rw [upd_ne (ne_of_none z npl), upd_ne (ne_of_none z ndx)]; exact z
    have s01 : Same H0 H1 := fun b o e => s1 b o (s0 b o e)
    have eS1 := s1 _ _ eS
    refine ⟨H1, p, dx, lp, v, pa, rfl, s2, npl, upd_same, elp, hd.mono s01, hk, hsz, fun l1 l2 l3 tb bh F La H2 hp L hlen h0 hrest => ⟨rfl, ?_⟩⟩
    have eS2 := hp.sm _ _ eS1
    have dp : S ≠ p := ne_of_none eS1 npl
    have d1 : S ≠ l1 := ne_of_none eS1 hp.n1
    have d2 : S ≠ l2 := ne_of_none eS1 hp.n2
    have d3 : S ≠ l3 := ne_of_none eS1 hp.n3
    refine ⟨_, rfl, S, T.C2, sx, [], rfl, eS2, T.cl2, T.naP, by show 0 < 1000; decide, ?_⟩
    have hp2 : PlAt T.C H0 (upd H2 S (.ins T.C2 sx (putF "_places" (.ref p) []))) p dx l1 l2 l3 (([[]] ++ sgs pa).map toS) tb [if nul pa = true then La ||| 1 else La] := (hp.below s01).over n0 dp d1 d2 d3
    have eS3 : (upd H2 S (.ins T.C2 sx (putF "_places" (.ref p) []))) S = some (.ins T.C2 sx (putF "_places" (.ref p) [])) := upd_same
    generalize upd H2 S (.ins T.C2 sx (putF "_places" (.ref p) [])) = H3 at hp2 eS3 ⊢
    have lsg : (([[]] : List (List Nat)) ++ sgs pa).length = 1 + size pa := by
      rw [List.length_append, sgs_len]; rfl
    refine ⟨_, rfl, S, T.C2, sx, _, _, rfl, eS3, T.cl2, T.naP, rfl, p, dx, _, rfl, hp2.obj, rfl, H0, p, dx, l1, l2, l3, [[]] ++ sgs pa, tb, _, rfl, hp2, by omega, by rw [List.flatten_append, List.length_append]; exact Nat.le_trans (Nat.le_of_eq (Nat.zero_add _)) hfl, fun D cs f H4 s4 eD off hP => ?_⟩
    have hp4 := hp2.mono s4
    have eS4 := s4 _ _ eS3
    refine ⟨_, rfl, S, T.C2, sx, _, rfl, eS4, T.cl2, T.naH, by show 1 < 1000; decide, ?_⟩
    have hp5 := hp4.over (o := .ins T.C2 sx (putF "_having" (.ref D) (putF "_places" (.ref p) []))) n0 dp d1 d2 d3
    have dD : D ≠ S := fun e => by rw [e, eS4] at eD; cases eD
    refine q _ hp5.sm ⟨sx, p, dx, l1, l2, l3, D, tb, bh, F, La, cs, f, upd_same, hp5, L, hlen, h0, hrest, ?_, off, hP⟩
    rw [upd_ne dD]; exact eD
def spStakes (C C2 : Addr) : Sp := fun vs H Q _ => ∃ (H0 : Hp) (S : Addr) (p : Pa) (x : Str), vs = [.ref S, .str x] ∧ SpAt C C2 H0 H S p ∧ size p ≤ 900 ∧ x.length ≤ 10000 ∧
  ∀ b H', Same H H' → (b = true ↔ Lg p x.cps.toList) → Q (.bl b) H'
theorem scStakes : FnScope ["self", "text", "reached", "sign"] ["self", "text"] (defScope mStakes) := ⟨rfl, rfl, rfl, by decide +kernel, rfl, by decide +kernel, by decide +kernel⟩
theorem ok_stakes (T : Tx K w mg) : FnOk P w K mg base CX0 3 T.bStakes T.gStakes ["self", "text"] (spStakes T.C T.C2) := by
  refine T.mstakes.fn.ok scStakes (fun vs H Q E h => ?_) (fun cdv A outer s H vs Q E hr h => ?_)
  · obtain ⟨H0, S, p, x, rfl, _⟩ := h
    rfl
  · obtain ⟨H0, S, p, x, rfl, ⟨sx, pl, dx, l1, l2, l3, D, tb, bh, F, La, cs, f, eS, hp, L, hlen, h0, hrest, eD, off, hP⟩, hsz, hx, q⟩ := h
    have hr1 : Room 1 _ := hr.mono (by omega)
    refine ⟨_, (pss_cons (ps_set (i := 2) scStakes.nd rfl (.inl rfl) (pe_glob (v := .int 1) rfl T.cBEG ⟨_, rfl⟩))
      (pss_cons (ps_for PassesOwn.never rfl (pi_str (pv 1)) (pg_name (i := 3) scStakes.nd rfl (.inl rfl))
        (pss_one (ps_set (i := 2) scStakes.nd rfl (.inl rfl) (pe_op op_and (pe_meth (pe_fld (pv 0) rfl) T.cl T.mbehind.mt (ok_behind T) hr T.mbehind.bd .nil pass0 (pa_cons (pv 2) pa_nil)) (pe_dget2 (hu_of hr) (pe_fld (pv 0) rfl) (pv 3) pe_int ⟨rfl, rfl, rfl, rfl⟩)))))
      (pss_one (ps_ret (pe_cmpR op_notN (pe_meth (pe_fld (pv 0) rfl) T.cl T.mfend.mt (ok_fend T) hr1 T.mfend.bd .nil pass0 (pa_cons (pv 2) pa_nil)) pe_non (nomark _)))))), ?_⟩
    have ltb : tb.length = 1 + size p := by rw [hlen, L.len]
    dsimp only [gName, List.set]
    refine ⟨_, rfl, x, rfl, ?_⟩
    refine for_it (walk_str (z := x)) (fun t σ' H' => ∃ (R : Nat) (x5 : Option V), σ' = [some (.ref S), some (.str x), some (.int (R : Nat)), x5] ∧ Same H H' ∧ Run p (x.cps.toList.take t) R ∧ R < 2 ^ tb.length) ⟨1, _, rfl, fun _ _ z => z, by rw [List.take_zero]; exact run_start p, ?_⟩ (fun _ _ _ _ _ => trivial) ?_ ?_
    · exact Nat.one_lt_two_pow (by omega)
    · rintro t y σ H4 H5 ht ⟨R, x5, rfl, sm, hR, hlt⟩ ⟨rfl, c, hc, rfl⟩
      have hc2 : x.cps.toList[t]? = some c := by rw [Array.getElem?_toList]; exact hc
      have hp4 := hp.mono sm
      dsimp only [gName, List.set]
      refine ⟨_, rfl, S, T.C2, sx, _, _, rfl, sm _ _ eS, T.cl2, T.naP, sf_p _ _, pl, dx, _, rfl, hp4.obj, rfl, _, rfl, H0, pl, dx, l1, l2, l3, _, tb, _, R, rfl, hp4, by omega, hlt, fun X H6 s6 hX => ?_⟩
      have eD6 := s6 _ _ (sm _ _ eD)
      refine ⟨_, rfl, S, T.C2, sx, _, _, rfl, s6 _ _ (sm _ _ eS), T.cl2, T.naH, sf_h _ _, D, rfl, .inl ⟨_, .inl eD6⟩, _, rfl, valV (DM cs f) (.inr (one c)), DGet.k (k := .inr (one c)) eD6, ?_⟩
      rw [show (valV (DM cs f) (.inr (one c))).getD (.int 0) = vN (f c) from getD_DG oneI f c cs off]
      refine ⟨_, _, rfl, rfl, ?_⟩
      dsimp only [gName, List.set]
      rw [and_nat]
      have bits : ∀ j, (X &&& f c).testBit j = true ↔ (∃ i b, R.testBit i = true ∧ tb[i]? = some b ∧ b.testBit j = true) ∧ sgn p 1 j c := fun j => by
        rw [Nat.testBit_and, Bool.and_eq_true, hX j, hP c j, sgn_place]
      refine ⟨X &&& f c, _, rfl, fun b o z => s6 b o (sm b o z), ?_, ?_⟩
      · have tk : x.cps.toList.take (t + 1) = x.cps.toList.take t ++ [c] := by
          rw [List.take_succ, hc2]; rfl
        rw [tk]
        exact run_step L hrest h0 hR bits
      · refine lt_of_bits fun i hi => ?_
        have := sgn_in p 1 i c ((bits i).mp hi).2
        unfold In at this
        omega
    · rintro σ H4 ⟨R, x5, rfl, sm, hR, hlt⟩
      have hp4 := hp.mono sm
      have tk : x.cps.toList.take x.cps.size = x.cps.toList := by
        rw [← Array.length_toList]; exact List.take_length
      rw [tk] at hR
      refine ⟨_, rfl, S, T.C2, sx, _, _, rfl, sm _ _ eS, T.cl2, T.naP, sf_p _ _, pl, dx, _, rfl, hp4.obj, rfl, _, rfl, H0, pl, dx, l1, l2, l3, _, tb, _, R, rfl, hp4, fun H5 s5 => ⟨rfl, ?_⟩⟩
      refine q _ H5 (fun b o z => s5 b o (sm b o z)) ?_
      rw [← run_end L hR]
      by_cases e : (if nul p = true then La ||| 1 else La) &&& R ≠ 0
      · rw [if_pos e]
        exact ⟨fun _ => e, fun _ => rfl⟩
      · rw [if_neg e]
        exact ⟨fun h => absurd h (by decide), fun h => absurd h e⟩
theorem scSpells : FnScope ["pattern", "text"] ["pattern", "text"] (defScope sSpells) := ⟨rfl, rfl, rfl, by decide +kernel, rfl, by decide +kernel, by decide +kernel⟩
theorem ok_spells (T : Tx K w mg) (k : Nat) : FnOk P w K mg base CX0 (k + 8) T.aSpells T.fSpells ["pattern", "text"] (spSpells k) := by
  refine T.spells.fn.ok scSpells (fun vs H Q E h => ?_) (fun cdv A outer s H vs Q E hr h => ?_)
  · obtain ⟨v, p, x, rfl, _⟩ := h
    rfl
  · obtain ⟨v, p, x, rfl, hd, hk, hsz, hfl, hx, q⟩ := h
    have hr3 : Room 3 _ := hr.mono (by omega)
    refine ⟨_, (pss_one (ps_ret (pe_meth (pe_make T.mkC2 (ok_sinit T k) hr rfl T.cSpeller T.msinitB .nil pass0 (pa_cons (pv 0) pa_nil)) T.cl2 T.mstakes.mt (ok_stakes T) hr3 T.mstakes.bd .nil pass0 (pa_cons (pv 1) pa_nil)))), ?_⟩
    refine ⟨_, rfl, fun S sx nS nx dx => ?_⟩
    have s1 : Same H (upd (upd H sx (.own S)) S (.ins T.C2 sx [])) := fun b o z => by
      rw [upd_ne (ne_of_none z nS), upd_ne (ne_of_none z nx)]; exact z
    refine ⟨H, S, sx, v, p, rfl, s1, nS, upd_same, hd, hk, hsz, hfl, fun H2 s2 hS => ⟨rfl, ?_⟩⟩
    obtain ⟨sx', pl, dx', l1, l2, l3, D, tb, bh, F, La, cs, f, eS, _⟩ := id hS
    refine ⟨S, sx', _, rfl, eS, rfl, _, rfl, H, S, p, x, rfl, hS, hsz, hx, fun b H3 s3 e => q b H3 (fun b o z => s3 b o (s2 b o z)) e⟩
end
end K01
set_option maxRecDepth 100000
set_option maxHeartbeats 1000000
namespace K01
open PySem PySem.Spec PyProof.Rows L2 Yard
def oV : Option (List Nat) → V
  | none => .non
  | some t => .str (toS t)
/-- the parts of a pattern that is no text of signs -/
def pts : Pa → List Pa
  | .sg _ => []
  | .em => []
  | .th a b => [a, b]
  | .or a b => [a, b]
  | .ag a => [a]
  | .mo a => [a]
  | .mb a => [a]
def wrd : Pa → Str
  | .sg _ => "signs"
  | .em => "empty"
  | .th _ _ => "then"
  | .or _ _ => "or"
  | .ag _ => "again"
  | .mo _ => "more"
  | .mb _ => "maybe"
/-- t[1:] of a tuple that isn't empty -/
theorem cut_tail (x : V) (xs : List V) : cutV (x :: xs) (some 1) none = xs := by
  unfold cutV
  rw [show HT.sIx (x :: xs).length 0 (some 1) = min 1 (x :: xs).length from HT.sIx_nat _ 0 1, HT.sIx_none]
  have e : min 1 (x :: xs).length = 1 := by rw [List.length_cons]; omega
  rw [e]
  show List.take ((x :: xs).length - 1) xs = xs
  rw [List.length_cons, Nat.add_sub_cancel]
  exact List.take_length
theorem not_whole (x : V) (xs : List V) (o : Option Int) : ¬ (HT.sIx (x :: xs).length 0 (some 1) = 0 ∧ HT.sIx (x :: xs).length (x :: xs).length o = (x :: xs).length) := fun h => by
  have q := h.1
  rw [show HT.sIx (x :: xs).length 0 (some 1) = min 1 (x :: xs).length from HT.sIx_nat _ 0 1, List.length_cons] at q
  omega
theorem inv_pts {H : Hp} {v : V} {p : Pa} (h : Dq H v (toD p)) (n : ∀ l, p ≠ .sg l) : ∃ a xs, v = .ref a ∧ H a = some (.tup (.str (wrd p) :: xs)) ∧ DqL H xs ((pts p).map toD) := by
  cases p with
  | sg l => exact absurd rfl (n l)
  | em =>
    obtain ⟨a, x0, rfl, e, h0⟩ := inv1 h
    cases inv_str h0
    exact ⟨a, [], rfl, e, .nil⟩
  | th b c =>
    obtain ⟨a, x0, x1, x2, rfl, e, h0, h1, h2⟩ := inv3 h
    cases inv_str h0
    exact ⟨a, [x1, x2], rfl, e, .cons h1 (.cons h2 .nil)⟩
  | or b c =>
    obtain ⟨a, x0, x1, x2, rfl, e, h0, h1, h2⟩ := inv3 h
    cases inv_str h0
    exact ⟨a, [x1, x2], rfl, e, .cons h1 (.cons h2 .nil)⟩
  | ag b =>
    obtain ⟨a, x0, x1, rfl, e, h0, h1⟩ := inv2 h
    cases inv_str h0
    exact ⟨a, [x1], rfl, e, .cons h1 .nil⟩
  | mo b =>
    obtain ⟨a, x0, x1, rfl, e, h0, h1⟩ := inv2 h
    cases inv_str h0
    exact ⟨a, [x1], rfl, e, .cons h1 .nil⟩
  | mb b =>
    obtain ⟨a, x0, x1, rfl, e, h0, h1⟩ := inv2 h
    cases inv_str h0
    exact ⟨a, [x1], rfl, e, .cons h1 .nil⟩
theorem pts_dep {p q : Pa} (h : q ∈ pts p) : dep q + 1 ≤ dep p := by
  cases p <;> simp [pts] at h <;> simp only [dep]
  case th a b => rcases h with rfl | rfl <;> omega
  case or a b => rcases h with rfl | rfl <;> omega
  all_goals subst h; omega
theorem pts_size {p q : Pa} (h : q ∈ pts p) : size q ≤ size p := by
  cases p <;> simp [pts] at h <;> simp only [size]
  case th a b => rcases h with rfl | rfl <;> omega
  case or a b => rcases h with rfl | rfl <;> omega
  all_goals subst h; omega
theorem inV_non : ∀ ts : List (Option (List Nat)), inV .non (ts.map oV) = ts.any Option.isNone
  | [] => rfl
  | t :: ts => by
    show (eqV (oV t) .non || inV .non (ts.map oV)) = _
    rw [inV_non ts, List.any_cons]
    cases t <;> rfl
theorem flat_oV : ∀ ts : List (Option (List Nat)), (ts.map oV).all flatV = true
  | [] => rfl
  | t :: ts => by
    rw [List.map_cons, List.all_cons, flat_oV ts]
    cases t <;> rfl
/-- a text is no longer than there are places -/
theorem only_len : ∀ (p : Pa) (t : List Nat), only p = some t → t.length ≤ size p := fun p t h => by
  have := least_len p
  rw [only_least p t h] at this
  exact this
section
variable {P : Program} {w : World} {K : PySem.W.Frag} {mg : Str → Option Value} {base : Heap}
/-! ### only_text -/
def spOnly (k : Nat) : Sp := fun vs H Q _ => ∃ (v : V) (p : Pa), vs = [v] ∧ Dq H v (toD p) ∧ dep p ≤ k ∧ size p ≤ 10000 ∧ (∀ l ∈ sgs p, l.length ≤ 200) ∧ ∀ H', Same H H' → Q (oV (only p)) H'
theorem scOnly : FnScope ["pattern", "word", "texts", "part"] ["pattern"] (defScope sOnly) := ⟨rfl, rfl, rfl, by decide +kernel, rfl, by decide +kernel, by decide +kernel⟩
theorem pts_sgs {p q : Pa} (h : q ∈ pts p) : ∀ l ∈ sgs q, l ∈ sgs p := by
  cases p <;> simp [pts] at h <;> intro l hl <;> simp only [sgs]
  case th a b => rcases h with rfl | rfl; exact List.mem_append_left _ hl; exact List.mem_append_right _ hl
  case or a b => rcases h with rfl | rfl; exact List.mem_append_left _ hl; exact List.mem_append_right _ hl
  all_goals subst h; exact hl
theorem toS_inj {a b : List Nat} (h : toS a = toS b) : a = b := by
  have e := congrArg (fun s : Str => s.cps.toList) h
  simpa [toS] using e
theorem only_step (T : Tx K w mg) (k : Nat) (G : FnOk P w K mg base CX0 k T.aOnly T.fOnly ["pattern"] (spBefore spOnly k)) :
    FnOk P w K mg base CX0 (k + 1) T.aOnly T.fOnly ["pattern"] (spOnly k) := by
  refine T.only.fn.ok scOnly (fun vs H Q E h => ?_) (fun cdv A outer s H vs Q E hr h => ?_)
  · obtain ⟨v, p, rfl, _⟩ := h
    rfl
  · obtain ⟨v, p, rfl, hd, hk, hsz, few, q⟩ := h
    refine ⟨_, (pss_cons (ps_set (i := 1) scOnly.nd rfl (.inl rfl) (pe_ix ix_tup (pv 0) pe_int (fun _ _ => rfl)))
      (pss_cons (ps_if (pt_cmpR op_eq (pv 1) pe_str (nomark _))
        (pss_one (ps_ret (pe_ifExp (pt_cmpR op_eq (pe_callB call_len_str (by rfl) T.len PySem.boot_len (pa_cons (pe_ix ix_tup (pv 0) pe_int (fun _ _ => rfl)) pa_nil)) pe_int (nomark _)) (pe_ix ix_tup (pv 0) pe_int (fun _ _ => rfl)) pe_non))) pss_nil)
      (pss_cons (ps_setLc (i := 2) (own := [("part", 3)]) (g := gName 3) (tt := tYes) rfl scOnly.nd rfl rfl (sw_true rfl rfl rfl (by decide +kernel)) (pi_tup (pe_slice sl_tupA (pv 0) (po_some pe_int) po_none)) (blkOk_by (own := [("part", 3)]) (N := ["pattern", "word", "texts", "part"]) (sc := defScope sOnly) (by decide +kernel)) (fun _ _ _ _ _ => pg_name (i := 3) scOnly.nd rfl (.inl rfl)) (fun _ _ _ _ _ => pts_nil) (fun _ _ _ _ _ => (pe_call G hr (by rfl) T.only.at_ T.only.kp T.only.bd .nil pass0 (pa_cons (pv 3) pa_nil))))
      (pss_cons (ps_if (pt_cmpR op_in_seq pe_non (pv 2) (by rfl))
        (pss_one (ps_ret pe_non)) pss_nil)
      (pss_cons (ps_if (pt_cmpR op_eq (pv 1) pe_str (nomark _))
        (pss_one (ps_ret (pe_op op_add_str (pe_ix ix_list (pv 2) pe_int (fun _ _ => rfl)) (pe_ix ix_list (pv 2) pe_int (fun _ _ => rfl))))) pss_nil)
      (pss_cons (ps_if (pt_cmpR op_eq (pv 1) pe_str (nomark _))
        (pss_one (ps_ret (pe_ifExp (pt_cmpR op_eq (pe_ix ix_list (pv 2) pe_int (fun _ _ => rfl)) (pe_ix ix_list (pv 2) pe_int (fun _ _ => rfl)) (nomark _)) (pe_ix ix_list (pv 2) pe_int (fun _ _ => rfl)) pe_non))) pss_nil)
      (pss_one (ps_ret (pe_ifExp (pt_cmpR op_eq (pe_join pe_str (pv 2)) pe_str (nomark _)) pe_str pe_non))))))))), ?_⟩
    by_cases isg : ∃ l, p = .sg l
    · obtain ⟨l, rfl⟩ := isg
      obtain ⟨a, x0, x1, rfl, ea, h0, h1⟩ := inv2 hd
      cases inv_str h0
      cases inv_str h1
      have fl := few l (by simp [sgs])
      refine ⟨_, rfl, a, _, 0, _, rfl, rfl, SqT.of ea, atI_nat (j := 0) rfl, ?_⟩
      dsimp only [gName, List.set]
      refine ⟨_, rfl, rfl, _, rfl, iteT ?_⟩
      refine ⟨_, rfl, a, _, 1, _, rfl, rfl, SqT.of ea, atI_nat (j := 1) rfl, toS l, rfl, by rw [toS_len, sizeLine_eq]; omega, rfl, _, rfl, ?_⟩
      have z := q H fun _ _ z => z
      rw [toS_len]
      refine ite2 (fun e => ?_) (fun e => ?_)
      · have e1 : l.length = 1 := by
          have := V.int.inj (of_decide_eq_true e)
          omega
        refine ⟨_, rfl, a, _, 1, _, rfl, rfl, SqT.of ea, atI_nat (j := 1) rfl, ?_⟩
        have eo : only (.sg l) = some l := if_pos e1
        rw [eo] at z
        exact z
      · have e1 : ¬ l.length = 1 := fun h => e (decide_eq_true (by rw [h]; rfl))
        have eo : only (.sg l) = none := if_neg e1
        rw [eo] at z
        exact z
    · have ng : ∀ l, p ≠ .sg l := fun l e => isg ⟨l, e⟩
      obtain ⟨a, xs, rfl, ea, hl⟩ := inv_pts hd ng
      have ns : wrd p ≠ "signs" := by
        cases p with
        | sg l => exact absurd rfl (ng l)
        | em => exact (show ("empty" : Str) ≠ "signs" by decide +kernel)
        | th _ _ => exact (show ("then" : Str) ≠ "signs" by decide +kernel)
        | or _ _ => exact (show ("or" : Str) ≠ "signs" by decide +kernel)
        | ag _ => exact (show ("again" : Str) ≠ "signs" by decide +kernel)
        | mo _ => exact (show ("more" : Str) ≠ "signs" by decide +kernel)
        | mb _ => exact (show ("maybe" : Str) ≠ "signs" by decide +kernel)
      have df : ∀ {x y : Str}, x ≠ y → ¬ decide (V.str x = V.str y) = true := fun h e => h (V.str.inj (of_decide_eq_true e))
      refine ⟨_, rfl, a, _, 0, _, rfl, rfl, SqT.of ea, atI_nat (j := 0) rfl, ?_⟩
      dsimp only [gName, List.set]
      refine ⟨_, rfl, rfl, _, rfl, ite2 (fun e => absurd e (df ns)) (fun _ => ?_)⟩
      have ll := hl.len
      rw [List.length_map] at ll
      have l2 : (pts p).length ≤ 2 := by cases p <;> simp [pts]
      refine ⟨_, rfl, 1, rfl, a, _, rfl, SqT.of ea, fun h => absurd h (not_whole _ _ _), fun _ c nc => ?_⟩
      rw [cut_tail]
      refine ⟨c, rfl, ⟨_, SqT.of upd_same⟩, fun D hD => ?_⟩
      have s1 : Same H (upd H c (.tup xs)) := same_new nc
      refine lc_pure (walk_tup (xs := xs)) (fun i => oV (only ((pts p).getD i .em))) hD (by rw [sizeLine_eq]; omega) (fun H2 s2 => SqT.of (s2 _ _ upd_same)) ?_ ?_
      · rintro i y H2 H3 N hi s2 ⟨rfl, hy⟩ fin
        obtain ⟨di, hdi, hq⟩ := hl.get hy
        rw [List.getElem?_map] at hdi
        have hip : i < (pts p).length := by omega
        rw [List.getElem?_eq_getElem hip] at hdi
        have edi : toD (pts p)[i] = di := Option.some.inj hdi
        subst edi
        have mem := List.getElem_mem hip
        have dd := pts_dep mem
        have ds := pts_size mem
        have eg : (pts p).getD i .em = (pts p)[i] := by rw [List.getD_eq_getElem?_getD, List.getElem?_eq_getElem hip]; rfl
        obtain ⟨m, rfl⟩ : ∃ m, k = m + 1 := ⟨k - 1, by omega⟩
        have same : Same H H3 := fun b o z => s2 b o (s1 b o z)
        refine ⟨rfl, _, rfl, y, (pts p)[i], rfl, hq.mono same, by omega, by omega, fun l hl => few l (pts_sgs mem l hl), fun H4 s4 => ?_⟩
        have z := fin H4 s4
        rw [eg] at z
        exact z
      · intro H2 s2 e2
        have er : ((List.range xs.length).map fun i => oV (only ((pts p).getD i .em))) = ((pts p).map only).map oV := by
          rw [List.map_map]
          refine List.ext_getElem (by simp [ll]) fun i h1 h2 => ?_
          have hi : i < (pts p).length := by simpa using h2
          simp only [List.getElem_map, List.getElem_range, List.getD_eq_getElem?_getD, List.getElem?_eq_getElem hi]
          rfl
        rw [er] at e2
        have eL := SqL.of (K := K) e2
        have sm : Same H H2 := fun b o z => s2 b o (s1 b o z)
        have z := q H2 sm
        refine ⟨_, rfl, D, _, rfl, .inl eL, rfl, flat_oV _, _, rfl, ?_⟩
        show if (inV .non (((pts p).map only).map oV)) = true then _ else _
        rw [inV_non]
        clear hl ll l2
        cases p with
        | sg l => exact absurd rfl (ng l)
        | em =>
          refine iteF ⟨_, rfl, rfl, _, rfl, iteF ⟨_, rfl, rfl, _, rfl, iteF ?_⟩⟩
          exact ⟨⟨_, rfl⟩, _, rfl, "", D, [], rfl, rfl, .inl eL, Nat.zero_le _, rfl, _, rfl, iteT z⟩
        | th b c =>
          have lb := only_len b
          have lc := only_len c
          show if (([only b, only c] : List (Option (List Nat))).any Option.isNone) = true then _ else _
          have eL3 : SqL K H2 D [oV (only b), oV (only c)] := eL
          have zz : Q (oV (match only b, only c with | some u, some v => some (u ++ v) | _, _ => none)) H2 := z
          cases ob : only b with
          | none =>
            rw [ob] at zz
            exact iteT zz
          | some t =>
            cases oc : only c with
            | none =>
              rw [ob, oc] at zz
              exact iteT zz
            | some u =>
              rw [ob, oc] at zz eL3
              have h1 := lb t ob
              have h2 := lc u oc
              simp only [size] at hsz
              refine iteF ⟨_, rfl, rfl, _, rfl, iteT ?_⟩
              refine ⟨_, rfl, D, _, 0, _, rfl, rfl, eL3, atI_nat (j := 0) rfl, _, rfl, D, _, 1, _, rfl, rfl, eL3, atI_nat (j := 1) rfl, toS t, toS u, rfl, rfl, by rw [toS_len, toS_len, sizeLine_eq]; omega, ?_⟩
              rw [toS_app]
              exact zz
        | or b c =>
          show if (([only b, only c] : List (Option (List Nat))).any Option.isNone) = true then _ else _
          have eL3 : SqL K H2 D [oV (only b), oV (only c)] := eL
          have zz : Q (oV (if only b = only c then only b else none)) H2 := z
          cases ob : only b with
          | none =>
            rw [ob, ite_self] at zz
            exact iteT zz
          | some t =>
            cases oc : only c with
            | none =>
              rw [ob, oc] at zz
              exact iteT zz
            | some u =>
              rw [ob, oc] at zz eL3
              refine iteF ⟨_, rfl, rfl, _, rfl, iteF ⟨_, rfl, rfl, _, rfl, iteT ?_⟩⟩
              refine ⟨_, rfl, D, _, 0, _, rfl, rfl, eL3, atI_nat (j := 0) rfl, _, rfl, D, _, 1, _, rfl, rfl, eL3, atI_nat (j := 1) rfl, rfl, _, rfl, ite2 (fun e => ?_) (fun e => ?_)⟩
              · have e1 := toS_inj (V.str.inj (of_decide_eq_true e))
                subst e1
                rw [if_pos rfl] at zz
                exact ⟨_, rfl, D, _, 0, _, rfl, rfl, eL3, atI_nat (j := 0) rfl, zz⟩
              · have e1 : ¬ (some t = some u) := fun h => e (by rw [Option.some.inj h]; exact decide_eq_true rfl)
                rw [if_neg e1] at zz
                exact zz
        | ag b =>
          have lb := only_len b
          cases ob : only b with
          | none =>
            have eo : only (.ag b) = none := by show (if only b = some [] then some [] else none) = none; rw [ob]; rfl
            rw [eo] at z
            show if (([only b] : List (Option (List Nat))).any Option.isNone) = true then _ else _
            rw [ob]
            exact iteT z
          | some t =>
            have eL2 : SqL K H2 D (([toS t] : List Str).map V.str) := by
              have e3 : ((pts (.ag b)).map only).map oV = ([toS t] : List Str).map V.str := by show [oV (only b)] = _; rw [ob]; rfl
              rw [e3] at eL
              exact eL
            have hlen := lb t ob
            show if (([only b] : List (Option (List Nat))).any Option.isNone) = true then _ else _
            rw [ob]
            refine iteF ⟨_, rfl, rfl, _, rfl, iteF ⟨_, rfl, rfl, _, rfl, iteF ?_⟩⟩
            simp only [size] at hsz
            refine ⟨⟨_, rfl⟩, _, rfl, "", D, [toS t], rfl, rfl, .inl eL2, ?_, rfl, _, rfl, ite2 (fun e => ?_) (fun e => ?_)⟩
            · show ((toS t).length + 0) + 1 * 0 ≤ 16777216
              rw [toS_len]; omega
            · have e1 : toS t = toS [] := V.str.inj (of_decide_eq_true e)
              have e2 := toS_inj e1
              subst e2
              have eo : only (.ag b) = some [] := by show (if only b = some [] then some [] else none) = _; rw [ob]; rfl
              rw [eo] at z
              exact z
            · have e2 : t ≠ [] := fun h => e (by rw [h]; exact decide_eq_true rfl)
              have eo : only (.ag b) = none := by show (if only b = some [] then some [] else none) = _; rw [ob, if_neg (fun h => e2 (Option.some.inj h))]
              rw [eo] at z
              exact z
        | mo b =>
          have lb := only_len b
          cases ob : only b with
          | none =>
            have eo : only (.mo b) = none := by show (if only b = some [] then some [] else none) = none; rw [ob]; rfl
            rw [eo] at z
            show if (([only b] : List (Option (List Nat))).any Option.isNone) = true then _ else _
            rw [ob]
            exact iteT z
          | some t =>
            have eL2 : SqL K H2 D (([toS t] : List Str).map V.str) := by
              have e3 : ((pts (.mo b)).map only).map oV = ([toS t] : List Str).map V.str := by show [oV (only b)] = _; rw [ob]; rfl
              rw [e3] at eL
              exact eL
            have hlen := lb t ob
            show if (([only b] : List (Option (List Nat))).any Option.isNone) = true then _ else _
            rw [ob]
            refine iteF ⟨_, rfl, rfl, _, rfl, iteF ⟨_, rfl, rfl, _, rfl, iteF ?_⟩⟩
            simp only [size] at hsz
            refine ⟨⟨_, rfl⟩, _, rfl, "", D, [toS t], rfl, rfl, .inl eL2, ?_, rfl, _, rfl, ite2 (fun e => ?_) (fun e => ?_)⟩
            · show ((toS t).length + 0) + 1 * 0 ≤ 16777216
              rw [toS_len]; omega
            · have e1 : toS t = toS [] := V.str.inj (of_decide_eq_true e)
              have e2 := toS_inj e1
              subst e2
              have eo : only (.mo b) = some [] := by show (if only b = some [] then some [] else none) = _; rw [ob]; rfl
              rw [eo] at z
              exact z
            · have e2 : t ≠ [] := fun h => e (by rw [h]; exact decide_eq_true rfl)
              have eo : only (.mo b) = none := by show (if only b = some [] then some [] else none) = _; rw [ob, if_neg (fun h => e2 (Option.some.inj h))]
              rw [eo] at z
              exact z
        | mb b =>
          have lb := only_len b
          cases ob : only b with
          | none =>
            have eo : only (.mb b) = none := by show (if only b = some [] then some [] else none) = none; rw [ob]; rfl
            rw [eo] at z
            show if (([only b] : List (Option (List Nat))).any Option.isNone) = true then _ else _
            rw [ob]
            exact iteT z
          | some t =>
            have eL2 : SqL K H2 D (([toS t] : List Str).map V.str) := by
              have e3 : ((pts (.mb b)).map only).map oV = ([toS t] : List Str).map V.str := by show [oV (only b)] = _; rw [ob]; rfl
              rw [e3] at eL
              exact eL
            have hlen := lb t ob
            show if (([only b] : List (Option (List Nat))).any Option.isNone) = true then _ else _
            rw [ob]
            refine iteF ⟨_, rfl, rfl, _, rfl, iteF ⟨_, rfl, rfl, _, rfl, iteF ?_⟩⟩
            simp only [size] at hsz
            refine ⟨⟨_, rfl⟩, _, rfl, "", D, [toS t], rfl, rfl, .inl eL2, ?_, rfl, _, rfl, ite2 (fun e => ?_) (fun e => ?_)⟩
            · show ((toS t).length + 0) + 1 * 0 ≤ 16777216
              rw [toS_len]; omega
            · have e1 : toS t = toS [] := V.str.inj (of_decide_eq_true e)
              have e2 := toS_inj e1
              subst e2
              have eo : only (.mb b) = some [] := by show (if only b = some [] then some [] else none) = _; rw [ob]; rfl
              rw [eo] at z
              exact z
            · have e2 : t ≠ [] := fun h => e (by rw [h]; exact decide_eq_true rfl)
              have eo : only (.mb b) = none := by show (if only b = some [] then some [] else none) = _; rw [ob, if_neg (fun h => e2 (Option.some.inj h))]
              rw [eo] at z
              exact z
theorem ok_only (T : Tx K w mg) : ∀ k : Nat, FnOk P w K mg base CX0 (k + 1) T.aOnly T.fOnly ["pattern"] (spOnly k)
  | 0 => only_step T 0 no_fn
  | k + 1 => only_step T (k + 1) (ok_only T k)
end
end K01
set_option maxRecDepth 100000
set_option maxHeartbeats 1000000
namespace K01
open PySem PySem.Spec PyProof.Rows L2 Yard
/-- how many agains and mores -/
def ags : Pa → Nat
  | .sg _ => 0
  | .em => 0
  | .th a b => ags a + ags b
  | .or a b => ags a + ags b
  | .ag a => 1 + ags a
  | .mo a => 1 + ags a
  | .mb a => ags a
theorem wrd_ne {p : Pa} (ng : ∀ l, p ≠ .sg l) : wrd p ≠ "signs" := by
  cases p with
  | sg l => exact absurd rfl (ng l)
  | em => exact (show ("empty" : Str) ≠ "signs" by decide +kernel)
  | th _ _ => exact (show ("then" : Str) ≠ "signs" by decide +kernel)
  | or _ _ => exact (show ("or" : Str) ≠ "signs" by decide +kernel)
  | ag _ => exact (show ("again" : Str) ≠ "signs" by decide +kernel)
  | mo _ => exact (show ("more" : Str) ≠ "signs" by decide +kernel)
  | mb _ => exact (show ("maybe" : Str) ≠ "signs" by decide +kernel)
theorem ags_sum {p : Pa} (ng : ∀ l, p ≠ .sg l) : (if inV (.str (wrd p)) [.str "again", .str "more"] = true then (1 : Int) else 0) + ((pts p).map fun a => ((ags a : Nat) : Int)).sum = ((ags p : Nat) : Int) := by
  have f : ∀ x : Str, inV (.str x) [.str "again", .str "more"] = (("again" : Str) == x || (("more" : Str) == x || false)) := fun _ => rfl
  rw [f]
  cases p with
  | sg l => exact absurd rfl (ng l)
  | em => rfl
  | th a b =>
    rw [show ((("again" : Str) == wrd (.th a b) || (("more" : Str) == wrd (.th a b) || false))) = false from (show (("again" : Str) == "then" || (("more" : Str) == "then" || false)) = false by decide +kernel)]
    simp [pts, ags]
  | or a b =>
    rw [show ((("again" : Str) == wrd (.or a b) || (("more" : Str) == wrd (.or a b) || false))) = false from (show (("again" : Str) == "or" || (("more" : Str) == "or" || false)) = false by decide +kernel)]
    simp [pts, ags]
  | ag a =>
    rw [show ((("again" : Str) == wrd (.ag a) || (("more" : Str) == wrd (.ag a) || false))) = true from (show (("again" : Str) == "again" || (("more" : Str) == "again" || false)) = true by decide +kernel)]
    simp [pts, ags]
  | mo a =>
    rw [show ((("again" : Str) == wrd (.mo a) || (("more" : Str) == wrd (.mo a) || false))) = true from (show (("again" : Str) == "more" || (("more" : Str) == "more" || false)) = true by decide +kernel)]
    simp [pts, ags]
  | mb a =>
    rw [show ((("again" : Str) == wrd (.mb a) || (("more" : Str) == wrd (.mb a) || false))) = false from (show (("again" : Str) == "maybe" || (("more" : Str) == "maybe" || false)) = false by decide +kernel)]
    simp [pts, ags]
section
variable {P : Program} {w : World} {K : PySem.W.Frag} {mg : Str → Option Value} {base : Heap}
/-! ### _law_agains -/
def spAgains (k : Nat) : Sp := fun vs H Q _ => ∃ (v : V) (p : Pa), vs = [v] ∧ Dq H v (toD p) ∧ dep p ≤ k ∧ ∀ H', Same H H' → Q (.int (ags p : Nat)) H'
theorem scAgains : FnScope ["mould", "part"] ["mould"] (defScope sAgains) := ⟨rfl, rfl, rfl, by decide +kernel, rfl, by decide +kernel, by decide +kernel⟩
theorem agains_step (T : Tx K w mg) (k : Nat) (G : FnOk P w K mg base CX0 k T.aAgains T.fAgains ["mould"] (spBefore spAgains k)) :
    FnOk P w K mg base CX0 (k + 1) T.aAgains T.fAgains ["mould"] (spAgains k) := by
  refine T.agains.fn.ok scAgains (fun vs H Q E h => ?_) (fun cdv A outer s H vs Q E hr h => ?_)
  · obtain ⟨v, p, rfl, _⟩ := h
    rfl
  · obtain ⟨v, p, rfl, hd, hk, q⟩ := h
    refine ⟨_, (pss_cons (ps_if (pt_cmpR op_eq (pe_ix ix_tup (pv 0) pe_int (fun _ _ => rfl)) pe_str (nomark _))
        (pss_one (ps_ret pe_int)) pss_nil)
      (pss_one (ps_ret (pe_op op_add (pe_callTy call_int1 (by rfl) T.bInt (by decide +kernel) (pa_cons (pe_cmpR op_in_seq (pe_ix ix_tup (pv 0) pe_int (fun _ _ => rfl)) (pe_lst (pa_cons pe_str (pa_cons pe_str pa_nil))) (by rfl)) pa_nil)) (pe_callB (cr_sum rfl) (by rfl) T.bSum (by decide +kernel) (pa_cons (pe_lc (own := [("part", 1)]) (g := gName 1) (tt := tYes) rfl scAgains.nd (pi_tup (pe_slice sl_tupA (pv 0) (po_some pe_int) po_none)) (blkOk_by (own := [("part", 1)]) (N := ["mould", "part"]) (sc := defScope sAgains) (by decide +kernel)) (fun _ _ _ _ _ => pg_name (i := 1) scAgains.nd rfl (.inl rfl)) (fun _ _ _ _ _ => pts_nil) (fun _ _ _ _ _ => (pe_call G hr (by rfl) T.agains.at_ T.agains.kp T.agains.bd .nil pass0 (pa_cons (pv 1) pa_nil)))) pa_nil)))))), ?_⟩
    by_cases isg : ∃ l, p = .sg l
    · obtain ⟨l, rfl⟩ := isg
      obtain ⟨a, x0, x1, rfl, ea, h0, h1⟩ := inv2 hd
      cases inv_str h0
      exact ⟨_, rfl, a, _, 0, _, rfl, rfl, SqT.of ea, atI_nat (j := 0) rfl, rfl, _, rfl, iteT (q H fun _ _ z => z)⟩
    · have ng : ∀ l, p ≠ .sg l := fun l e => isg ⟨l, e⟩
      obtain ⟨a, xs, rfl, ea, hl⟩ := inv_pts hd ng
      have df : ∀ {x y : Str}, x ≠ y → ¬ decide (V.str x = V.str y) = true := fun h e => h (V.str.inj (of_decide_eq_true e))
      have ll := hl.len
      rw [List.length_map] at ll
      have l2 : (pts p).length ≤ 2 := by cases p <;> simp [pts]
      refine ⟨_, rfl, a, _, 0, _, rfl, rfl, SqT.of ea, atI_nat (j := 0) rfl, rfl, _, rfl, ite2 (fun e => absurd e (df (wrd_ne ng))) (fun _ => ?_)⟩
      refine ⟨_, rfl, a, _, 0, _, rfl, rfl, SqT.of ea, atI_nat (j := 0) rfl, by show 2 ≤ sizeLine; decide, fun z nz => ?_⟩
      have s0 : Same H (upd H z (.lst [.str "again", .str "more"])) := same_new nz
      refine ⟨z, _, rfl, .inl (SqL.of upd_same), rfl, rfl, .inr ⟨_, rfl, ?_⟩⟩
      refine ⟨_, rfl, 1, rfl, a, _, rfl, SqT.of (s0 _ _ ea), fun h => absurd h (not_whole _ _ _), fun _ c nc => ?_⟩
      rw [cut_tail]
      refine ⟨c, rfl, ⟨_, SqT.of upd_same⟩, fun D hD => ?_⟩
      have s1 : Same H (upd (upd H z (.lst [.str "again", .str "more"])) c (.tup xs)) := fun b o e => same_new nc b o (s0 b o e)
      refine lc_pure (walk_tup (xs := xs)) (fun i => .int (ags ((pts p).getD i .em) : Nat)) hD (by rw [sizeLine_eq]; omega) (fun H2 s2 => SqT.of (s2 _ _ upd_same)) ?_ ?_
      · rintro i y H2 H3 N hi s2 ⟨rfl, hy⟩ fin
        obtain ⟨di, hdi, hq⟩ := hl.get hy
        rw [List.getElem?_map] at hdi
        have hip : i < (pts p).length := by omega
        rw [List.getElem?_eq_getElem hip] at hdi
        have edi : toD (pts p)[i] = di := Option.some.inj hdi
        subst edi
        have dd := pts_dep (List.getElem_mem hip)
        have eg : (pts p).getD i .em = (pts p)[i] := by rw [List.getD_eq_getElem?_getD, List.getElem?_eq_getElem hip]; rfl
        obtain ⟨m, rfl⟩ : ∃ m, k = m + 1 := ⟨k - 1, by omega⟩
        have same : Same H H3 := fun b o z => s2 b o (s1 b o z)
        refine ⟨rfl, _, rfl, y, (pts p)[i], rfl, hq.mono same, by omega, fun H4 s4 => ?_⟩
        have z := fin H4 s4
        rw [eg] at z
        exact z
      · intro H2 s2 e2
        have er : ((List.range xs.length).map fun i => V.int (ags ((pts p).getD i .em) : Nat)) = ((pts p).map fun a => ((ags a : Nat) : Int)).map V.int := by
          rw [List.map_map]
          refine List.ext_getElem (by simp [ll]) fun i h1 h2 => ?_
          have hi : i < (pts p).length := by simpa using h2
          simp only [List.getElem_map, List.getElem_range, List.getD_eq_getElem?_getD, List.getElem?_eq_getElem hi]
          rfl
        rw [er] at e2
        refine ⟨D, _, rfl, SqL.of e2, _, _, rfl, rfl, ?_⟩
        have z := q H2 fun b o z => s2 b o (s1 b o z)
        rw [← ags_sum ng] at z
        exact z
theorem ok_agains (T : Tx K w mg) : ∀ k : Nat, FnOk P w K mg base CX0 (k + 1) T.aAgains T.fAgains ["mould"] (spAgains k)
  | 0 => agains_step T 0 no_fn
  | k + 1 => agains_step T (k + 1) (ok_agains T k)
end
end K01
set_option maxRecDepth 100000
set_option maxHeartbeats 1000000
namespace K01
open PySem PySem.Spec PyProof.Rows L2 Yard YP
/-! ### patterns and rows as data of the pure layer -/
structure OkN (n : Nat) (d : D) : Prop where
  pl : plain d = true
  cl : (toP d).canLay0 = true
  dp : (toP d).depth ≤ n
theorem OkN.ok {n : Nat} {d : D} (h : OkN n d) (k : n ≤ 64) : okD d = true := by
  unfold okD SeqAt.shaped
  rw [h.pl, h.cl, decide_eq_true (Nat.le_trans h.dp k)]; rfl
theorem OkN.mono {n m : Nat} {d : D} (h : OkN n d) (k : n ≤ m) : OkN m d := ⟨h.pl, h.cl, Nat.le_trans h.dp k⟩
theorem okN_all {n : Nat} : ∀ {l : List D}, (∀ d ∈ l, OkN n d) → plains l = true ∧ PyData.canLayAll0 (toPs l) = true ∧ PyData.depthAll (toPs l) ≤ n
  | [], _ => ⟨rfl, rfl, Nat.zero_le _⟩
  | d :: l, h => by
    obtain ⟨a, b, c⟩ := okN_all fun x hx => h x (List.mem_cons_of_mem _ hx)
    have k := h d List.mem_cons_self
    refine ⟨?_, ?_, ?_⟩
    · show (plain d && plains l) = true
      rw [k.pl, a]; rfl
    · show ((toP d).canLay0 && PyData.canLayAll0 (toPs l)) = true
      rw [k.cl, b]; rfl
    · show max ((toP d).depth) (PyData.depthAll (toPs l)) ≤ n
      have := k.dp
      omega
theorem okN_tup {n : Nat} {l : List D} (h : ∀ d ∈ l, OkN n d) : OkN (n + 1) (.tup l) :=
  let ⟨a, b, c⟩ := okN_all h; ⟨a, b, Nat.succ_le_succ c⟩
theorem okN_lst {n : Nat} {l : List D} (h : ∀ d ∈ l, OkN n d) : OkN (n + 1) (.lst l) :=
  let ⟨a, b, c⟩ := okN_all h; ⟨a, b, Nat.succ_le_succ c⟩
theorem okN_str {x : Str} (h : PyData.strOk x = true) : OkN 0 (.str x) := ⟨rfl, h, Nat.le_refl _⟩
theorem okN_non : OkN 0 .non := ⟨rfl, rfl, Nat.le_refl _⟩
theorem okN_int {i : Int} : OkN 0 (.int i) := ⟨rfl, rfl, Nat.le_refl _⟩
theorem okN_bl {i : Bool} : OkN 0 (.bl i) := ⟨rfl, rfl, Nat.le_refl _⟩
def pD : Pa → D
  | .sg l => .tup [.str "signs", .str (toS l)]
  | .em => .tup [.str "empty"]
  | .th a b => .tup [.str "then", pD a, pD b]
  | .or a b => .tup [.str "or", pD a, pD b]
  | .ag a => .tup [.str "again", pD a]
  | .mo a => .tup [.str "more", pD a]
  | .mb a => .tup [.str "maybe", pD a]
theorem toP_pD : ∀ p : Pa, toP (pD p) = toD p
  | .sg l => rfl
  | .em => rfl
  | .th a b => by show PyData.tuple [_, toP (pD a), toP (pD b)] = _; rw [toP_pD a, toP_pD b]; rfl
  | .or a b => by show PyData.tuple [_, toP (pD a), toP (pD b)] = _; rw [toP_pD a, toP_pD b]; rfl
  | .ag a => by show PyData.tuple [_, toP (pD a)] = _; rw [toP_pD a]; rfl
  | .mo a => by show PyData.tuple [_, toP (pD a)] = _; rw [toP_pD a]; rfl
  | .mb a => by show PyData.tuple [_, toP (pD a)] = _; rw [toP_pD a]; rfl
theorem eqv_word {x y : Str} {a b : List PyData} (h : PyData.eqv (.tuple (.str x :: a)) (.tuple (.str y :: b)) = true) : (x == y) = true ∧ PyData.eqvAll a b = true := Bool.and_eq_true_iff.mp h
theorem eqv_one {x y : PyData} {a b : List PyData} (h : PyData.eqvAll (x :: a) (y :: b) = true) : PyData.eqv x y = true ∧ PyData.eqvAll a b = true := Bool.and_eq_true_iff.mp h
theorem eqv_inj : ∀ p q : Pa, PyData.eqv (toD p) (toD q) = true → p = q
  | .sg l, q, h => by
    cases q with
    | sg l' => rw [toS_inj (LawfulBEq.eq_of_beq (show (toS l == toS l') = true from (eqv_one (eqv_word h).2).1))]
    | em => exact absurd (eqv_word h).1 (by decide +kernel)
    | th _ _ => exact absurd (eqv_word h).1 (by decide +kernel)
    | or _ _ => exact absurd (eqv_word h).1 (by decide +kernel)
    | ag _ => exact absurd (eqv_word h).1 (by decide +kernel)
    | mo _ => exact absurd (eqv_word h).1 (by decide +kernel)
    | mb _ => exact absurd (eqv_word h).1 (by decide +kernel)
  | .em, q, h => by
    cases q with
    | sg _ => exact absurd (eqv_word h).1 (by decide +kernel)
    | em => rfl
    | th _ _ => exact absurd (eqv_word h).1 (by decide +kernel)
    | or _ _ => exact absurd (eqv_word h).1 (by decide +kernel)
    | ag _ => exact absurd (eqv_word h).1 (by decide +kernel)
    | mo _ => exact absurd (eqv_word h).1 (by decide +kernel)
    | mb _ => exact absurd (eqv_word h).1 (by decide +kernel)
  | .th a b, q, h => by
    cases q with
    | sg _ => exact absurd (eqv_word h).1 (by decide +kernel)
    | em => exact absurd (eqv_word h).1 (by decide +kernel)
    | th a' b' => rw [eqv_inj a a' (eqv_one (eqv_word h).2).1, eqv_inj b b' (eqv_one (eqv_one (eqv_word h).2).2).1]
    | or _ _ => exact absurd (eqv_word h).1 (by decide +kernel)
    | ag _ => exact absurd (eqv_word h).1 (by decide +kernel)
    | mo _ => exact absurd (eqv_word h).1 (by decide +kernel)
    | mb _ => exact absurd (eqv_word h).1 (by decide +kernel)
  | .or a b, q, h => by
    cases q with
    | sg _ => exact absurd (eqv_word h).1 (by decide +kernel)
    | em => exact absurd (eqv_word h).1 (by decide +kernel)
    | th _ _ => exact absurd (eqv_word h).1 (by decide +kernel)
    | or a' b' => rw [eqv_inj a a' (eqv_one (eqv_word h).2).1, eqv_inj b b' (eqv_one (eqv_one (eqv_word h).2).2).1]
    | ag _ => exact absurd (eqv_word h).1 (by decide +kernel)
    | mo _ => exact absurd (eqv_word h).1 (by decide +kernel)
    | mb _ => exact absurd (eqv_word h).1 (by decide +kernel)
  | .ag a, q, h => by
    cases q with
    | sg _ => exact absurd (eqv_word h).1 (by decide +kernel)
    | em => exact absurd (eqv_word h).1 (by decide +kernel)
    | th _ _ => exact absurd (eqv_word h).1 (by decide +kernel)
    | or _ _ => exact absurd (eqv_word h).1 (by decide +kernel)
    | ag a' => rw [eqv_inj a a' (eqv_one (eqv_word h).2).1]
    | mo _ => exact absurd (eqv_word h).1 (by decide +kernel)
    | mb _ => exact absurd (eqv_word h).1 (by decide +kernel)
  | .mo a, q, h => by
    cases q with
    | sg _ => exact absurd (eqv_word h).1 (by decide +kernel)
    | em => exact absurd (eqv_word h).1 (by decide +kernel)
    | th _ _ => exact absurd (eqv_word h).1 (by decide +kernel)
    | or _ _ => exact absurd (eqv_word h).1 (by decide +kernel)
    | ag _ => exact absurd (eqv_word h).1 (by decide +kernel)
    | mo a' => rw [eqv_inj a a' (eqv_one (eqv_word h).2).1]
    | mb _ => exact absurd (eqv_word h).1 (by decide +kernel)
  | .mb a, q, h => by
    cases q with
    | sg _ => exact absurd (eqv_word h).1 (by decide +kernel)
    | em => exact absurd (eqv_word h).1 (by decide +kernel)
    | th _ _ => exact absurd (eqv_word h).1 (by decide +kernel)
    | or _ _ => exact absurd (eqv_word h).1 (by decide +kernel)
    | ag _ => exact absurd (eqv_word h).1 (by decide +kernel)
    | mo _ => exact absurd (eqv_word h).1 (by decide +kernel)
    | mb a' => rw [eqv_inj a a' (eqv_one (eqv_word h).2).1]
theorem str_ok {l : List Nat} (h : ∀ c ∈ l, c < 128) : PyData.strOk (toS l) = true := by
  unfold PyData.strOk toS
  rw [← Array.all_toList, List.all_eq_true]
  exact fun c hc => decide_eq_true (Nat.lt_trans (h c hc) (by decide))
/-- a pattern of low signs -/
abbrev Low (p : Pa) : Prop := ∀ l ∈ sgs p, ∀ c ∈ l, c < 128
theorem okN_pD : ∀ p : Pa, Low p → OkN (dep p + 1) (pD p)
  | .sg l, h => okN_tup fun d hd => by
    rcases List.mem_cons.mp hd with rfl | hd
    · exact okN_str (by decide +kernel)
    · rw [List.mem_singleton.mp hd]
      exact okN_str (str_ok (h l (by simp [sgs])))
  | .em, h => okN_tup fun d hd => by
    rw [List.mem_singleton.mp hd]
    exact okN_str (by decide +kernel)
  | .th a b, h => okN_tup fun d hd => by
    have ia := okN_pD a fun l hl => h l (by simp only [sgs]; exact List.mem_append_left _ hl)
    have ib := okN_pD b fun l hl => h l (by simp only [sgs]; exact List.mem_append_right _ hl)
    simp only [dep]
    rcases List.mem_cons.mp hd with rfl | hd
    · exact (okN_str (by decide +kernel)).mono (Nat.zero_le _)
    · rcases List.mem_cons.mp hd with rfl | hd
      · exact ia.mono (by omega)
      · rw [List.mem_singleton.mp hd]
        exact ib.mono (by omega)
  | .or a b, h => okN_tup fun d hd => by
    have ia := okN_pD a fun l hl => h l (by simp only [sgs]; exact List.mem_append_left _ hl)
    have ib := okN_pD b fun l hl => h l (by simp only [sgs]; exact List.mem_append_right _ hl)
    simp only [dep]
    rcases List.mem_cons.mp hd with rfl | hd
    · exact (okN_str (by decide +kernel)).mono (Nat.zero_le _)
    · rcases List.mem_cons.mp hd with rfl | hd
      · exact ia.mono (by omega)
      · rw [List.mem_singleton.mp hd]
        exact ib.mono (by omega)
  | .ag a, h => okN_tup fun d hd => by
    have ia := okN_pD a h
    simp only [dep]
    rcases List.mem_cons.mp hd with rfl | hd
    · exact (okN_str (by decide +kernel)).mono (Nat.zero_le _)
    · rw [List.mem_singleton.mp hd]
      exact ia.mono (by omega)
  | .mo a, h => okN_tup fun d hd => by
    have ia := okN_pD a h
    simp only [dep]
    rcases List.mem_cons.mp hd with rfl | hd
    · exact (okN_str (by decide +kernel)).mono (Nat.zero_le _)
    · rw [List.mem_singleton.mp hd]
      exact ia.mono (by omega)
  | .mb a, h => okN_tup fun d hd => by
    have ia := okN_pD a h
    simp only [dep]
    rcases List.mem_cons.mp hd with rfl | hd
    · exact (okN_str (by decide +kernel)).mono (Nat.zero_le _)
    · rw [List.mem_singleton.mp hd]
      exact ia.mono (by omega)
/-- a row -/
def wD (x : List Pa) : D := .tup (x.map pD)
/-- rows -/
def lD (xs : List (List Pa)) : D := .lst (xs.map wD)
def rOk (n : Nat) (x : List Pa) : Prop := ∀ q ∈ x, Low q ∧ dep q ≤ n
theorem okN_wD {n : Nat} {x : List Pa} (h : rOk n x) : OkN (n + 2) (wD x) := okN_tup fun d hd => by
  obtain ⟨q, hq, rfl⟩ := List.mem_map.mp hd
  exact (okN_pD q (h q hq).1).mono (Nat.succ_le_succ (h q hq).2)
theorem okN_lD {n : Nat} {xs : List (List Pa)} (h : ∀ x ∈ xs, rOk n x) : OkN (n + 3) (lD xs) := okN_lst fun d hd => by
  obtain ⟨q, hq, rfl⟩ := List.mem_map.mp hd
  exact okN_wD (h q hq)
theorem toPs_pD (x : List Pa) : toPs (x.map pD) = x.map toD := by
  rw [toPs_map, List.map_map]
  exact List.map_congr_left fun p _ => toP_pD p
theorem eqvs_inj : ∀ x y : List Pa, PyData.eqvAll (x.map toD) (y.map toD) = true → x = y
  | [], [], _ => rfl
  | [], _ :: _, h => nomatch h
  | _ :: _, [], h => nomatch h
  | p :: x, q :: y, h => by
    have k := eqv_one (a := x.map toD) (b := y.map toD) h
    rw [eqv_inj p q k.1, eqvs_inj x y k.2]
theorem eqD_wD {n : Nat} {x y : List Pa} (h : rOk n x) : eqD (wD x) (wD y) = decide (x = y) := by
  by_cases e : x = y
  · subst e
    rw [decide_eq_true rfl]
    exact SeqAt.eqv_refl _ (okN_wD h).cl
  · rw [decide_eq_false e]
    refine Bool.eq_false_iff.mpr fun k => e (eqvs_inj x y ?_)
    have k : PyData.eqvAll (toPs (x.map pD)) (toPs (y.map pD)) = true := k
    rwa [toPs_pD, toPs_pD] at k
theorem any_wD {n : Nat} {x : List Pa} : ∀ {xs : List (List Pa)}, (∀ y ∈ xs, rOk n y) → ((xs.map wD).any fun z => eqD z (wD x)) = decide (x ∈ xs)
  | [], _ => rfl
  | y :: ys, h => by
    show (eqD (wD y) (wD x) || (ys.map wD).any fun z => eqD z (wD x)) = _
    rw [eqD_wD (h y List.mem_cons_self), any_wD fun z hz => h z (List.mem_cons_of_mem _ hz)]
    by_cases e : y = x
    · subst e; simp
    · by_cases k : x ∈ ys
      · simp [k]
      · simp [k, e, Ne.symm e, fun z : x = y => e z.symm]
theorem eq_nil {xs : List (List Pa)} : eqD (lD xs) (.lst []) = decide (xs = []) := by
  cases xs with
  | nil => rfl
  | cons x xs => rfl
/-- rows of a pattern -/
theorem cla_ok {n : Nat} : ∀ (p : Pa), Low p → dep p ≤ n → ∀ x ∈ cla p, rOk n x := by
  have one : ∀ {p : Pa}, Low p → dep p ≤ n → rOk n [p] := fun {p} a b q hq => by rw [List.mem_singleton.mp hq]; exact ⟨a, b⟩
  have nil : rOk n [] := fun q hq => nomatch hq
  have two : ∀ {x : List Pa} {p : Pa}, rOk n x → Low p → dep p ≤ n → rOk n (x ++ [p]) := fun {x p} a b c q hq => by
    rcases List.mem_append.mp hq with z | z
    · exact a q z
    · rw [List.mem_singleton.mp z]; exact ⟨b, c⟩
  intro p
  induction p with
  | sg l => intro h k x hx; simp only [cla, List.mem_cons, List.not_mem_nil, or_false] at hx; rcases hx with rfl | rfl; exact one h k; exact nil
  | em => intro h k x hx; simp only [cla, List.mem_cons, List.not_mem_nil, or_false] at hx; rcases hx with rfl | rfl; exact one h k; exact nil
  | th a b ia ib =>
    intro h k x hx
    have la : Low a := fun l hl => h l (by simp only [sgs]; exact List.mem_append_left _ hl)
    have lb : Low b := fun l hl => h l (by simp only [sgs]; exact List.mem_append_right _ hl)
    have da : dep a ≤ n ∧ dep b ≤ n := by simp only [dep] at k; omega
    simp only [cla, List.mem_cons, List.mem_append, List.mem_map] at hx
    rcases hx with rfl | ⟨y, hy, rfl⟩ | hx
    · exact one h k
    · exact two (ia la da.1 y hy) lb da.2
    · exact ib lb da.2 x hx
  | or a b ia ib =>
    intro h k x hx
    have la : Low a := fun l hl => h l (by simp only [sgs]; exact List.mem_append_left _ hl)
    have lb : Low b := fun l hl => h l (by simp only [sgs]; exact List.mem_append_right _ hl)
    have da : dep a ≤ n ∧ dep b ≤ n := by simp only [dep] at k; omega
    simp only [cla, List.mem_cons, List.mem_append] at hx
    rcases hx with rfl | hx | hx
    · exact one h k
    · exact ia la da.1 x hx
    · exact ib lb da.2 x hx
  | ag a ia =>
    intro h k x hx
    have da : dep a ≤ n := by simp only [dep] at k; omega
    simp only [cla, List.mem_cons, List.mem_map] at hx
    rcases hx with rfl | rfl | ⟨y, hy, rfl⟩
    · exact one h k
    · exact nil
    · exact two (ia h da y hy) h k
  | mo a ia =>
    intro h k x hx
    have da : dep a ≤ n := by simp only [dep] at k; omega
    simp only [cla, List.mem_cons, List.mem_map] at hx
    rcases hx with rfl | rfl | ⟨y, hy, rfl⟩
    · exact one h k
    · exact nil
    · exact two (ia h da y hy) h (by simp only [dep] at k ⊢; exact k)
  | mb a ia =>
    intro h k x hx
    have da : dep a ≤ n := by simp only [dep] at k; omega
    simp only [cla, List.mem_cons] at hx
    rcases hx with rfl | rfl | hx
    · exact one h k
    · exact nil
    · exact ia h da x hx
theorem cla_small : ∀ (p : Pa), ∀ x ∈ cla p, x.length ≤ nod p + 1 := by
  intro p
  induction p with
  | sg l => intro x hx; simp only [cla, List.mem_cons, List.not_mem_nil, or_false] at hx; rcases hx with rfl | rfl <;> simp [nod]
  | em => intro x hx; simp only [cla, List.mem_cons, List.not_mem_nil, or_false] at hx; rcases hx with rfl | rfl <;> simp [nod]
  | th a b ia ib =>
    intro x hx
    simp only [cla, List.mem_cons, List.mem_append, List.mem_map] at hx
    simp only [nod]
    rcases hx with rfl | ⟨y, hy, rfl⟩ | hx
    · simp
    · have := ia y hy; simp; omega
    · have := ib x hx; omega
  | or a b ia ib =>
    intro x hx
    simp only [cla, List.mem_cons, List.mem_append] at hx
    simp only [nod]
    rcases hx with rfl | hx | hx
    · simp
    · have := ia x hx; omega
    · have := ib x hx; omega
  | ag a ia =>
    intro x hx
    simp only [cla, List.mem_cons, List.mem_map] at hx
    simp only [nod]
    rcases hx with rfl | rfl | ⟨y, hy, rfl⟩
    · simp
    · simp
    · have := ia y hy; simp; omega
  | mo a ia =>
    intro x hx
    simp only [cla, List.mem_cons, List.mem_map] at hx
    simp only [nod]
    rcases hx with rfl | rfl | ⟨y, hy, rfl⟩
    · simp
    · simp
    · have := ia y hy; simp; omega
  | mb a ia =>
    intro x hx
    simp only [cla, List.mem_cons] at hx
    simp only [nod]
    rcases hx with rfl | rfl | hx
    · simp
    · simp
    · have := ia x hx; omega
end K01
set_option maxRecDepth 100000
set_option maxHeartbeats 1000000
namespace K01
open PySem PySem.Spec PyProof.Rows L2 Yard YP
section
variable {P : Program} {w : World} {K : PySem.W.Frag} {mg : Str → Option Value} {base : Heap}
abbrev own (d : D) : Sl := .sl true false d
abbrev dat (d : D) : Sl := .sl false false d
/-- a pattern whose rows are opened -/
structure Pw (p : Pa) : Prop where
  low : Low p
  dp : dep p ≤ 40
  nd : nod p ≤ 100000
theorem kg_all (x y z : D) : kmerge [] [(.inr "again", x), (.inr "more", y), (.inr "maybe", z)] = [((.inr "again" : Key), x), (.inr "more", y), (.inr "maybe", z)] := by
  have n1 : ¬ (Sum.inr "again" : Key) = .inr "more" := by decide +kernel
  have n2 : ¬ (Sum.inr "again" : Key) = .inr "maybe" := by decide +kernel
  have n3 : ¬ (Sum.inr "more" : Key) = .inr "maybe" := by decide +kernel
  unfold kmerge
  simp only [List.foldl, kput, List.any, decide_eq_false n1, decide_eq_false n2, decide_eq_false n3, Bool.or_false, Bool.false_eq_true, if_false, List.nil_append, List.append_nil, List.cons_append]
theorem kg_again (x y z : D) : kget (kmerge [] [(.inr "again", x), (.inr "more", y), (.inr "maybe", z)]) (.inr "again") = some x := by
  rw [kg_all]
  unfold kget
  simp
theorem kg_more (x y z : D) : kget (kmerge [] [(.inr "again", x), (.inr "more", y), (.inr "maybe", z)]) (.inr "more") = some y := by
  have n1 : ¬ (Sum.inr "again" : Key) = .inr "more" := by decide +kernel
  rw [kg_all]
  unfold kget
  simp only [List.find?, decide_eq_false n1, decide_true, Option.map]
theorem kg_maybe (x y z : D) : kget (kmerge [] [(.inr "again", x), (.inr "more", y), (.inr "maybe", z)]) (.inr "maybe") = some z := by
  have n2 : ¬ (Sum.inr "again" : Key) = .inr "maybe" := by decide +kernel
  have n3 : ¬ (Sum.inr "more" : Key) = .inr "maybe" := by decide +kernel
  rw [kg_all]
  unfold kget
  simp only [List.find?, decide_eq_false n2, decide_eq_false n3, decide_true, Option.map]
theorem ycut1 {α : Type} (x : α) (xs : List α) : YP.cut (x :: xs) (some 1) none = xs := by
  unfold YP.cut
  rw [show HT.sIx (x :: xs).length 0 (some 1) = 1 from (HT.sIx_nat _ _ 1).trans (by simp), HT.sIx_none]
  show (xs.take (xs.length + 1 - 1)) = xs
  exact List.take_length
theorem clo_cla (p : Pa) : ∀ x ∈ cla p, ∀ y ∈ opn x, y ∈ cla p := fun x hx y hy => cla_step p x y hx (.inl hy)
def uOpened : UF := fun ρ R => ∃ (p : Pa) (start : List (List Pa)), ρ = [own (lD start)] ∧ Pw p ∧ (∀ x ∈ start, x ∈ cla p) ∧ start.length ≤ 400000 ∧ ∀ seen found, Opened (cla p) start [] seen found → R (.own (lD found)) [own (lD [])]
theorem pcOpened : FnScope ["owes", "found", "seen", "owed", "more"] ["owes"] (defScope sOpened) := ⟨rfl, rfl, rfl, by decide +kernel, rfl, by decide +kernel, by decide +kernel⟩
theorem pkOpened (T : Tx K w mg) : FnOk P w K mg base CX0 1 T.aOpened T.fOpened ["owes"] (PSp K 1 uOpened) := by
  refine fn_mk T.opened.fn pcOpened (by decide) fun cdv A outer s H E hr => ?_
  refine ⟨_, (fb_cons (fs_set (ps_set (i := 1) pcOpened.nd rfl (.inl rfl) pe_S) (fe_lst fa_nil))
      (fb_cons (fs_set (ps_set (i := 2) pcOpened.nd rfl (.inl rfl) pe_S) (fe_lst fa_nil))
      (fb_cons (fs_while PassesOwn.never (ft_cmp (os_ne (ru hr)) (fv 0) (fe_lst fa_nil))
      (fb_cons (fs_set (ps_set (i := 3) pcOpened.nd rfl (.inl rfl) pe_S) (fe_mu0 mu_pop PySem.F.slot_list_pop PySem.F.type_list_pop (fv 0)))
      (fb_one (fs_if (ft_cmp (os_notin (rv hr)) (fv 3) (fv 2))
      (fb_cons (fs_expr (fe_mu mu_append PySem.F.slot_list_append PySem.F.type_list_append (fv 2) (fa_cons (fv 3) fa_nil)))
      (fb_cons (fs_if (FW.ft (fw_or (ft_cmp (os_eq (ru hr)) (fv 3) (fe_tup fa_nil)) (fw_or1 (ft_cmp (os_eq (ru hr)) (fe_ix (fe_ix (fv 3) fe_int) fe_int) fe_str))))
      (fb_one (fs_expr (fe_mu mu_append PySem.F.slot_list_append PySem.F.type_list_append (fv 1) (fa_cons (fv 3) fa_nil))))
      (fb_one (fs_if (ft_cmp (os_eq (ru hr)) (fe_ix (fe_ix (fv 3) fe_int) fe_int) fe_str)
      (fb_one (fs_expr (fe_mu mu_append PySem.F.slot_list_append PySem.F.type_list_append (fv 0) (fa_cons (fe_op os_add (fe_sl (fe_ix (fv 3) fe_int) (fo_int fe_int) fo_no) (fe_sl (fv 3) (fo_int fe_int) fo_no)) fa_nil))))
      (fb_one (fs_if (ft_cmp (os_eq (ru hr)) (fe_ix (fe_ix (fv 3) fe_int) fe_int) fe_str)
      (fb_one (fs_expr (fe_mu (mu_extend rfl) PySem.F.slot_list_extend PySem.F.type_list_extend (fv 0) (fa_cons (fe_lst (fa_cons (fe_op os_add (fe_sl (fe_ix (fv 3) fe_int) (fo_int fe_int) (fo_int fe_int)) (fe_sl (fv 3) (fo_int fe_int) fo_no)) (fa_cons (fe_op os_add (fe_sl (fe_ix (fv 3) fe_int) (fo_int fe_int) fo_no) (fe_sl (fv 3) (fo_int fe_int) fo_no)) fa_nil))) fa_nil))))
      (fb_one (fs_if (ft_cmp (os_ne (ru hr)) (fe_ix (fe_ix (fv 3) fe_int) fe_int) fe_str)
      (fb_cons (fs_set (ps_set (i := 4) pcOpened.nd rfl (.inl rfl) pe_S) (fe_dget (rk hr) (fe_disp (fp_cons fe_str (fe_tup (fa_cons (fe_tup (fa_cons fe_str (fa_cons (fe_ix (fe_ix (fv 3) fe_int) (fe_neg fe_int)) fa_nil))) fa_nil)) (fp_cons fe_str (fe_tup (fa_cons (fe_tup (fa_cons fe_str (fa_cons (fe_ix (fe_ix (fv 3) fe_int) (fe_neg fe_int)) fa_nil))) fa_nil)) (fp_cons fe_str (fe_tup fa_nil) fp_nil)))) (fe_ix (fe_ix (fv 3) fe_int) fe_int)))
      (fb_one (fs_expr (fe_mu mu_append PySem.F.slot_list_append PySem.F.type_list_append (fv 0) (fa_cons (fe_op os_add (fe_op os_add (fe_tup (fa_cons (fe_ix (fe_ix (fv 3) fe_int) fe_int) fa_nil)) (fv 4)) (fe_sl (fv 3) (fo_int fe_int) fo_no)) fa_nil)))))
      fb_nil)))))))
      (fb_one (fs_if (FW.ft (fw_and (ft_cmp (os_ne (ru hr)) (fv 3) (fe_tup fa_nil)) (fw_and1 (ft_cmp (os_in (rv hr)) (fe_ix (fe_ix (fv 3) fe_int) fe_int) (fe_lst (fa_cons fe_str (fa_cons fe_str (fa_cons fe_str fa_nil))))))))
      (fb_one (fs_expr (fe_mu mu_append PySem.F.slot_list_append PySem.F.type_list_append (fv 0) (fa_cons (fe_sl (fv 3) (fo_int fe_int) fo_no) fa_nil))))
      fb_nil))))
      fb_nil))))
      (fb_one (fs_ret (fv 1)))))), fun ρ R hl h => ?_⟩
  -- slots: 0 owes, 1 found, 2 seen, 3 owed, 4 more
  obtain ⟨p, start, rfl, pw, hs, hl, q⟩ := h
  have rk : ∀ {xs : List (List Pa)}, (∀ x ∈ xs, x ∈ cla p) → okD (lD xs) = true := fun h => (okN_lD (n := 40) fun x hx => cla_ok p pw.low pw.dp x (h x hx)).ok (by decide)
  have wk : ∀ {x : List Pa}, x ∈ cla p → okD (wD x) = true := fun h => (okN_wD (n := 40) (cla_ok p pw.low pw.dp _ h)).ok (by decide)
  have en : okD (.lst []) = true := rfl
  have et : okD (.tup []) = true := rfl
  have big : (cla p).length ≤ 300000 := Nat.le_trans (cla_len p) (by have := pw.nd; omega)
  refine ⟨by decide, by decide, ?_⟩
  refine ⟨fun m ρ => ∃ owes seen found s3 s4, ρ = [.sl true true (lD owes), own (lD found), own (lD seen), s3, s4] ∧ Opened (cla p) start owes seen found ∧ owes.length + 3 * (300000 - seen.length) ≤ m ∧ owes.length ≤ 400000 + 2 * seen.length, ⟨_, start, [], [], _, _, rfl, opened_start hs, Nat.le_refl _, by simpa using hl⟩, ?_⟩
  rintro m ρ ⟨owes, seen, found, s3, s4, rfl, I, hm, hb⟩
  have hseen := (opened_few I).1
  refine ⟨by decide, rk fun x hx => I.inU x (.inr hx), en, ?_⟩
  rw [eq_nil]
  by_cases e0 : owes = []
  · subst e0
    exact q seen found I
  obtain ⟨owes, x, rfl⟩ : ∃ a x, owes = a ++ [x] := ⟨owes.dropLast, owes.getLast e0, (List.dropLast_concat_getLast e0).symm⟩
  rw [decide_eq_false e0]
  have xU : x ∈ cla p := I.inU x (.inr (List.mem_append_right _ (List.mem_singleton.mpr rfl)))
  refine ⟨rfl, owes.map wD, wD x, List.map_append .., ?_⟩
  refine ⟨wk xU, rk fun x hx => I.inU x (.inl hx), ?_⟩
  rw [any_wD fun y hy => cla_ok p pw.low pw.dp y (I.inU y (.inl hy))]
  by_cases hx : x ∈ seen
  · rw [decide_eq_true hx]
    refine ⟨_, ?_, owes, seen, found, _, _, rfl, opened_old I hx, Nat.le_refl _, ?_⟩
    · rw [List.length_append] at hm
      show owes.length + 3 * (300000 - seen.length) < m
      have : [x].length = 1 := rfl
      omega
    · rw [List.length_append] at hb
      omega
  rw [decide_eq_false hx]
  have sz : 2000000 ≤ sizeLine := by rw [sizeLine_eq]; decide
  have I2 := opened_new (clo_cla p) I hx
  have hs2 := (opened_few I2).1
  have hfo := (opened_few I).2
  have lx := cla_small p x xU
  have nd := pw.nd
  rw [List.length_append] at hs2 hm hb
  have one : [x].length = 1 := rfl
  refine ⟨by show (seen.map wD).length < _; rw [List.length_map]; omega, ?_⟩
  have done : ∀ (es fs : List D) (s4 : Sl), es = (owes ++ opn x).map wD → fs = (if K01.fin x = true then found ++ [x] else found).map wD →
      ∃ m', m' < m ∧ ∃ ow se fo s3 s4', [Sl.sl true true (.lst es), own (.lst fs), own (.lst (seen.map wD ++ [wD x])), dat (wD x), s4] = [.sl true true (lD ow), own (lD fo), own (lD se), s3, s4'] ∧ Opened (cla p) start ow se fo ∧ ow.length + 3 * (300000 - se.length) ≤ m' ∧ ow.length ≤ 400000 + 2 * se.length := fun es fs s4 h1 h2 => by
    refine ⟨(owes ++ opn x).length + 3 * (300000 - (seen ++ [x]).length), ?_, owes ++ opn x, seen ++ [x], _, dat (wD x), s4, ?_, I2, Nat.le_refl _, ?_⟩
    · have := opn_len x
      rw [List.length_append, List.length_append]
      omega
    · rw [h1, h2]
      unfold lD
      rw [List.map_append (l₁ := seen)]
      rfl
    · have := opn_len x
      rw [List.length_append, List.length_append]
      omega
  match x, xU, hx, lx, done, wk xU, one, I, hm, hb with
  | [], xU, hx, lx, done, wx, one, I, hm, hb =>
    refine ⟨Nat.zero_le _, rfl, rfl, ?_⟩
    refine ⟨by show (found.map wD).length < _; rw [List.length_map]; omega, ?_⟩
    refine ⟨Nat.zero_le _, rfl, rfl, ?_⟩
    exact done _ _ _ (by simp [opn]) (by rw [if_pos (show K01.fin _ = true from rfl), List.map_append]; rfl)
  | .sg l :: r, xU, hx, lx, done, wx, one, I, hm, hb =>
    have tl : YP.cut (((Pa.sg l) :: r).map pD) (some 1) none = r.map pD := ycut1 _ _
    have lr : r.length ≤ 100000 := by simp only [List.length_cons] at lx; omega
    refine ⟨Nat.zero_le _, wx, rfl, ?_⟩
    refine ⟨pD (Pa.sg l), atI_nat (j := 0) rfl, .str "signs", atI_nat (j := 0) rfl, by decide +kernel, by decide +kernel, ?_⟩
    rw [show eqD (.str "signs") (.str "signs") = true by decide +kernel]
    refine ⟨by show (found.map wD).length < _; rw [List.length_map]; omega, ?_⟩
    refine ⟨Nat.zero_le _, wx, rfl, ?_⟩
    refine ⟨pD (Pa.sg l), atI_nat (j := 0) rfl, .str "signs", atI_nat (j := 0) rfl, by show 3 ≤ _; omega, by decide +kernel, by decide +kernel, ?_⟩
    rw [show (false ^^ [D.str "empty", D.str "again", D.str "maybe"].any fun z => eqD z (.str "signs")) = false by decide +kernel]
    exact done _ _ _ (by simp [opn]) (by rw [if_pos (show K01.fin _ = true from rfl), List.map_append]; rfl)
  | .em :: r, xU, hx, lx, done, wx, one, I, hm, hb =>
    have tl : YP.cut ((Pa.em :: r).map pD) (some 1) none = r.map pD := ycut1 _ _
    have lr : r.length ≤ 100000 := by simp only [List.length_cons] at lx; omega
    refine ⟨Nat.zero_le _, wx, rfl, ?_⟩
    refine ⟨pD Pa.em, atI_nat (j := 0) rfl, .str "empty", atI_nat (j := 0) rfl, by decide +kernel, by decide +kernel, ?_⟩
    rw [show eqD (.str "empty") (.str "signs") = false by decide +kernel]
    refine ⟨pD Pa.em, atI_nat (j := 0) rfl, .str "empty", atI_nat (j := 0) rfl, by decide +kernel, by decide +kernel, ?_⟩
    rw [show eqD (.str "empty") (.str "then") = false by decide +kernel]
    refine ⟨pD Pa.em, atI_nat (j := 0) rfl, .str "empty", atI_nat (j := 0) rfl, by decide +kernel, by decide +kernel, ?_⟩
    rw [show eqD (.str "empty") (.str "or") = false by decide +kernel]
    refine ⟨pD Pa.em, atI_nat (j := 0) rfl, .str "empty", atI_nat (j := 0) rfl, by decide +kernel, by decide +kernel, ?_⟩
    rw [show eqD (.str "empty") (.str "empty") = true by decide +kernel]
    refine ⟨Nat.zero_le _, wx, rfl, ?_⟩
    refine ⟨pD Pa.em, atI_nat (j := 0) rfl, .str "empty", atI_nat (j := 0) rfl, by show 3 ≤ _; omega, by decide +kernel, by decide +kernel, ?_⟩
    rw [show (false ^^ [D.str "empty", D.str "again", D.str "maybe"].any fun z => eqD z (.str "empty")) = true by decide +kernel]
    refine ⟨by show (owes.map wD).length < _; rw [List.length_map]; omega, ?_⟩
    exact done _ _ _ (by show owes.map wD ++ [D.tup (YP.cut ((Pa.em :: r).map pD) (some 1) none)] = _; rw [tl, List.map_append]; rfl) (by rw [if_neg (by exact fun z => nomatch z)])
  | .th a b :: r, xU, hx, lx, done, wx, one, I, hm, hb =>
    have tl : YP.cut (((Pa.th a b) :: r).map pD) (some 1) none = r.map pD := ycut1 _ _
    have lr : r.length ≤ 100000 := by simp only [List.length_cons] at lx; omega
    refine ⟨Nat.zero_le _, wx, rfl, ?_⟩
    refine ⟨pD (Pa.th a b), atI_nat (j := 0) rfl, .str "then", atI_nat (j := 0) rfl, by decide +kernel, by decide +kernel, ?_⟩
    rw [show eqD (.str "then") (.str "signs") = false by decide +kernel]
    refine ⟨pD (Pa.th a b), atI_nat (j := 0) rfl, .str "then", atI_nat (j := 0) rfl, by decide +kernel, by decide +kernel, ?_⟩
    rw [show eqD (.str "then") (.str "then") = true by decide +kernel]
    refine ⟨pD (Pa.th a b), atI_nat (j := 0) rfl, by show 2 + (YP.cut (((Pa.th a b) :: r).map pD) (some 1) none).length ≤ _; rw [tl, List.length_map]; omega, by show (owes.map wD).length < _; rw [List.length_map]; omega, ?_⟩
    refine ⟨Nat.zero_le _, wx, rfl, ?_⟩
    refine ⟨pD (Pa.th a b), atI_nat (j := 0) rfl, .str "then", atI_nat (j := 0) rfl, by show 3 ≤ _; omega, by decide +kernel, by decide +kernel, ?_⟩
    rw [show (false ^^ [D.str "empty", D.str "again", D.str "maybe"].any fun z => eqD z (.str "then")) = false by decide +kernel]
    exact done _ _ _ (by show owes.map wD ++ [D.tup ([pD a, pD b] ++ YP.cut (((Pa.th a b) :: r).map pD) (some 1) none)] = _; rw [tl, List.map_append]; rfl) (by rw [if_neg (by exact fun z => nomatch z)])
  | .or a b :: r, xU, hx, lx, done, wx, one, I, hm, hb =>
    have tl : YP.cut (((Pa.or a b) :: r).map pD) (some 1) none = r.map pD := ycut1 _ _
    have lr : r.length ≤ 100000 := by simp only [List.length_cons] at lx; omega
    refine ⟨Nat.zero_le _, wx, rfl, ?_⟩
    refine ⟨pD (Pa.or a b), atI_nat (j := 0) rfl, .str "or", atI_nat (j := 0) rfl, by decide +kernel, by decide +kernel, ?_⟩
    rw [show eqD (.str "or") (.str "signs") = false by decide +kernel]
    refine ⟨pD (Pa.or a b), atI_nat (j := 0) rfl, .str "or", atI_nat (j := 0) rfl, by decide +kernel, by decide +kernel, ?_⟩
    rw [show eqD (.str "or") (.str "then") = false by decide +kernel]
    refine ⟨pD (Pa.or a b), atI_nat (j := 0) rfl, .str "or", atI_nat (j := 0) rfl, by decide +kernel, by decide +kernel, ?_⟩
    rw [show eqD (.str "or") (.str "or") = true by decide +kernel]
    refine ⟨pD (Pa.or a b), atI_nat (j := 0) rfl, by show 1 + (YP.cut (((Pa.or a b) :: r).map pD) (some 1) none).length ≤ _; rw [tl, List.length_map]; omega, pD (Pa.or a b), atI_nat (j := 0) rfl, by show 1 + (YP.cut (((Pa.or a b) :: r).map pD) (some 1) none).length ≤ _; rw [tl, List.length_map]; omega, by show 2 ≤ _; omega, by show (owes.map wD).length + 2 ≤ _; rw [List.length_map]; omega, ?_⟩
    refine ⟨Nat.zero_le _, wx, rfl, ?_⟩
    refine ⟨pD (Pa.or a b), atI_nat (j := 0) rfl, .str "or", atI_nat (j := 0) rfl, by show 3 ≤ _; omega, by decide +kernel, by decide +kernel, ?_⟩
    rw [show (false ^^ [D.str "empty", D.str "again", D.str "maybe"].any fun z => eqD z (.str "or")) = false by decide +kernel]
    exact done _ _ _ (by show owes.map wD ++ [D.tup ([pD a] ++ YP.cut (((Pa.or a b) :: r).map pD) (some 1) none), D.tup ([pD b] ++ YP.cut (((Pa.or a b) :: r).map pD) (some 1) none)] = _; rw [tl, List.map_append]; rfl) (by rw [if_neg (by exact fun z => nomatch z)])
  | .ag a :: r, xU, hx, lx, done, wx, one, I, hm, hb =>
    have tl : YP.cut (((Pa.ag a) :: r).map pD) (some 1) none = r.map pD := ycut1 _ _
    have lr : r.length ≤ 100000 := by simp only [List.length_cons] at lx; omega
    refine ⟨Nat.zero_le _, wx, rfl, ?_⟩
    refine ⟨pD (Pa.ag a), atI_nat (j := 0) rfl, .str "again", atI_nat (j := 0) rfl, by decide +kernel, by decide +kernel, ?_⟩
    rw [show eqD (.str "again") (.str "signs") = false by decide +kernel]
    refine ⟨pD (Pa.ag a), atI_nat (j := 0) rfl, .str "again", atI_nat (j := 0) rfl, by decide +kernel, by decide +kernel, ?_⟩
    rw [show eqD (.str "again") (.str "then") = false by decide +kernel]
    refine ⟨pD (Pa.ag a), atI_nat (j := 0) rfl, .str "again", atI_nat (j := 0) rfl, by decide +kernel, by decide +kernel, ?_⟩
    rw [show eqD (.str "again") (.str "or") = false by decide +kernel]
    refine ⟨pD (Pa.ag a), atI_nat (j := 0) rfl, .str "again", atI_nat (j := 0) rfl, by decide +kernel, by decide +kernel, ?_⟩
    rw [show eqD (.str "again") (.str "empty") = false by decide +kernel]
    refine ⟨.inr "again", rfl, pD (Pa.ag a), atI_nat (j := 0) rfl, pD a, rfl, (by show 2 ≤ _; omega), (by show 1 ≤ _; omega), .inr "more", rfl, pD (Pa.ag a), atI_nat (j := 0) rfl, pD a, rfl, (by show 2 ≤ _; omega), (by show 1 ≤ _; omega), .inr "maybe", rfl, Nat.zero_le _, (by show 3 ≤ 15; decide), pD (Pa.ag a), atI_nat (j := 0) rfl, .str "again", atI_nat (j := 0) rfl, .inr "again", .tup [pD (Pa.ag a)], rfl, kg_again _ _ _, ?_⟩
    refine ⟨pD (Pa.ag a), atI_nat (j := 0) rfl, pD a, rfl, (by show 1 ≤ _; omega), (by show 1 + 1 ≤ _; omega), by show (1 + 1) + (YP.cut (((Pa.ag a) :: r).map pD) (some 1) none).length ≤ _; rw [tl, List.length_map]; omega, by show (owes.map wD).length < _; rw [List.length_map]; omega, ?_⟩
    refine ⟨Nat.zero_le _, wx, rfl, ?_⟩
    refine ⟨pD (Pa.ag a), atI_nat (j := 0) rfl, .str "again", atI_nat (j := 0) rfl, by show 3 ≤ _; omega, by decide +kernel, by decide +kernel, ?_⟩
    rw [show (false ^^ [D.str "empty", D.str "again", D.str "maybe"].any fun z => eqD z (.str "again")) = true by decide +kernel]
    refine ⟨by show (owes.map wD ++ [_]).length < _; rw [List.length_append, List.length_map]; show owes.length + 1 < _; omega, ?_⟩
    exact done _ _ _ (by show (owes.map wD ++ [D.tup (([pD a] ++ [pD (Pa.ag a)]) ++ YP.cut (((Pa.ag a) :: r).map pD) (some 1) none)]) ++ [D.tup (YP.cut (((Pa.ag a) :: r).map pD) (some 1) none)] = _; rw [tl, List.map_append, List.append_assoc]; rfl) (by rw [if_neg (by exact fun z => nomatch z)])
  | .mo a :: r, xU, hx, lx, done, wx, one, I, hm, hb =>
    have tl : YP.cut (((Pa.mo a) :: r).map pD) (some 1) none = r.map pD := ycut1 _ _
    have lr : r.length ≤ 100000 := by simp only [List.length_cons] at lx; omega
    refine ⟨Nat.zero_le _, wx, rfl, ?_⟩
    refine ⟨pD (Pa.mo a), atI_nat (j := 0) rfl, .str "more", atI_nat (j := 0) rfl, by decide +kernel, by decide +kernel, ?_⟩
    rw [show eqD (.str "more") (.str "signs") = false by decide +kernel]
    refine ⟨pD (Pa.mo a), atI_nat (j := 0) rfl, .str "more", atI_nat (j := 0) rfl, by decide +kernel, by decide +kernel, ?_⟩
    rw [show eqD (.str "more") (.str "then") = false by decide +kernel]
    refine ⟨pD (Pa.mo a), atI_nat (j := 0) rfl, .str "more", atI_nat (j := 0) rfl, by decide +kernel, by decide +kernel, ?_⟩
    rw [show eqD (.str "more") (.str "or") = false by decide +kernel]
    refine ⟨pD (Pa.mo a), atI_nat (j := 0) rfl, .str "more", atI_nat (j := 0) rfl, by decide +kernel, by decide +kernel, ?_⟩
    rw [show eqD (.str "more") (.str "empty") = false by decide +kernel]
    refine ⟨.inr "again", rfl, pD (Pa.mo a), atI_nat (j := 0) rfl, pD a, rfl, (by show 2 ≤ _; omega), (by show 1 ≤ _; omega), .inr "more", rfl, pD (Pa.mo a), atI_nat (j := 0) rfl, pD a, rfl, (by show 2 ≤ _; omega), (by show 1 ≤ _; omega), .inr "maybe", rfl, Nat.zero_le _, (by show 3 ≤ 15; decide), pD (Pa.mo a), atI_nat (j := 0) rfl, .str "more", atI_nat (j := 0) rfl, .inr "more", .tup [pD (Pa.ag a)], rfl, kg_more _ _ _, ?_⟩
    refine ⟨pD (Pa.mo a), atI_nat (j := 0) rfl, pD a, rfl, (by show 1 ≤ _; omega), (by show 1 + 1 ≤ _; omega), by show (1 + 1) + (YP.cut (((Pa.mo a) :: r).map pD) (some 1) none).length ≤ _; rw [tl, List.length_map]; omega, by show (owes.map wD).length < _; rw [List.length_map]; omega, ?_⟩
    refine ⟨Nat.zero_le _, wx, rfl, ?_⟩
    refine ⟨pD (Pa.mo a), atI_nat (j := 0) rfl, .str "more", atI_nat (j := 0) rfl, by show 3 ≤ _; omega, by decide +kernel, by decide +kernel, ?_⟩
    rw [show (false ^^ [D.str "empty", D.str "again", D.str "maybe"].any fun z => eqD z (.str "more")) = false by decide +kernel]
    exact done _ _ _ (by show owes.map wD ++ [D.tup (([pD a] ++ [pD (Pa.ag a)]) ++ YP.cut (((Pa.mo a) :: r).map pD) (some 1) none)] = _; rw [tl, List.map_append]; rfl) (by rw [if_neg (by exact fun z => nomatch z)])
  | .mb a :: r, xU, hx, lx, done, wx, one, I, hm, hb =>
    have tl : YP.cut (((Pa.mb a) :: r).map pD) (some 1) none = r.map pD := ycut1 _ _
    have lr : r.length ≤ 100000 := by simp only [List.length_cons] at lx; omega
    refine ⟨Nat.zero_le _, wx, rfl, ?_⟩
    refine ⟨pD (Pa.mb a), atI_nat (j := 0) rfl, .str "maybe", atI_nat (j := 0) rfl, by decide +kernel, by decide +kernel, ?_⟩
    rw [show eqD (.str "maybe") (.str "signs") = false by decide +kernel]
    refine ⟨pD (Pa.mb a), atI_nat (j := 0) rfl, .str "maybe", atI_nat (j := 0) rfl, by decide +kernel, by decide +kernel, ?_⟩
    rw [show eqD (.str "maybe") (.str "then") = false by decide +kernel]
    refine ⟨pD (Pa.mb a), atI_nat (j := 0) rfl, .str "maybe", atI_nat (j := 0) rfl, by decide +kernel, by decide +kernel, ?_⟩
    rw [show eqD (.str "maybe") (.str "or") = false by decide +kernel]
    refine ⟨pD (Pa.mb a), atI_nat (j := 0) rfl, .str "maybe", atI_nat (j := 0) rfl, by decide +kernel, by decide +kernel, ?_⟩
    rw [show eqD (.str "maybe") (.str "empty") = false by decide +kernel]
    refine ⟨.inr "again", rfl, pD (Pa.mb a), atI_nat (j := 0) rfl, pD a, rfl, (by show 2 ≤ _; omega), (by show 1 ≤ _; omega), .inr "more", rfl, pD (Pa.mb a), atI_nat (j := 0) rfl, pD a, rfl, (by show 2 ≤ _; omega), (by show 1 ≤ _; omega), .inr "maybe", rfl, Nat.zero_le _, (by show 3 ≤ 15; decide), pD (Pa.mb a), atI_nat (j := 0) rfl, .str "maybe", atI_nat (j := 0) rfl, .inr "maybe", .tup [], rfl, kg_maybe _ _ _, ?_⟩
    refine ⟨pD (Pa.mb a), atI_nat (j := 0) rfl, pD a, rfl, (by show 1 ≤ _; omega), (by show 1 + 0 ≤ _; omega), by show (1 + 0) + (YP.cut (((Pa.mb a) :: r).map pD) (some 1) none).length ≤ _; rw [tl, List.length_map]; omega, by show (owes.map wD).length < _; rw [List.length_map]; omega, ?_⟩
    refine ⟨Nat.zero_le _, wx, rfl, ?_⟩
    refine ⟨pD (Pa.mb a), atI_nat (j := 0) rfl, .str "maybe", atI_nat (j := 0) rfl, by show 3 ≤ _; omega, by decide +kernel, by decide +kernel, ?_⟩
    rw [show (false ^^ [D.str "empty", D.str "again", D.str "maybe"].any fun z => eqD z (.str "maybe")) = true by decide +kernel]
    refine ⟨by show (owes.map wD ++ [_]).length < _; rw [List.length_append, List.length_map]; show owes.length + 1 < _; omega, ?_⟩
    exact done _ _ _ (by show (owes.map wD ++ [D.tup (([pD a] ++ []) ++ YP.cut (((Pa.mb a) :: r).map pD) (some 1) none)]) ++ [D.tup (YP.cut (((Pa.mb a) :: r).map pD) (some 1) none)] = _; rw [tl, List.map_append, List.append_assoc]; rfl) (by rw [if_neg (by exact fun z => nomatch z)])
end
end K01
set_option maxRecDepth 100000
set_option maxHeartbeats 1000000
namespace K01
open PySem PySem.Spec PyProof.Rows L2 Yard YP
/-! ### a sign led over rows -/
def led1 (c : Nat) : List Pa → List (List Pa)
  | .sg l :: s => if c ∈ l then [s] else []
  | _ => []
theorem mem_led {ow : List (List Pa)} {c : Nat} {s : List Pa} : s ∈ ow.flatMap (led1 c) ↔ ∃ l, .sg l :: s ∈ ow ∧ c ∈ l := by
  rw [List.mem_flatMap]
  constructor
  · rintro ⟨x, hx, h⟩
    match x, hx, h with
    | .sg l :: r, hx, h =>
      simp only [led1] at h
      by_cases hc : c ∈ l
      · rw [if_pos hc, List.mem_singleton] at h
        exact ⟨l, h ▸ hx, hc⟩
      · rw [if_neg hc] at h; cases h
    | [], _, h => cases h
    | .em :: _, _, h => cases h
    | .th _ _ :: _, _, h => cases h
    | .or _ _ :: _, _, h => cases h
    | .ag _ :: _, _, h => cases h
    | .mo _ :: _, _, h => cases h
    | .mb _ :: _, _, h => cases h
  · rintro ⟨l, hx, hc⟩
    exact ⟨_, hx, by simp only [led1]; rw [if_pos hc]; exact List.mem_singleton.mpr rfl⟩
theorem led1_len (c : Nat) (x : List Pa) : (led1 c x).length ≤ 1 := by
  unfold led1
  split
  · split <;> simp
  · simp
theorem led_len (c : Nat) : ∀ ow : List (List Pa), (ow.flatMap (led1 c)).length ≤ ow.length
  | [] => Nat.le_refl _
  | x :: ow => by
    rw [List.flatMap_cons, List.length_append, List.length_cons]
    have := led1_len c x
    have := led_len c ow
    omega
/-- what is due by a pattern, opened -/
structure Due (p : Pa) (ow : List (List Pa)) : Prop where
  inU : ∀ x ∈ ow, x ∈ cla p
  fn : ∀ x ∈ ow, K01.fin x = true
  few : ow.length ≤ 300000
theorem due_led {p : Pa} {ow seen found : List (List Pa)} {c : Nat} (pw : Pw p) (h : Due p ow) (I : Opened (cla p) (ow.flatMap (led1 c)) [] seen found) : Due p found ∧ ∀ w, (∃ t ∈ found, LgR t w) ↔ ∃ t ∈ ow, LgR t (c :: w) := by
  refine ⟨⟨fun x hx => ?_, opened_fin I, ?_⟩, fun w => ?_⟩
  · rw [I.fd] at hx
    exact I.inU x (.inl (List.mem_filter.mp hx).1)
  · have h1 := (opened_few I).2
    have h2 := cla_len p
    have h3 := pw.nd
    omega
  · rw [opened_end I w, led_sign h.fn c w]
    constructor
    · rintro ⟨s, hs, l⟩; exact ⟨s, mem_led.mp hs, l⟩
    · rintro ⟨s, hs, l⟩; exact ⟨s, mem_led.mpr hs, l⟩
theorem led_in {p : Pa} {ow : List (List Pa)} {c : Nat} (h : Due p ow) : ∀ x ∈ ow.flatMap (led1 c), x ∈ cla p := fun x hx => by
  obtain ⟨l, h1, h2⟩ := mem_led.mp hx
  exact cla_step p _ x (h.inU _ h1) (.inr (List.mem_singleton.mpr rfl))
section
variable {P : Program} {w : World} {K : PySem.W.Frag} {mg : Str → Option Value} {base : Heap}
def uLed : UF := fun ρ R => ∃ (p : Pa) (owes : List (List Pa)) (line : List Nat), ρ = [dat (lD owes), dat (.str (toS line))] ∧ Pw p ∧ Due p owes ∧
  ∀ ow r ss, Due p ow → (∀ w, (∃ t ∈ ow, LgR t w) ↔ ∃ t ∈ owes, LgR t (line ++ w)) → (r = .own (lD ow) ∨ r = .val (lD ow)) → R r ss
theorem pcLed : FnScope ["owes", "line", "sign", "owed"] ["owes", "line"] (defScope sLed) := ⟨rfl, rfl, rfl, by decide +kernel, rfl, by decide +kernel, by decide +kernel⟩
theorem pkLed (T : Tx K w mg) : FnOk P w K mg base CX0 2 T.aLed T.fLed ["owes", "line"] (PSp K 2 uLed) := by
  refine fn_mk T.led.fn pcLed (by decide) fun cdv A outer s H E hr => ?_
  refine ⟨_, (fb_cons (fs_for PassesOwn.never rfl (fi_str (fv 1)) (fg_name (pg_name (i := 2) pcLed.nd rfl (.inr rfl)))
      (fb_one (fs_set (ps_set (i := 0) pcLed.nd rfl (.inl rfl) pe_S) (fe_call (pkOpened T) (hr.mono (by omega)) (by rfl) T.opened.at_ T.opened.kp T.opened.bd (fr_ref (fe_lc rfl pcLed.nd (fi_list (fv 0)) (blkOk_by (own := [("owed", 3)]) (N := ["owes", "line", "sign", "owed"]) (sc := defScope sLed) (by decide +kernel)) (fun _ _ _ _ _ => (fg_name (pg_name (i := 3) pcLed.nd rfl (.inl rfl)) (by intro l e; cases e; decide +kernel))) (fun _ _ _ _ _ => (fts_one (FW.ft (fw_and (ft_cmp (os_ne (ru hr)) (fv 3) (fe_tup fa_nil)) (fw_and1 (ft_cmp (os_in (rv hr)) (fv 2) (fe_ix (fe_ix (fv 3) fe_int) fe_int))))))) (fun _ _ _ _ _ => (fe_sl (fv 3) (fo_int fe_int) fo_no))) fr_nil)))))
      (fb_one (fs_ret (fv 0)))), fun ρ R hl h => ?_⟩
  -- slots: 0 owes, 1 line, 2 sign, 3 owed
  obtain ⟨p, owes, line, rfl, pw, hd, q⟩ := h
  have sz : 2000000 ≤ sizeLine := by rw [sizeLine_eq]; decide
  have wk : ∀ {x : List Pa}, x ∈ cla p → okD (wD x) = true := fun h => (okN_wD (n := 40) (cla_ok p pw.low pw.dp _ h)).ok (by decide)
  have cps : (toS line).cps.toList = line := toS_cps _
  refine ⟨fun t ρ => ∃ ow s0 s2 s3, ρ = [s0, .sl false true (.str (toS line)), s2, s3] ∧ (s0 = .sl true false (lD ow) ∨ s0 = .sl false true (lD ow)) ∧ Due p ow ∧ ∀ w, (∃ t ∈ ow, LgR t w) ↔ ∃ x ∈ owes, LgR x (line.take t ++ w), ⟨owes, _, _, _, rfl, .inr rfl, hd, fun w => Iff.rfl⟩, ?_, ?_⟩
  · rintro t d ρ ht ⟨ow, s0, s2, s3, rfl, h0, hw, sp⟩
    rw [cps, List.getElem?_map] at ht
    obtain ⟨c, hc, rfl⟩ := Option.map_eq_some_iff.mp ht
    -- the rows behind a sign
    have go : ∀ p0 : Bool, ∃ W : Nat → List D → List Sl → Prop, W 0 [] [.sl false p0 (lD ow), .sl false true (.str (toS line)), dat (.str ⟨#[c]⟩), .un] ∧ True := fun _ => ⟨fun _ _ _ => True, trivial, trivial⟩
    have row : ∀ i x, (ow.map wD)[i]? = some x → ∃ y, ow[i]? = some y ∧ x = wD y := fun i x h => by
      rw [List.getElem?_map] at h
      obtain ⟨y, e, rfl⟩ := Option.map_eq_some_iff.mp h
      exact ⟨y, e, rfl⟩
    have tk : ∀ (i : Nat) (y : List Pa), ow[i]? = some y → (ow.take (i + 1)).flatMap (led1 c) = (ow.take i).flatMap (led1 c) ++ led1 c y := fun i y e => by
      rw [List.take_succ, e, List.flatMap_append]
      simp
    have tkl : line.take (t + 1) = line.take t ++ [c] := by rw [List.take_succ, hc]; rfl
    rcases h0 with rfl | rfl
    all_goals
      refine ⟨fun i acc ρ => acc = ((ow.take i).flatMap (led1 c)).map wD ∧ ρ = [.sl false _ (lD ow), .sl false true (.str (toS line)), dat (.str ⟨#[c]⟩), .un], ⟨rfl, rfl⟩, ?_, ?_, ?_⟩
      · rintro i d acc ρ hi ⟨rfl, rfl⟩
        obtain ⟨y, ey, rfl⟩ := row i d hi
        have yin : y ∈ ow := List.mem_of_getElem? ey
        have yU := hw.inU y yin
        have yf := hw.fn y yin
        have len : (((ow.take i).flatMap (led1 c)).map wD).length < sizeLine := by
          have h1 := led_len c (ow.take i)
          have h2 := hw.few
          rw [List.length_take] at h1
          rw [List.length_map]
          omega
        match y, yU, yf with
        | [], yU, yf =>
          refine ⟨Nat.zero_le _, rfl, rfl, ?_⟩
          exact ⟨(by rw [tk i _ ey]; simp [led1] : _ = List.map wD (List.flatMap (led1 c) (List.take (i + 1) ow))), rfl⟩
        | .sg l :: s, yU, yf =>
          refine ⟨Nat.zero_le _, wk yU, rfl, ?_⟩
          refine ⟨pD (.sg l), atI_nat (j := 0) rfl, .str (toS l), atI_nat (j := 1) rfl, c, rfl, ?_⟩
          rw [toS_cps]
          by_cases k : c ∈ l
          · rw [decide_eq_true k]
            refine ⟨len, (?_ : _ = List.map wD (List.flatMap (led1 c) (List.take (i + 1) ow))), rfl⟩
            rw [tk i _ ey]
            show _ ++ [D.tup (YP.cut ((Pa.sg l :: s).map pD) (some 1) none)] = _
            rw [show YP.cut ((Pa.sg l :: s).map pD) (some 1) none = s.map pD from ycut1 _ _, List.map_append]
            simp only [led1]
            rw [if_pos k]; rfl
          · rw [decide_eq_false k]
            refine ⟨(?_ : _ = List.map wD (List.flatMap (led1 c) (List.take (i + 1) ow))), rfl⟩
            rw [tk i _ ey]
            simp only [led1]
            rw [if_neg k, List.append_nil]
      · rintro i acc ρ ⟨_, rfl⟩
        exact ⟨_, (rfl : _ = YP.wipeS [.sl false _ (lD ow), .sl false true (.str (toS line)), dat (.str ⟨#[c]⟩), .un] [3])⟩
      · rintro acc ρ ⟨rfl, rfl⟩
        have e : (ow.take (ow.map wD).length).flatMap (led1 c) = ow.flatMap (led1 c) := by rw [List.length_map, List.take_length]
        refine ⟨List.nodup_nil, p, ow.flatMap (led1 c), ?_, pw, led_in hw, ?_, fun seen found I => ?_⟩
        · show [own (.lst (List.map wD (List.flatMap (led1 c) (List.take (ow.map wD).length ow))))] = _
          rw [e]; rfl
        · have h1 := led_len c ow
          have h2 := hw.few
          omega
        · obtain ⟨k1, k2⟩ := due_led pw hw I
          refine ⟨found, _, _, _, rfl, .inl rfl, k1, fun w => ?_⟩
          rw [k2 w, sp (c :: w), tkl, List.append_assoc]; rfl
  · rintro ρ ⟨ow, s0, s2, s3, rfl, h0, hw, sp⟩
    rw [List.length_map, cps, List.take_length] at sp
    rcases h0 with rfl | rfl
    · exact q ow _ _ hw sp (.inl rfl)
    · exact q ow _ _ hw sp (.inr rfl)
theorem due_start {p : Pa} {seen found : List (List Pa)} (pw : Pw p) (I : Opened (cla p) [[p]] [] seen found) : Due p found ∧ ∀ w, (∃ t ∈ found, LgR t w) ↔ Lg p w := by
  refine ⟨⟨fun x hx => ?_, opened_fin I, ?_⟩, fun w => ?_⟩
  · rw [I.fd] at hx
    exact I.inU x (.inl (List.mem_filter.mp hx).1)
  · have h1 := (opened_few I).2
    have h2 := cla_len p
    have h3 := pw.nd
    omega
  · rw [opened_end I w]
    constructor
    · rintro ⟨s, hs, l⟩
      rw [List.mem_singleton.mp hs] at l
      obtain ⟨u, v, e, h1, h2⟩ := l
      have h2 : v = [] := h2
      rw [e, h2, List.append_nil]; exact h1
    · intro h
      exact ⟨[p], List.mem_singleton.mpr rfl, w, [], (List.append_nil w).symm, h, rfl⟩
def uTakes : UF := fun ρ R => ∃ (p : Pa) (line : List Nat), ρ = [dat (pD p), dat (.str (toS line))] ∧ Pw p ∧ ∀ b ss, (b = true ↔ Lg p line) → R (.val (.bl b)) ss
theorem pcTakes : FnScope ["mould", "line"] ["mould", "line"] (defScope sTakes) := ⟨rfl, rfl, rfl, by decide +kernel, rfl, by decide +kernel, by decide +kernel⟩
theorem pkTakes (T : Tx K w mg) : FnOk P w K mg base CX0 3 T.aTakes T.fTakes ["mould", "line"] (PSp K 2 uTakes) := by
  refine fn_mk T.takes.fn pcTakes (by decide) fun cdv A outer s H E hr => ?_
  refine ⟨_, (fb_one (fs_ret (fe_cmp (os_in (rv hr)) (fe_tup fa_nil) (fe_call (pkLed T) (hr.mono (by omega)) (by rfl) T.led.at_ T.led.kp T.led.bd (fr_val (fe_call (pkOpened T) (hr.mono (by omega)) (by rfl) T.opened.at_ T.opened.kp T.opened.bd (fr_ref (fe_lst (fa_cons (fe_tup (fa_cons (fv 0) fa_nil)) fa_nil)) fr_nil)) (fr_val (fv 1) fr_nil)))))), fun ρ R hl h => ?_⟩
  -- slots: 0 mould, 1 line
  obtain ⟨p, line, rfl, pw, q⟩ := h
  have sz : 2000000 ≤ sizeLine := by rw [sizeLine_eq]; decide
  refine ⟨Nat.zero_le _, by show 1 ≤ _; omega, by show 1 ≤ _; omega, List.nodup_nil, p, [[p]], rfl, pw, fun x hx => by rw [List.mem_singleton.mp hx]; exact cla_self p, by show 1 ≤ 400000; omega, fun seen found I => ?_⟩
  obtain ⟨k1, k2⟩ := due_start pw I
  refine ⟨List.nodup_nil, p, found, line, rfl, pw, k1, fun ow r ss d2 sp hr2 => ?_⟩
  have rk : okD (lD ow) = true := (okN_lD (n := 40) fun x hx => cla_ok p pw.low pw.dp x (d2.inU x hx)).ok (by decide)
  have fin2 : ∀ ss, R (.val (.bl (false ^^ (ow.map wD).any fun z => eqD z (.tup [])))) ss := fun ss => by
    refine q _ _ ?_
    rw [show (D.tup []) = wD [] from rfl, any_wD (n := 40) fun y hy => cla_ok p pw.low pw.dp y (d2.inU y hy), Bool.false_xor, decide_eq_true_iff, ← fin_nil d2.fn, sp [], List.append_nil, k2]
  rcases hr2 with rfl | rfl
  · exact ⟨rfl, rk, fin2 _⟩
  · exact ⟨rfl, rk, fin2 _⟩
end
end K01
set_option maxRecDepth 100000
set_option maxHeartbeats 1000000
namespace K01
open PySem PySem.Spec PyProof.Rows L2 Yard YP
section
variable {P : Program} {w : World} {K : PySem.W.Frag} {mg : Str → Option Value} {base : Heap}
theorem no_pure {CX : CXT} {k n : Nat} {f : Addr} {fd : FuncData} {ps : List Str} : FnOk P w K mg base CX k f fd ps (PSp K n (fun _ _ => False)) :=
  ⟨fun _ _ _ _ ⟨_, _, _, _, _, _, _, h, _⟩ => h.elim, fun _ _ _ _ _ _ _ _ _ _ _ _ _ ⟨_, _, _, _, _, _, _, h, _⟩ => h.elim⟩
theorem wb_no {ρ : List Sl} : ∀ {rs : List Rv} (ss : List Sl), ats rs = [] → wb ρ rs ss = ρ
  | [], [], _ => rfl
  | [], _ :: _, _ => rfl
  | .at _ :: _, _, h => nomatch h
  | .val _ :: _, [], _ => rfl
  | .own _ :: _, [], _ => rfl
  | .val _ :: rs, _ :: ss, h => wb_no (rs := rs) ss h
  | .own _ :: rs, _ :: ss, h => wb_no (rs := rs) ss h
def uBefore (u : Nat → UF) : Nat → UF
  | 0 => fun _ _ => False
  | k + 1 => u k
/-! ### _law_alike, of two alike -/
inductive Flat : D → Prop
  | non : Flat .non
  | bl (b : Bool) : Flat (.bl b)
  | str (x : Str) : PyData.strOk x = true → Flat (.str x)
def uAlike (u0 : UF) : UF := fun ρ R => ∃ d, ρ = [dat d, dat d] ∧ (Flat d ∨ ∃ a b, d = .lst [a, b] ∧ ∀ e, e = a ∨ e = b → ∀ R' : Rv → List Sl → Prop, (∀ ss, R' (.val (.bl true)) ss) → u0 [dat e, dat e] R') ∧ ∀ ss, R (.val (.bl true)) ss
theorem pcAlike : FnScope ["found", "owed", "k"] ["found", "owed"] (defScope sAlike) := ⟨rfl, rfl, rfl, by decide +kernel, rfl, by decide +kernel, by decide +kernel⟩
theorem pkAlike (T : Tx K w mg) (k : Nat) (u0 : UF) (G : FnOk P w K mg base CX0 k T.aAlike T.fAlike ["found", "owed"] (PSp K 2 u0)) : FnOk P w K mg base CX0 (k + 1) T.aAlike T.fAlike ["found", "owed"] (PSp K 2 (uAlike u0)) := by
  refine fn_mk T.alike.fn pcAlike (by decide) fun cdv A outer s H E hr => ?_
  refine ⟨_, (fb_cons (fs_if (ft_tru (fe_isiT (by rfl) T.bIsinstance (fv 1) (fa_cons (fe_ty (n := "list") (by rfl) T.bList (by decide +kernel)) (fa_cons (fe_ty (n := "tuple") (by rfl) T.bTuple (by decide +kernel)) fa_nil))))
      (fb_cons (fs_if (FW.ft (fw_or (ft_not (ft_tru (fe_isiT (by rfl) T.bIsinstance (fv 0) (fa_cons (fe_ty (n := "list") (by rfl) T.bList (by decide +kernel)) (fa_cons (fe_ty (n := "tuple") (by rfl) T.bTuple (by decide +kernel)) fa_nil))))) (fw_or1 (ft_cmp (os_ne (ru hr)) (fe_b cb_isi (by rfl) T.bIsinstance (by decide +kernel) (fr_ref (fv 0) (fr_ref (fe_ty (n := "list") (by rfl) T.bList (by decide +kernel)) fr_nil))) (fe_b cb_isi (by rfl) T.bIsinstance (by decide +kernel) (fr_ref (fv 1) (fr_ref (fe_ty (n := "list") (by rfl) T.bList (by decide +kernel)) fr_nil)))))))
      (fb_one (fs_ret fe_bl))
      fb_nil)
      (fb_one (fs_ret (fe_and (fe_cmp (os_eq (ru hr)) (fe_b cb_len (by rfl) T.len (by decide +kernel) (fr_ref (fv 0) fr_nil)) (fe_b cb_len (by rfl) T.len (by decide +kernel) (fr_ref (fv 1) fr_nil))) (fe_one (fe_b (cb_all rfl) (by rfl) T.bAll (by decide +kernel) (fr_ref (fe_lc rfl pcAlike.nd (fi_range1 (by rfl) T.bRange (fa_cons (fe_b cb_len (by rfl) T.len (by decide +kernel) (fr_ref (fv 1) fr_nil)) fa_nil)) (blkOk_by (own := [("k", 2)]) (N := ["found", "owed", "k"]) (sc := defScope sAlike) (by decide +kernel)) (fun _ _ _ _ _ => (fg_name (pg_name (i := 2) pcAlike.nd rfl (.inl rfl)) (by intro l e; cases e; decide +kernel))) (fun _ _ _ _ _ => fts_nil) (fun _ _ _ _ _ => (fe_call G hr (by rfl) T.alike.at_ T.alike.kp T.alike.bd (fr_val (fe_ix (fv 0) (fv 2)) (fr_val (fe_ix (fv 1) (fv 2)) fr_nil))))) fr_nil)))))))
      fb_nil)
      (fb_cons (fs_if (FW.ft (fw_or (ft_cmp os_is (fv 1) fe_non) (fw_or1 (ft_tru (fe_b cb_isi (by rfl) T.bIsinstance (by decide +kernel) (fr_ref (fv 1) (fr_ref (fe_ty (n := "str") (by rfl) T.bStr (by decide +kernel)) fr_nil)))))))
      (fb_one (fs_ret (fe_and (fe_cmp (os_eq (ru hr)) (fv 0) (fv 1)) (fe_one (fe_cmp (os_eq (ru hr)) (fe_cmp os_is (fv 1) fe_non) (fe_cmp os_is (fv 0) fe_non))))))
      fb_nil)
      (fb_one (fs_ret (fe_and (fe_cmp (os_eq (ru hr)) (fe_b cb_isi (by rfl) T.bIsinstance (by decide +kernel) (fr_ref (fv 0) (fr_ref (fe_ty (n := "bool") (by rfl) T.bBool (by decide +kernel)) fr_nil))) (fe_b cb_isi (by rfl) T.bIsinstance (by decide +kernel) (fr_ref (fv 1) (fr_ref (fe_ty (n := "bool") (by rfl) T.bBool (by decide +kernel)) fr_nil)))) (fe_and (fe_b cb_isi (by rfl) T.bIsinstance (by decide +kernel) (fr_ref (fv 0) (fr_ref (fe_ty (n := "int") (by rfl) T.bInt (by decide +kernel)) fr_nil))) (fe_one (fe_cmp (os_eq (ru hr)) (fv 0) (fv 1))))))))), fun ρ R hl h => ?_⟩
  -- slots: 0 found, 1 owed, 2 k
  obtain ⟨d, rfl, hd, q⟩ := h
  have sz : 2000000 ≤ sizeLine := by rw [sizeLine_eq]; decide
  have two : [D.ty "list", D.ty "tuple"].length ≤ sizeLine := by show 2 ≤ _; omega
  rcases hd with hd | ⟨a, b, rfl, hg⟩
  · cases hd with
    | non =>
      refine ⟨two, "NoneType", false, rfl, by decide +kernel, ?_⟩
      refine ⟨rfl, rfl, rfl, rfl, ?_⟩
      exact q _
    | bl b =>
      refine ⟨two, "bool", false, rfl, by decide +kernel, ?_⟩
      refine ⟨"bool", false, rfl, by decide +kernel, ?_⟩
      refine ⟨"bool", true, rfl, by decide +kernel, "bool", true, rfl, by decide +kernel, rfl, rfl, ?_⟩
      refine ⟨"bool", true, rfl, by decide +kernel, ?_⟩
      refine ⟨rfl, rfl, ?_⟩
      rw [show eqD (.bl b) (.bl b) = true by cases b <;> rfl]
      exact q _
    | str x hx =>
      have ok : okD (.str x) = true := (okN_str hx).ok (Nat.zero_le _)
      refine ⟨two, "str", false, rfl, by decide +kernel, ?_⟩
      refine ⟨"str", true, rfl, by decide +kernel, ?_⟩
      refine ⟨ok, ok, ?_⟩
      rw [show eqD (.str x) (.str x) = true from beq_self_eq_true x]
      exact ⟨rfl, rfl, q _⟩
  · refine ⟨two, "list", true, rfl, by decide +kernel, ?_⟩
    refine ⟨two, "list", true, rfl, by decide +kernel, ?_⟩
    refine ⟨"list", true, rfl, by decide +kernel, "list", true, rfl, by decide +kernel, rfl, rfl, ?_⟩
    refine ⟨rfl, rfl, ?_⟩
    refine ⟨by show -2 ^ 62 ≤ (2 : Int); decide, by show (2 : Int) < 2 ^ 62; decide, ?_⟩
    refine ⟨fun i acc ρ => acc = List.replicate i (.bl true) ∧ ρ = [.sl false true (.lst [a, b]), .sl false true (.lst [a, b]), .un], ⟨rfl, rfl⟩, ?_, ?_, ?_⟩
    · rintro i d acc ρ hi ⟨rfl, rfl⟩
      have li : i < 2 := (List.getElem?_eq_some_iff.mp hi).1
      have ld : d = .int (i : Nat) := by
        match i, li with
        | 0, _ => cases hi; rfl
        | 1, _ => cases hi; rfl
      subst ld
      obtain ⟨e, he, ee⟩ : ∃ e, L2.atI [a, b] ((i : Nat) : Int) = some e ∧ (e = a ∨ e = b) := by
        match i, li with
        | 0, _ => exact ⟨a, rfl, .inl rfl⟩
        | 1, _ => exact ⟨b, rfl, .inr rfl⟩
      refine ⟨e, he, e, he, List.nodup_nil, ?_⟩
      refine hg e ee _ fun ss => ?_
      rw [wb_no _ rfl]
      exact ⟨by rw [List.length_replicate]; omega, (by rw [List.replicate_succ'] : _ = List.replicate (i + 1) (D.bl true)), rfl⟩
    · rintro i acc ρ ⟨_, rfl⟩
      exact ⟨_, (rfl : _ = YP.wipeS [.sl false true (.lst [a, b]), .sl false true (.lst [a, b]), .un] [2])⟩
    · rintro acc ρ ⟨rfl, rfl⟩
      exact ⟨[true, true], rfl, q _⟩
theorem ok_alike (T : Tx K w mg) : FnOk P w K mg base CX0 2 T.aAlike T.fAlike ["found", "owed"] (PSp K 2 (uAlike (uAlike fun _ _ => False))) := pkAlike T 1 _ (pkAlike T 0 _ no_pure)
/-! ### _law_only -/
def oD : Option (List Nat) → D
  | none => .non
  | some t => .str (toS t)
theorem pD_pts {p : Pa} (n : ∀ l, p ≠ .sg l) : pD p = .tup (.str (wrd p) :: (pts p).map pD) := by
  cases p with
  | sg l => exact absurd rfl (n l)
  | _ => rfl
theorem eq_oD : ∀ x y : Option (List Nat), eqD (oD x) (oD y) = decide (x = y)
  | none, none => rfl
  | none, some _ => rfl
  | some _, none => rfl
  | some u, some v => by
    show (toS u == toS v) = _
    by_cases e : u = v
    · subst e; simp
    · rw [beq_eq_false_iff_ne.mpr fun z => e (toS_inj z), decide_eq_false fun z => e (Option.some.inj z)]
theorem ok_oD {o : Option (List Nat)} (h : ∀ t, o = some t → ∀ c ∈ t, c < 128) : OkN 0 (oD o) := by
  cases o with
  | none => exact okN_non
  | some t => exact okN_str (str_ok (h t rfl))
theorem least_low : ∀ p : Pa, Low p → ∀ c ∈ least p, c < 128
  | .sg l, h, c, hc => by
    rw [List.mem_singleton.mp hc]
    cases l with
    | nil => decide
    | cons d l => exact h (d :: l) (by simp [sgs]) d List.mem_cons_self
  | .em, _, _, h => nomatch h
  | .th a b, h, c, hc => by
    rcases List.mem_append.mp hc with z | z
    · exact least_low a (fun l hl => h l (by simp only [sgs]; exact List.mem_append_left _ hl)) c z
    · exact least_low b (fun l hl => h l (by simp only [sgs]; exact List.mem_append_right _ hl)) c z
  | .or a b, h, c, hc => by
    unfold least at hc
    split at hc
    · exact least_low a (fun l hl => h l (by simp only [sgs]; exact List.mem_append_left _ hl)) c hc
    · exact least_low b (fun l hl => h l (by simp only [sgs]; exact List.mem_append_right _ hl)) c hc
  | .ag a, _, _, h => nomatch h
  | .mo a, h, c, hc => least_low a h c hc
  | .mb a, _, _, h => nomatch h
theorem only_low {p : Pa} (h : Low p) {t : List Nat} (e : only p = some t) : ∀ c ∈ t, c < 128 := by
  rw [← only_least p t e]
  exact least_low p h
theorem okD_wrd : ∀ p : Pa, okD (.str (wrd p)) = true
  | .sg _ => (by decide +kernel : okD (.str "signs") = true)
  | .em => (by decide +kernel : okD (.str "empty") = true)
  | .th _ _ => (by decide +kernel : okD (.str "then") = true)
  | .or _ _ => (by decide +kernel : okD (.str "or") = true)
  | .ag _ => (by decide +kernel : okD (.str "again") = true)
  | .mo _ => (by decide +kernel : okD (.str "more") = true)
  | .mb _ => (by decide +kernel : okD (.str "maybe") = true)
def uLonly (k : Nat) : UF := fun ρ R => ∃ p : Pa, ρ = [dat (pD p)] ∧ Low p ∧ dep p ≤ k ∧ size p ≤ 10000 ∧ (∀ l ∈ sgs p, l.length ≤ 200) ∧ ∀ ss, R (.val (oD (only p))) ss
theorem pcLonly : FnScope ["mould", "some", "part"] ["mould"] (defScope sLonly) := ⟨rfl, rfl, rfl, by decide +kernel, rfl, by decide +kernel, by decide +kernel⟩
theorem lonly_step (T : Tx K w mg) (k : Nat) (G : FnOk P w K mg base CX0 k T.aLonly T.fLonly ["mould"] (PSp K 1 (uBefore uLonly k))) : FnOk P w K mg base CX0 (k + 1) T.aLonly T.fLonly ["mould"] (PSp K 1 (uLonly k)) := by
  refine fn_mk T.lonly.fn pcLonly (by decide) fun cdv A outer s H E hr => ?_
  refine ⟨_, (fb_cons (fs_if (ft_cmp (os_eq (ru hr)) (fe_ix (fv 0) fe_int) fe_str)
      (fb_one (fs_ret (fe_if (ft_cmp (os_eq (ru hr)) (fe_b cb_len (by rfl) T.len (by decide +kernel) (fr_ref (fe_ix (fv 0) fe_int) fr_nil)) fe_int) (fe_ix (fv 0) fe_int) fe_non)))
      fb_nil)
      (fb_cons (fs_setLc (i := 1) rfl pcLonly.nd rfl rfl (sw_true rfl rfl rfl (by decide +kernel)) (fi_tup (fe_sl (fv 0) (fo_int fe_int) fo_no)) (blkOk_by (own := [("part", 2)]) (N := ["mould", "some", "part"]) (sc := defScope sLonly) (by decide +kernel)) (fun _ _ _ _ _ => (fg_name (pg_name (i := 2) pcLonly.nd rfl (.inl rfl)) (by intro l e; cases e; decide +kernel))) (fun _ _ _ _ _ => fts_nil) (fun _ _ _ _ _ => (fe_call G hr (by rfl) T.lonly.at_ T.lonly.kp T.lonly.bd (fr_val (fv 2) fr_nil))))
      (fb_cons (fs_if (FW.ft (fw_and (ft_cmp (os_eq (ru hr)) (fe_ix (fv 0) fe_int) fe_str) (fw_and1 (ft_cmp (os_notin (rv hr)) fe_non (fv 1)))))
      (fb_one (fs_ret (fe_op os_add (fe_ix (fv 1) fe_int) (fe_ix (fv 1) fe_int))))
      fb_nil)
      (fb_cons (fs_if (FW.ft (fw_and (ft_cmp (os_eq (ru hr)) (fe_ix (fv 0) fe_int) fe_str) (fw_and1 (ft_cmp (os_eq (ru hr)) (fe_ix (fv 1) fe_int) (fe_ix (fv 1) fe_int)))))
      (fb_one (fs_ret (fe_ix (fv 1) fe_int)))
      fb_nil)
      (fb_one (fs_ret (fe_if (FW.ft (fw_or (ft_cmp (os_eq (ru hr)) (fe_ix (fv 0) fe_int) fe_str) (fw_or1 (FW.ft (fw_and (ft_cmp (os_in (rv hr)) (fe_ix (fv 0) fe_int) (fe_lst (fa_cons fe_str (fa_cons fe_str (fa_cons fe_str fa_nil))))) (fw_and1 (ft_cmp (os_eq (ru hr)) (fv 1) (fe_lst (fa_cons fe_str fa_nil))))))))) fe_str fe_non))))))), fun ρ R hl h => ?_⟩
  -- slots: 0 mould, 1 some, 2 part
  obtain ⟨p, rfl, lw, hk, hsz, few, q⟩ := h
  have sz : 2000000 ≤ sizeLine := by rw [sizeLine_eq]; decide
  by_cases hs : ∃ l, p = .sg l
  · obtain ⟨l, rfl⟩ := hs
    refine ⟨.str "signs", atI_nat (j := 0) rfl, by decide +kernel, by decide +kernel, ?_⟩
    rw [show eqD (.str "signs") (.str "signs") = true by decide +kernel]
    have ll : (toS l).length = l.length := toS_len l
    refine ⟨.str (toS l), atI_nat (j := 1) rfl, ?_, ?_⟩
    · have := few l (by simp [sgs]); rw [ll]; omega
    refine ⟨rfl, rfl, ?_⟩
    rw [show eqD (.int ((toS l).length : Nat)) (.int 1) = decide (l.length = 1) by
      show (((toS l).length : Int) == 1) = _
      rw [ll]
      by_cases e : l.length = 1
      · rw [e]; rfl
      · rw [decide_eq_false e, beq_eq_false_iff_ne]; omega]
    unfold only at q
    by_cases e : l.length = 1
    · rw [if_pos e] at q
      rw [decide_eq_true e]
      exact ⟨.str (toS l), atI_nat (j := 1) rfl, q _⟩
    · rw [if_neg e] at q
      rw [decide_eq_false e]
      exact q _
  have ng : ∀ l, p ≠ .sg l := fun l e => hs ⟨l, e⟩
  rw [pD_pts ng]
  have tl : YP.cut (D.str (wrd p) :: (pts p).map pD) (some 1) none = (pts p).map pD := ycut1 _ _
  have okw : okD (.str (wrd p)) = true := okD_wrd p
  refine ⟨.str (wrd p), atI_nat (j := 0) rfl, okw, by decide +kernel, ?_⟩
  rw [show eqD (.str (wrd p)) (.str "signs") = false from beq_eq_false_iff_ne.mpr (wrd_ne ng)]
  refine ⟨fun i acc ρ => acc = ((pts p).take i).map (fun x => oD (only x)) ∧ ρ = [.sl false true (.tup (.str (wrd p) :: (pts p).map pD)), .un, .un], ⟨rfl, rfl⟩, ?_, ?_, ?_⟩
  · rintro i d acc ρ hi ⟨rfl, rfl⟩
    rw [tl, List.getElem?_map] at hi
    obtain ⟨x, ex, rfl⟩ := Option.map_eq_some_iff.mp hi
    have xin : x ∈ pts p := List.mem_of_getElem? ex
    have dx := pts_dep xin
    have l2 : (((pts p).take i).map fun x => oD (only x)).length < sizeLine := by
      rw [List.length_map]
      have : (pts p).length ≤ 2 := by cases p <;> simp [pts]
      have := List.length_take_le i (pts p)
      rw [List.length_take]
      omega
    obtain ⟨m, rfl⟩ : ∃ m, k = m + 1 := ⟨k - 1, by omega⟩
    refine ⟨List.nodup_nil, x, rfl, fun l hl => lw l (pts_sgs xin l hl), by omega, Nat.le_trans (pts_size xin) hsz, fun l hl => few l (pts_sgs xin l hl), fun ss => ?_⟩
    dsimp only
    rw [wb_no (rs := [.val (pD x)]) ss rfl]
    refine ⟨l2, (?_ : _ = ((pts p).take (i + 1)).map (fun x => oD (only x))), rfl⟩
    rw [List.take_succ, ex, List.map_append]; rfl
  · rintro i acc ρ ⟨_, rfl⟩
    exact ⟨_, (rfl : _ = YP.wipeS [.sl false true (.tup (.str (wrd p) :: (pts p).map pD)), .un, .un] [2])⟩
  rintro acc ρ ⟨rfl, rfl⟩
  rw [tl, List.length_map, List.take_length]
  have okl : ∀ {l : List Pa}, (∀ x ∈ l, x ∈ pts p) → okD (.lst (l.map fun x => oD (only x))) = true := fun {l} h => (okN_lst (n := 0) fun d hd => by
    obtain ⟨x, hx, rfl⟩ := List.mem_map.mp hd
    exact ok_oD fun t e => only_low (fun m hm => lw m (pts_sgs (h x hx) m hm)) e).ok (by decide)
  have oko : ∀ x ∈ pts p, okD (oD (only x)) = true := fun x hx => (ok_oD fun t e => only_low (fun m hm => lw m (pts_sgs hx m hm)) e).ok (by decide)
  have okL := okl (l := pts p) fun _ h => h
  have le : ∀ x ∈ pts p, ∀ t, only x = some t → (toS t).length ≤ 10000 := fun x hx t e => by
    rw [toS_len]
    exact Nat.le_trans (only_len x t e) (Nat.le_trans (pts_size hx) hsz)
  cases p with
  | sg l => exact absurd rfl (ng l)
  | em =>
    refine ⟨.str "empty", atI_nat (j := 0) rfl, okw, by decide +kernel, ?_⟩
    rw [show eqD (.str "empty") (.str "then") = false by decide +kernel]
    refine ⟨.str "empty", atI_nat (j := 0) rfl, okw, by decide +kernel, ?_⟩
    rw [show eqD (.str "empty") (.str "or") = false by decide +kernel]
    refine ⟨.str "empty", atI_nat (j := 0) rfl, okw, by decide +kernel, ?_⟩
    rw [show eqD (.str "empty") (.str "empty") = true by decide +kernel]
    exact q _
  | th a b =>
    have q1 : ∀ ss, R (.val (oD (match only a, only b with | some u, some v => some (u ++ v) | _, _ => Option.none))) ss := q
    have la := le a (by simp [pts])
    have lb := le b (by simp [pts])
    refine ⟨.str "then", atI_nat (j := 0) rfl, okw, by decide +kernel, ?_⟩
    rw [show eqD (.str "then") (.str "then") = true by decide +kernel]
    refine ⟨rfl, okL, ?_⟩
    show (if (true ^^ (eqD (oD (only a)) (oD Option.none) || (eqD (oD (only b)) (oD Option.none) || false))) = true then _ else _)
    rw [eq_oD, eq_oD]
    cases ea : only a with
    | none =>
      rw [ea] at q1
      refine ⟨.str "then", atI_nat (j := 0) rfl, okw, by decide +kernel, ?_⟩
      rw [show eqD (.str "then") (.str "or") = false by decide +kernel]
      refine ⟨.str "then", atI_nat (j := 0) rfl, okw, by decide +kernel, ?_⟩
      rw [show eqD (.str "then") (.str "empty") = false by decide +kernel]
      refine ⟨.str "then", atI_nat (j := 0) rfl, by show 3 ≤ _; omega, okw, by decide +kernel, ?_⟩
      rw [show (false ^^ [D.str "again", D.str "more", D.str "maybe"].any fun z => eqD z (.str "then")) = false by decide +kernel]
      exact q1 _
    | some u =>
      cases eb : only b with
      | none =>
        rw [ea, eb] at q1
        refine ⟨.str "then", atI_nat (j := 0) rfl, okw, by decide +kernel, ?_⟩
        rw [show eqD (.str "then") (.str "or") = false by decide +kernel]
        refine ⟨.str "then", atI_nat (j := 0) rfl, okw, by decide +kernel, ?_⟩
        rw [show eqD (.str "then") (.str "empty") = false by decide +kernel]
        refine ⟨.str "then", atI_nat (j := 0) rfl, by show 3 ≤ _; omega, okw, by decide +kernel, ?_⟩
        rw [show (false ^^ [D.str "again", D.str "more", D.str "maybe"].any fun z => eqD z (.str "then")) = false by decide +kernel]
        exact q1 _
      | some v =>
        rw [ea, eb] at q1
        refine ⟨oD (only a), atI_nat (j := 0) rfl, oD (only b), atI_nat (j := 1) rfl, ?_⟩
        rw [ea, eb]
        refine ⟨?_, ?_⟩
        · have := la u ea; have := lb v eb; omega
        · rw [toS_app]; exact q1 _
  | or a b =>
    have q1 : ∀ ss, R (.val (oD (if only a = only b then only a else Option.none))) ss := q
    refine ⟨.str "or", atI_nat (j := 0) rfl, okw, by decide +kernel, ?_⟩
    rw [show eqD (.str "or") (.str "then") = false by decide +kernel]
    refine ⟨.str "or", atI_nat (j := 0) rfl, okw, by decide +kernel, ?_⟩
    rw [show eqD (.str "or") (.str "or") = true by decide +kernel]
    refine ⟨_, atI_nat (j := 0) rfl, _, atI_nat (j := 1) rfl, oko a (by simp [pts]), oko b (by simp [pts]), ?_⟩
    rw [eq_oD]
    by_cases e : only a = only b
    · rw [if_pos e] at q1
      rw [decide_eq_true e]
      exact ⟨_, atI_nat (j := 0) rfl, q1 _⟩
    · rw [if_neg e] at q1
      rw [decide_eq_false e]
      refine ⟨.str "or", atI_nat (j := 0) rfl, okw, by decide +kernel, ?_⟩
      rw [show eqD (.str "or") (.str "empty") = false by decide +kernel]
      refine ⟨.str "or", atI_nat (j := 0) rfl, by show 3 ≤ _; omega, okw, by decide +kernel, ?_⟩
      rw [show (false ^^ [D.str "again", D.str "more", D.str "maybe"].any fun z => eqD z (.str "or")) = false by decide +kernel]
      exact q1 _
  | ag a =>
    have q1 : ∀ ss, R (.val (oD (if only a = some [] then some [] else Option.none))) ss := q
    refine ⟨.str "again", atI_nat (j := 0) rfl, okw, by decide +kernel, ?_⟩
    rw [show eqD (.str "again") (.str "then") = false by decide +kernel]
    refine ⟨.str "again", atI_nat (j := 0) rfl, okw, by decide +kernel, ?_⟩
    rw [show eqD (.str "again") (.str "or") = false by decide +kernel]
    refine ⟨.str "again", atI_nat (j := 0) rfl, okw, by decide +kernel, ?_⟩
    rw [show eqD (.str "again") (.str "empty") = false by decide +kernel]
    refine ⟨.str "again", atI_nat (j := 0) rfl, by show 3 ≤ _; omega, okw, by decide +kernel, ?_⟩
    rw [show (false ^^ [D.str "again", D.str "more", D.str "maybe"].any fun z => eqD z (.str "again")) = true by decide +kernel]
    refine ⟨by show 1 ≤ _; omega, okL, by decide +kernel, ?_⟩
    show (if (eqD (oD (only a)) (oD (some [])) && true) = true then _ else _)
    rw [eq_oD, Bool.and_true]
    by_cases e : only a = some []
    · rw [if_pos e] at q1
      rw [decide_eq_true e]
      exact q1 _
    · rw [if_neg e] at q1
      rw [decide_eq_false e]
      exact q1 _
  | mo a =>
    have q1 : ∀ ss, R (.val (oD (if only a = some [] then some [] else Option.none))) ss := q
    refine ⟨.str "more", atI_nat (j := 0) rfl, okw, by decide +kernel, ?_⟩
    rw [show eqD (.str "more") (.str "then") = false by decide +kernel]
    refine ⟨.str "more", atI_nat (j := 0) rfl, okw, by decide +kernel, ?_⟩
    rw [show eqD (.str "more") (.str "or") = false by decide +kernel]
    refine ⟨.str "more", atI_nat (j := 0) rfl, okw, by decide +kernel, ?_⟩
    rw [show eqD (.str "more") (.str "empty") = false by decide +kernel]
    refine ⟨.str "more", atI_nat (j := 0) rfl, by show 3 ≤ _; omega, okw, by decide +kernel, ?_⟩
    rw [show (false ^^ [D.str "again", D.str "more", D.str "maybe"].any fun z => eqD z (.str "more")) = true by decide +kernel]
    refine ⟨by show 1 ≤ _; omega, okL, by decide +kernel, ?_⟩
    show (if (eqD (oD (only a)) (oD (some [])) && true) = true then _ else _)
    rw [eq_oD, Bool.and_true]
    by_cases e : only a = some []
    · rw [if_pos e] at q1
      rw [decide_eq_true e]
      exact q1 _
    · rw [if_neg e] at q1
      rw [decide_eq_false e]
      exact q1 _
  | mb a =>
    have q1 : ∀ ss, R (.val (oD (if only a = some [] then some [] else Option.none))) ss := q
    refine ⟨.str "maybe", atI_nat (j := 0) rfl, okw, by decide +kernel, ?_⟩
    rw [show eqD (.str "maybe") (.str "then") = false by decide +kernel]
    refine ⟨.str "maybe", atI_nat (j := 0) rfl, okw, by decide +kernel, ?_⟩
    rw [show eqD (.str "maybe") (.str "or") = false by decide +kernel]
    refine ⟨.str "maybe", atI_nat (j := 0) rfl, okw, by decide +kernel, ?_⟩
    rw [show eqD (.str "maybe") (.str "empty") = false by decide +kernel]
    refine ⟨.str "maybe", atI_nat (j := 0) rfl, by show 3 ≤ _; omega, okw, by decide +kernel, ?_⟩
    rw [show (false ^^ [D.str "again", D.str "more", D.str "maybe"].any fun z => eqD z (.str "maybe")) = true by decide +kernel]
    refine ⟨by show 1 ≤ _; omega, okL, by decide +kernel, ?_⟩
    show (if (eqD (oD (only a)) (oD (some [])) && true) = true then _ else _)
    rw [eq_oD, Bool.and_true]
    by_cases e : only a = some []
    · rw [if_pos e] at q1
      rw [decide_eq_true e]
      exact q1 _
    · rw [if_neg e] at q1
      rw [decide_eq_false e]
      exact q1 _
theorem ok_lonly (T : Tx K w mg) : ∀ k : Nat, FnOk P w K mg base CX0 (k + 1) T.aLonly T.fLonly ["mould"] (PSp K 1 (uLonly k))
  | 0 => lonly_step T 0 no_pure
  | k + 1 => lonly_step T (k + 1) (ok_lonly T k)
end
end K01
set_option maxRecDepth 100000
set_option maxHeartbeats 1000000
namespace K01
open PySem PySem.Spec PyProof.Rows L2 Yard YP
section
variable {P : Program} {w : World} {K : PySem.W.Frag} {mg : Str → Option Value} {base : Heap}
theorem ru0 {k : Nat} {A : Around} (hr : Room k A) : A.units < cLine := by have := hr.un; omega
/-! ### rows of signs, with what is due behind them -/
def prD (x : List Nat × List (List Pa)) : D := .tup [.str (toS x.1), lD x.2]
def sgD (c : Nat) : D := .str ⟨#[c]⟩
structure Lev (p : Pa) (n : Nat) (x : List Nat × List (List Pa)) : Prop where
  due : Due p x.2
  sp : ∀ w, (∃ t ∈ x.2, LgR t w) ↔ Lg p (x.1 ++ w)
  len : x.1.length ≤ n
def uLonger : UF := fun ρ R => ∃ (p : Pa) (n : Nat) (lv : List (List Nat × List (List Pa))) (pool : List Nat), ρ = [dat (.lst (lv.map prD)), dat (.lst (pool.map sgD))] ∧ Pw p ∧ n ≤ 20000 ∧ (∀ x ∈ lv, Lev p n x) ∧ lv.length ≤ 60 ∧ pool.length ≤ 12 ∧
  ∀ (lv' : List (List Nat × List (List Pa))) ss, (∀ x ∈ lv', Lev p (n + 1) x) → lv'.length ≤ 60 → R (.own (.lst (lv'.map prD))) ss
theorem map_at {α : Type} {f : α → D} {xs : List α} {i : Nat} {d : D} (h : (xs.map f)[i]? = some d) : ∃ x, x ∈ xs ∧ d = f x := by
  rw [List.getElem?_map] at h
  obtain ⟨y, e, rfl⟩ := Option.map_eq_some_iff.mp h
  exact ⟨y, List.mem_of_getElem? e, rfl⟩
theorem pcLonger : FnScope ["level", "pool", "found", "row", "owes", "sign", "pair"] ["level", "pool"] (defScope sLonger) := ⟨rfl, rfl, rfl, by decide +kernel, rfl, by decide +kernel, by decide +kernel⟩
theorem pkLonger (T : Tx K w mg) : FnOk P w K mg base CX0 3 T.aLonger T.fLonger ["level", "pool"] (PSp K 2 uLonger) := by
  refine fn_mk T.longer.fn pcLonger (by decide) fun cdv A outer s H E hr => ?_
  refine ⟨_, (fb_cons (fs_set (ps_set (i := 2) pcLonger.nd rfl (.inl rfl) pe_S) (fe_lst fa_nil))
      (fb_cons (fs_for PassesOwn.never rfl (fi_list (fv 0)) (fg_tup rfl (fgs_cons (fg_name (pg_name (i := 3) pcLonger.nd rfl (.inr rfl))) (fgs_cons (fg_name (pg_name (i := 4) pcLonger.nd rfl (.inr rfl))) fgs_nil)))
      (fb_one (fs_expr (fe_mu (mu_extend rfl) PySem.F.slot_list_extend PySem.F.type_list_extend (fv 2) (fa_cons (fe_lc rfl pcLonger.nd (fi_list (fv 1)) (blkOk_by (own := [("sign", 5)]) (N := ["level", "pool", "found", "row", "owes", "sign", "pair"]) (sc := defScope sLonger) (by decide +kernel)) (fun _ _ _ _ _ => (fg_name (pg_name (i := 5) pcLonger.nd rfl (.inl rfl)) (by intro l e; cases e; decide +kernel))) (fun _ _ _ _ _ => fts_nil) (fun _ _ _ _ _ => (fe_tup (fa_cons (fe_op os_add (fv 3) (fv 5)) (fa_cons (fe_call (pkLed T) (hr.mono (by omega)) (by rfl) T.led.at_ T.led.kp T.led.bd (fr_val (fv 4) (fr_val (fv 5) fr_nil))) fa_nil))))) fa_nil)))))
      (fb_one (fs_ret (fe_sl (fe_lc rfl pcLonger.nd (fi_list (fv 2)) (blkOk_by (own := [("pair", 6)]) (N := ["level", "pool", "found", "row", "owes", "sign", "pair"]) (sc := defScope sLonger) (by decide +kernel)) (fun _ _ _ _ _ => (fg_name (pg_name (i := 6) pcLonger.nd rfl (.inl rfl)) (by intro l e; cases e; decide +kernel))) (fun _ _ _ _ _ => (fts_one (ft_cmp (os_ne (ru hr)) (fe_ix (fv 6) fe_int) (fe_lst fa_nil)))) (fun _ _ _ _ _ => (fv 6))) fo_no (fo_int fe_int)))))), fun ρ R hl h => ?_⟩
  -- slots: 0 level, 1 pool, 2 found, 3 row, 4 owes, 5 sign, 6 pair
  obtain ⟨p, n, lv, pool, rfl, pw, hn, hlv, few, fp, q⟩ := h
  have sz : 2000000 ≤ sizeLine := by rw [sizeLine_eq]; decide
  refine ⟨by show 0 ≤ _; omega, ?_⟩
  refine ⟨fun t ρ => ∃ l s3 s4 s5, ρ = [.sl false true (.lst (lv.map prD)), .sl false true (.lst (pool.map sgD)), own (.lst (l.map prD)), s3, s4, s5, .un] ∧ (∀ x ∈ l, Lev p (n + 1) x) ∧ l.length ≤ 12 * t, ⟨[], _, _, _, rfl, (fun _ h => nomatch h), Nat.le_refl _⟩, ?_, ?_⟩
  · rintro t d ρ ht ⟨l, s3, s4, s5, rfl, hl2, lt⟩
    have tl : t < 60 := Nat.lt_of_lt_of_le (List.getElem?_eq_some_iff.mp ht).1 (by rw [List.length_map]; exact few)
    obtain ⟨⟨row, ow⟩, xin, rfl⟩ := map_at ht
    have hx := hlv _ xin
    have hr1 : row.length ≤ n := hx.len
    refine ⟨rfl, ?_⟩
    refine ⟨fun i acc ρ => ∃ m, acc = m.map prD ∧ (∀ x ∈ m, Lev p (n + 1) x) ∧ m.length = i ∧ ρ = [.sl false true (.lst (lv.map prD)), .sl false true (.lst (pool.map sgD)), own (.lst (l.map prD)), dat (.str (toS row)), dat (lD ow), .un, .un], ⟨[], rfl, (fun _ h => nomatch h), rfl, rfl⟩, ?_, ?_, ?_⟩
    · rintro i d acc ρ hi ⟨m, rfl, hm, lm, rfl⟩
      have il : i < 12 := Nat.lt_of_lt_of_le (List.getElem?_eq_some_iff.mp hi).1 (by rw [List.length_map]; exact fp)
      obtain ⟨c, cin, rfl⟩ := map_at hi
      refine ⟨?_, List.nodup_nil, p, ow, [c], rfl, pw, hx.due, fun ow' r ss d2 sp hr2 => ?_⟩
      · show (toS row).length + 1 ≤ _
        rw [toS_len]; omega
      have lev : Lev p (n + 1) (row ++ [c], ow') := ⟨d2, fun w => by
        rw [sp w]
        show (∃ t ∈ ow, LgR t (c :: w)) ↔ Lg p (row ++ [c] ++ w)
        rw [hx.sp (c :: w), List.append_assoc]; rfl, by show (row ++ [c]).length ≤ _; rw [List.length_append]; show row.length + 1 ≤ _; omega⟩
      have fin2 : ∃ m' : List (List Nat × List (List Pa)), m.map prD ++ [D.tup [.str (toS row ++ ⟨#[c]⟩), lD ow']] = m'.map prD ∧ (∀ x ∈ m', Lev p (n + 1) x) ∧ m'.length = i + 1 ∧ [Sl.sl false true (.lst (lv.map prD)), .sl false true (.lst (pool.map sgD)), own (.lst (l.map prD)), dat (.str (toS row)), dat (lD ow), .un, .un] = [Sl.sl false true (.lst (lv.map prD)), .sl false true (.lst (pool.map sgD)), own (.lst (l.map prD)), dat (.str (toS row)), dat (lD ow), .un, .un] := by
        refine ⟨m ++ [(row ++ [c], ow')], ?_, fun x hx => ?_, by rw [List.length_append, lm]; rfl, rfl⟩
        · rw [List.map_append]
          show _ = _ ++ [D.tup [.str (toS (row ++ [c])), lD ow']]
          rw [← toS_app]; rfl
        · rcases List.mem_append.mp hx with h | h
          · exact hm x h
          · rw [List.mem_singleton.mp h]; exact lev
      have ml : (m.map prD).length < sizeLine := by rw [List.length_map]; omega
      rcases hr2 with rfl | rfl
      · dsimp only
        rw [wb_no (rs := [.val (lD ow), .val (sgD c)]) ss rfl]
        exact ⟨by show 2 ≤ _; omega, ml, fin2⟩
      · dsimp only
        rw [wb_no (rs := [.val (lD ow), .val (sgD c)]) ss rfl]
        exact ⟨by show 2 ≤ _; omega, ml, fin2⟩
    · rintro i acc ρ ⟨m, _, _, _, rfl⟩
      exact ⟨_, (rfl : _ = YP.wipeS [.sl false true (.lst (lv.map prD)), .sl false true (.lst (pool.map sgD)), own (.lst (l.map prD)), dat (.str (toS row)), dat (lD ow), .un, .un] [5])⟩
    · rintro acc ρ ⟨m, rfl, hm, lm, rfl⟩
      rw [List.length_map] at lm
      refine ⟨by rw [List.length_map, List.length_map]; omega, l ++ m, dat (.str (toS row)), dat (lD ow), .un, ?_, fun x hx => (List.mem_append.mp hx).elim (hl2 x) (hm x), by rw [List.length_append]; omega⟩
      rw [List.map_append]; rfl
  · rintro ρ ⟨l, s3, s4, s5, rfl, hl2, lt⟩
    rw [List.length_map] at lt
    refine ⟨fun i acc ρ => ∃ m, acc = m.map prD ∧ (∀ x ∈ m, Lev p (n + 1) x) ∧ m.length ≤ i ∧ ρ = [.sl false true (.lst (lv.map prD)), .sl false true (.lst (pool.map sgD)), dat (.lst (l.map prD)), s3, s4, s5, .un], ⟨[], rfl, (fun _ h => nomatch h), Nat.le_refl _, rfl⟩, ?_, ?_, ?_⟩
    · rintro i d acc ρ hi ⟨m, rfl, hm, lm, rfl⟩
      have il : i < 720 := Nat.lt_of_lt_of_le (List.getElem?_eq_some_iff.mp hi).1 (by rw [List.length_map]; omega)
      obtain ⟨⟨row, ow⟩, xin, rfl⟩ := map_at hi
      have hx := hl2 _ xin
      have okl : okD (lD ow) = true := (okN_lD (n := 40) fun x hx2 => cla_ok p pw.low pw.dp x (hx.due.inU x hx2)).ok (by decide)
      refine ⟨lD ow, atI_nat (j := 1) rfl, by show 0 ≤ _; omega, okl, rfl, ?_⟩
      rw [eq_nil]
      by_cases e : ow = []
      · rw [decide_eq_true e]
        exact ⟨m, rfl, hm, by omega, rfl⟩
      · rw [decide_eq_false e]
        refine ⟨by rw [List.length_map]; omega, m ++ [(row, ow)], by rw [List.map_append]; rfl, fun x hx3 => ?_, by rw [List.length_append]; show m.length + 1 ≤ _; omega, rfl⟩
        rcases List.mem_append.mp hx3 with h | h
        · exact hm x h
        · rw [List.mem_singleton.mp h]; exact hx
    · rintro i acc ρ ⟨m, _, _, _, rfl⟩
      exact ⟨_, (rfl : _ = YP.wipeS [.sl false true (.lst (lv.map prD)), .sl false true (.lst (pool.map sgD)), dat (.lst (l.map prD)), s3, s4, s5, .un] [6])⟩
    · rintro acc ρ ⟨m, rfl, hm, lm, rfl⟩
      have e : YP.cut (m.map prD) none (some 60) = (m.take 60).map prD := by
        rw [List.map_take]; exact ycut_to _ 60
      show R (.own (.lst (YP.cut (m.map prD) none (some 60)))) _
      rw [e]
      exact q _ _ (fun x hx => hm x (List.mem_of_mem_take hx)) (by rw [List.length_take]; omega)
def uLessr : UF := fun ρ R => ∃ (p : Pa) (pool line : List Nat), ρ = [dat (pD p), dat (.lst (pool.map sgD)), dat (.str (toS line))] ∧ Pw p ∧ pool.length ≤ 12 ∧ line.length ≤ 10000 ∧ (∀ w, Lg p w → ¬ sl w line) ∧ ∀ ss, R (.val (.bl false)) ss
theorem pcLessr : FnScope ["mould", "pool", "line", "level", "lap", "row", "owes"] ["mould", "pool", "line"] (defScope sLessr) := ⟨rfl, rfl, rfl, by decide +kernel, rfl, by decide +kernel, by decide +kernel⟩
theorem pkLessr (T : Tx K w mg) : FnOk P w K mg base CX0 4 T.aLessr T.fLessr ["mould", "pool", "line"] (PSp K 3 uLessr) := by
  refine fn_mk T.lessr.fn pcLessr (by decide) fun cdv A outer s H E hr => ?_
  refine ⟨_, (fb_cons (fs_set (ps_set (i := 3) pcLessr.nd rfl (.inl rfl) pe_S) (fe_lst (fa_cons (fe_tup (fa_cons fe_str (fa_cons (fe_call (pkOpened T) (hr.mono (by omega)) (by rfl) T.opened.at_ T.opened.kp T.opened.bd (fr_ref (fe_lst (fa_cons (fe_tup (fa_cons (fv 0) fa_nil)) fa_nil)) fr_nil)) fa_nil))) fa_nil)))
      (fb_cons (fs_for PassesOwn.never rfl (fi_range1 (by rfl) T.bRange (fa_cons (fe_op os_add (fe_b cb_len (by rfl) T.len (by decide +kernel) (fr_ref (fv 2) fr_nil)) fe_int) fa_nil)) (fg_name (pg_name (i := 4) pcLessr.nd rfl (.inl rfl)))
      (fb_cons (fs_for PassesOwn.never rfl (fi_list (fv 3)) (fg_tup rfl (fgs_cons (fg_name (pg_name (i := 5) pcLessr.nd rfl (.inl rfl))) (fgs_cons (fg_name (pg_name (i := 6) pcLessr.nd rfl (.inl rfl))) fgs_nil)))
      (fb_one (fs_if (FW.ft (fw_and (ft_cmp (os_in (rv hr)) (fe_tup fa_nil) (fv 6)) (fw_and1 (ft_cmp (os_ltIS (ru0 hr)) (fe_tup (fa_cons (fe_b cb_len (by rfl) T.len (by decide +kernel) (fr_ref (fv 5) fr_nil)) (fa_cons (fv 5) fa_nil))) (fe_tup (fa_cons (fe_b cb_len (by rfl) T.len (by decide +kernel) (fr_ref (fv 2) fr_nil)) (fa_cons (fv 2) fa_nil)))))))
      (fb_one (fs_ret fe_bl))
      fb_nil)))
      (fb_one (fs_set (ps_set (i := 3) pcLessr.nd rfl (.inl rfl) pe_S) (fe_call (pkLonger T) (hr.mono (by omega)) (by rfl) T.longer.at_ T.longer.kp T.longer.bd (fr_val (fv 3) (fr_val (fv 1) fr_nil)))))))
      (fb_one (fs_ret fe_bl)))), fun ρ R hl h => ?_⟩
  -- slots: 0 mould, 1 pool, 2 line, 3 level, 4 lap, 5 row, 6 owes
  obtain ⟨p, pool, line, rfl, pw, fp, hll, hno, q⟩ := h
  have sz : 2000000 ≤ sizeLine := by rw [sizeLine_eq]; decide
  refine ⟨by show 1 ≤ _; omega, by show 1 ≤ _; omega, List.nodup_nil, p, [[p]], rfl, pw, fun x hx => by rw [List.mem_singleton.mp hx]; exact cla_self p, by show 1 ≤ 400000; omega, fun seen found I => ?_⟩
  obtain ⟨k1, k2⟩ := due_start pw I
  refine ⟨by show 2 ≤ _; omega, by show 1 ≤ _; omega, ?_⟩
  have ll : (toS line).length = line.length := toS_len _
  refine ⟨by rw [ll]; omega, ?_, ?_, ?_⟩
  · show -2 ^ 62 ≤ (((toS line).length : Nat) : Int) + 1
    omega
  · show (((toS line).length : Nat) : Int) + 1 < 2 ^ 62
    rw [ll]; omega
  have ln : (((toS line).length : Nat) : Int) + 1 = ((line.length + 1 : Nat) : Int) := by rw [ll]; omega
  refine ⟨fun t ρ => ∃ lv s3 s4 s5 s6, ρ = [.sl false true (pD p), .sl false true (.lst (pool.map sgD)), .sl false true (.str (toS line)), s3, s4, s5, s6] ∧ (s3 = own (.lst (lv.map prD)) ∨ s3 = dat (.lst (lv.map prD))) ∧ (∀ x ∈ lv, Lev p t x) ∧ lv.length ≤ 60, ⟨[([], found)], _, _, _, _, rfl, .inl rfl, fun x hx => ?_, by show 1 ≤ 60; omega⟩, ?_, ?_⟩
  · rw [List.mem_singleton.mp hx]
    exact ⟨k1, fun w => k2 w, Nat.le_refl _⟩
  · rintro t d ρ ht ⟨lv, s3, s4, s5, s6, rfl, h3, hlv, few⟩
    have tl : t ≤ line.length := by
      have := (List.getElem?_eq_some_iff.mp ht).1
      unfold intsD at this
      rw [List.length_map, List.length_range] at this
      have e2 : ((((toS line).length : Nat) : Int) + 1).toNat = line.length + 1 := by rw [ln]; exact Int.toNat_natCast _
      have : t < ((((toS line).length : Nat) : Int) + 1).toNat := this
      omega
    have go : ∀ b : Bool, uSeq (uFor (uItL (uVar 3)) (uGTup 2 (uGCons (uName 5) (uGCons (uName 6) uGNil))) (uIfS (uAnd (fun ρ R => uBin (oIn false) (uTup uNil) (uVar 6) ρ (isB R)) (fun ρ R => uBin oLtIS (uTup (uCons (uB oLen (uRRef (uVar 5) uRNil)) (uCons (uVar 5) uNil))) (uTup (uCons (uB oLen (uRRef (uVar 2) uRNil)) (uCons (uVar 2) uNil))) ρ (isB R))) (uRet (uC (.bl true))) uNext)) (uSet 3 (uCall uLonger (uRVal (uVar 3) (uRVal (uVar 1) uRNil)))) = uSeq (uFor (uItL (uVar 3)) (uGTup 2 (uGCons (uName 5) (uGCons (uName 6) uGNil))) (uIfS (uAnd (fun ρ R => uBin (oIn false) (uTup uNil) (uVar 6) ρ (isB R)) (fun ρ R => uBin oLtIS (uTup (uCons (uB oLen (uRRef (uVar 5) uRNil)) (uCons (uVar 5) uNil))) (uTup (uCons (uB oLen (uRRef (uVar 2) uRNil)) (uCons (uVar 2) uNil))) ρ (isB R))) (uRet (uC (.bl true))) uNext)) (uSet 3 (uCall uLonger (uRVal (uVar 3) (uRVal (uVar 1) uRNil)))) := fun _ => rfl
    clear go
    rcases h3 with rfl | rfl
    all_goals
      refine ⟨fun i ρ => ∃ s5 s6, ρ = [.sl false true (pD p), .sl false true (.lst (pool.map sgD)), .sl false true (.str (toS line)), dat (.lst (lv.map prD)), dat d, s5, s6], ⟨_, _, rfl⟩, ?_, ?_⟩
      · rintro i d2 ρ hi ⟨s5, s6, rfl⟩
        obtain ⟨⟨row, ow⟩, xin, rfl⟩ := map_at hi
        have hx := hlv _ xin
        have okl : okD (lD ow) = true := (okN_lD (n := 40) fun x hx2 => cla_ok p pw.low pw.dp x (hx.due.inU x hx2)).ok (by decide)
        refine ⟨rfl, by show 0 ≤ _; omega, rfl, okl, ?_⟩
        rw [show (D.tup []) = wD [] from rfl, any_wD (n := 40) fun y hy => cla_ok p pw.low pw.dp y (hx.due.inU y hy)]
        by_cases e : ([] : List Pa) ∈ ow
        · rw [decide_eq_true e]
          have lg : Lg p row := by
            have := (hx.sp []).mp ⟨[], e, rfl⟩
            rwa [List.append_nil] at this
          have rl : (toS row).length = row.length := toS_len _
          have rn : row.length ≤ t := hx.len
          refine ⟨by rw [rl]; omega, by show 2 ≤ _; omega, by rw [ll]; omega, by show 2 ≤ _; omega, ?_⟩
          have ns := hno row lg
          have lt : (if (((toS row).length : Nat) : Int) = (((toS line).length : Nat) : Int) then decide ((toS row).cps.toList < (toS line).cps.toList) else decide ((((toS row).length : Nat) : Int) < (((toS line).length : Nat) : Int))) = false := by
            rw [rl, ll, toS_cps, toS_cps]
            by_cases e2 : row.length = line.length
            · rw [if_pos (by rw [e2])]
              exact decide_eq_false fun h => ns (.inr ⟨e2, h⟩)
            · rw [if_neg (by omega)]
              exact decide_eq_false fun h => ns (.inl (by omega))
          show (if (if (((toS row).length : Nat) : Int) = (((toS line).length : Nat) : Int) then decide ((toS row).cps.toList < (toS line).cps.toList) else decide ((((toS row).length : Nat) : Int) < (((toS line).length : Nat) : Int))) = true then _ else _)
          rw [lt]
          exact ⟨_, _, rfl⟩
        · rw [decide_eq_false e]
          exact ⟨_, _, rfl⟩
      · rintro ρ ⟨s5, s6, rfl⟩
        refine ⟨List.nodup_nil, p, t, lv, pool, rfl, pw, by omega, hlv, few, fp, fun lv' ss h1 h2 => ?_⟩
        dsimp only
        rw [wb_no (rs := [.val (.lst (lv.map prD)), .val (.lst (pool.map sgD))]) ss rfl]
        exact ⟨lv', _, _, _, _, rfl, .inl rfl, h1, h2⟩
  · rintro ρ ⟨lv, s3, s4, s5, s6, rfl, _⟩
    exact q _
end
end K01
set_option maxRecDepth 100000
set_option maxHeartbeats 1000000
namespace K01
open PySem PySem.Spec PyProof.Rows L2 Yard YP
section
variable {P : Program} {w : World} {K : PySem.W.Frag} {mg : Str → Option Value} {base : Heap}
/-! ### the signs of a rack -/
theorem nod_pts : ∀ p : Pa, (∀ l, p ≠ .sg l) → ((pts p).map nod).sum + 1 = nod p := fun p n => by
  cases p with
  | sg l => exact absurd rfl (n l)
  | em => rfl
  | th a b => simp [pts, nod]
  | or a b => simp [pts, nod]
  | ag a => simp [pts, nod]
  | mo a => simp [pts, nod]
  | mb a => simp [pts, nod]
def fl (p : Pa) : Nat := (sgs p).flatten.length
theorem fl_pts : ∀ p : Pa, (∀ l, p ≠ .sg l) → ((pts p).map fl).sum = fl p := fun p n => by
  cases p with
  | sg l => exact absurd rfl (n l)
  | em => rfl
  | th a b => simp [pts, fl, sgs]
  | or a b => simp [pts, fl, sgs]
  | ag a => simp [pts, fl, sgs]
  | mo a => simp [pts, fl, sgs]
  | mb a => simp [pts, fl, sgs]
theorem nod_pos (p : Pa) : 1 ≤ nod p := by cases p <;> simp [nod]
theorem nod_len : ∀ l : List Pa, l.length ≤ (l.map nod).sum
  | [] => Nat.le_refl _
  | p :: l => by
    have := nod_pos p
    have := nod_len l
    simp only [List.map_cons, List.sum_cons, List.length_cons]
    omega
def allL : List Nat := allS.cps.toList
theorem allL_low : ∀ c ∈ allL, c < 128 := by
  have h : allL.all (fun c => decide (c < 128)) = true := by decide +kernel
  exact fun c hc => of_decide_eq_true (List.all_eq_true.mp h c hc)
theorem allL_len : allL.length ≤ 200 ∧ 0 < allL.length := by
  have h : decide (allL.length ≤ 200 ∧ 0 < allL.length) = true := by decide +kernel
  exact of_decide_eq_true h
theorem ok_sgD {c : Nat} (h : c < 128) : OkN 0 (sgD c) := okN_str (str_ok (l := [c]) fun d hd => by rw [List.mem_singleton.mp hd]; exact h)
theorem eq_sgD (c d : Nat) : eqD (sgD c) (sgD d) = decide (c = d) := by
  show (one c == one d) = _
  by_cases e : c = d
  · subst e; simp
  · rw [decide_eq_false e, beq_eq_false_iff_ne]
    exact fun z => e (oneI _ _ z)
theorem any_sgD (c : Nat) : ∀ cs : List Nat, ((cs.map sgD).any fun z => eqD z (sgD c)) = decide (c ∈ cs)
  | [] => rfl
  | d :: cs => by
    show (eqD (sgD d) (sgD c) || (cs.map sgD).any fun z => eqD z (sgD c)) = _
    rw [eq_sgD, any_sgD c cs]
    by_cases e : d = c
    · subst e; simp
    · by_cases k : c ∈ cs
      · simp [k]
      · have e2 : ¬ c = d := fun z => e z.symm
        simp [k, e, e2]
theorem eq_pnil {xs : List Pa} : eqD (.lst (xs.map pD)) (.lst []) = decide (xs = []) := by
  cases xs with
  | nil => rfl
  | cons x xs => rfl
def uPool : UF := fun ρ R => ∃ (p : Pa), ρ = [dat (.lst [.tup [.str "a", pD p, .bl false]])] ∧ Pw p ∧ fl p ≤ 60 ∧ ∀ (l : List Nat) ss, l ≠ [] → l.length ≤ 300 → (∀ c ∈ l, c < 128) → R (.own (.lst (l.map sgD))) ss
theorem pcPool : FnScope ["rack", "todo", "found", "mould", "name", "skips", "sign"] ["rack"] (defScope sPool) := ⟨rfl, rfl, rfl, by decide +kernel, rfl, by decide +kernel, by decide +kernel⟩
theorem pkPool (T : Tx K w mg) : FnOk P w K mg base CX0 2 T.aPool T.fPool ["rack"] (PSp K 1 uPool) := by
  refine fn_mk T.pool.fn pcPool (by decide) fun cdv A outer s H E hr => ?_
  refine ⟨_, (fb_cons (fs_setLc (i := 1) rfl pcPool.nd rfl rfl (sw_true rfl rfl rfl (by decide +kernel)) (fi_list (fv 0)) (blkOk_by (own := [("name", 4), ("mould", 3), ("skips", 5)]) (N := ["rack", "todo", "found", "mould", "name", "skips", "sign"]) (sc := defScope sPool) (by decide +kernel)) (fun _ _ _ _ _ => (fg_tup (n := 3) rfl (fgs_cons (fg_name (pg_name (i := 4) pcPool.nd rfl (.inl rfl)) (by intro l e; cases e; decide +kernel)) (fgs_cons (fg_name (pg_name (i := 3) pcPool.nd rfl (.inl rfl)) (by intro l e; cases e; decide +kernel)) (fgs_cons (fg_name (pg_name (i := 5) pcPool.nd rfl (.inl rfl)) (by intro l e; cases e; decide +kernel)) fgs_nil))))) (fun _ _ _ _ _ => fts_nil) (fun _ _ _ _ _ => (fv 3)))
      (fb_cons (fs_set (ps_set (i := 2) pcPool.nd rfl (.inr rfl) pe_S) (fe_lst fa_nil))
      (fb_cons (fs_while PassesOwn.never (ft_cmp (os_ne (ru hr)) (fv 1) (fe_lst fa_nil))
      (fb_cons (fs_set (ps_set (i := 3) pcPool.nd rfl (.inl rfl) pe_S) (fe_mu0 mu_pop PySem.F.slot_list_pop PySem.F.type_list_pop (fv 1)))
      (fb_one (fs_if (ft_cmp (os_eq (ru hr)) (fe_ix (fv 3) fe_int) fe_str)
      (fb_one (fs_expr (fe_mu (mu_extend rfl) PySem.F.slot_list_extend PySem.F.type_list_extend (fv 2) (fa_cons (fe_ix (fv 3) fe_int) fa_nil))))
      (fb_one (fs_expr (fe_mu (mu_extend rfl) PySem.F.slot_list_extend PySem.F.type_list_extend (fv 1) (fa_cons (fe_sl (fv 3) (fo_int fe_int) fo_no) fa_nil))))))))
      (fb_one (fs_ret (fe_op os_add (fe_setsorted rfl (by rfl) T.bSorted (by rfl) T.bSet (fr_ref (fv 2) fr_nil)) (fe_sl (fe_lc rfl pcPool.nd (fi_str (fe_call0c (v := .str allS) (d := .str allS) (ok_all T) (hr.mono (by omega)) (by rfl) T.all.at_ T.all.kp T.all.bd pass0 (fun H Q q => ⟨rfl, q⟩) (fun _ => .str _))) (blkOk_by (own := [("sign", 6)]) (N := ["rack", "todo", "found", "mould", "name", "skips", "sign"]) (sc := defScope sPool) (by decide +kernel)) (fun _ _ _ _ _ => (fg_name (pg_name (i := 6) pcPool.nd rfl (.inl rfl)) (by intro l e; cases e; decide +kernel))) (fun _ _ _ _ _ => (fts_one (ft_cmp (os_notin (rv hr)) (fv 6) (fv 2)))) (fun _ _ _ _ _ => (fv 6))) fo_no (fo_int fe_int)))))))), fun ρ R hl h => ?_⟩
  -- slots: 0 rack, 1 todo, 2 found, 3 mould, 4 name, 5 skips, 6 sign
  obtain ⟨p, rfl, pw, hf, q⟩ := h
  have sz : 2000000 ≤ sizeLine := by rw [sizeLine_eq]; decide
  refine ⟨fun i acc ρ => acc = [pD p].take i ∧ ρ = [.sl false true (.lst [.tup [.str "a", pD p, .bl false]]), .un, .un, .un, .un, .un, .un], ⟨rfl, rfl⟩, ?_, ?_, ?_⟩
  · rintro i d acc ρ hi ⟨rfl, rfl⟩
    have i0 : i < 1 := (List.getElem?_eq_some_iff.mp hi).1
    obtain rfl : i = 0 := by omega
    cases hi
    exact ⟨rfl, by show 0 < _; omega, rfl, rfl⟩
  · rintro i acc ρ ⟨_, rfl⟩
    exact ⟨_, (rfl : _ = YP.wipeS [.sl false true (.lst [.tup [.str "a", pD p, .bl false]]), .un, .un, .un, .un, .un, .un] [4, 3, 5])⟩
  rintro acc ρ ⟨rfl, rfl⟩
  refine ⟨by show 0 ≤ _; omega, ?_⟩
  have nd := pw.nd
  refine ⟨fun m ρ => ∃ todo cs s3, ρ = [.sl false true (.lst [.tup [.str "a", pD p, .bl false]]), own (.lst (todo.map pD)), own (.lst (cs.map sgD)), s3, .un, .un, .un] ∧ (∀ q ∈ todo, Low q ∧ dep q ≤ 40) ∧ (todo.map nod).sum ≤ m ∧ (todo.map nod).sum ≤ 100000 ∧ (todo.map fl).sum + cs.length ≤ 60 ∧ ∀ c ∈ cs, c < 128,
    ⟨_, [p], [], _, rfl, (fun q hq => by rw [List.mem_singleton.mp hq]; exact ⟨pw.low, pw.dp⟩), Nat.le_refl _, by simpa using nd, by simpa using hf, fun _ h => nomatch h⟩, ?_⟩
  rintro m ρ ⟨todo, cs, s3, rfl, hq, hm, hm2, hc, low⟩
  have lt := nod_len todo
  have ok : okD (.lst (todo.map pD)) = true := (okN_lst (n := 41) fun d hd => by
    obtain ⟨x, hx, rfl⟩ := List.mem_map.mp hd
    exact (okN_pD x (hq x hx).1).mono (Nat.succ_le_succ (hq x hx).2)).ok (by decide)
  refine ⟨by show 0 ≤ _; omega, ok, rfl, ?_⟩
  rw [eq_pnil]
  by_cases e0 : todo = []
  · subst e0
    rw [decide_eq_true rfl]
    -- the end: sorted, and one more
    have lc : cs.length ≤ 60 := by omega
    refine ⟨cs.map one, by rw [List.map_map]; rfl, by rw [List.length_map]; omega, fun mm lm hmm => ⟨by rw [List.length_map] at lm; omega, fun ys pm so => ?_⟩⟩
    have ex : ∃ l : List Nat, ys = l.map one ∧ (∀ c, c ∈ l ↔ c ∈ cs) ∧ l.length ≤ 60 := by
      have yin : ∀ y ∈ ys, ∃ c ∈ cs, y = one c := fun y hy => by
        obtain ⟨c, h1, h2⟩ := List.mem_map.mp ((hmm y).mp (pm.mem_iff.mp hy))
        exact ⟨c, h1, h2.symm⟩
      have e1 : ys = (ys.map fun s => s.cps.toList.headD 0).map one := by
        rw [List.map_map]
        symm
        calc ys.map (one ∘ fun s : Str => s.cps.toList.headD 0) = ys.map id := List.map_congr_left fun y hy => by
              obtain ⟨c, _, rfl⟩ := yin y hy
              rfl
          _ = ys := List.map_id ys
      refine ⟨_, e1, fun c => ?_, by rw [List.length_map, pm.length_eq]; rw [List.length_map] at lm; omega⟩
      rw [List.mem_map]
      constructor
      · rintro ⟨y, hy, rfl⟩
        obtain ⟨c, h1, rfl⟩ := yin y hy
        exact h1
      · intro h
        exact ⟨one c, pm.mem_iff.mpr ((hmm _).mpr (List.mem_map.mpr ⟨c, h, rfl⟩)), rfl⟩
    obtain ⟨l, rfl, hl3, ll⟩ := ex
    have okc : okD (.lst (cs.map sgD)) = true := (okN_lst (n := 0) fun d hd => by
      obtain ⟨c, hc2, rfl⟩ := List.mem_map.mp hd
      exact ok_sgD (low c hc2)).ok (by decide)
    refine ⟨fun i acc ρ => acc = ((allL.take i).filter fun c => decide (c ∉ cs)).map sgD ∧ ρ = [.sl false true (.lst [.tup [.str "a", pD p, .bl false]]), own (.lst []), own (.lst (cs.map sgD)), s3, .un, .un, .un], ⟨rfl, rfl⟩, ?_, ?_, ?_⟩
    · rintro i d acc ρ hi ⟨rfl, rfl⟩
      have hi : (allL.map sgD)[i]? = some d := hi
      rw [List.getElem?_map] at hi
      obtain ⟨c, ec, rfl⟩ := Option.map_eq_some_iff.mp hi
      have cl := allL_low c (List.mem_of_getElem? ec)
      have tk : (allL.take (i + 1)).filter (fun c => decide (c ∉ cs)) = (allL.take i).filter (fun c => decide (c ∉ cs)) ++ (if c ∈ cs then [] else [c]) := by
        rw [List.take_succ, ec, List.filter_append]
        by_cases k : c ∈ cs
        · simp [k]
        · simp [k]
      refine ⟨(ok_sgD cl).ok (by decide), okc, ?_⟩
      rw [any_sgD]
      by_cases k : c ∈ cs
      · rw [decide_eq_true k]
        refine ⟨(?_ : _ = ((allL.take (i + 1)).filter fun c => decide (c ∉ cs)).map sgD), rfl⟩
        rw [tk, if_pos k, List.append_nil]
      · rw [decide_eq_false k]
        refine ⟨?_, (?_ : _ = ((allL.take (i + 1)).filter fun c => decide (c ∉ cs)).map sgD), rfl⟩
        · rw [List.length_map]
          have h1 := List.length_filter_le (fun c => decide (c ∉ cs)) (allL.take i)
          have h2 := allL_len.1
          rw [List.length_take] at h1
          omega
        · rw [tk, if_neg k, List.map_append]; rfl
    · rintro i acc ρ ⟨_, rfl⟩
      exact ⟨_, (rfl : _ = YP.wipeS [.sl false true (.lst [.tup [.str "a", pD p, .bl false]]), own (.lst []), own (.lst (cs.map sgD)), s3, .un, .un, .un] [6])⟩
    · rintro acc ρ ⟨rfl, rfl⟩
      have la : (allL.map sgD).length = allL.length := List.length_map _
      show ((l.map one).map D.str).length + (YP.cut (((allL.take (allL.map sgD).length).filter fun c => decide (c ∉ cs)).map sgD) none (some 1)).length ≤ sizeLine ∧ R (.own (.lst ((l.map one).map D.str ++ YP.cut (((allL.take (allL.map sgD).length).filter fun c => decide (c ∉ cs)).map sgD) none (some 1)))) _
      rw [la, List.take_length, show YP.cut ((allL.filter fun c => decide (c ∉ cs)).map sgD) none (some 1) = ((allL.filter fun c => decide (c ∉ cs)).map sgD).take 1 from ycut_to _ 1, ← List.map_take, List.map_map, show (l.map (D.str ∘ one)) = l.map sgD from rfl, ← List.map_append]
      have t1 : ((allL.filter fun c => decide (c ∉ cs)).take 1).length ≤ 1 := by rw [List.length_take]; omega
      refine ⟨by rw [List.length_map, List.length_map]; omega, q _ _ ?_ (by rw [List.length_append]; omega) fun c hc2 => ?_⟩
      · intro e
        obtain ⟨e1, e2⟩ := List.append_eq_nil_iff.mp e
        have cn : cs = [] := by
          cases cs with
          | nil => rfl
          | cons c cs => exact nomatch (e1 ▸ (hl3 c).mpr List.mem_cons_self : c ∈ ([] : List Nat))
        subst cn
        have e3 : allL.filter (fun c => decide (c ∉ ([] : List Nat))) = allL := by simp
        rw [e3] at e2
        have := allL_len.2
        have h5 : (allL.take 1).length = 0 := by rw [e2]; rfl
        rw [List.length_take] at h5
        omega
      · rcases List.mem_append.mp hc2 with h | h
        · exact low c ((hl3 c).mp h)
        · exact allL_low c (List.mem_filter.mp (List.mem_of_mem_take h)).1
  rw [decide_eq_false e0]
  obtain ⟨todo, x, rfl⟩ : ∃ a x, todo = a ++ [x] := ⟨todo.dropLast, todo.getLast e0, (List.dropLast_concat_getLast e0).symm⟩
  have xq := hq x (List.mem_append_right _ (List.mem_singleton.mpr rfl))
  have hq2 : ∀ q ∈ todo, Low q ∧ dep q ≤ 40 := fun q h => hq q (List.mem_append_left _ h)
  rw [List.map_append, List.sum_append] at hm hm2 hc
  have sx : ([x].map nod).sum = nod x := by simp
  have sf : ([x].map fl).sum = fl x := by simp
  have px := nod_pos x
  refine ⟨rfl, todo.map pD, pD x, List.map_append .., ?_⟩
  by_cases hs : ∃ l, x = .sg l
  · obtain ⟨l, rfl⟩ := hs
    refine ⟨.str "signs", atI_nat (j := 0) rfl, by decide +kernel, by decide +kernel, ?_⟩
    rw [show eqD (.str "signs") (.str "signs") = true by decide +kernel]
    have fx : fl (.sg l) = l.length := by simp [fl, sgs]
    have lz : (toS l).cps.size = l.length := toS_len l
    refine ⟨.str (toS l), atI_nat (j := 1) rfl, by rw [List.length_map, lz]; omega, ?_⟩
    refine ⟨(todo.map nod).sum, by omega, todo, cs ++ l, dat (pD (.sg l)), ?_, hq2, Nat.le_refl _, by omega, by rw [List.length_append]; omega, fun c hc2 => ?_⟩
    · show [_, _, own (.lst (cs.map sgD ++ (toS l).cps.toList.map sgD)), _, _, _, _] = _
      rw [toS_cps, ← List.map_append]
    · rcases List.mem_append.mp hc2 with h | h
      · exact low c h
      · exact xq.1 l (by simp [sgs]) c h
  · have ng : ∀ l, x ≠ .sg l := fun l e => hs ⟨l, e⟩
    rw [pD_pts ng]
    have tl : YP.cut (D.str (wrd x) :: (pts x).map pD) (some 1) none = (pts x).map pD := ycut1 _ _
    refine ⟨.str (wrd x), atI_nat (j := 0) rfl, okD_wrd x, by decide +kernel, ?_⟩
    rw [show eqD (.str (wrd x)) (.str "signs") = false from beq_eq_false_iff_ne.mpr (wrd_ne ng)]
    have n1 := nod_pts x ng
    have f1 := fl_pts x ng
    have l2 := nod_len (pts x)
    have l3 := nod_len todo
    refine ⟨by show (todo.map pD).length + (YP.cut (D.str (wrd x) :: (pts x).map pD) (some 1) none).length ≤ _; rw [tl, List.length_map, List.length_map]; omega, ?_⟩
    refine ⟨((todo ++ pts x).map nod).sum, ?_, todo ++ pts x, cs, dat (.tup (.str (wrd x) :: (pts x).map pD)), ?_, fun q h => ?_, Nat.le_refl _, ?_, ?_, low⟩
    · rw [List.map_append, List.sum_append]; omega
    · show [_, own (.lst (todo.map pD ++ YP.cut (D.str (wrd x) :: (pts x).map pD) (some 1) none)), _, _, _, _, _] = _
      rw [tl, ← List.map_append]
    · rcases List.mem_append.mp h with h | h
      · exact hq2 q h
      · have := pts_dep h
        exact ⟨fun l hl => xq.1 l (pts_sgs h l hl), by omega⟩
    · rw [List.map_append, List.sum_append]; omega
    · rw [List.map_append, List.sum_append]; omega
end
end K01
set_option maxRecDepth 100000
set_option maxHeartbeats 1000000
namespace K01
open PySem PySem.Spec PyProof.Rows L2 Yard YP
section
variable {P : Program} {w : World} {K : PySem.W.Frag} {mg : Str → Option Value} {base : Heap}
/-! ### the jar -/
theorem nd1 (n : Nat) : ([n] : List Nat).Nodup := by simp
def JarOk (c : Nat) (d : D) : Prop := ∃ x y z : Int, d = .lst [.int x, .int y, .int z] ∧ 0 ≤ x ∧ 0 ≤ y ∧ y < 2 ^ 100 ∧ 0 ≤ z ∧ z ≤ c
theorem JarOk.mono {c c' : Nat} {d : D} (h : JarOk c d) (n : c ≤ c') : JarOk c' d := by
  obtain ⟨x, y, z, e, a1, a2, a3, a4, a5⟩ := h
  exact ⟨x, y, z, e, a1, a2, a3, a4, by omega⟩
def uDip : UF := fun ρ R => ∃ (c : Nat) (d : D) (m : Int), ρ = [own d, dat (.int m)] ∧ JarOk c d ∧ 0 < m ∧ m < 1073741824 ∧ c < 1000000 ∧ ∀ (r : Int) d2 s1, 0 ≤ r → r < m → JarOk (c + 1) d2 → R (.val (.int r)) [own d2, s1]
theorem pkDip (T : Tx K w mg) : FnOk P w K mg base CX0 1 T.aDip T.fDip ["jar", "many"] (PSp K 2 uDip) := by
  refine (ok_dip T).imp fun vs H Q E ⟨ρ, F, B, R, hl, hv, er, hu, g⟩ => ?_
  obtain ⟨c, d, m, rfl, ⟨x, y, z, rfl, hx, hy, hy2, hz, hzc⟩, h0, h1, hc, q⟩ := hu
  obtain ⟨a, ha, ro, fa, ba⟩ := er.ow 0 false _ rfl
  obtain ⟨v1, hv1, rd1⟩ := er.fz 1 false _ rfl
  obtain rfl : v1 = .int m := by cases rd1; rfl
  obtain ⟨v0, v1, rfl⟩ : ∃ v0 v1, vs = [v0, v1] := by
    match vs, hv with
    | [v0, v1], _ => exact ⟨v0, v1, rfl⟩
  have e0 : v0 = .ref a := Option.some.inj (Option.some.inj ha)
  have e1 : v1 = .int m := Option.some.inj (Option.some.inj hv1)
  subst e0 e1
  have eh : H a = some (.lst [.int x, .int y, .int z]) := by
    cases ro with
    | lst h t => rw [h, rl_ints (ns := [x, y, z]) t]; rfl
  refine ⟨a, m, c, rfl, ⟨x, y, z, eh, hx, hy, hy2, hz, hzc⟩, h0, h1, hc, fun r H' r0 r1 of ⟨x', y', z', e', h⟩ => ?_⟩
  have neB : ∀ b, B b → b ≠ a := fun b hb z => ba (z ▸ hb)
  have outB : ∀ b, B b → H' b = H b := fun b hb => by
    obtain ⟨o, ho⟩ : ∃ o, H b = some o := by
      cases e : H b with
      | none => exact absurd e (er.out b hb).1
      | some o => exact ⟨o, rfl⟩
    rw [ho]; exact of b o (neB b hb) ho
  refine g (.val (.int r)) [own (.lst [.int x', .int y', .int z']), dat (.int m)] (.int r) F H' (q r _ _ r0 r1 ⟨x', y', z', rfl, h⟩) ⟨Same.refl _, outB⟩ ?_ (.int r) (fun i z => nomatch z)
  refine ⟨rfl, fun b o e => ?_, fun i p d h => ?_, fun i p d h => ?_, fun i j b p q d e h1 h2 h3 h4 => ?_, fun i o d h => ?_, fun b hb => ⟨?_, (er.out b hb).2⟩⟩
  · exact of b o (fun z => by rw [z, fa] at e; cases e) (er.sub b o e)
  · match i, h with
    | 0, h => cases h
    | 1, h => cases h; exact ⟨_, rfl, .int _⟩
  · match i, h with
    | 0, h => cases h; exact ⟨a, rfl, .lst e' (ints_rl [x', y', z']), fa, ba⟩
    | 1, h => cases h
  · have z0 : ∀ (i : Nat) p d, ([own (D.lst [.int x', .int y', .int z']), dat (.int m)] : List Sl)[i]? = some (Sl.sl true p d) → i = 0 := fun i p d h => by
      match i, h with
      | 0, _ => rfl
      | 1, h => cases h
    rw [z0 i _ _ h1, z0 j _ _ h2]
  · match i, h with
    | 0, h => cases h
    | 1, h => cases h
  · rw [outB b hb]; exact (er.out b hb).1
/-! ### _law_signs_of -/
def uOf : UF := fun ρ R => ∃ (c : Nat) (d : D) (x : Str), ρ = [own d, dat (.str x)] ∧ JarOk c d ∧ c ≤ 900000 ∧ PoolOk x ∧ ∀ p d2 s1, JarOk (c + 5) d2 → Pk p 0 → R (.val (pD p)) [own d2, s1]
theorem pcOf : FnScope ["jar", "plain", "pool", "some", "k"] ["jar", "plain"] (defScope sOf) := ⟨rfl, rfl, rfl, by decide +kernel, rfl, by decide +kernel, by decide +kernel⟩
theorem pkOf (T : Tx K w mg) : FnOk P w K mg base CX0 2 T.aOf T.fOf ["jar", "plain"] (PSp K 2 uOf) := by
  refine fn_mk T.of.fn pcOf (by decide) fun cdv A outer s H E hr => ?_
  refine ⟨_, (fb_cons (fs_set (ps_set (i := 2) pcOf.nd rfl (.inr rfl) pe_S) (fe_ix (fe_lst (fa_cons (fv 1) (fa_cons (fe_call0c (v := .str allS) (d := .str allS) (ok_all T) (hr.mono (by omega)) (by rfl) T.all.at_ T.all.kp T.all.bd pass0 (fun H Q q => ⟨rfl, q⟩) (fun _ => .str _)) fa_nil))) (fe_bt cb_int (by rfl) T.bInt (by decide +kernel) (fr_ref (fe_cmp (os_eq (ru hr)) (fe_call (pkDip T) (hr.mono (by omega)) (by rfl) T.dip.at_ T.dip.kp T.dip.bd (fr_ref (fv 0) (fr_val fe_int fr_nil))) fe_int) fr_nil))))
      (fb_cons (fs_set (ps_set (i := 3) pcOf.nd rfl (.inl rfl) pe_S) (fe_setsorted rfl (by rfl) T.bSorted (by rfl) T.bSet (fr_ref (fe_lc rfl pcOf.nd (fi_range1 (by rfl) T.bRange (fa_cons (fe_op os_add fe_int (fe_call (pkDip T) (hr.mono (by omega)) (by rfl) T.dip.at_ T.dip.kp T.dip.bd (fr_ref (fv 0) (fr_val fe_int fr_nil)))) fa_nil)) (blkOk_by (own := [("k", 4)]) (N := ["jar", "plain", "pool", "some", "k"]) (sc := defScope sOf) (by decide +kernel)) (fun _ _ _ _ _ => (fg_name (pg_name (i := 4) pcOf.nd rfl (.inl rfl)) (by intro l e; cases e; decide +kernel))) (fun _ _ _ _ _ => fts_nil) (fun _ _ _ _ _ => (fe_ix (fv 2) (fe_call (pkDip T) (hr.mono (by omega)) (by rfl) T.dip.at_ T.dip.kp T.dip.bd (fr_ref (fv 0) (fr_val (fe_b cb_len (by rfl) T.len (by decide +kernel) (fr_ref (fv 2) fr_nil)) fr_nil)))))) fr_nil)))
      (fb_one (fs_ret (fe_tup (fa_cons fe_str (fa_cons (fe_join fe_str (fv 3)) fa_nil))))))), fun ρ R hl h => ?_⟩
  -- slots: 0 jar, 1 plain, 2 pool, 3 some, 4 k
  obtain ⟨c, d, x, rfl, hj, hc, hx, q⟩ := h
  have sz : 2000000 ≤ sizeLine := by rw [sizeLine_eq]; decide
  refine ⟨by show 2 ≤ _; omega, nd1 _, c, d, 12, rfl, hj, by decide, by decide, by omega, fun r d1 s1 r0 r1 j1 => ?_⟩
  refine ⟨rfl, rfl, ?_⟩
  obtain ⟨pool, hp, g⟩ : ∃ pool, PoolOk pool ∧ L2.atI [D.str x, D.str allS] (if eqD (.int r) (.int 0) = true then 1 else 0) = some (.str pool) := by
    split
    · exact ⟨allS, pool_all, rfl⟩
    · exact ⟨x, hx, rfl⟩
  refine ⟨_, g, ?_⟩
  have few := hp.few
  have some_ := hp.some_
  refine ⟨nd1 _, c + 1, d1, 3, rfl, j1, by decide, by decide, by omega, fun m d2 s2 m0 m1 j2 => ?_⟩
  refine ⟨by show -2 ^ 62 ≤ 1 + m; omega, by show 1 + m < 2 ^ 62; omega, ?_⟩
  refine ⟨fun i acc ρ => ∃ d3 ts, JarOk (c + 2 + i) d3 ∧ acc = List.map sgD ts ∧ ts.length = i ∧ (∀ z ∈ ts, z < 128) ∧ ρ = [.sl true true d3, .sl false true (.str x), dat (.str pool), .un, .un], ⟨d2, [], j2, rfl, rfl, (fun _ h => nomatch h), rfl⟩, ?_, ?_, ?_⟩
  · rintro i y acc ρ hi ⟨d3, ts, j3, rfl, lt, hts, rfl⟩
    have li : i < (intsD 0 (1 + m).toNat).length := (List.getElem?_eq_some_iff.mp hi).1
    have lD : (intsD 0 (1 + m).toNat).length = (1 + m).toNat := by simp [intsD]
    have li3 : i < 3 := by omega
    refine ⟨by omega, nd1 _, c + 2 + i, d3, pool.length, rfl, j3, by omega, by omega, by omega, fun r2 d4 s3 r20 r21 j4 => ?_⟩
    have hlt : r2.toNat < pool.cps.toList.length := by
      have : pool.cps.toList.length = pool.length := Array.length_toList
      omega
    refine ⟨by omega, _, atI_at r20 hlt, ?_⟩
    refine ⟨by rw [List.length_map]; omega, d4, ts ++ [pool.cps.toList[r2.toNat]'hlt], j4, ?_, by rw [List.length_append, lt]; rfl, fun z hz => ?_, rfl⟩
    · rw [List.map_append]; rfl
    · rcases List.mem_append.mp hz with q1 | q1
      · exact hts z q1
      · rw [List.mem_singleton.mp q1]
        exact hp.low _ (List.getElem_mem hlt)
  · rintro i acc ρ ⟨d3, ts, _, _, _, _, rfl⟩
    exact ⟨_, (rfl : _ = YP.wipeS [.sl true true d3, .sl false true (.str x), dat (.str pool), .un, .un] [4])⟩
  rintro acc ρ ⟨d3, ts, j3, rfl, lt, hts, rfl⟩
  have lD : (intsD 0 (1 + m).toNat).length = (1 + m).toNat := by simp [intsD]
  rw [lD] at lt j3
  refine ⟨ts.map one, by rw [List.map_map]; rfl, by rw [List.length_map]; omega, fun ms lm hmm => ⟨by rw [List.length_map] at lm; omega, fun ys pm so => ?_⟩⟩
  obtain ⟨l, rfl, hl2⟩ := one_of (ys := ys) fun y hy => by
    obtain ⟨z, hz, rfl⟩ := List.mem_map.mp ((hmm y).mp (pm.mem_iff.mp hy))
    exact ⟨z, hts z hz, rfl⟩
  have ll : l.length ≤ 3 := by
    have := pm.length_eq
    rw [List.length_map] at this lm
    omega
  have ln : l ≠ [] := fun z => by
    subst z
    cases ts with
    | nil => simp at lt; omega
    | cons a r =>
      have h1 := pm.mem_iff.mpr ((hmm ⟨#[a]⟩).mpr (List.mem_map.mpr ⟨a, List.mem_cons_self, rfl⟩))
      cases h1
  refine ⟨l.map fun z => (⟨#[z]⟩ : Str), rfl, ?_, by show 2 ≤ _; omega, ?_⟩
  · rw [ones_len]
    have e0 : (("" : Str).length) = 0 := rfl
    rw [e0, Nat.mul_zero]
    omega
  · rw [joined]
    exact q (.sg l) d3 _ (j3.mono (by omega)) (pk_sg ln (sorted_le so) hl2 ll)
end
end K01
set_option maxRecDepth 100000
set_option maxHeartbeats 1000000
namespace K01
open PySem PySem.Spec PyProof.Rows L2 Yard YP
section
variable {P : Program} {w : World} {K : PySem.W.Frag} {mg : Str → Option Value} {base : Heap}
/-! ### promises of old on data, as pure ones -/
theorem rl_of {K : PySem.W.Frag} {F : Hp} : ∀ {vs : List V} {ds : List D}, vs.length = ds.length → (∀ (i : Nat) d, ds[i]? = some d → ∃ v, vs[i]? = some v ∧ RD K F v d) → RL K F vs ds
  | [], [], _, _ => .nil
  | [], _ :: _, h, _ => nomatch h
  | _ :: _, [], h, _ => nomatch h
  | v :: vs, d :: ds, h, k => by
    obtain ⟨u, e, r⟩ := k 0 d rfl
    cases e
    exact .cons r (rl_of (Nat.succ.inj h) fun i d hd => k (i + 1) d hd)
theorem pure_sc {CX : CXT} {k n : Nat} {f : Addr} {fd : FuncData} {ps : List Str} {sp : Sp} {u : UF} (Fn : FnOk P w K mg base CX k f fd ps sp)
    (h : ∀ ρ R, u ρ R → ∃ ds : List D, ρ = ds.map (fun d => Sl.sl false false d) ∧ ∀ F H vs Q E, Same F H → RL K F vs ds → (∀ v d H', Same H H' → (∀ F, RD K F v d) → R (.val d) (ds.map fun d => Sl.sl false false d) → Q v H') → sp vs H Q E) : FnOk P w K mg base CX k f fd ps (PSp K n u) := by
  refine Fn.imp fun vs H Q E ⟨ρ, F, B, R, hl, hv, er, hu, g⟩ => ?_
  obtain ⟨ds, rfl, k⟩ := h ρ R hu
  have lens : vs.length = ds.length := by rw [List.length_map] at hl; omega
  have at_ : ∀ (i : Nat) o p d, (ds.map fun d => Sl.sl false false d)[i]? = some (Sl.sl o p d) → o = false ∧ p = false ∧ ds[i]? = some d := fun i o p d h => by
    rw [List.getElem?_map] at h
    obtain ⟨e, he, z⟩ := Option.map_eq_some_iff.mp h
    cases z
    exact ⟨rfl, rfl, he⟩
  refine k F H vs Q E er.sub (rl_of lens fun i d hd => ?_) fun v d H' s rd r => ?_
  · obtain ⟨v, e, r⟩ := er.fz i false d (by rw [List.getElem?_map, hd]; rfl)
    rw [List.getElem?_map] at e
    obtain ⟨v', e1, e2⟩ := Option.map_eq_some_iff.mp e
    cases e2
    exact ⟨v, e1, r⟩
  · have outB : ∀ b, B b → H' b = H b := fun b hb => by
      obtain ⟨o, ho⟩ : ∃ o, H b = some o := by
        cases e : H b with
        | none => exact absurd e (er.out b hb).1
        | some o => exact ⟨o, rfl⟩
      rw [ho]; exact s b o ho
    refine g (.val d) _ v F H' r ⟨Same.refl _, outB⟩ ?_ (rd F) (fun i z => nomatch z)
    refine ⟨er.len, fun b o e => s b o (er.sub b o e), er.fz, fun i p d h => ?_, fun i j a p q d e h _ _ _ => ?_, er.par, fun b hb => ⟨?_, (er.out b hb).2⟩⟩
    · exact nomatch (at_ _ _ _ _ h).1
    · exact nomatch (at_ _ _ _ _ h).1
    · rw [outB b hb]; exact (er.out b hb).1
theorem rd_one {F : Hp} {vs : List V} {d : D} (h : RL K F vs [d]) : ∃ v, vs = [v] ∧ RD K F v d := by
  cases h with
  | cons a r => cases r; exact ⟨_, rfl, a⟩
theorem rd_two {F : Hp} {vs : List V} {d e : D} (h : RL K F vs [d, e]) : ∃ v u, vs = [v, u] ∧ RD K F v d ∧ RD K F u e := by
  cases h with
  | cons a r => cases r with
    | cons b r => cases r; exact ⟨_, _, rfl, a, b⟩
theorem rd_three {F : Hp} {vs : List V} {d e f : D} (h : RL K F vs [d, e, f]) : ∃ v u w, vs = [v, u, w] ∧ RD K F v d ∧ RD K F u e ∧ RD K F w f := by
  cases h with
  | cons a r => cases r with
    | cons b r => cases r with
      | cons c r => cases r; exact ⟨_, _, _, rfl, a, b, c⟩
/-- a pattern, as the older layer has it -/
theorem dq_of {F : Hp} : ∀ (p : Pa) (v : V), RD K F v (pD p) → Dq F v (toD p)
  | .sg l, v, h => by
    cases h with
    | tup h r =>
      obtain ⟨x, y, rfl, a, b⟩ := rd_two r
      cases a; cases b
      exact .tup h (.cons (.str _) (.cons (.str _) .nil))
  | .em, v, h => by
    cases h with
    | tup h r =>
      obtain ⟨x, rfl, a⟩ := rd_one r
      cases a
      exact .tup h (.cons (.str _) .nil)
  | .th p q, v, h => by
    cases h with
    | tup h r =>
      obtain ⟨x, y, z, rfl, a, b, c⟩ := rd_three r
      cases a
      exact .tup h (.cons (.str _) (.cons (dq_of p _ b) (.cons (dq_of q _ c) .nil)))
  | .or p q, v, h => by
    cases h with
    | tup h r =>
      obtain ⟨x, y, z, rfl, a, b, c⟩ := rd_three r
      cases a
      exact .tup h (.cons (.str _) (.cons (dq_of p _ b) (.cons (dq_of q _ c) .nil)))
  | .ag p, v, h => by
    cases h with
    | tup h r =>
      obtain ⟨x, y, rfl, a, b⟩ := rd_two r
      cases a
      exact .tup h (.cons (.str _) (.cons (dq_of p _ b) .nil))
  | .mo p, v, h => by
    cases h with
    | tup h r =>
      obtain ⟨x, y, rfl, a, b⟩ := rd_two r
      cases a
      exact .tup h (.cons (.str _) (.cons (dq_of p _ b) .nil))
  | .mb p, v, h => by
    cases h with
    | tup h r =>
      obtain ⟨x, y, rfl, a, b⟩ := rd_two r
      cases a
      exact .tup h (.cons (.str _) (.cons (dq_of p _ b) .nil))
def uAgains : UF := fun ρ R => ∃ p : Pa, ρ = [dat (pD p)] ∧ dep p ≤ 40 ∧ ∀ s, R (.val (.int (ags p : Nat))) [s]
theorem pkAgains (T : Tx K w mg) : FnOk P w K mg base CX0 41 T.aAgains T.fAgains ["mould"] (PSp K 1 uAgains) :=
  pure_sc (ok_agains T 40) fun ρ R ⟨p, e, dp, q⟩ => ⟨[pD p], e, fun F H vs Q E s l g => by
    obtain ⟨v, rfl, rd⟩ := rd_one l
    exact ⟨v, p, rfl, (dq_of p v rd).mono s, dp, fun H' s' => g _ _ H' s' (fun _ => .int _) (q _)⟩⟩
/-! ### _law_mould -/
def uMould (n : Nat) : UF := fun ρ R => ∃ (c : Nat) (d : D) (x : Str), ρ = [own d, dat (.str x), dat (.int n)] ∧ JarOk c d ∧ c + costM n ≤ 900000 ∧ PoolOk x ∧ ∀ p d2 s1 s2, JarOk (c + costM n) d2 → Pk p n → R (.val (pD p)) [own d2, s1, s2]
theorem pcMould : FnScope ["jar", "plain", "deep", "way", "one"] ["jar", "plain", "deep"] (defScope sMould) := ⟨rfl, rfl, rfl, by decide +kernel, rfl, by decide +kernel, by decide +kernel⟩
theorem pmould_step (T : Tx K w mg) (n : Nat) (G : FnOk P w K mg base CX0 (n + 2) T.aMould T.fMould ["jar", "plain", "deep"] (PSp K 3 (uBefore uMould n))) : FnOk P w K mg base CX0 (n + 3) T.aMould T.fMould ["jar", "plain", "deep"] (PSp K 3 (uMould n)) := by
  refine fn_mk T.mould.fn pcMould (by decide) fun cdv A outer s H E hr => ?_
  refine ⟨_, (fb_cons (fs_set (ps_set (i := 3) pcMould.nd rfl (.inl rfl) pe_S) (fe_call (pkDip T) (hr.mono (by omega)) (by rfl) T.dip.at_ T.dip.kp T.dip.bd (fr_ref (fv 0) (fr_val fe_int fr_nil))))
      (fb_cons (fs_if (FW.ft (fw_or (ft_cmp os_lt (fv 2) fe_int) (fw_or1 (ft_cmp os_lt (fv 3) fe_int))))
      (fb_one (fs_ret (fe_call (pkOf T) (hr.mono (by omega)) (by rfl) T.of.at_ T.of.kp T.of.bd (fr_ref (fv 0) (fr_val (fv 1) fr_nil)))))
      fb_nil)
      (fb_cons (fs_if (ft_cmp (os_eq (ru hr)) (fv 3) fe_int)
      (fb_one (fs_ret (fe_tup (fa_cons fe_str fa_nil))))
      fb_nil)
      (fb_cons (fs_set (ps_set (i := 4) pcMould.nd rfl (.inl rfl) pe_S) (fe_call G (hr.mono (by omega)) (by rfl) T.mould.at_ T.mould.kp T.mould.bd (fr_ref (fv 0) (fr_val (fv 1) (fr_val (fe_op os_sub (fv 2) fe_int) fr_nil)))))
      (fb_cons (fs_if (ft_cmp os_lt (fv 3) fe_int)
      (fb_one (fs_ret (fe_tup (fa_cons (fe_ix (fe_lst (fa_cons fe_str (fa_cons fe_str (fa_cons fe_str fa_nil)))) (fe_op os_sub (fv 3) fe_int)) (fa_cons (fv 4) (fa_cons (fe_call G (hr.mono (by omega)) (by rfl) T.mould.at_ T.mould.kp T.mould.bd (fr_ref (fv 0) (fr_val (fv 1) (fr_val (fe_op os_sub (fv 2) fe_int) fr_nil)))) fa_nil))))))
      fb_nil)
      (fb_one (fs_ret (fe_tup (fa_cons (fe_ix (fe_lst (fa_cons fe_str (fa_cons fe_str (fa_cons fe_str fa_nil)))) (fe_op os_sub (fv 3) fe_int)) (fa_cons (fv 4) fa_nil)))))))))), fun ρ R hl h => ?_⟩
  -- slots: 0 jar, 1 plain, 2 deep, 3 way, 4 one
  obtain ⟨c, d, x, rfl, hj, hc, hx, q⟩ := h
  have sz : 2000000 ≤ sizeLine := by rw [sizeLine_eq]; decide
  have c6 := costM_ge n
  refine ⟨nd1 _, c, d, 10, rfl, hj, by decide, by decide, by omega, fun r d1 s1 r0 r1 j1 => ?_⟩
  have go : ∀ {b : Bool} {X Y : Prop}, b = true → X → (if b = true then X else Y) := fun h x => by rw [if_pos h]; exact x
  by_cases hb : (n : Int) < 2 ∨ r < 3
  · have leaf : uRet (uCall uOf (uRRef (uVar 0) (uRVal (uVar 1) uRNil))) (enEnd 3 R) [.sl true true d1, .sl false true (.str x), .sl false true (.int n), dat (.int r), .un] :=
      ⟨nd1 _, c + 1, d1, x, rfl, j1, by omega, hx, fun p d2 s2 j2 pk => q p d2 _ _ (j2.mono (by omega)) (pk.mono (Nat.zero_le _))⟩
    by_cases h2 : (n : Int) < 2
    · show (if decide ((n : Int) < 2) = true then _ else _)
      rw [decide_eq_true h2]
      exact leaf
    · show (if decide ((n : Int) < 2) = true then _ else _)
      rw [decide_eq_false h2]
      show (if decide (r < 3) = true then _ else _)
      rw [decide_eq_true (hb.resolve_left h2)]
      exact leaf
  have n2 : ¬ (n : Int) < 2 := fun z => hb (.inl z)
  have r3 : ¬ r < 3 := fun z => hb (.inr z)
  show (if decide ((n : Int) < 2) = true then _ else _)
  rw [decide_eq_false n2]
  show (if decide (r < 3) = true then _ else _)
  rw [decide_eq_false r3]
  refine ⟨rfl, rfl, ?_⟩
  by_cases r9 : r = 9
  · subst r9
    refine ⟨by show 1 ≤ _; omega, ?_⟩
    exact q .em d1 _ _ (j1.mono (by omega)) (pk_em.mono (Nat.zero_le _))
  rw [show eqD (.int r) (.int 9) = false from beq_eq_false_iff_ne.mpr r9]
  obtain ⟨k, rfl⟩ : ∃ k, n = k + 1 := ⟨n - 1, by omega⟩
  have ek : ((k + 1 : Nat) : Int) - 1 = (k : Int) := by omega
  have ck : costM (k + 1) = 1 + 2 * costM k := rfl
  refine ⟨nd1 _, c + 1, d1, x, by show [own d1, dat (.str x), dat (.int (((k + 1 : Nat) : Int) - 1))] = _; rw [ek], j1, by omega, hx, fun p d2 s2 s3 j2 pk => ?_⟩
  show (if decide (r < 6) = true then _ else _)
  by_cases r6 : r < 6
  · rw [decide_eq_true r6]
    have call : ∀ (Z : D → List Sl → Prop), (∀ p2 d3, JarOk (c + (1 + 2 * costM k)) d3 → Pk p2 k → Z (pD p2) [.sl true true d3, .sl false true (.str x), .sl false true (.int (k + 1 : Nat)), dat (.int r), dat (pD p)]) →
        uCall (uMould k) (uRRef (uVar 0) (uRVal (uVar 1) (uRVal (uBin oSub (uVar 2) (uC (.int 1))) uRNil))) [.sl true true d2, .sl false true (.str x), .sl false true (.int (k + 1 : Nat)), dat (.int r), dat (pD p)] (fun r ρ => wv ρ r fun dd => Z dd (frz ρ r)) := fun Z hz =>
      ⟨nd1 _, c + 1 + costM k, d2, x, by show [own d2, dat (.str x), dat (.int (((k + 1 : Nat) : Int) - 1))] = _; rw [ek], j2, by omega, hx, fun p2 d3 s4 s5 j3 pk2 => hz p2 d3 (j3.mono (by omega)) pk2⟩
    have r345 : r = 3 ∨ r = 4 ∨ r = 5 := by omega
    rcases r345 with rfl | rfl | rfl
    · refine ⟨by show 3 ≤ _; omega, .str "then", rfl, ?_⟩
      exact call _ fun p2 d3 j3 pk2 => ⟨by show 3 ≤ _; omega, q (.th p p2) d3 _ _ (j3.mono (by omega)) (pk_two pk pk2).1⟩
    · refine ⟨by show 3 ≤ _; omega, .str "then", rfl, ?_⟩
      exact call _ fun p2 d3 j3 pk2 => ⟨by show 3 ≤ _; omega, q (.th p p2) d3 _ _ (j3.mono (by omega)) (pk_two pk pk2).1⟩
    · refine ⟨by show 3 ≤ _; omega, .str "or", rfl, ?_⟩
      exact call _ fun p2 d3 j3 pk2 => ⟨by show 3 ≤ _; omega, q (.or p p2) d3 _ _ (j3.mono (by omega)) (pk_two pk pk2).2⟩
  · rw [decide_eq_false r6]
    have r678 : r = 6 ∨ r = 7 ∨ r = 8 := by omega
    rcases r678 with rfl | rfl | rfl
    · exact ⟨by show 3 ≤ _; omega, .str "again", rfl, by show 2 ≤ _; omega, q (.ag p) d2 _ _ (j2.mono (by omega)) (pk_one pk).1⟩
    · exact ⟨by show 3 ≤ _; omega, .str "more", rfl, by show 2 ≤ _; omega, q (.mo p) d2 _ _ (j2.mono (by omega)) (pk_one pk).2.1⟩
    · exact ⟨by show 3 ≤ _; omega, .str "maybe", rfl, by show 2 ≤ _; omega, q (.mb p) d2 _ _ (j2.mono (by omega)) (pk_one pk).2.2⟩
theorem pkMould (T : Tx K w mg) : ∀ n : Nat, FnOk P w K mg base CX0 (n + 3) T.aMould T.fMould ["jar", "plain", "deep"] (PSp K 3 (uMould n))
  | 0 => pmould_step T 0 no_pure
  | n + 1 => pmould_step T (n + 1) (pkMould T n)
end
end K01
set_option maxRecDepth 100000
set_option maxHeartbeats 1000000
namespace K01
open PySem PySem.Spec PyProof.Rows L2 Yard YP
section
variable {P : Program} {w : World} {K : PySem.W.Frag} {mg : Str → Option Value} {base : Heap}
theorem joinL_flat : ∀ ts : List (List Nat), TL.joinL [] ts = ts.flatten
  | [] => rfl
  | [t] => (List.append_nil t).symm
  | t :: u :: ts => by
    show t ++ ([] ++ TL.joinL [] (u :: ts)) = _
    rw [joinL_flat (u :: ts)]; rfl
theorem joined2 (ts : List (List Nat)) : Txt.join "" (ts.map toS) = toS ts.flatten := by
  have e := TL.tl_join "" (ts.map toS)
  rw [List.map_map] at e
  have e0 : ts.map (TL.tl ∘ toS) = ts := by
    calc ts.map (TL.tl ∘ toS) = ts.map id := List.map_congr_left fun t _ => toS_cps t
      _ = ts := List.map_id ts
  rw [e0] at e
  have e2 : TL.tl (Str.join "" (ts.map toS)) = ts.flatten := e.trans (joinL_flat ts)
  rw [TL.join_eq]
  refine TL.ext_tl (e2.trans ?_)
  exact (toS_cps _).symm
theorem sum_toS : ∀ ts : List (List Nat), ((ts.map toS).map (·.length)).sum = ts.flatten.length
  | [] => rfl
  | t :: ts => by
    rw [List.map_cons, List.map_cons, List.sum_cons, sum_toS ts, List.flatten_cons, List.length_append, toS_len]
theorem flat_ones : ∀ l : List Nat, (l.map fun c => [c]).flatten = l
  | [] => rfl
  | c :: l => by rw [List.map_cons, List.flatten_cons, flat_ones l]; rfl
/-! ### _law_text -/
def rackD (p : Pa) : D := .lst [.tup [.str "a", pD p, .bl false]]
def uText : UF := fun ρ R => ∃ (c n : Nat) (d : D) (p : Pa), ρ = [own d, dat (rackD p), dat (.int (n : Nat))] ∧ JarOk c d ∧ n ≤ 100 ∧ c + n + 1 ≤ 900000 ∧ Pw p ∧ fl p ≤ 60 ∧ ∀ u d2 s1 s2, JarOk (c + n + 1) d2 → u.length ≤ n → (∀ z ∈ u, z < 128) → R (.val (.str (toS u))) [own d2, s1, s2]
theorem pcText : FnScope ["jar", "rack", "most", "pool", "k"] ["jar", "rack", "most"] (defScope sText) := ⟨rfl, rfl, rfl, by decide +kernel, rfl, by decide +kernel, by decide +kernel⟩
theorem pkText (T : Tx K w mg) : FnOk P w K mg base CX0 3 T.aText T.fText ["jar", "rack", "most"] (PSp K 3 uText) := by
  refine fn_mk T.text.fn pcText (by decide) fun cdv A outer s H E hr => ?_
  refine ⟨_, (fb_cons (fs_set (ps_set (i := 3) pcText.nd rfl (.inr rfl) pe_S) (fe_call (pkPool T) (hr.mono (by omega)) (by rfl) T.pool.at_ T.pool.kp T.pool.bd (fr_val (fv 1) fr_nil)))
      (fb_one (fs_ret (fe_join fe_str (fe_lc rfl pcText.nd (fi_range1 (by rfl) T.bRange (fa_cons (fe_call (pkDip T) (hr.mono (by omega)) (by rfl) T.dip.at_ T.dip.kp T.dip.bd (fr_ref (fv 0) (fr_val (fe_op os_add (fv 2) fe_int) fr_nil))) fa_nil)) (blkOk_by (own := [("k", 4)]) (N := ["jar", "rack", "most", "pool", "k"]) (sc := defScope sText) (by decide +kernel)) (fun _ _ _ _ _ => (fg_name (pg_name (i := 4) pcText.nd rfl (.inl rfl)) (by intro l e; cases e; decide +kernel))) (fun _ _ _ _ _ => fts_nil) (fun _ _ _ _ _ => (fe_ix (fv 3) (fe_call (pkDip T) (hr.mono (by omega)) (by rfl) T.dip.at_ T.dip.kp T.dip.bd (fr_ref (fv 0) (fr_val (fe_b cb_len (by rfl) T.len (by decide +kernel) (fr_ref (fv 3) fr_nil)) fr_nil)))))))))), fun ρ R hl h => ?_⟩
  -- slots: 0 jar, 1 rack, 2 most, 3 pool, 4 k
  obtain ⟨c, n, d, p, rfl, hj, hn, hc, pw, hf, q⟩ := h
  have sz : 2000000 ≤ sizeLine := by rw [sizeLine_eq]; decide
  refine ⟨List.nodup_nil, p, rfl, pw, hf, fun l ss ln ll low => ?_⟩
  dsimp only
  rw [wb_no (rs := [.val (rackD p)]) ss rfl]
  refine ⟨nd1 _, c, d, (n : Int) + 1, rfl, hj, by omega, by omega, by omega, fun r d1 s1 r0 r1 j1 => ?_⟩
  refine ⟨by show -2 ^ 62 ≤ r; omega, by show r < 2 ^ 62; omega, ?_⟩
  have lD : (intsD 0 r.toNat).length = r.toNat := by simp [intsD]
  refine ⟨fun i acc ρ => ∃ d3 ts, JarOk (c + 1 + i) d3 ∧ acc = List.map sgD ts ∧ ts.length = i ∧ (∀ z ∈ ts, z < 128) ∧ ρ = [.sl true true d3, .sl false true (rackD p), .sl false true (.int (n : Nat)), own (.lst (l.map sgD)), .un], ⟨d1, [], j1, rfl, rfl, (fun _ h => nomatch h), rfl⟩, ?_, ?_, ?_⟩
  · rintro i y acc ρ hi ⟨d3, ts, j3, rfl, lt, hts, rfl⟩
    have li : i < r.toNat := lD ▸ (List.getElem?_eq_some_iff.mp hi).1
    have lm : (l.map sgD).length = l.length := List.length_map _
    have lpos : 0 < l.length := List.length_pos_iff.mpr ln
    refine ⟨nd1 _, c + 1 + i, d3, ((l.map sgD).length : Nat), rfl, j3, by rw [lm]; omega, by rw [lm]; omega, by omega, fun r2 d4 s3 r20 r21 j4 => ?_⟩
    rw [lm] at r21
    have hlt : r2.toNat < l.length := by omega
    have hlt2 : r2.toNat < (l.map sgD).length := by rw [lm]; exact hlt
    have ev : (l.map sgD)[r2.toNat]'hlt2 = sgD (l[r2.toNat]'hlt) := List.getElem_map _
    refine ⟨_, (atI_at r20 hlt2).trans (congrArg some ev), ?_⟩
    refine ⟨by rw [List.length_map]; omega, d4, ts ++ [l[r2.toNat]'hlt], j4, ?_, by rw [List.length_append, lt]; rfl, fun z hz => ?_, rfl⟩
    · rw [List.map_append]; rfl
    · rcases List.mem_append.mp hz with q1 | q1
      · exact hts z q1
      · rw [List.mem_singleton.mp q1]
        exact low _ (List.getElem_mem hlt)
  · rintro i acc ρ ⟨d3, ts, _, _, _, _, rfl⟩
    exact ⟨_, (rfl : _ = YP.wipeS [.sl true true d3, .sl false true (rackD p), .sl false true (.int (n : Nat)), own (.lst (l.map sgD)), .un] [4])⟩
  rintro acc ρ ⟨d3, ts, j3, rfl, lt, hts, rfl⟩
  rw [lD] at lt j3
  refine ⟨ts.map one, by rw [List.map_map]; rfl, ?_, ?_⟩
  · rw [show ((ts.map one).map (·.length)).sum = ts.length from ones_len ts]
    have e0 : (("" : Str).length) = 0 := rfl
    rw [e0, Nat.mul_zero]
    omega
  · rw [show Txt.join "" (ts.map one) = toS ts from joined ts]
    exact q ts d3 _ _ (j3.mono (by omega)) (by omega) hts
/-! ### _law_around -/
structure Pr (p : Pa) (n : Nat) : Prop where
  wf : Wf p
  low : Low p
  few : ∀ l ∈ sgs p, l.length ≤ 3
  dp : dep p ≤ n
  sz : size p ≤ 16
  nd : nod p ≤ 31 + 2 * n
theorem Pr.of {p : Pa} {n : Nat} (h : Pk p n) (k : n ≤ 4) : Pr p 4 := by
  have h := h.mono k
  exact ⟨h.wf, h.low, h.few, h.dp, Nat.le_trans h.sz (by decide), by have := h.nd; omega⟩
theorem Pr.mono {p : Pa} {n m : Nat} (h : Pr p n) (k : n ≤ m) : Pr p m := ⟨h.wf, h.low, h.few, Nat.le_trans h.dp k, h.sz, by have := h.nd; omega⟩
theorem Pr.pw {p : Pa} {n : Nat} (h : Pr p n) (k : n ≤ 40) : Pw p := ⟨h.low, Nat.le_trans h.dp k, by have := h.nd; omega⟩
theorem flat_few : ∀ ls : List (List Nat), (∀ l ∈ ls, l.length ≤ 3) → ls.flatten.length ≤ 3 * ls.length
  | [], _ => Nat.le_refl _
  | l :: ls, h => by
    have := h l List.mem_cons_self
    have := flat_few ls fun x hx => h x (List.mem_cons_of_mem _ hx)
    rw [List.flatten_cons, List.length_append, List.length_cons]
    omega
theorem Pr.fl {p : Pa} {n : Nat} (h : Pr p n) : K01.fl p ≤ 60 := by
  have a := flat_few (sgs p) h.few
  rw [sgs_len] at a
  have := h.sz
  show (sgs p).flatten.length ≤ 60
  omega
theorem pr_next {p : Pa} {n : Nat} (h : Pr p n) : Pr (.or .em p) (n + 1) ∧ Pr (.th p .em) (n + 1) ∧ Pr (.ag p) (n + 1) ∧ Pr (.mo p) (n + 1) ∧ Pr (.mb p) (n + 1) := by
  have d := h.dp
  have s := h.sz
  have e := h.nd
  refine ⟨⟨⟨trivial, h.wf⟩, fun l hl => h.low l (by simpa [sgs] using hl), fun l hl => h.few l (by simpa [sgs] using hl), by simp only [dep]; omega, by simp only [size]; omega, by simp only [nod]; omega⟩, ⟨⟨h.wf, trivial⟩, fun l hl => h.low l (by simpa [sgs] using hl), fun l hl => h.few l (by simpa [sgs] using hl), by simp only [dep]; omega, by simp only [size]; omega, by simp only [nod]; omega⟩, ⟨h.wf, h.low, h.few, by simp only [dep]; omega, s, by simp only [nod]; omega⟩, ⟨h.wf, h.low, h.few, by simp only [dep]; omega, s, by simp only [nod]; omega⟩, ⟨h.wf, h.low, h.few, by simp only [dep]; omega, s, by simp only [nod]; omega⟩⟩
def uAround : UF := fun ρ R => ∃ (c n : Nat) (d : D) (p : Pa), ρ = [own d, dat (pD p)] ∧ JarOk c d ∧ c + 2 ≤ 900000 ∧ Pr p n ∧ n ≤ 20 ∧ ∀ p' d2 s1, JarOk (c + 2) d2 → Pr p' (n + 1) → R (.val (pD p')) [own d2, s1]
end
section
variable {P : Program} {w : World} {K : PySem.W.Frag} {mg : Str → Option Value} {base : Heap}
theorem pcAround : FnScope ["jar", "mould", "way"] ["jar", "mould"] (defScope sAround) := ⟨rfl, rfl, rfl, by decide +kernel, rfl, by decide +kernel, by decide +kernel⟩
theorem pkAround (T : Tx K w mg) : FnOk P w K mg base CX0 42 T.aAround T.fAround ["jar", "mould"] (PSp K 2 uAround) := by
  refine fn_mk T.around.fn pcAround (by decide) fun cdv A outer s H E hr => ?_
  refine ⟨_, (fb_cons (fs_set (ps_set (i := 2) pcAround.nd rfl (.inl rfl) pe_S) (fe_call (pkDip T) (hr.mono (by omega)) (by rfl) T.dip.at_ T.dip.kp T.dip.bd (fr_ref (fv 0) (fr_val fe_int fr_nil))))
      (fb_cons (fs_if (FW.ft (fw_and (ft_cmp (os_in (rv hr)) (fv 2) (fe_lst (fa_cons fe_int (fa_cons fe_int fa_nil)))) (fw_and1 (ft_cmp os_gt (fe_call (pkAgains T) (hr.mono (by omega)) (by rfl) T.agains.at_ T.agains.kp T.agains.bd (fr_val (fv 1) fr_nil)) fe_int))))
      (fb_one (fs_set (ps_set (i := 2) pcAround.nd rfl (.inl rfl) pe_S) (fe_ix (fe_lst (fa_cons fe_int (fa_cons fe_int (fa_cons fe_int fa_nil)))) (fe_call (pkDip T) (hr.mono (by omega)) (by rfl) T.dip.at_ T.dip.kp T.dip.bd (fr_ref (fv 0) (fr_val fe_int fr_nil))))))
      fb_nil)
      (fb_cons (fs_if (ft_cmp os_lt (fv 2) fe_int)
      (fb_one (fs_ret (fe_ix (fe_lst (fa_cons (fe_tup (fa_cons fe_str (fa_cons (fe_tup (fa_cons fe_str fa_nil)) (fa_cons (fv 1) fa_nil)))) (fa_cons (fe_tup (fa_cons fe_str (fa_cons (fv 1) (fa_cons (fe_tup (fa_cons fe_str fa_nil)) fa_nil)))) fa_nil))) (fv 2))))
      fb_nil)
      (fb_one (fs_ret (fe_tup (fa_cons (fe_ix (fe_lst (fa_cons fe_str (fa_cons fe_str (fa_cons fe_str fa_nil)))) (fe_op os_sub (fv 2) fe_int)) (fa_cons (fv 1) fa_nil)))))))), fun ρ R hl h => ?_⟩
  -- slots: 0 jar, 1 mould, 2 way
  obtain ⟨c, n, d, p, rfl, hj, hc, hp, hn, q⟩ := h
  have sz : 2000000 ≤ sizeLine := by rw [sizeLine_eq]; decide
  obtain ⟨p1, p2, p3, p4, p5⟩ := pr_next hp
  refine ⟨nd1 _, c, d, 5, rfl, hj, by decide, by decide, by omega, fun r d1 s1 r0 r1 j1 => ?_⟩
  have rest : ∀ (r : Int) d2, 0 ≤ r → r < 5 → JarOk (c + 2) d2 → uSeq (uIfS (fun ρ R => uBin oLt (uVar 2) (uC (.int 2)) ρ (isB R))
      (uRet (uBin oIx (uLst (uCons (uTup (uCons (uC (.str "or")) (uCons (uTup (uCons (uC (.str "empty")) uNil)) (uCons (uVar 1) uNil)))) (uCons (uTup (uCons (uC (.str "then")) (uCons (uVar 1) (uCons (uTup (uCons (uC (.str "empty")) uNil)) uNil)))) uNil))) (uVar 2))) uNext)
      (uRet (uTup (uCons (uBin oIx (uLst (uCons (uC (.str "again")) (uCons (uC (.str "more")) (uCons (uC (.str "maybe")) uNil)))) (uBin oSub (uVar 2) (uC (.int 2)))) (uCons (uVar 1) uNil)))) (enEnd 2 R) [.sl true true d2, .sl false true (pD p), dat (.int r)] := fun r d2 r0 r1 j2 => by
    have r5 : r = 0 ∨ r = 1 ∨ r = 2 ∨ r = 3 ∨ r = 4 := by omega
    rcases r5 with rfl | rfl | rfl | rfl | rfl
    · exact ⟨by show 1 ≤ _; omega, by show 3 ≤ _; omega, by show 1 ≤ _; omega, by show 3 ≤ _; omega, by show 2 ≤ _; omega, _, rfl, q (.or .em p) d2 _ j2 p1⟩
    · exact ⟨by show 1 ≤ _; omega, by show 3 ≤ _; omega, by show 1 ≤ _; omega, by show 3 ≤ _; omega, by show 2 ≤ _; omega, _, rfl, q (.th p .em) d2 _ j2 p2⟩
    · exact ⟨by show 3 ≤ _; omega, .str "again", rfl, by show 2 ≤ _; omega, q (.ag p) d2 _ j2 p3⟩
    · exact ⟨by show 3 ≤ _; omega, .str "more", rfl, by show 2 ≤ _; omega, q (.mo p) d2 _ j2 p4⟩
    · exact ⟨by show 3 ≤ _; omega, .str "maybe", rfl, by show 2 ≤ _; omega, q (.mb p) d2 _ j2 p5⟩
  have okr : okD (.int r) = true := rfl
  refine ⟨by show 2 ≤ _; omega, rfl, rfl, ?_⟩
  by_cases h23 : (false ^^ [D.int 2, D.int 3].any fun z => eqD z (.int r)) = true
  · rw [h23]
    refine ⟨List.nodup_nil, p, rfl, Nat.le_trans hp.dp (by omega), fun s2 => ?_⟩
    show (if decide ((1 : Int) < ((ags p : Nat) : Int)) = true then _ else _)
    by_cases h1 : (1 : Int) < ((ags p : Nat) : Int)
    · rw [decide_eq_true h1]
      refine ⟨by show 3 ≤ _; omega, nd1 _, c + 1, d1, 3, rfl, j1, by decide, by decide, by omega, fun r3 d3 s3 r30 r31 j3 => ?_⟩
      have r3c : r3 = 0 ∨ r3 = 1 ∨ r3 = 2 := by omega
      rcases r3c with rfl | rfl | rfl
      · exact ⟨_, rfl, rest 0 d3 (by decide) (by decide) j3⟩
      · exact ⟨_, rfl, rest 1 d3 (by decide) (by decide) j3⟩
      · exact ⟨_, rfl, rest 4 d3 (by decide) (by decide) j3⟩
    · rw [decide_eq_false h1]
      exact rest r d1 r0 r1 (j1.mono (by omega))
  · rw [Bool.eq_false_iff.mpr h23]
    exact rest r d1 r0 r1 (j1.mono (by omega))
end
end K01
set_option maxRecDepth 100000
set_option maxHeartbeats 1000000
namespace K01
open PySem PySem.Spec PyProof.Rows L2 Yard YP
section
variable {P : Program} {w : World} {K : PySem.W.Frag} {mg : Str → Option Value} {base : Heap}
/-! ### _law_along -/
def cA : Pa → Nat
  | .sg _ => 1
  | .em => 0
  | .th a b => cA a + cA b
  | .or a b => 1 + (cA a + cA b)
  | .ag a => 3 + (cA a + cA a)
  | .mo a => 3 + (cA a + cA a)
  | .mb a => 3 + (cA a + cA a)
theorem cA_le : ∀ p : Pa, cA p + 3 ≤ 4 * 2 ^ dep p
  | .sg _ => by simp [cA, dep]
  | .em => by simp [cA, dep]
  | .th a b => by
    have ia := cA_le a
    have ib := cA_le b
    have ea : 2 ^ dep a ≤ 2 ^ max (dep a) (dep b) := Nat.pow_le_pow_right (by decide) (Nat.le_max_left _ _)
    have eb : 2 ^ dep b ≤ 2 ^ max (dep a) (dep b) := Nat.pow_le_pow_right (by decide) (Nat.le_max_right _ _)
    simp only [cA, dep, Nat.pow_succ]
    omega
  | .or a b => by
    have ia := cA_le a
    have ib := cA_le b
    have ea : 2 ^ dep a ≤ 2 ^ max (dep a) (dep b) := Nat.pow_le_pow_right (by decide) (Nat.le_max_left _ _)
    have eb : 2 ^ dep b ≤ 2 ^ max (dep a) (dep b) := Nat.pow_le_pow_right (by decide) (Nat.le_max_right _ _)
    simp only [cA, dep, Nat.pow_succ]
    omega
  | .ag a => by have ia := cA_le a; simp only [cA, dep, Nat.pow_succ]; omega
  | .mo a => by have ia := cA_le a; simp only [cA, dep, Nat.pow_succ]; omega
  | .mb a => by have ia := cA_le a; simp only [cA, dep, Nat.pow_succ]; omega
def uAlong (k : Nat) : UF := fun ρ R => ∃ (c : Nat) (d : D) (p : Pa), ρ = [own d, dat (pD p)] ∧ JarOk c d ∧ dep p ≤ k ∧ c + cA p ≤ 900000 ∧ Wf p ∧ Low p ∧ (∀ l ∈ sgs p, l.length ≤ 3) ∧
  ∀ u d2 s1, JarOk (c + cA p) d2 → u.length ≤ cA p → (∀ z ∈ u, z < 128) → R (.val (.str (toS u))) [own d2, s1]
theorem pcAlong : FnScope ["jar", "mould", "many", "k"] ["jar", "mould"] (defScope sAlong) := ⟨rfl, rfl, rfl, by decide +kernel, rfl, by decide +kernel, by decide +kernel⟩
theorem along_step (T : Tx K w mg) (k : Nat) (G : FnOk P w K mg base CX0 (k + 1) T.aAlong T.fAlong ["jar", "mould"] (PSp K 2 (uBefore uAlong k))) : FnOk P w K mg base CX0 (k + 2) T.aAlong T.fAlong ["jar", "mould"] (PSp K 2 (uAlong k)) := by
  refine fn_mk T.along.fn pcAlong (by decide) fun cdv A outer s H E hr => ?_
  refine ⟨_, (fb_cons (fs_if (ft_cmp (os_eq (ru hr)) (fe_ix (fv 1) fe_int) fe_str)
      (fb_one (fs_ret (fe_ix (fe_ix (fv 1) fe_int) (fe_call (pkDip T) (hr.mono (by omega)) (by rfl) T.dip.at_ T.dip.kp T.dip.bd (fr_ref (fv 0) (fr_val (fe_b cb_len (by rfl) T.len (by decide +kernel) (fr_ref (fe_ix (fv 1) fe_int) fr_nil)) fr_nil))))))
      fb_nil)
      (fb_cons (fs_if (ft_cmp (os_eq (ru hr)) (fe_ix (fv 1) fe_int) fe_str)
      (fb_one (fs_ret fe_str))
      fb_nil)
      (fb_cons (fs_if (ft_cmp (os_eq (ru hr)) (fe_ix (fv 1) fe_int) fe_str)
      (fb_one (fs_ret (fe_op os_add (fe_call G (hr.mono (by omega)) (by rfl) T.along.at_ T.along.kp T.along.bd (fr_ref (fv 0) (fr_val (fe_ix (fv 1) fe_int) fr_nil))) (fe_call G (hr.mono (by omega)) (by rfl) T.along.at_ T.along.kp T.along.bd (fr_ref (fv 0) (fr_val (fe_ix (fv 1) fe_int) fr_nil))))))
      fb_nil)
      (fb_cons (fs_if (ft_cmp (os_eq (ru hr)) (fe_ix (fv 1) fe_int) fe_str)
      (fb_one (fs_ret (fe_call G (hr.mono (by omega)) (by rfl) T.along.at_ T.along.kp T.along.bd (fr_ref (fv 0) (fr_val (fe_ix (fv 1) (fe_op os_add fe_int (fe_call (pkDip T) (hr.mono (by omega)) (by rfl) T.dip.at_ T.dip.kp T.dip.bd (fr_ref (fv 0) (fr_val fe_int fr_nil))))) fr_nil)))))
      fb_nil)
      (fb_cons (fs_set (ps_set (i := 2) pcAlong.nd rfl (.inl rfl) pe_S) (fe_dget (rk hr) (fe_disp (fp_cons fe_str (fe_call (pkDip T) (hr.mono (by omega)) (by rfl) T.dip.at_ T.dip.kp T.dip.bd (fr_ref (fv 0) (fr_val fe_int fr_nil))) (fp_cons fe_str (fe_op os_add fe_int (fe_call (pkDip T) (hr.mono (by omega)) (by rfl) T.dip.at_ T.dip.kp T.dip.bd (fr_ref (fv 0) (fr_val fe_int fr_nil)))) (fp_cons fe_str (fe_call (pkDip T) (hr.mono (by omega)) (by rfl) T.dip.at_ T.dip.kp T.dip.bd (fr_ref (fv 0) (fr_val fe_int fr_nil))) fp_nil)))) (fe_ix (fv 1) fe_int)))
      (fb_one (fs_ret (fe_join fe_str (fe_lc rfl pcAlong.nd (fi_range1 (by rfl) T.bRange (fa_cons (fv 2) fa_nil)) (blkOk_by (own := [("k", 3)]) (N := ["jar", "mould", "many", "k"]) (sc := defScope sAlong) (by decide +kernel)) (fun _ _ _ _ _ => (fg_name (pg_name (i := 3) pcAlong.nd rfl (.inl rfl)) (by intro l e; cases e; decide +kernel))) (fun _ _ _ _ _ => fts_nil) (fun _ _ _ _ _ => (fe_call G (hr.mono (by omega)) (by rfl) T.along.at_ T.along.kp T.along.bd (fr_ref (fv 0) (fr_val (fe_ix (fv 1) fe_int) fr_nil))))))))))))), fun ρ R hl h => ?_⟩
  -- slots: 0 jar, 1 mould, 2 many, 3 k
  obtain ⟨c, d, p, rfl, hj, hk, hc, wf, lw, few, q⟩ := h
  have sz : 2000000 ≤ sizeLine := by rw [sizeLine_eq]; decide
  cases p with
  | sg l =>
    refine ⟨.str "signs", atI_nat (j := 0) rfl, by decide +kernel, by decide +kernel, ?_⟩
    rw [show eqD (.str "signs") (.str "signs") = true by decide +kernel]
    have ll : (toS l).length = l.length := toS_len l
    have l3 : l.length ≤ 3 := few l (by simp [sgs])
    have lp : 0 < l.length := List.length_pos_iff.mpr wf.1
    have hc1 : c + 1 ≤ 900000 := hc
    refine ⟨.str (toS l), atI_nat (j := 1) rfl, .str (toS l), atI_nat (j := 1) rfl, by rw [ll]; omega, nd1 _, c, d, ((toS l).length : Nat), rfl, hj, by rw [ll]; omega, by rw [ll]; omega, by omega, fun r d2 s1 r0 r1 j2 => ?_⟩
    rw [ll] at r1
    have hlt : r.toNat < l.length := by omega
    have hlt2 : r.toNat < (toS l).cps.toList.length := by rw [toS_cps]; exact hlt
    have ev : (toS l).cps.toList[r.toNat]'hlt2 = l[r.toNat]'hlt := by
      congr 1
    refine ⟨by rw [ll]; omega, l[r.toNat]'hlt, (atI_at r0 hlt2).trans (congrArg some ev), ?_⟩
    exact q [l[r.toNat]'hlt] d2 _ j2 (Nat.le_refl _) fun z hz => by
      rw [List.mem_singleton.mp hz]
      exact lw l (by simp [sgs]) _ (List.getElem_mem hlt)
  | em =>
    refine ⟨.str "empty", atI_nat (j := 0) rfl, by decide +kernel, by decide +kernel, ?_⟩
    rw [show eqD (.str "empty") (.str "signs") = false by decide +kernel]
    refine ⟨.str "empty", atI_nat (j := 0) rfl, by decide +kernel, by decide +kernel, ?_⟩
    rw [show eqD (.str "empty") (.str "empty") = true by decide +kernel]
    exact q [] d _ hj (Nat.le_refl _) fun _ h => nomatch h
  | th a b =>
    refine ⟨.str "then", atI_nat (j := 0) rfl, by decide +kernel, by decide +kernel, ?_⟩
    rw [show eqD (.str "then") (.str "signs") = false by decide +kernel]
    refine ⟨.str "then", atI_nat (j := 0) rfl, by decide +kernel, by decide +kernel, ?_⟩
    rw [show eqD (.str "then") (.str "empty") = false by decide +kernel]
    have hd := hk
    simp only [dep] at hd
    obtain ⟨m, rfl⟩ : ∃ m, k = m + 1 := ⟨k - 1, by omega⟩
    have la : Low a := fun l hl => lw l (by simp only [sgs]; exact List.mem_append_left _ hl)
    have lb : Low b := fun l hl => lw l (by simp only [sgs]; exact List.mem_append_right _ hl)
    have fa : ∀ l ∈ sgs a, l.length ≤ 3 := fun l hl => few l (by simp only [sgs]; exact List.mem_append_left _ hl)
    have fb : ∀ l ∈ sgs b, l.length ≤ 3 := fun l hl => few l (by simp only [sgs]; exact List.mem_append_right _ hl)
    have ca := cA_le a
    have cb := cA_le b
    simp only [cA] at hc q
    refine ⟨.str "then", atI_nat (j := 0) rfl, by decide +kernel, by decide +kernel, ?_⟩
    rw [show eqD (.str "then") (.str "then") = true by decide +kernel]
    refine ⟨pD a, atI_nat (j := 1) rfl, nd1 _, c, d, a, rfl, hj, by omega, by omega, wf.1, la, fa, fun u d2 s1 j2 ul ulo => ?_⟩
    refine ⟨pD b, atI_nat (j := 2) rfl, nd1 _, c + cA a, d2, b, rfl, j2, by omega, by omega, wf.2, lb, fb, fun v d3 s2 j3 vl vlo => ?_⟩
    refine ⟨?_, ?_⟩
    · rw [toS_len, toS_len]; omega
    · rw [toS_app]
      exact q (u ++ v) d3 _ (j3.mono (by omega)) (by rw [List.length_append]; omega) fun z hz => (List.mem_append.mp hz).elim (ulo z) (vlo z)
  | or a b =>
    refine ⟨.str "or", atI_nat (j := 0) rfl, by decide +kernel, by decide +kernel, ?_⟩
    rw [show eqD (.str "or") (.str "signs") = false by decide +kernel]
    refine ⟨.str "or", atI_nat (j := 0) rfl, by decide +kernel, by decide +kernel, ?_⟩
    rw [show eqD (.str "or") (.str "empty") = false by decide +kernel]
    have hd := hk
    simp only [dep] at hd
    obtain ⟨m, rfl⟩ : ∃ m, k = m + 1 := ⟨k - 1, by omega⟩
    have la : Low a := fun l hl => lw l (by simp only [sgs]; exact List.mem_append_left _ hl)
    have lb : Low b := fun l hl => lw l (by simp only [sgs]; exact List.mem_append_right _ hl)
    have fa : ∀ l ∈ sgs a, l.length ≤ 3 := fun l hl => few l (by simp only [sgs]; exact List.mem_append_left _ hl)
    have fb : ∀ l ∈ sgs b, l.length ≤ 3 := fun l hl => few l (by simp only [sgs]; exact List.mem_append_right _ hl)
    have ca := cA_le a
    have cb := cA_le b
    simp only [cA] at hc q
    refine ⟨.str "or", atI_nat (j := 0) rfl, by decide +kernel, by decide +kernel, ?_⟩
    rw [show eqD (.str "or") (.str "then") = false by decide +kernel]
    refine ⟨.str "or", atI_nat (j := 0) rfl, by decide +kernel, by decide +kernel, ?_⟩
    rw [show eqD (.str "or") (.str "or") = true by decide +kernel]
    refine ⟨nd1 _, c, d, 2, rfl, hj, by decide, by decide, by omega, fun r d1 s1 r0 r1 j1 => ?_⟩
    have r01 : r = 0 ∨ r = 1 := by omega
    rcases r01 with rfl | rfl
    · refine ⟨pD a, atI_nat (j := 1) rfl, nd1 _, c + 1, d1, a, rfl, j1, by omega, by omega, wf.1, la, fa, fun u d2 s1 j2 ul ulo => ?_⟩
      exact q u d2 _ (j2.mono (by omega)) (by omega) ulo
    · refine ⟨pD b, atI_nat (j := 2) rfl, nd1 _, c + 1, d1, b, rfl, j1, by omega, by omega, wf.2, lb, fb, fun u d2 s1 j2 ul ulo => ?_⟩
      exact q u d2 _ (j2.mono (by omega)) (by omega) ulo
  | ag a =>
    refine ⟨.str "again", atI_nat (j := 0) rfl, by decide +kernel, by decide +kernel, ?_⟩
    rw [show eqD (.str "again") (.str "signs") = false by decide +kernel]
    refine ⟨.str "again", atI_nat (j := 0) rfl, by decide +kernel, by decide +kernel, ?_⟩
    rw [show eqD (.str "again") (.str "empty") = false by decide +kernel]
    have hd := hk
    simp only [dep] at hd
    obtain ⟨m, rfl⟩ : ∃ m, k = m + 1 := ⟨k - 1, by omega⟩
    refine ⟨.str "again", atI_nat (j := 0) rfl, by decide +kernel, by decide +kernel, ?_⟩
    rw [show eqD (.str "again") (.str "then") = false by decide +kernel]
    refine ⟨.str "again", atI_nat (j := 0) rfl, by decide +kernel, by decide +kernel, ?_⟩
    rw [show eqD (.str "again") (.str "or") = false by decide +kernel]
    simp only [cA] at hc q
    have ca := cA_le a
    refine ⟨.inr "again", rfl, nd1 _, c, d, 3, rfl, hj, by decide, by decide, by omega, fun r1 d1 s1 r10 r11 j1 => ?_⟩
    refine ⟨.inr "more", rfl, nd1 _, c + 1, d1, 2, rfl, j1, by decide, by decide, by omega, fun r2 d2 s2 r20 r21 j2 => ?_⟩
    refine ⟨.inr "maybe", rfl, nd1 _, c + 2, d2, 2, rfl, j2, by decide, by decide, by omega, fun r3 d3 s3 r30 r31 j3 => ?_⟩
    refine ⟨by show 3 ≤ 15; decide, .str "again", atI_nat (j := 0) rfl, .inr "again", .int r1, rfl, kg_again _ _ _, ?_⟩
    have m0 : 0 ≤ r1 := by omega
    have m2 : r1 ≤ 2 := by omega
    generalize r1 = many at m0 m2
    refine ⟨by show -2 ^ 62 ≤ many; omega, by show many < 2 ^ 62; omega, ?_⟩
    have lD : (intsD 0 many.toNat).length = many.toNat := by simp [intsD]
    refine ⟨fun i acc ρ => ∃ d4 ts, JarOk (c + 3 + i * cA a) d4 ∧ acc = List.map (fun t => D.str (toS t)) ts ∧ ts.length = i ∧ ts.flatten.length ≤ i * cA a ∧ (∀ z ∈ ts.flatten, z < 128) ∧ ρ = [.sl true true d4, .sl false true (pD (Pa.ag a)), dat (.int many), .un], ⟨d3, [], j3.mono (by omega), rfl, rfl, by simp, (fun _ h => nomatch h), rfl⟩, ?_, ?_, ?_⟩
    · rintro i y acc ρ hi ⟨d4, ts, j4, rfl, lt, tl, tlo, rfl⟩
      have li : i < many.toNat := lD ▸ (List.getElem?_eq_some_iff.mp hi).1
      have i2 : i < 2 := by omega
      have ix : i * cA a ≤ cA a := by
        have h1 : i ≤ 1 := by omega
        have h2 := Nat.mul_le_mul_right (cA a) h1
        rwa [Nat.one_mul] at h2
      have im : (i + 1) * cA a = i * cA a + cA a := Nat.succ_mul _ _
      refine ⟨pD a, atI_nat (j := 1) rfl, nd1 _, c + 3 + i * cA a, d4, a, rfl, j4, by omega, by omega, wf, lw, few, fun u d5 s5 j5 ul ulo => ?_⟩
      refine ⟨by rw [List.length_map]; omega, d5, ts ++ [u], j5.mono (by rw [im]; omega), ?_, by rw [List.length_append, lt]; rfl, ?_, fun z hz => ?_, rfl⟩
      · rw [List.map_append]; rfl
      · rw [List.flatten_append, List.length_append, im]
        have : [u].flatten.length = u.length := by simp
        omega
      · rw [List.flatten_append] at hz
        rcases List.mem_append.mp hz with h | h
        · exact tlo z h
        · exact ulo z (by simpa using h)
    · rintro i acc ρ ⟨d4, ts, _, _, _, _, _, rfl⟩
      exact ⟨_, (rfl : _ = YP.wipeS [.sl true true d4, .sl false true (pD (Pa.ag a)), dat (.int many), .un] [3])⟩
    rintro acc ρ ⟨d4, ts, j4, rfl, lt, tl, tlo, rfl⟩
    rw [lD] at lt j4 tl
    have mm : many.toNat * cA a ≤ cA a + cA a := by
      have : many.toNat ≤ 2 := by omega
      have := Nat.mul_le_mul_right (cA a) this
      omega
    refine ⟨ts.map toS, by rw [List.map_map]; rfl, ?_, ?_⟩
    · rw [sum_toS]
      have e0 : (("" : Str).length) = 0 := rfl
      rw [e0, Nat.mul_zero]
      omega
    · rw [joined2]
      exact q ts.flatten d4 _ (j4.mono (by omega)) (by omega) tlo
  | mo a =>
    refine ⟨.str "more", atI_nat (j := 0) rfl, by decide +kernel, by decide +kernel, ?_⟩
    rw [show eqD (.str "more") (.str "signs") = false by decide +kernel]
    refine ⟨.str "more", atI_nat (j := 0) rfl, by decide +kernel, by decide +kernel, ?_⟩
    rw [show eqD (.str "more") (.str "empty") = false by decide +kernel]
    have hd := hk
    simp only [dep] at hd
    obtain ⟨m, rfl⟩ : ∃ m, k = m + 1 := ⟨k - 1, by omega⟩
    refine ⟨.str "more", atI_nat (j := 0) rfl, by decide +kernel, by decide +kernel, ?_⟩
    rw [show eqD (.str "more") (.str "then") = false by decide +kernel]
    refine ⟨.str "more", atI_nat (j := 0) rfl, by decide +kernel, by decide +kernel, ?_⟩
    rw [show eqD (.str "more") (.str "or") = false by decide +kernel]
    simp only [cA] at hc q
    have ca := cA_le a
    refine ⟨.inr "again", rfl, nd1 _, c, d, 3, rfl, hj, by decide, by decide, by omega, fun r1 d1 s1 r10 r11 j1 => ?_⟩
    refine ⟨.inr "more", rfl, nd1 _, c + 1, d1, 2, rfl, j1, by decide, by decide, by omega, fun r2 d2 s2 r20 r21 j2 => ?_⟩
    refine ⟨.inr "maybe", rfl, nd1 _, c + 2, d2, 2, rfl, j2, by decide, by decide, by omega, fun r3 d3 s3 r30 r31 j3 => ?_⟩
    refine ⟨by show 3 ≤ 15; decide, .str "more", atI_nat (j := 0) rfl, .inr "more", .int (1 + r2), rfl, kg_more _ _ _, ?_⟩
    have m0 : 0 ≤ (1 + r2) := by omega
    have m2 : (1 + r2) ≤ 2 := by omega
    generalize (1 + r2) = many at m0 m2
    refine ⟨by show -2 ^ 62 ≤ many; omega, by show many < 2 ^ 62; omega, ?_⟩
    have lD : (intsD 0 many.toNat).length = many.toNat := by simp [intsD]
    refine ⟨fun i acc ρ => ∃ d4 ts, JarOk (c + 3 + i * cA a) d4 ∧ acc = List.map (fun t => D.str (toS t)) ts ∧ ts.length = i ∧ ts.flatten.length ≤ i * cA a ∧ (∀ z ∈ ts.flatten, z < 128) ∧ ρ = [.sl true true d4, .sl false true (pD (Pa.mo a)), dat (.int many), .un], ⟨d3, [], j3.mono (by omega), rfl, rfl, by simp, (fun _ h => nomatch h), rfl⟩, ?_, ?_, ?_⟩
    · rintro i y acc ρ hi ⟨d4, ts, j4, rfl, lt, tl, tlo, rfl⟩
      have li : i < many.toNat := lD ▸ (List.getElem?_eq_some_iff.mp hi).1
      have i2 : i < 2 := by omega
      have ix : i * cA a ≤ cA a := by
        have h1 : i ≤ 1 := by omega
        have h2 := Nat.mul_le_mul_right (cA a) h1
        rwa [Nat.one_mul] at h2
      have im : (i + 1) * cA a = i * cA a + cA a := Nat.succ_mul _ _
      refine ⟨pD a, atI_nat (j := 1) rfl, nd1 _, c + 3 + i * cA a, d4, a, rfl, j4, by omega, by omega, wf, lw, few, fun u d5 s5 j5 ul ulo => ?_⟩
      refine ⟨by rw [List.length_map]; omega, d5, ts ++ [u], j5.mono (by rw [im]; omega), ?_, by rw [List.length_append, lt]; rfl, ?_, fun z hz => ?_, rfl⟩
      · rw [List.map_append]; rfl
      · rw [List.flatten_append, List.length_append, im]
        have : [u].flatten.length = u.length := by simp
        omega
      · rw [List.flatten_append] at hz
        rcases List.mem_append.mp hz with h | h
        · exact tlo z h
        · exact ulo z (by simpa using h)
    · rintro i acc ρ ⟨d4, ts, _, _, _, _, _, rfl⟩
      exact ⟨_, (rfl : _ = YP.wipeS [.sl true true d4, .sl false true (pD (Pa.mo a)), dat (.int many), .un] [3])⟩
    rintro acc ρ ⟨d4, ts, j4, rfl, lt, tl, tlo, rfl⟩
    rw [lD] at lt j4 tl
    have mm : many.toNat * cA a ≤ cA a + cA a := by
      have : many.toNat ≤ 2 := by omega
      have := Nat.mul_le_mul_right (cA a) this
      omega
    refine ⟨ts.map toS, by rw [List.map_map]; rfl, ?_, ?_⟩
    · rw [sum_toS]
      have e0 : (("" : Str).length) = 0 := rfl
      rw [e0, Nat.mul_zero]
      omega
    · rw [joined2]
      exact q ts.flatten d4 _ (j4.mono (by omega)) (by omega) tlo
  | mb a =>
    refine ⟨.str "maybe", atI_nat (j := 0) rfl, by decide +kernel, by decide +kernel, ?_⟩
    rw [show eqD (.str "maybe") (.str "signs") = false by decide +kernel]
    refine ⟨.str "maybe", atI_nat (j := 0) rfl, by decide +kernel, by decide +kernel, ?_⟩
    rw [show eqD (.str "maybe") (.str "empty") = false by decide +kernel]
    have hd := hk
    simp only [dep] at hd
    obtain ⟨m, rfl⟩ : ∃ m, k = m + 1 := ⟨k - 1, by omega⟩
    refine ⟨.str "maybe", atI_nat (j := 0) rfl, by decide +kernel, by decide +kernel, ?_⟩
    rw [show eqD (.str "maybe") (.str "then") = false by decide +kernel]
    refine ⟨.str "maybe", atI_nat (j := 0) rfl, by decide +kernel, by decide +kernel, ?_⟩
    rw [show eqD (.str "maybe") (.str "or") = false by decide +kernel]
    simp only [cA] at hc q
    have ca := cA_le a
    refine ⟨.inr "again", rfl, nd1 _, c, d, 3, rfl, hj, by decide, by decide, by omega, fun r1 d1 s1 r10 r11 j1 => ?_⟩
    refine ⟨.inr "more", rfl, nd1 _, c + 1, d1, 2, rfl, j1, by decide, by decide, by omega, fun r2 d2 s2 r20 r21 j2 => ?_⟩
    refine ⟨.inr "maybe", rfl, nd1 _, c + 2, d2, 2, rfl, j2, by decide, by decide, by omega, fun r3 d3 s3 r30 r31 j3 => ?_⟩
    refine ⟨by show 3 ≤ 15; decide, .str "maybe", atI_nat (j := 0) rfl, .inr "maybe", .int r3, rfl, kg_maybe _ _ _, ?_⟩
    have m0 : 0 ≤ r3 := by omega
    have m2 : r3 ≤ 2 := by omega
    generalize r3 = many at m0 m2
    refine ⟨by show -2 ^ 62 ≤ many; omega, by show many < 2 ^ 62; omega, ?_⟩
    have lD : (intsD 0 many.toNat).length = many.toNat := by simp [intsD]
    refine ⟨fun i acc ρ => ∃ d4 ts, JarOk (c + 3 + i * cA a) d4 ∧ acc = List.map (fun t => D.str (toS t)) ts ∧ ts.length = i ∧ ts.flatten.length ≤ i * cA a ∧ (∀ z ∈ ts.flatten, z < 128) ∧ ρ = [.sl true true d4, .sl false true (pD (Pa.mb a)), dat (.int many), .un], ⟨d3, [], j3.mono (by omega), rfl, rfl, by simp, (fun _ h => nomatch h), rfl⟩, ?_, ?_, ?_⟩
    · rintro i y acc ρ hi ⟨d4, ts, j4, rfl, lt, tl, tlo, rfl⟩
      have li : i < many.toNat := lD ▸ (List.getElem?_eq_some_iff.mp hi).1
      have i2 : i < 2 := by omega
      have ix : i * cA a ≤ cA a := by
        have h1 : i ≤ 1 := by omega
        have h2 := Nat.mul_le_mul_right (cA a) h1
        rwa [Nat.one_mul] at h2
      have im : (i + 1) * cA a = i * cA a + cA a := Nat.succ_mul _ _
      refine ⟨pD a, atI_nat (j := 1) rfl, nd1 _, c + 3 + i * cA a, d4, a, rfl, j4, by omega, by omega, wf, lw, few, fun u d5 s5 j5 ul ulo => ?_⟩
      refine ⟨by rw [List.length_map]; omega, d5, ts ++ [u], j5.mono (by rw [im]; omega), ?_, by rw [List.length_append, lt]; rfl, ?_, fun z hz => ?_, rfl⟩
      · rw [List.map_append]; rfl
      · rw [List.flatten_append, List.length_append, im]
        have : [u].flatten.length = u.length := by simp
        omega
      · rw [List.flatten_append] at hz
        rcases List.mem_append.mp hz with h | h
        · exact tlo z h
        · exact ulo z (by simpa using h)
    · rintro i acc ρ ⟨d4, ts, _, _, _, _, _, rfl⟩
      exact ⟨_, (rfl : _ = YP.wipeS [.sl true true d4, .sl false true (pD (Pa.mb a)), dat (.int many), .un] [3])⟩
    rintro acc ρ ⟨d4, ts, j4, rfl, lt, tl, tlo, rfl⟩
    rw [lD] at lt j4 tl
    have mm : many.toNat * cA a ≤ cA a + cA a := by
      have : many.toNat ≤ 2 := by omega
      have := Nat.mul_le_mul_right (cA a) this
      omega
    refine ⟨ts.map toS, by rw [List.map_map]; rfl, ?_, ?_⟩
    · rw [sum_toS]
      have e0 : (("" : Str).length) = 0 := rfl
      rw [e0, Nat.mul_zero]
      omega
    · rw [joined2]
      exact q ts.flatten d4 _ (j4.mono (by omega)) (by omega) tlo
theorem pkAlong (T : Tx K w mg) : ∀ k : Nat, FnOk P w K mg base CX0 (k + 2) T.aAlong T.fAlong ["jar", "mould"] (PSp K 2 (uAlong k))
  | 0 => along_step T 0 no_pure
  | k + 1 => along_step T (k + 1) (pkAlong T k)
end
end K01
set_option maxRecDepth 100000
set_option maxHeartbeats 1000000
namespace K01
open PySem PySem.Spec PyProof.Rows L2 Yard YP
section
variable {P : Program} {w : World} {K : PySem.W.Frag} {mg : Str → Option Value} {base : Heap}
/-! ### the program's functions, as pure promises -/
theorem pure_any {CX : CXT} {k m N : Nat} {f : Addr} {fd : FuncData} {ps : List Str} {u : Nat → UF} (F : ∀ n, n ≤ N → FnOk P w K mg base CX k f fd ps (PSp K m (u n))) : FnOk P w K mg base CX k f fd ps (PSp K m (fun ρ R => ∃ n, n ≤ N ∧ u n ρ R)) :=
  ⟨fun vs H Q E ⟨ρ, F', B, R, a, b, c, ⟨n, hn, hu⟩, g⟩ => (F n hn).len vs H Q E ⟨ρ, F', B, R, a, b, c, hu, g⟩,
   fun A outer s H args us vs Q E hr e0 bt va ⟨ρ, F', B, R, a, b, c, ⟨n, hn, hu⟩, g⟩ => (F n hn).run A outer s H args us vs Q E hr e0 bt va ⟨ρ, F', B, R, a, b, c, hu, g⟩⟩
def uSpells : UF := fun ρ R => ∃ (p : Pa) (l : List Nat), ρ = [dat (pD p), dat (.str (toS l))] ∧ Pr p 12 ∧ l.length ≤ 10000 ∧ ∀ b s1 s2, (b = true ↔ Lg p l) → R (.val (.bl b)) [s1, s2]
theorem pkSpells (T : Tx K w mg) : FnOk P w K mg base CX0 20 T.aSpells T.fSpells ["pattern", "text"] (PSp K 2 uSpells) :=
  pure_sc (ok_spells T 12) fun ρ R ⟨p, l, e, hp, ll, q⟩ => ⟨[pD p, .str (toS l)], e, fun F H vs Q E s rl g => by
    obtain ⟨v, u, rfl, r1, r2⟩ := rd_two rl
    cases r2
    refine ⟨v, p, toS l, rfl, (dq_of p v r1).mono s, hp.dp, Nat.le_trans hp.sz (by decide), hp.fl, by rw [toS_len]; exact ll, fun b H' s' hb => g _ _ H' s' (fun _ => .bl b) (q b _ _ ?_)⟩
    rw [toS_cps] at hb
    exact hb⟩
def uSnone : UF := fun ρ R => ∃ p : Pa, ρ = [dat (pD p)] ∧ Pr p 12 ∧ ∀ s, R (.val (.bl (nul p))) [s]
theorem pkSnone (T : Tx K w mg) : FnOk P w K mg base CX0 13 T.aSnone T.fSnone ["pattern"] (PSp K 1 uSnone) :=
  pure_sc (ok_snone T 12) fun ρ R ⟨p, e, hp, q⟩ => ⟨[pD p], e, fun F H vs Q E s rl g => by
    obtain ⟨v, rfl, r1⟩ := rd_one rl
    exact ⟨v, p, rfl, (dq_of p v r1).mono s, hp.dp, g _ _ H (fun _ _ z => z) (fun _ => .bl _) (q _)⟩⟩
def uOnly : UF := fun ρ R => ∃ p : Pa, ρ = [dat (pD p)] ∧ Pr p 12 ∧ ∀ s, R (.val (oD (only p))) [s]
theorem pkOnly (T : Tx K w mg) : FnOk P w K mg base CX0 13 T.aOnly T.fOnly ["pattern"] (PSp K 1 uOnly) :=
  pure_sc (ok_only T 12) fun ρ R ⟨p, e, hp, q⟩ => ⟨[pD p], e, fun F H vs Q E s rl g => by
    obtain ⟨v, rfl, r1⟩ := rd_one rl
    refine ⟨v, p, rfl, (dq_of p v r1).mono s, hp.dp, Nat.le_trans hp.sz (by decide), fun l hl => Nat.le_trans (hp.few l hl) (by decide), fun H' s' => g _ (oD (only p)) H' s' (fun F => ?_) (q _)⟩
    cases only p with
    | none => exact .non
    | some t => exact .str _⟩
def uLeast : UF := fun ρ R => ∃ p : Pa, ρ = [dat (pD p)] ∧ Pr p 12 ∧ ∀ s, R (.val (.str (toS (least p)))) [s]
theorem pkLeast (T : Tx K w mg) : FnOk P w K mg base CX0 14 T.aLeast T.fLeast ["pattern"] (PSp K 1 uLeast) :=
  pure_sc (ok_least T 12) fun ρ R ⟨p, e, hp, q⟩ => ⟨[pD p], e, fun F H vs Q E s rl g => by
    obtain ⟨v, rfl, r1⟩ := rd_one rl
    exact ⟨v, p, rfl, (dq_of p v r1).mono s, hp.dp, hp.wf, Nat.le_trans hp.sz (by decide), fun l hl => Nat.le_trans (hp.few l hl) (by decide), fun H' s' => g _ _ H' s' (fun _ => .str _) (q _)⟩⟩
/-! ### _law_right -/
theorem seq_cut {t u : US} {E : En} {ρ : List Sl} (P : List Sl → Prop) (h2 : ∀ ρ, P ρ → u E ρ) (h1 : (∀ ρ, P ρ → u E ρ) → uSeq t u E ρ) : uSeq t u E ρ := h1 h2
def uRight : UF := fun ρ R => ∃ (d : D), ρ = [own d] ∧ JarOk 0 d ∧ ∀ s, R (.val (.bl true)) [s]
theorem pcRight : FnScope ["jar", "mould", "lap", "rack", "line", "found", "lowest", "pool"] ["jar"] (defScope sRight) := ⟨rfl, rfl, rfl, by decide +kernel, rfl, by decide +kernel, by decide +kernel⟩
theorem pkRight (T : Tx K w mg) : FnOk P w K mg base CX0 50 T.aRight T.fRight ["jar"] (PSp K 1 uRight) := by
  refine fn_mk T.right.fn pcRight (by decide) fun cdv A outer s H E hr => ?_
  refine ⟨_, (fb_cons (fs_set (ps_set (i := 1) pcRight.nd rfl (.inl rfl) pe_S) (fe_call (pure_any (N := 4) fun n hn => (pkMould T n).mono (Nat.add_le_add_right hn 3)) (hr.mono (by omega)) (by rfl) T.mould.at_ T.mould.kp T.mould.bd (fr_ref (fv 0) (fr_val (fe_ix (fe_lst (fa_cons fe_str (fa_cons fe_str (fa_cons fe_str fa_nil)))) (fe_call (pkDip T) (hr.mono (by omega)) (by rfl) T.dip.at_ T.dip.kp T.dip.bd (fr_ref (fv 0) (fr_val fe_int fr_nil)))) (fr_val (fe_op os_add fe_int (fe_call (pkDip T) (hr.mono (by omega)) (by rfl) T.dip.at_ T.dip.kp T.dip.bd (fr_ref (fv 0) (fr_val fe_int fr_nil)))) fr_nil)))))
      (fb_cons (fs_if (ft_cmp (os_eq (ru hr)) (fe_call (pkDip T) (hr.mono (by omega)) (by rfl) T.dip.at_ T.dip.kp T.dip.bd (fr_ref (fv 0) (fr_val fe_int fr_nil))) fe_int)
      (fb_one (fs_for PassesOwn.never rfl (fi_range1 (by rfl) T.bRange (fa_cons fe_int fa_nil)) (fg_name (pg_name (i := 2) pcRight.nd rfl (.inl rfl)))
      (fb_one (fs_set (ps_set (i := 1) pcRight.nd rfl (.inl rfl) pe_S) (fe_call (pkAround T) (hr.mono (by omega)) (by rfl) T.around.at_ T.around.kp T.around.bd (fr_ref (fv 0) (fr_val (fv 1) fr_nil)))))))
      fb_nil)
      (fb_cons (fs_set (ps_set (i := 3) pcRight.nd rfl (.inl rfl) pe_S) (fe_lst (fa_cons (fe_tup (fa_cons fe_str (fa_cons (fv 1) (fa_cons fe_bl fa_nil)))) fa_nil)))
      (fb_cons (fs_for PassesOwn.never rfl (fi_range1 (by rfl) T.bRange (fa_cons fe_int fa_nil)) (fg_name (pg_name (i := 2) pcRight.nd rfl (.inl rfl)))
      (fb_cons (fs_set (ps_set (i := 4) pcRight.nd rfl (.inl rfl) pe_S) (fe_call (pkText T) (hr.mono (by omega)) (by rfl) T.text.at_ T.text.kp T.text.bd (fr_ref (fv 0) (fr_val (fv 3) (fr_val fe_int fr_nil)))))
      (fb_cons (fs_if (ft_cmp os_gt (fv 2) fe_int)
      (fb_one (fs_set (ps_set (i := 4) pcRight.nd rfl (.inl rfl) pe_S) (fe_sl (fe_call (pkAlong T 12) (hr.mono (by omega)) (by rfl) T.along.at_ T.along.kp T.along.bd (fr_ref (fv 0) (fr_val (fv 1) fr_nil))) fo_no (fo_int fe_int))))
      fb_nil)
      (fb_cons (fs_set (ps_set (i := 5) pcRight.nd rfl (.inl rfl) pe_S) (fe_call (pkSpells T) (hr.mono (by omega)) (by rfl) T.spells.at_ T.spells.kp T.spells.bd (fr_val (fv 1) (fr_val (fv 4) fr_nil))))
      (fb_one (fs_if (FW.ft (fw_or (ft_not (ft_tru (fe_b cb_isi (by rfl) T.bIsinstance (by decide +kernel) (fr_ref (fv 5) (fr_ref (fe_ty (n := "bool") (by rfl) T.bBool (by decide +kernel)) fr_nil))))) (fw_or (ft_cmp (os_ne (ru hr)) (fv 5) (fe_call (pkTakes T) (hr.mono (by omega)) (by rfl) T.takes.at_ T.takes.kp T.takes.bd (fr_val (fv 1) (fr_val (fv 4) fr_nil)))) (fw_or1 (ft_cmp (os_ne (ru hr)) (fv 5) (fe_call (pkSpells T) (hr.mono (by omega)) (by rfl) T.spells.at_ T.spells.kp T.spells.bd (fr_val (fv 1) (fr_val (fv 4) fr_nil))))))))
      (fb_one (fs_ret fe_bl))
      fb_nil))))))
      (fb_cons (fs_if (ft_not (ft_tru (fe_call (ok_alike T) (hr.mono (by omega)) (by rfl) T.alike.at_ T.alike.kp T.alike.bd (fr_val (fe_lst (fa_cons (fe_call (pkSnone T) (hr.mono (by omega)) (by rfl) T.snone.at_ T.snone.kp T.snone.bd (fr_val (fv 1) fr_nil)) (fa_cons (fe_call (pkOnly T) (hr.mono (by omega)) (by rfl) T.only.at_ T.only.kp T.only.bd (fr_val (fv 1) fr_nil)) fa_nil))) (fr_val (fe_lst (fa_cons (fe_call (pkTakes T) (hr.mono (by omega)) (by rfl) T.takes.at_ T.takes.kp T.takes.bd (fr_val (fv 1) (fr_val fe_str fr_nil))) (fa_cons (fe_call (ok_lonly T 12) (hr.mono (by omega)) (by rfl) T.lonly.at_ T.lonly.kp T.lonly.bd (fr_val (fv 1) fr_nil)) fa_nil))) fr_nil)))))
      (fb_one (fs_ret fe_bl))
      fb_nil)
      (fb_cons (fs_set (ps_set (i := 6) pcRight.nd rfl (.inl rfl) pe_S) (fe_call (pkLeast T) (hr.mono (by omega)) (by rfl) T.least.at_ T.least.kp T.least.bd (fr_val (fv 1) fr_nil)))
      (fb_cons (fs_set (ps_set (i := 7) pcRight.nd rfl (.inl rfl) pe_S) (fe_sl (fe_call (pkPool T) (hr.mono (by omega)) (by rfl) T.pool.at_ T.pool.kp T.pool.bd (fr_val (fv 3) fr_nil)) fo_no (fo_int fe_int)))
      (fb_cons (fs_if (FW.ft (fw_or (ft_not (ft_tru (fe_b cb_isi (by rfl) T.bIsinstance (by decide +kernel) (fr_ref (fv 6) (fr_ref (fe_ty (n := "str") (by rfl) T.bStr (by decide +kernel)) fr_nil))))) (fw_or (ft_not (ft_tru (fe_call (pkTakes T) (hr.mono (by omega)) (by rfl) T.takes.at_ T.takes.kp T.takes.bd (fr_val (fv 1) (fr_val (fv 6) fr_nil))))) (fw_or1 (ft_tru (fe_call (pkLessr T) (hr.mono (by omega)) (by rfl) T.lessr.at_ T.lessr.kp T.lessr.bd (fr_val (fv 1) (fr_val (fv 7) (fr_val (fv 6) fr_nil)))))))))
      (fb_one (fs_ret fe_bl))
      fb_nil)
      (fb_one (fs_ret (fe_or (fe_cmp os_is (fe_call (pkOnly T) (hr.mono (by omega)) (by rfl) T.only.at_ T.only.kp T.only.bd (fr_val (fv 1) fr_nil)) fe_non) (fe_one (fe_cmp (os_eq (ru hr)) (fe_call (pkOnly T) (hr.mono (by omega)) (by rfl) T.only.at_ T.only.kp T.only.bd (fr_val (fv 1) fr_nil)) (fv 6)))))))))))))), fun ρ R hl h => ?_⟩
  -- slots: 0 jar, 1 mould, 2 lap, 3 rack, 4 line, 5 found, 6 lowest, 7 pool
  obtain ⟨d, rfl, hj, q⟩ := h
  have sz : 2000000 ≤ sizeLine := by rw [sizeLine_eq]; decide
  refine ⟨by show 3 ≤ _; omega, nd1 _, 0, d, 3, rfl, hj, by decide, by decide, by decide, fun r1 d1 s1 r10 r11 j1 => ?_⟩
  have pl : ∃ x, L2.atI [D.str "ab", D.str "abc", D.str "a1 "] r1 = some (.str x) ∧ PoolOk x := by
    have : r1 = 0 ∨ r1 = 1 ∨ r1 = 2 := by omega
    rcases this with rfl | rfl | rfl
    · exact ⟨"ab", rfl, ⟨by decide +kernel, by decide +kernel, by decide +kernel⟩⟩
    · exact ⟨"abc", rfl, ⟨by decide +kernel, by decide +kernel, by decide +kernel⟩⟩
    · exact ⟨"a1 ", rfl, ⟨by decide +kernel, by decide +kernel, by decide +kernel⟩⟩
  obtain ⟨x, hx, px⟩ := pl
  refine ⟨_, hx, nd1 _, 1, d1, 4, rfl, j1, by decide, by decide, by decide, fun r2 d2 s2 r20 r21 j2 => ?_⟩
  obtain ⟨n, hn, en⟩ : ∃ n : Nat, n ≤ 4 ∧ 1 + r2 = (n : Int) := ⟨(1 + r2).toNat, by omega, by omega⟩
  have cm : costM n ≤ 111 := by
    match n, hn with
    | 0, _ => decide
    | 1, _ => decide
    | 2, _ => decide
    | 3, _ => decide
    | 4, _ => decide
  refine ⟨nd1 _, n, hn, 2, d2, x, by show [own d2, dat (.str x), dat (.int (1 + r2))] = _; rw [en], j2, by omega, px, fun p d3 s3 s4 j3 pk => ?_⟩
  have p4 : Pr p 4 := Pr.of pk hn
  have j3 : JarOk 120 d3 := j3.mono (by omega)
  clear hx px en cm pk
  dsimp only [YP.put]
  refine seq_cut (fun ρ => ∃ d p s2, ρ = [.sl true true d, dat (pD p), s2, .un, .un, .un, .un, .un] ∧ JarOk 200 d ∧ Pr p 12) ?_ (fun rest => ?_)
  · rintro _ ⟨d, p, s2, rfl, hj, hp⟩
    have pw := hp.pw (by decide)
    have hfl := hp.fl
    have c12 : cA p ≤ 16384 := by
      have h1 := cA_le p
      have h2 : 2 ^ dep p ≤ 2 ^ 12 := Nat.pow_le_pow_right (by decide) hp.dp
      have h3 : (2 : Nat) ^ 12 = 4096 := by decide
      omega
    refine ⟨by show 3 ≤ _; omega, by show 1 ≤ _; omega, ?_⟩
    refine ⟨by show -2 ^ 62 ≤ (6 : Int); decide, by show (6 : Int) < 2 ^ 62; decide, ?_⟩
    have l6 : (intsD 0 (6 : Int).toNat).length = 6 := rfl
    refine ⟨fun i ρ => ∃ d s2 s3 s4 s5, ρ = [.sl true true d, dat (pD p), s2, s3, s4, s5, .un, .un] ∧ JarOk (200 + 20000 * i) d ∧ (s3 = own (rackD p) ∨ s3 = dat (rackD p)), ⟨d, s2, _, _, _, rfl, hj, .inl rfl⟩, ?_, ?_⟩
    · rintro i y ρ hi ⟨d, s2, s3, s4, s5, rfl, jj, h3⟩
      have li : i < 6 := (List.getElem?_eq_some_iff.mp hi).1
      obtain ⟨yi, rfl⟩ : ∃ yi : Int, y = .int yi := by
        match i, li with
        | 0, _ => cases hi; exact ⟨_, rfl⟩
        | 1, _ => cases hi; exact ⟨_, rfl⟩
        | 2, _ => cases hi; exact ⟨_, rfl⟩
        | 3, _ => cases hi; exact ⟨_, rfl⟩
        | 4, _ => cases hi; exact ⟨_, rfl⟩
        | 5, _ => cases hi; exact ⟨_, rfl⟩
      rcases h3 with rfl | rfl
      all_goals
        refine ⟨nd1 _, 200 + 20000 * i, 7, d, p, rfl, jj, by decide, by omega, pw, hfl, fun u d2 t1 t2 j2 ul ulo => ?_⟩
        dsimp only [YP.put]
        refine seq_cut (fun ρ => ∃ d l, ρ = [.sl true true d, dat (pD p), dat (.int yi), dat (rackD p), dat (.str (toS l)), s5, .un, .un] ∧ JarOk (200 + 20000 * (i + 1)) d ∧ l.length ≤ 10000) ?_ (fun rest2 => ?_)
        · rintro _ ⟨d, l, rfl, jj, ll⟩
          refine ⟨List.nodup_nil, p, l, rfl, hp, ll, fun b t1 t2 hb => ?_⟩
          refine ⟨"bool", true, rfl, by decide +kernel, ?_⟩
          refine ⟨List.nodup_nil, p, l, rfl, pw, fun b2 ss hb2 => ?_⟩
          dsimp only
          rw [wb_no (rs := [.val (pD p), .val (.str (toS l))]) ss rfl]
          obtain rfl : b2 = b := Bool.eq_iff_iff.mpr (hb2.trans hb.symm)
          refine ⟨rfl, rfl, ?_⟩
          rw [show eqD (.bl b2) (.bl b2) = true by cases b2 <;> rfl]
          refine ⟨List.nodup_nil, p, l, rfl, hp, ll, fun b3 t3 t4 hb3 => ?_⟩
          obtain rfl : b3 = b2 := Bool.eq_iff_iff.mpr (hb3.trans hb.symm)
          refine ⟨rfl, rfl, ?_⟩
          rw [show eqD (.bl b3) (.bl b3) = true by cases b3 <;> rfl]
          exact ⟨d, _, _, _, _, rfl, jj, .inr rfl⟩
        · show (if decide ((2 : Int) < yi) = true then _ else _)
          by_cases h2 : (2 : Int) < yi
          · rw [decide_eq_true h2]
            refine ⟨nd1 _, 200 + 20000 * i + 7 + 1, d2, p, rfl, j2, hp.dp, by omega, hp.wf, hp.low, hp.few, fun v d3 t3 j3 vl vlo => ?_⟩
            have lv : (toS v).length = v.length := toS_len v
            refine ⟨by rw [lv]; omega, ?_⟩
            obtain ⟨l, el, ll⟩ : ∃ l, cutS (toS v) none (some 12) = toS l ∧ l.length ≤ 10000 := by
              refine ⟨(cutS (toS v) none (some 12)).cps.toList, rfl, ?_⟩
              have e1 : HT.sIx (toS v).length (toS v).length (some 12) = min 12 (toS v).length := HT.sIx_nat _ _ 12
              show (((toS v).cps.toList.drop (HT.sIx (toS v).length 0 none)).take (HT.sIx (toS v).length (toS v).length (some 12) - HT.sIx (toS v).length 0 none)).length ≤ 10000
              rw [List.length_take, e1]
              omega
            rw [el]
            exact rest2 _ ⟨d3, l, rfl, j3.mono (by omega), ll⟩
          · rw [decide_eq_false h2]
            exact rest2 _ ⟨d2, u, rfl, j2.mono (by omega), by omega⟩
    · rintro ρ ⟨d, s2, s3, s4, s5, rfl, jj, h3⟩
      have oo : Flat (oD (only p)) := by
        cases e : only p with
        | none => exact .non
        | some t => exact .str _ (str_ok (only_low hp.low e))
      have okn : okD (oD (only p)) = true := (ok_oD fun t e => only_low hp.low e).ok (by decide)
      have okm : okD (.str (toS (least p))) = true := (okN_str (str_ok (least_low p hp.low))).ok (by decide)
      have lsz : (least p).length ≤ 10000 := Nat.le_trans (least_len p) (Nat.le_trans hp.sz (by decide))
      rcases h3 with rfl | rfl
      all_goals
        refine ⟨List.nodup_nil, p, rfl, hp, fun t1 => ?_⟩
        refine ⟨List.nodup_nil, p, rfl, hp, fun t2 => ?_⟩
        refine ⟨by show 2 ≤ _; omega, ?_⟩
        refine ⟨List.nodup_nil, p, [], rfl, pw, fun b ss hb => ?_⟩
        obtain rfl : b = nul p := Bool.eq_iff_iff.mpr (hb.trans (nul_iff p).symm)
        dsimp only
        rw [wb_no (rs := [.val (pD p), .val (.str "")]) ss rfl]
        refine ⟨List.nodup_nil, p, rfl, hp.low, hp.dp, Nat.le_trans hp.sz (by decide), fun l hl => Nat.le_trans (hp.few l hl) (by decide), fun ss2 => ?_⟩
        dsimp only
        rw [wb_no (rs := [.val (pD p)]) ss2 rfl]
        refine ⟨by show 2 ≤ _; omega, ?_⟩
        refine ⟨List.nodup_nil, .lst [.bl (nul p), oD (only p)], rfl, .inr ⟨_, _, rfl, fun e he R' h => ⟨e, rfl, .inl (by rcases he with rfl | rfl; exact .bl _; exact oo), h⟩⟩, fun ss3 => ?_⟩
        dsimp only
        rw [wb_no (rs := [.val (.lst [.bl (nul p), oD (only p)]), .val (.lst [.bl (nul p), oD (only p)])]) ss3 rfl]
        refine ⟨List.nodup_nil, p, rfl, hp, fun t3 => ?_⟩
        refine ⟨List.nodup_nil, p, rfl, pw, hfl, fun l ss4 hl ll low => ?_⟩
        dsimp only
        rw [wb_no (rs := [.val (rackD p)]) ss4 rfl]
        have ec : YP.cut (l.map sgD) none (some 12) = (l.take 12).map sgD := by
          rw [List.map_take]; exact ycut_to _ 12
        refine ⟨"str", true, rfl, by decide +kernel, ?_⟩
        refine ⟨List.nodup_nil, p, least p, rfl, pw, fun b ss5 hb2 => ?_⟩
        obtain rfl : b = true := hb2.mpr (least_in p hp.wf)
        dsimp only
        rw [wb_no (rs := [.val (pD p), .val (.str (toS (least p)))]) ss5 rfl]
        refine ⟨List.nodup_nil, p, l.take 12, least p, by show [dat (pD p), dat (.lst (YP.cut (l.map sgD) none (some 12))), dat (.str (toS (least p)))] = _; rw [ec], pw, by rw [List.length_take]; omega, lsz, fun w => least_le p w hp.wf, fun ss6 => ?_⟩
        dsimp only
        rw [wb_no (rs := [.val (pD p), .val (.lst (YP.cut (l.map sgD) none (some 12))), .val (.str (toS (least p)))]) ss6 rfl]
        refine ⟨List.nodup_nil, p, rfl, hp, fun t4 => ?_⟩
        cases e : only p with
        | none =>
          have ew : oD (only p) = .non := by rw [e]; rfl
          rw [show oD Option.none = D.non from rfl]
          exact q _
        | some t =>
          have ew : oD (only p) = .str (toS t) := by rw [e]; rfl
          rw [show oD (some t) = D.str (toS t) from rfl]
          refine ⟨List.nodup_nil, p, rfl, hp, fun t5 => ?_⟩
          refine ⟨okn, okm, ?_⟩
          rw [show eqD (oD (only p)) (.str (toS (least p))) = true from by rw [ew, only_least p t e]; exact beq_self_eq_true _]
          exact q _
  · refine ⟨nd1 _, 120, d3, 6, rfl, j3, by decide, by decide, by decide, fun r d4 s5 r0 r1 j4 => ?_⟩
    refine ⟨rfl, rfl, ?_⟩
    by_cases e : eqD (.int r) (.int 0) = true
    · rw [e]
      refine ⟨by show -2 ^ 62 ≤ (8 : Int); decide, by show (8 : Int) < 2 ^ 62; decide, ?_⟩
      refine ⟨fun i ρ => ∃ d p s2, ρ = [.sl true true d, dat (pD p), s2, .un, .un, .un, .un, .un] ∧ JarOk (121 + 2 * i) d ∧ Pr p (4 + i), ⟨d4, p, _, rfl, j4, p4⟩, ?_, ?_⟩
      · rintro i y ρ hi ⟨d, p, s2, rfl, jj, pp⟩
        have li : i < 8 := (List.getElem?_eq_some_iff.mp hi).1
        refine ⟨nd1 _, 121 + 2 * i, 4 + i, d, p, rfl, jj, by omega, pp, by omega, fun p' d' s' j' pp' => ?_⟩
        exact ⟨d', p', _, rfl, j'.mono (by omega), pp'.mono (by omega)⟩
      · rintro ρ ⟨d, p, s2, rfl, jj, pp⟩
        exact rest _ ⟨d, p, _, rfl, jj.mono (by decide), pp.mono (by decide)⟩
    · rw [Bool.eq_false_iff.mpr e]
      exact rest _ ⟨d4, p, _, rfl, j4.mono (by decide), p4.mono (by decide)⟩
end
end K01
set_option maxRecDepth 100000
set_option maxHeartbeats 1000000
namespace K01
open PySem PySem.Spec PyProof.Rows L2 Yard YP
section
variable {P : Program} {w : World} {K : PySem.W.Frag} {mg : Str → Option Value} {base : Heap}
def spRight : Sp := fun vs H Q _ => ∃ a : Addr, vs = [.ref a] ∧ JarAt H a 0 ∧ ∀ H', Off a H H' → Q (.bl true) H'
theorem ok_right (T : Tx K w mg) : FnOk P w K mg base CX0 50 T.aRight T.fRight ["jar"] spRight := by
  refine (pkRight T).imp fun vs H Q E ⟨a, e, ⟨x, y, z, eh, hh⟩, q⟩ => ?_
  subst e
  refine ⟨[own (.lst [.int x, .int y, .int z])], fun b => if b = a then none else H b, fun _ => False, fun r ss => r = .val (.bl true), rfl, rfl, ?_, ⟨_, rfl, ⟨x, y, z, rfl, hh⟩, fun s => rfl⟩, fun r ρ' v F' H' hr nx er rr na => ?_⟩
  · refine ⟨rfl, fun b o e => ?_, fun i p d h => ?_, fun i p d h => ?_, fun i j b p q d e h1 h2 h3 h4 => ?_, fun i o d h => ?_, fun b hb => hb.elim⟩
    · by_cases k : b = a
      · have e : (if b = a then none else H b) = some o := e
        rw [if_pos k] at e; cases e
      · have e : (if b = a then none else H b) = some o := e
        rwa [if_neg k] at e
    · match i, h with
      | 0, h => cases h
    · match i, h with
      | 0, h => cases h; exact ⟨a, rfl, .lst eh (ints_rl [x, y, z]), if_pos rfl, fun h => h⟩
    · match i, j, h1, h2 with
      | 0, 0, _, _ => rfl
    · match i, h with
      | 0, h => cases h
  · subst hr
    have rr : RD K F' v (.bl true) := rr
    cases rr
    refine q H' fun b o hb e => ?_
    refine er.sub b o (nx.fz b o ?_)
    show (if b = a then none else H b) = some o
    rw [if_neg hb]; exact e
def spLaw (K : PySem.W.Frag) : Sp := fun vs H Q _ => ∃ (a : Addr) (ns : List Int), vs = [.ref a] ∧ SqL K H a (ns.map V.int) ∧ ns.length ≤ 63 ∧ ∀ H', Q (.bl true) H'
theorem scLaw : FnScope ["script", "k"] ["script"] (defScope sLaw) := ⟨rfl, rfl, rfl, by decide +kernel, rfl, by decide +kernel, by decide +kernel⟩
theorem ok_law {F : FuncData} {f : Addr} (L : Fun K "law" "law" sLaw f F) (T : Tx K w mg) : FnOk P w K mg base CX0 51 f F ["script"] (spLaw K) := by
  refine L.ok scLaw (fun vs H Q E h => ?_) (fun cdv A outer s H vs Q E hr h => ?_)
  · obtain ⟨a, ns, rfl, _⟩ := h
    rfl
  · obtain ⟨sa, ns, rfl, hS, hlen, q⟩ := h
    have hr1 : Room 1 _ := hr.mono (by omega)
    refine ⟨_, (pss_cons (ps_for PassesOwn.never rfl (pi_range1 rfl T.bRange (pa_cons (pe_callB (call_max2 rfl) (by rfl) T.bMax (by decide +kernel) (pa_cons pe_int (pa_cons (pe_callB (call_min2 rfl) (by rfl) T.bMin (by decide +kernel) (pa_cons pe_int (pa_cons (pe_callB call_len_seq (by rfl) T.len PySem.boot_len (pa_cons (pv 0) pa_nil)) pa_nil))) pa_nil))) pa_nil)) (pg_name (i := 1) scLaw.nd rfl (.inl rfl))
        (pss_one (ps_if (pt_not (pt_val (pe_call (ok_right T) hr (by rfl) T.right.at_ T.right.kp T.right.bd .nil pass0 (pa_cons (pe_call (ok_jar T) hr1 (by rfl) T.jar.at_ T.jar.kp T.jar.bd .nil pass0 (pa_cons (pv 0) (pa_cons (pv 1) pa_nil))) pa_nil))))
          (pss_one (ps_ret pe_bl)) pss_nil)))
      (pss_one (ps_ret pe_bl))), ?_⟩
    refine ⟨_, rfl, sa, _, rfl, .inl hS, 6, _, rfl, 1, _, rfl, _, rfl, ?_, ?_, ?_⟩
    · rw [List.length_map]; split <;> split <;> omega
    · rw [List.length_map]; split <;> split <;> omega
    generalize hm : (if (if (((ns.map V.int).length : Nat) : Int) < 6 then (((ns.map V.int).length : Nat) : Int) else 6) > 1 then (if (((ns.map V.int).length : Nat) : Int) < 6 then (((ns.map V.int).length : Nat) : Int) else 6) else 1) = m
    have hm6 : m.toNat ≤ 6 := by
      rw [← hm, List.length_map]; split <;> split <;> omega
    refine for_it (walk_range (lo := 0) (n := m.toNat)) (fun _ σ H => (∃ x1, σ = [some (.ref sa), x1]) ∧ SqL K H sa (ns.map V.int)) ⟨⟨_, rfl⟩, hS⟩ (fun _ _ _ _ _ => trivial) ?_ ?_
    · rintro i y σ H0 H1 hi ⟨⟨x1, rfl⟩, hS⟩ ⟨rfl, rfl⟩
      refine ⟨_, rfl, _, rfl, sa, ns, i, ?_, hS, hlen, by omega, fun p H2 np s2 jp => ?_⟩
      · show [V.ref sa, V.int (0 + (i : Int))] = _
        rw [Int.zero_add]
      refine ⟨p, rfl, jp, fun H3 of => ?_⟩
      have s3 : Same H1 H3 := fun b u e => of b u (ne_of_none e np) (s2 b u e)
      exact ⟨true, rfl, iteF ⟨⟨_, rfl⟩, s3.seq hS⟩⟩
    · rintro σ H3 _
      exact q _
end
end K01
set_option maxRecDepth 100000
set_option maxHeartbeats 1000000
namespace K01
open PySem PySem.Spec PyProof.Rows L2 Yard
/-- a def of the text, as the top has left it -/
theorem df_mk {K : PySem.W.Frag} {h : Heap} {mg : Str → Option Value} {x : Str} {st : Stmt} {ps : List Str} {f : Addr} {od an : Option Addr} {sl : Array (Option Value)} {oc kV dc pm cd ct : Value} (X : K.In h) (G : h.Ns mainGlobals mg)
    (a : PySem.W.nsIn K mainGlobals x = some (some (.ref f))) (l : K.lookup f = some ⟨oc, od, .func (PySem.W.fnOf x x (defArgs st) (defBody st) (defScope st) .none kV dc pm an cd ct), sl⟩) (c : PySem.W.codeIn K cd x = true) (k : PySem.W.keepIn K (.ref f) = true)
    (b : ∀ (kV doc pm : Value) (an : Option Addr) (cdv ct : Value) (us : List Value), us.length = ps.length → bindArgs (PySem.W.fnOf x x (defArgs st) (defBody st) (defScope st) .none kV doc pm an cdv ct) ⟨us, []⟩ = pure (ps.zip us)) :
    Df K mg x st ps f (PySem.W.fnOf x x (defArgs st) (defBody st) (defScope st) .none kV dc pm an cd ct) :=
  have F := fun_mk (st := st) l c k
  ⟨F, F.binds b, PySem.W.mg_of X G a⟩
theorem all_mk {l : PySem.W.OpenLaw} {w : World} {K : PySem.W.Frag} {h : Heap} {mg : Str → Option Value} {fa : Addr} (X : K.In h) (G : h.Ns mainGlobals mg) (hfa : mg "law" = some (.ref fa))
    {C C2 : Addr} {tB : Tok}
    {f0 : Addr} {od0 an0 : Option Addr} {sl0 : Array (Option Value)} {oc0 kV0 dc0 pm0 cd0 ct0 : Value}
    {f1 : Addr} {od1 an1 : Option Addr} {sl1 : Array (Option Value)} {oc1 kV1 dc1 pm1 cd1 ct1 : Value}
    {f2 : Addr} {od2 an2 : Option Addr} {sl2 : Array (Option Value)} {oc2 kV2 dc2 pm2 cd2 ct2 : Value}
    {f3 : Addr} {od3 an3 : Option Addr} {sl3 : Array (Option Value)} {oc3 kV3 dc3 pm3 cd3 ct3 : Value}
    {f4 : Addr} {od4 an4 : Option Addr} {sl4 : Array (Option Value)} {oc4 kV4 dc4 pm4 cd4 ct4 : Value}
    {f5 : Addr} {od5 an5 : Option Addr} {sl5 : Array (Option Value)} {oc5 kV5 dc5 pm5 cd5 ct5 : Value}
    {f6 : Addr} {od6 an6 : Option Addr} {sl6 : Array (Option Value)} {oc6 kV6 dc6 pm6 cd6 ct6 : Value}
    {f7 : Addr} {od7 an7 : Option Addr} {sl7 : Array (Option Value)} {oc7 kV7 dc7 pm7 cd7 ct7 : Value}
    {f8 : Addr} {od8 an8 : Option Addr} {sl8 : Array (Option Value)} {oc8 kV8 dc8 pm8 cd8 ct8 : Value}
    {f9 : Addr} {od9 an9 : Option Addr} {sl9 : Array (Option Value)} {oc9 kV9 dc9 pm9 cd9 ct9 : Value}
    {f10 : Addr} {od10 an10 : Option Addr} {sl10 : Array (Option Value)} {oc10 kV10 dc10 pm10 cd10 ct10 : Value}
    {f11 : Addr} {od11 an11 : Option Addr} {sl11 : Array (Option Value)} {oc11 kV11 dc11 pm11 cd11 ct11 : Value}
    {f12 : Addr} {od12 an12 : Option Addr} {sl12 : Array (Option Value)} {oc12 kV12 dc12 pm12 cd12 ct12 : Value}
    {f13 : Addr} {od13 an13 : Option Addr} {sl13 : Array (Option Value)} {oc13 kV13 dc13 pm13 cd13 ct13 : Value}
    {f14 : Addr} {od14 an14 : Option Addr} {sl14 : Array (Option Value)} {oc14 kV14 dc14 pm14 cd14 ct14 : Value}
    {f15 : Addr} {od15 an15 : Option Addr} {sl15 : Array (Option Value)} {oc15 kV15 dc15 pm15 cd15 ct15 : Value}
    {f16 : Addr} {od16 an16 : Option Addr} {sl16 : Array (Option Value)} {oc16 kV16 dc16 pm16 cd16 ct16 : Value}
    {f17 : Addr} {od17 an17 : Option Addr} {sl17 : Array (Option Value)} {oc17 kV17 dc17 pm17 cd17 ct17 : Value}
    {f18 : Addr} {od18 an18 : Option Addr} {sl18 : Array (Option Value)} {oc18 kV18 dc18 pm18 cd18 ct18 : Value}
    {f19 : Addr} {od19 an19 : Option Addr} {sl19 : Array (Option Value)} {oc19 kV19 dc19 pm19 cd19 ct19 : Value}
    {f20 : Addr} {od20 an20 : Option Addr} {sl20 : Array (Option Value)} {oc20 kV20 dc20 pm20 cd20 ct20 : Value}
    {f21 : Addr} {od21 an21 : Option Addr} {sl21 : Array (Option Value)} {oc21 kV21 dc21 pm21 cd21 ct21 : Value}
    {f22 : Addr} {od22 an22 : Option Addr} {sl22 : Array (Option Value)} {oc22 kV22 dc22 pm22 cd22 ct22 : Value}
    {f23 : Addr} {od23 an23 : Option Addr} {sl23 : Array (Option Value)} {oc23 kV23 dc23 pm23 cd23 ct23 : Value}
    {f24 : Addr} {od24 an24 : Option Addr} {sl24 : Array (Option Value)} {oc24 kV24 dc24 pm24 cd24 ct24 : Value}
    {fm0 : Addr} {odm0 anm0 : Option Addr} {slm0 : Array (Option Value)} {ocm0 kVm0 dcm0 pmm0 cdm0 ctm0 : Value}
    {fm1 : Addr} {odm1 anm1 : Option Addr} {slm1 : Array (Option Value)} {ocm1 kVm1 dcm1 pmm1 cdm1 ctm1 : Value}
    {fm2 : Addr} {odm2 anm2 : Option Addr} {slm2 : Array (Option Value)} {ocm2 kVm2 dcm2 pmm2 cdm2 ctm2 : Value}
    {fm3 : Addr} {odm3 anm3 : Option Addr} {slm3 : Array (Option Value)} {ocm3 kVm3 dcm3 pmm3 cdm3 ctm3 : Value}
    {fm4 : Addr} {odm4 anm4 : Option Addr} {slm4 : Array (Option Value)} {ocm4 kVm4 dcm4 pmm4 cdm4 ctm4 : Value}
    {fm5 : Addr} {odm5 anm5 : Option Addr} {slm5 : Array (Option Value)} {ocm5 kVm5 dcm5 pmm5 cdm5 ctm5 : Value}
    {fm6 : Addr} {odm6 anm6 : Option Addr} {slm6 : Array (Option Value)} {ocm6 kVm6 dcm6 pmm6 cdm6 ctm6 : Value}
    {fm7 : Addr} {odm7 anm7 : Option Addr} {slm7 : Array (Option Value)} {ocm7 kVm7 dcm7 pmm7 cdm7 ctm7 : Value}
    {fm8 : Addr} {odm8 anm8 : Option Addr} {slm8 : Array (Option Value)} {ocm8 kVm8 dcm8 pmm8 cdm8 ctm8 : Value}
    (a0 : PySem.W.nsIn K mainGlobals "numbers_of" = some (some (.ref f0))) (l0 : K.lookup f0 = some ⟨oc0, od0, .func (PySem.W.fnOf "numbers_of" "numbers_of" (defArgs sNums) (defBody sNums) (defScope sNums) .none kV0 dc0 pm0 an0 cd0 ct0), sl0⟩) (c0 : PySem.W.codeIn K cd0 "numbers_of" = true) (k0 : PySem.W.keepIn K (.ref f0) = true)
    (a1 : PySem.W.nsIn K mainGlobals "spells" = some (some (.ref f1))) (l1 : K.lookup f1 = some ⟨oc1, od1, .func (PySem.W.fnOf "spells" "spells" (defArgs sSpells) (defBody sSpells) (defScope sSpells) .none kV1 dc1 pm1 an1 cd1 ct1), sl1⟩) (c1 : PySem.W.codeIn K cd1 "spells" = true) (k1 : PySem.W.keepIn K (.ref f1) = true)
    (a2 : PySem.W.nsIn K mainGlobals "spells_none" = some (some (.ref f2))) (l2 : K.lookup f2 = some ⟨oc2, od2, .func (PySem.W.fnOf "spells_none" "spells_none" (defArgs sSnone) (defBody sSnone) (defScope sSnone) .none kV2 dc2 pm2 an2 cd2 ct2), sl2⟩) (c2 : PySem.W.codeIn K cd2 "spells_none" = true) (k2 : PySem.W.keepIn K (.ref f2) = true)
    (a3 : PySem.W.nsIn K mainGlobals "least_spelled" = some (some (.ref f3))) (l3 : K.lookup f3 = some ⟨oc3, od3, .func (PySem.W.fnOf "least_spelled" "least_spelled" (defArgs sLeast) (defBody sLeast) (defScope sLeast) .none kV3 dc3 pm3 an3 cd3 ct3), sl3⟩) (c3 : PySem.W.codeIn K cd3 "least_spelled" = true) (k3 : PySem.W.keepIn K (.ref f3) = true)
    (a4 : PySem.W.nsIn K mainGlobals "lesser" = some (some (.ref f4))) (l4 : K.lookup f4 = some ⟨oc4, od4, .func (PySem.W.fnOf "lesser" "lesser" (defArgs sLesser) (defBody sLesser) (defScope sLesser) .none kV4 dc4 pm4 an4 cd4 ct4), sl4⟩) (c4 : PySem.W.codeIn K cd4 "lesser" = true) (k4 : PySem.W.keepIn K (.ref f4) = true)
    (a5 : PySem.W.nsIn K mainGlobals "only_text" = some (some (.ref f5))) (l5 : K.lookup f5 = some ⟨oc5, od5, .func (PySem.W.fnOf "only_text" "only_text" (defArgs sOnly) (defBody sOnly) (defScope sOnly) .none kV5 dc5 pm5 an5 cd5 ct5), sl5⟩) (c5 : PySem.W.codeIn K cd5 "only_text" = true) (k5 : PySem.W.keepIn K (.ref f5) = true)
    (a6 : PySem.W.nsIn K mainGlobals "_law_jar" = some (some (.ref f6))) (l6 : K.lookup f6 = some ⟨oc6, od6, .func (PySem.W.fnOf "_law_jar" "_law_jar" (defArgs sJar) (defBody sJar) (defScope sJar) .none kV6 dc6 pm6 an6 cd6 ct6), sl6⟩) (c6 : PySem.W.codeIn K cd6 "_law_jar" = true) (k6 : PySem.W.keepIn K (.ref f6) = true)
    (a7 : PySem.W.nsIn K mainGlobals "_law_dip" = some (some (.ref f7))) (l7 : K.lookup f7 = some ⟨oc7, od7, .func (PySem.W.fnOf "_law_dip" "_law_dip" (defArgs sDip) (defBody sDip) (defScope sDip) .none kV7 dc7 pm7 an7 cd7 ct7), sl7⟩) (c7 : PySem.W.codeIn K cd7 "_law_dip" = true) (k7 : PySem.W.keepIn K (.ref f7) = true)
    (a8 : PySem.W.nsIn K mainGlobals "_law_all_signs" = some (some (.ref f8))) (l8 : K.lookup f8 = some ⟨oc8, od8, .func (PySem.W.fnOf "_law_all_signs" "_law_all_signs" (defArgs sAll) (defBody sAll) (defScope sAll) .none kV8 dc8 pm8 an8 cd8 ct8), sl8⟩) (c8 : PySem.W.codeIn K cd8 "_law_all_signs" = true) (k8 : PySem.W.keepIn K (.ref f8) = true)
    (a9 : PySem.W.nsIn K mainGlobals "_law_alike" = some (some (.ref f9))) (l9 : K.lookup f9 = some ⟨oc9, od9, .func (PySem.W.fnOf "_law_alike" "_law_alike" (defArgs sAlike) (defBody sAlike) (defScope sAlike) .none kV9 dc9 pm9 an9 cd9 ct9), sl9⟩) (c9 : PySem.W.codeIn K cd9 "_law_alike" = true) (k9 : PySem.W.keepIn K (.ref f9) = true)
    (a10 : PySem.W.nsIn K mainGlobals "_law_signs_of" = some (some (.ref f10))) (l10 : K.lookup f10 = some ⟨oc10, od10, .func (PySem.W.fnOf "_law_signs_of" "_law_signs_of" (defArgs sOf) (defBody sOf) (defScope sOf) .none kV10 dc10 pm10 an10 cd10 ct10), sl10⟩) (c10 : PySem.W.codeIn K cd10 "_law_signs_of" = true) (k10 : PySem.W.keepIn K (.ref f10) = true)
    (a11 : PySem.W.nsIn K mainGlobals "_law_mould" = some (some (.ref f11))) (l11 : K.lookup f11 = some ⟨oc11, od11, .func (PySem.W.fnOf "_law_mould" "_law_mould" (defArgs sMould) (defBody sMould) (defScope sMould) .none kV11 dc11 pm11 an11 cd11 ct11), sl11⟩) (c11 : PySem.W.codeIn K cd11 "_law_mould" = true) (k11 : PySem.W.keepIn K (.ref f11) = true)
    (a12 : PySem.W.nsIn K mainGlobals "_law_opened" = some (some (.ref f12))) (l12 : K.lookup f12 = some ⟨oc12, od12, .func (PySem.W.fnOf "_law_opened" "_law_opened" (defArgs sOpened) (defBody sOpened) (defScope sOpened) .none kV12 dc12 pm12 an12 cd12 ct12), sl12⟩) (c12 : PySem.W.codeIn K cd12 "_law_opened" = true) (k12 : PySem.W.keepIn K (.ref f12) = true)
    (a13 : PySem.W.nsIn K mainGlobals "_law_led" = some (some (.ref f13))) (l13 : K.lookup f13 = some ⟨oc13, od13, .func (PySem.W.fnOf "_law_led" "_law_led" (defArgs sLed) (defBody sLed) (defScope sLed) .none kV13 dc13 pm13 an13 cd13 ct13), sl13⟩) (c13 : PySem.W.codeIn K cd13 "_law_led" = true) (k13 : PySem.W.keepIn K (.ref f13) = true)
    (a14 : PySem.W.nsIn K mainGlobals "_law_takes" = some (some (.ref f14))) (l14 : K.lookup f14 = some ⟨oc14, od14, .func (PySem.W.fnOf "_law_takes" "_law_takes" (defArgs sTakes) (defBody sTakes) (defScope sTakes) .none kV14 dc14 pm14 an14 cd14 ct14), sl14⟩) (c14 : PySem.W.codeIn K cd14 "_law_takes" = true) (k14 : PySem.W.keepIn K (.ref f14) = true)
    (a15 : PySem.W.nsIn K mainGlobals "_law_pool" = some (some (.ref f15))) (l15 : K.lookup f15 = some ⟨oc15, od15, .func (PySem.W.fnOf "_law_pool" "_law_pool" (defArgs sPool) (defBody sPool) (defScope sPool) .none kV15 dc15 pm15 an15 cd15 ct15), sl15⟩) (c15 : PySem.W.codeIn K cd15 "_law_pool" = true) (k15 : PySem.W.keepIn K (.ref f15) = true)
    (a16 : PySem.W.nsIn K mainGlobals "_law_text" = some (some (.ref f16))) (l16 : K.lookup f16 = some ⟨oc16, od16, .func (PySem.W.fnOf "_law_text" "_law_text" (defArgs sText) (defBody sText) (defScope sText) .none kV16 dc16 pm16 an16 cd16 ct16), sl16⟩) (c16 : PySem.W.codeIn K cd16 "_law_text" = true) (k16 : PySem.W.keepIn K (.ref f16) = true)
    (a17 : PySem.W.nsIn K mainGlobals "_law_along" = some (some (.ref f17))) (l17 : K.lookup f17 = some ⟨oc17, od17, .func (PySem.W.fnOf "_law_along" "_law_along" (defArgs sAlong) (defBody sAlong) (defScope sAlong) .none kV17 dc17 pm17 an17 cd17 ct17), sl17⟩) (c17 : PySem.W.codeIn K cd17 "_law_along" = true) (k17 : PySem.W.keepIn K (.ref f17) = true)
    (a18 : PySem.W.nsIn K mainGlobals "_law_longer" = some (some (.ref f18))) (l18 : K.lookup f18 = some ⟨oc18, od18, .func (PySem.W.fnOf "_law_longer" "_law_longer" (defArgs sLonger) (defBody sLonger) (defScope sLonger) .none kV18 dc18 pm18 an18 cd18 ct18), sl18⟩) (c18 : PySem.W.codeIn K cd18 "_law_longer" = true) (k18 : PySem.W.keepIn K (.ref f18) = true)
    (a19 : PySem.W.nsIn K mainGlobals "_law_lesser" = some (some (.ref f19))) (l19 : K.lookup f19 = some ⟨oc19, od19, .func (PySem.W.fnOf "_law_lesser" "_law_lesser" (defArgs sLessr) (defBody sLessr) (defScope sLessr) .none kV19 dc19 pm19 an19 cd19 ct19), sl19⟩) (c19 : PySem.W.codeIn K cd19 "_law_lesser" = true) (k19 : PySem.W.keepIn K (.ref f19) = true)
    (a20 : PySem.W.nsIn K mainGlobals "_law_only" = some (some (.ref f20))) (l20 : K.lookup f20 = some ⟨oc20, od20, .func (PySem.W.fnOf "_law_only" "_law_only" (defArgs sLonly) (defBody sLonly) (defScope sLonly) .none kV20 dc20 pm20 an20 cd20 ct20), sl20⟩) (c20 : PySem.W.codeIn K cd20 "_law_only" = true) (k20 : PySem.W.keepIn K (.ref f20) = true)
    (a21 : PySem.W.nsIn K mainGlobals "_law_agains" = some (some (.ref f21))) (l21 : K.lookup f21 = some ⟨oc21, od21, .func (PySem.W.fnOf "_law_agains" "_law_agains" (defArgs sAgains) (defBody sAgains) (defScope sAgains) .none kV21 dc21 pm21 an21 cd21 ct21), sl21⟩) (c21 : PySem.W.codeIn K cd21 "_law_agains" = true) (k21 : PySem.W.keepIn K (.ref f21) = true)
    (a22 : PySem.W.nsIn K mainGlobals "_law_around" = some (some (.ref f22))) (l22 : K.lookup f22 = some ⟨oc22, od22, .func (PySem.W.fnOf "_law_around" "_law_around" (defArgs sAround) (defBody sAround) (defScope sAround) .none kV22 dc22 pm22 an22 cd22 ct22), sl22⟩) (c22 : PySem.W.codeIn K cd22 "_law_around" = true) (k22 : PySem.W.keepIn K (.ref f22) = true)
    (a23 : PySem.W.nsIn K mainGlobals "_law_right" = some (some (.ref f23))) (l23 : K.lookup f23 = some ⟨oc23, od23, .func (PySem.W.fnOf "_law_right" "_law_right" (defArgs sRight) (defBody sRight) (defScope sRight) .none kV23 dc23 pm23 an23 cd23 ct23), sl23⟩) (c23 : PySem.W.codeIn K cd23 "_law_right" = true) (k23 : PySem.W.keepIn K (.ref f23) = true)
    (a24 : PySem.W.nsIn K mainGlobals "law" = some (some (.ref f24))) (l24 : K.lookup f24 = some ⟨oc24, od24, .func (PySem.W.fnOf "law" "law" (defArgs sLaw) (defBody sLaw) (defScope sLaw) .none kV24 dc24 pm24 an24 cd24 ct24), sl24⟩) (c24 : PySem.W.codeIn K cd24 "law" = true) (k24 : PySem.W.keepIn K (.ref f24) = true)
    (aC0 : PySem.W.nsIn K mainGlobals "Places" = some (some (.ref C)))
    (pg0 : PySem.W.plainGet K C Str.empty = true) (hd0 : PySem.W.hasDictIn K C = true) (po0 : PySem.W.plainOver K C = true) (sa0 : PySem.W.findIn K (.ref C) "__setattr__" = some (some (.builtin "object.__setattr__"))) (mk0 : PySem.W.makesIn K C = true) (kc0 : PySem.W.keepIn K (.ref C) = true)
    (n0_0 : PySem.W.findIn K (.ref C) "signs" = some none)
    (n0_1 : PySem.W.findIn K (.ref C) "behind" = some none)
    (n0_2 : PySem.W.findIn K (.ref C) "ends" = some none)
    (aC1 : PySem.W.nsIn K mainGlobals "Speller" = some (some (.ref C2)))
    (pg1 : PySem.W.plainGet K C2 Str.empty = true) (hd1 : PySem.W.hasDictIn K C2 = true) (po1 : PySem.W.plainOver K C2 = true) (sa1 : PySem.W.findIn K (.ref C2) "__setattr__" = some (some (.builtin "object.__setattr__"))) (mk1 : PySem.W.makesIn K C2 = true) (kc1 : PySem.W.keepIn K (.ref C2) = true)
    (n1_0 : PySem.W.findIn K (.ref C2) "_places" = some none)
    (n1_1 : PySem.W.findIn K (.ref C2) "_having" = some none)
    (am0 : PySem.W.findIn K (.ref C) "__init__" = some (some (.ref fm0))) (im0 : PySem.W.isFn K (.ref fm0) = true) (lm0 : K.lookup fm0 = some ⟨ocm0, odm0, .func (PySem.W.fnOf "__init__" "Places.__init__" (defArgs mInit) (defBody mInit) (defScope mInit) .none kVm0 dcm0 pmm0 anm0 cdm0 ctm0), slm0⟩) (cm0 : PySem.W.codeIn K cdm0 "Places.__init__" = true) (km0 : PySem.W.keepIn K (.ref fm0) = true)
    (am1 : PySem.W.findIn K (.ref C) "laid" = some (some (.ref fm1))) (im1 : PySem.W.isFn K (.ref fm1) = true) (lm1 : K.lookup fm1 = some ⟨ocm1, odm1, .func (PySem.W.fnOf "laid" "Places.laid" (defArgs mLaid) (defBody mLaid) (defScope mLaid) .none kVm1 dcm1 pmm1 anm1 cdm1 ctm1), slm1⟩) (cm1 : PySem.W.codeIn K cdm1 "Places.laid" = true) (km1 : PySem.W.keepIn K (.ref fm1) = true)
    (am2 : PySem.W.findIn K (.ref C) "laid_signs" = some (some (.ref fm2))) (im2 : PySem.W.isFn K (.ref fm2) = true) (lm2 : K.lookup fm2 = some ⟨ocm2, odm2, .func (PySem.W.fnOf "laid_signs" "Places.laid_signs" (defArgs mLaidS) (defBody mLaidS) (defScope mLaidS) .none kVm2 dcm2 pmm2 anm2 cdm2 ctm2), slm2⟩) (cm2 : PySem.W.codeIn K cdm2 "Places.laid_signs" = true) (km2 : PySem.W.keepIn K (.ref fm2) = true)
    (am3 : PySem.W.findIn K (.ref C) "link" = some (some (.ref fm3))) (im3 : PySem.W.isFn K (.ref fm3) = true) (lm3 : K.lookup fm3 = some ⟨ocm3, odm3, .func (PySem.W.fnOf "link" "Places.link" (defArgs mLink) (defBody mLink) (defScope mLink) .none kVm3 dcm3 pmm3 anm3 cdm3 ctm3), slm3⟩) (cm3 : PySem.W.codeIn K cdm3 "Places.link" = true) (km3 : PySem.W.keepIn K (.ref fm3) = true)
    (am4 : PySem.W.findIn K (.ref C) "all_behind" = some (some (.ref fm4))) (im4 : PySem.W.isFn K (.ref fm4) = true) (lm4 : K.lookup fm4 = some ⟨ocm4, odm4, .func (PySem.W.fnOf "all_behind" "Places.all_behind" (defArgs mBehind) (defBody mBehind) (defScope mBehind) .none kVm4 dcm4 pmm4 anm4 cdm4 ctm4), slm4⟩) (cm4 : PySem.W.codeIn K cdm4 "Places.all_behind" = true) (km4 : PySem.W.keepIn K (.ref fm4) = true)
    (am5 : PySem.W.findIn K (.ref C) "by_signs" = some (some (.ref fm5))) (im5 : PySem.W.isFn K (.ref fm5) = true) (lm5 : K.lookup fm5 = some ⟨ocm5, odm5, .func (PySem.W.fnOf "by_signs" "Places.by_signs" (defArgs mBysigns) (defBody mBysigns) (defScope mBysigns) .none kVm5 dcm5 pmm5 anm5 cdm5 ctm5), slm5⟩) (cm5 : PySem.W.codeIn K cdm5 "Places.by_signs" = true) (km5 : PySem.W.keepIn K (.ref fm5) = true)
    (am6 : PySem.W.findIn K (.ref C) "first_end" = some (some (.ref fm6))) (im6 : PySem.W.isFn K (.ref fm6) = true) (lm6 : K.lookup fm6 = some ⟨ocm6, odm6, .func (PySem.W.fnOf "first_end" "Places.first_end" (defArgs mFend) (defBody mFend) (defScope mFend) .none kVm6 dcm6 pmm6 anm6 cdm6 ctm6), slm6⟩) (cm6 : PySem.W.codeIn K cdm6 "Places.first_end" = true) (km6 : PySem.W.keepIn K (.ref fm6) = true)
    (am7 : PySem.W.findIn K (.ref C2) "__init__" = some (some (.ref fm7))) (im7 : PySem.W.isFn K (.ref fm7) = true) (lm7 : K.lookup fm7 = some ⟨ocm7, odm7, .func (PySem.W.fnOf "__init__" "Speller.__init__" (defArgs mSinit) (defBody mSinit) (defScope mSinit) .none kVm7 dcm7 pmm7 anm7 cdm7 ctm7), slm7⟩) (cm7 : PySem.W.codeIn K cdm7 "Speller.__init__" = true) (km7 : PySem.W.keepIn K (.ref fm7) = true)
    (am8 : PySem.W.findIn K (.ref C2) "takes" = some (some (.ref fm8))) (im8 : PySem.W.isFn K (.ref fm8) = true) (lm8 : K.lookup fm8 = some ⟨ocm8, odm8, .func (PySem.W.fnOf "takes" "Speller.takes" (defArgs mStakes) (defBody mStakes) (defScope mStakes) .none kVm8 dcm8 pmm8 anm8 cdm8 ctm8), slm8⟩) (cm8 : PySem.W.codeIn K cdm8 "Speller.takes" = true) (km8 : PySem.W.keepIn K (.ref fm8) = true)
    (g1 : PySem.W.nsIn K mainGlobals "BEGINNING" = some (some (.int 1 tB)))
    (z0 : PySem.W.nsIn K mainGlobals "len" = some none)
    (z1 : PySem.W.nsIn K mainGlobals "range" = some none)
    (z2 : PySem.W.nsIn K mainGlobals "max" = some none)
    (z3 : PySem.W.nsIn K mainGlobals "min" = some none)
    (z4 : PySem.W.nsIn K mainGlobals "int" = some none)
    (z5 : PySem.W.nsIn K mainGlobals "str" = some none)
    (z6 : PySem.W.nsIn K mainGlobals "tuple" = some none)
    (z7 : PySem.W.nsIn K mainGlobals "list" = some none)
    (z8 : PySem.W.nsIn K mainGlobals "bool" = some none)
    (z9 : PySem.W.nsIn K mainGlobals "set" = some none)
    (z10 : PySem.W.nsIn K mainGlobals "sorted" = some none)
    (z11 : PySem.W.nsIn K mainGlobals "all" = some none)
    (z12 : PySem.W.nsIn K mainGlobals "isinstance" = some none)
    (z13 : PySem.W.nsIn K mainGlobals "enumerate" = some none)
    (z14 : PySem.W.nsIn K mainGlobals "sum" = some none) :
    ∃ fd : FuncData, (∀ (s : Shared) (v : Value), BindsTo s fd ⟨[v], []⟩ [("script", v)]) ∧ ∀ base : Heap, K.In base → base.Ns mainGlobals mg → FnOk l.prog w K mg base CX0 51 fa fd ["script"] (spLaw K) := by
  have e := hfa.symm.trans (PySem.W.mg_of X G a24)
  cases e
  have F := fun_mk (st := sLaw) l24 c24 k24
  have D0 := df_mk (st := sNums) (ps := ["places"]) X G a0 l0 c0 k0 fun _ _ _ _ _ _ us hl => match us, hl with | [_], _ => rfl
  have D1 := df_mk (st := sSpells) (ps := ["pattern", "text"]) X G a1 l1 c1 k1 fun _ _ _ _ _ _ us hl => match us, hl with | [_, _], _ => rfl
  have D2 := df_mk (st := sSnone) (ps := ["pattern"]) X G a2 l2 c2 k2 fun _ _ _ _ _ _ us hl => match us, hl with | [_], _ => rfl
  have D3 := df_mk (st := sLeast) (ps := ["pattern"]) X G a3 l3 c3 k3 fun _ _ _ _ _ _ us hl => match us, hl with | [_], _ => rfl
  have D4 := df_mk (st := sLesser) (ps := ["one", "other"]) X G a4 l4 c4 k4 fun _ _ _ _ _ _ us hl => match us, hl with | [_, _], _ => rfl
  have D5 := df_mk (st := sOnly) (ps := ["pattern"]) X G a5 l5 c5 k5 fun _ _ _ _ _ _ us hl => match us, hl with | [_], _ => rfl
  have D6 := df_mk (st := sJar) (ps := ["script", "k"]) X G a6 l6 c6 k6 fun _ _ _ _ _ _ us hl => match us, hl with | [_, _], _ => rfl
  have D7 := df_mk (st := sDip) (ps := ["jar", "many"]) X G a7 l7 c7 k7 fun _ _ _ _ _ _ us hl => match us, hl with | [_, _], _ => rfl
  have D8 := df_mk (st := sAll) (ps := []) X G a8 l8 c8 k8 fun _ _ _ _ _ _ us hl => match us, hl with | [], _ => rfl
  have D9 := df_mk (st := sAlike) (ps := ["found", "owed"]) X G a9 l9 c9 k9 fun _ _ _ _ _ _ us hl => match us, hl with | [_, _], _ => rfl
  have D10 := df_mk (st := sOf) (ps := ["jar", "plain"]) X G a10 l10 c10 k10 fun _ _ _ _ _ _ us hl => match us, hl with | [_, _], _ => rfl
  have D11 := df_mk (st := sMould) (ps := ["jar", "plain", "deep"]) X G a11 l11 c11 k11 fun _ _ _ _ _ _ us hl => match us, hl with | [_, _, _], _ => rfl
  have D12 := df_mk (st := sOpened) (ps := ["owes"]) X G a12 l12 c12 k12 fun _ _ _ _ _ _ us hl => match us, hl with | [_], _ => rfl
  have D13 := df_mk (st := sLed) (ps := ["owes", "line"]) X G a13 l13 c13 k13 fun _ _ _ _ _ _ us hl => match us, hl with | [_, _], _ => rfl
  have D14 := df_mk (st := sTakes) (ps := ["mould", "line"]) X G a14 l14 c14 k14 fun _ _ _ _ _ _ us hl => match us, hl with | [_, _], _ => rfl
  have D15 := df_mk (st := sPool) (ps := ["rack"]) X G a15 l15 c15 k15 fun _ _ _ _ _ _ us hl => match us, hl with | [_], _ => rfl
  have D16 := df_mk (st := sText) (ps := ["jar", "rack", "most"]) X G a16 l16 c16 k16 fun _ _ _ _ _ _ us hl => match us, hl with | [_, _, _], _ => rfl
  have D17 := df_mk (st := sAlong) (ps := ["jar", "mould"]) X G a17 l17 c17 k17 fun _ _ _ _ _ _ us hl => match us, hl with | [_, _], _ => rfl
  have D18 := df_mk (st := sLonger) (ps := ["level", "pool"]) X G a18 l18 c18 k18 fun _ _ _ _ _ _ us hl => match us, hl with | [_, _], _ => rfl
  have D19 := df_mk (st := sLessr) (ps := ["mould", "pool", "line"]) X G a19 l19 c19 k19 fun _ _ _ _ _ _ us hl => match us, hl with | [_, _, _], _ => rfl
  have D20 := df_mk (st := sLonly) (ps := ["mould"]) X G a20 l20 c20 k20 fun _ _ _ _ _ _ us hl => match us, hl with | [_], _ => rfl
  have D21 := df_mk (st := sAgains) (ps := ["mould"]) X G a21 l21 c21 k21 fun _ _ _ _ _ _ us hl => match us, hl with | [_], _ => rfl
  have D22 := df_mk (st := sAround) (ps := ["jar", "mould"]) X G a22 l22 c22 k22 fun _ _ _ _ _ _ us hl => match us, hl with | [_, _], _ => rfl
  have D23 := df_mk (st := sRight) (ps := ["jar"]) X G a23 l23 c23 k23 fun _ _ _ _ _ _ us hl => match us, hl with | [_], _ => rfl
  have FM0 := fun_mk (st := mInit) lm0 cm0 km0
  have BM0 := FM0.binds (ps := ["self", "patterns"]) fun _ _ _ _ _ _ us hl => match us, hl with | [_, _], _ => rfl
  have FM1 := fun_mk (st := mLaid) lm1 cm1 km1
  have BM1 := FM1.binds (ps := ["self", "pattern"]) fun _ _ _ _ _ _ us hl => match us, hl with | [_, _], _ => rfl
  have FM2 := fun_mk (st := mLaidS) lm2 cm2 km2
  have BM2 := FM2.binds (ps := ["self", "signs"]) fun _ _ _ _ _ _ us hl => match us, hl with | [_, _], _ => rfl
  have FM3 := fun_mk (st := mLink) lm3 cm3 km3
  have BM3 := FM3.binds (ps := ["self", "lasts", "firsts"]) fun _ _ _ _ _ _ us hl => match us, hl with | [_, _, _], _ => rfl
  have FM4 := fun_mk (st := mBehind) lm4 cm4 km4
  have BM4 := FM4.binds (ps := ["self", "places"]) fun _ _ _ _ _ _ us hl => match us, hl with | [_, _], _ => rfl
  have FM5 := fun_mk (st := mBysigns) lm5 cm5 km5
  have BM5 := FM5.binds (ps := ["self"]) fun _ _ _ _ _ _ us hl => match us, hl with | [_], _ => rfl
  have FM6 := fun_mk (st := mFend) lm6 cm6 km6
  have BM6 := FM6.binds (ps := ["self", "places"]) fun _ _ _ _ _ _ us hl => match us, hl with | [_, _], _ => rfl
  have FM7 := fun_mk (st := mSinit) lm7 cm7 km7
  have BM7 := FM7.binds (ps := ["self", "pattern"]) fun _ _ _ _ _ _ us hl => match us, hl with | [_, _], _ => rfl
  have FM8 := fun_mk (st := mStakes) lm8 cm8 km8
  have BM8 := FM8.binds (ps := ["self", "text"]) fun _ _ _ _ _ _ us hl => match us, hl with | [_, _], _ => rfl
  have T : Tx K w mg := {
    aNums := f0,
    fNums := _,
    nums := D0,
    aSpells := f1,
    fSpells := _,
    spells := D1,
    aSnone := f2,
    fSnone := _,
    snone := D2,
    aLeast := f3,
    fLeast := _,
    least := D3,
    aLesser := f4,
    fLesser := _,
    lesser := D4,
    aOnly := f5,
    fOnly := _,
    only := D5,
    aJar := f6,
    fJar := _,
    jar := D6,
    aDip := f7,
    fDip := _,
    dip := D7,
    aAll := f8,
    fAll := _,
    all := D8,
    aAlike := f9,
    fAlike := _,
    alike := D9,
    aOf := f10,
    fOf := _,
    of := D10,
    aMould := f11,
    fMould := _,
    mould := D11,
    aOpened := f12,
    fOpened := _,
    opened := D12,
    aLed := f13,
    fLed := _,
    led := D13,
    aTakes := f14,
    fTakes := _,
    takes := D14,
    aPool := f15,
    fPool := _,
    pool := D15,
    aText := f16,
    fText := _,
    text := D16,
    aAlong := f17,
    fAlong := _,
    along := D17,
    aLonger := f18,
    fLonger := _,
    longer := D18,
    aLessr := f19,
    fLessr := _,
    lessr := D19,
    aLonly := f20,
    fLonly := _,
    lonly := D20,
    aAgains := f21,
    fAgains := _,
    agains := D21,
    aAround := f22,
    fAround := _,
    around := D22,
    aRight := f23,
    fRight := _,
    right := D23,
    C := C,
    cl := ⟨pg0, hd0, po0, sa0⟩,
    naS := n0_0,
    naB := n0_1,
    naE := n0_2,
    cPlaces := PySem.W.mg_of X G aC0,
    C2 := C2,
    cl2 := ⟨pg1, hd1, po1, sa1⟩,
    naP := n1_0,
    naH := n1_1,
    cSpeller := PySem.W.mg_of X G aC1,
    bInit := fm0,
    gInit := _,
    minit := FM0,
    minitB := BM0,
    mkC := ⟨mk0, am0, im0, kc0⟩,
    bLaid := fm1,
    gLaid := _,
    mlaid := ⟨FM1, BM1, ⟨am1, im1, km1⟩⟩,
    bLaidS := fm2,
    gLaidS := _,
    mlaidS := ⟨FM2, BM2, ⟨am2, im2, km2⟩⟩,
    bLink := fm3,
    gLink := _,
    mlink := ⟨FM3, BM3, ⟨am3, im3, km3⟩⟩,
    bBehind := fm4,
    gBehind := _,
    mbehind := ⟨FM4, BM4, ⟨am4, im4, km4⟩⟩,
    bBysigns := fm5,
    gBysigns := _,
    mbysigns := ⟨FM5, BM5, ⟨am5, im5, km5⟩⟩,
    bFend := fm6,
    gFend := _,
    mfend := ⟨FM6, BM6, ⟨am6, im6, km6⟩⟩,
    bSinit := fm7,
    gSinit := _,
    msinit := FM7,
    msinitB := BM7,
    mkC2 := ⟨mk1, am7, im7, kc1⟩,
    bStakes := fm8,
    gStakes := _,
    mstakes := ⟨FM8, BM8, ⟨am8, im8, km8⟩⟩,
    tB := tB,
    cBEG := PySem.W.mg_of X G g1,
    len := PySem.W.mg_none_of X G z0,
    bRange := PySem.W.mg_none_of X G z1,
    bMax := PySem.W.mg_none_of X G z2,
    bMin := PySem.W.mg_none_of X G z3,
    bInt := PySem.W.mg_none_of X G z4,
    bStr := PySem.W.mg_none_of X G z5,
    bTuple := PySem.W.mg_none_of X G z6,
    bList := PySem.W.mg_none_of X G z7,
    bBool := PySem.W.mg_none_of X G z8,
    bSet := PySem.W.mg_none_of X G z9,
    bSorted := PySem.W.mg_none_of X G z10,
    bAll := PySem.W.mg_none_of X G z11,
    bIsinstance := PySem.W.mg_none_of X G z12,
    bEnum := PySem.W.mg_none_of X G z13,
    bSum := PySem.W.mg_none_of X G z14 }
  exact ⟨_, fun s v => .of_eq rfl, fun base _ _ => ok_law F T⟩
theorem walk {l : PySem.W.OpenLaw} {q : Program} {loose : List Str} {XP : (Str → Option Value) → Heap → Prop} {YP : World → Heap → Prop} {d : DefRec} {K : Params → PySem.W.Frag} (hn : l.most = some 63) (hdf : d.params.defaults = [])
    (hY : ∀ (w : World) (h : Heap), YP w h → (K w.params).In h)
    (F : ∀ (w : World) (mg : Str → Option Value) (fa : Addr) (h : Heap), (K w.params).In h → h.Ns mainGlobals mg → mg d.name = some (.ref fa) →
      ∃ fd : FuncData, (∀ (s : Shared) (u : Value), BindsTo s fd ⟨[u], []⟩ [("script", u)]) ∧ ∀ base : Heap, (K w.params).In base → base.Ns mainGlobals mg → FnOk l.prog w (K w.params) mg base CX0 51 fa fd ["script"] (spLaw (K w.params))) :
    PySem.W.WalkO q loose XP YP l.row.toRowW d [] (fun f vs => PySem.call f vs) :=
  L2.walk_of (n := 63) (k := 51) (x := "script") (CX := fun _ => CX0) (sp := fun w => spLaw (K w.params)) hn (by decide) hdf ⟨rfl, by decide, by decide⟩ hY F (fun _ _ a ns hl _ hS => ⟨a, ns, rfl, hS, hl, fun _ => rfl⟩) fun _ _ _ _ _ z => z
end K01
open PySem PySem.W PyProof.Rows
set_option maxHeartbeats 0 in
theorem PySem.Challenge.cw_tongueyard_k01_what_patterns_spell_holds : PySem.Challenge.rw_tongueyard_k01_what_patterns_spell.Holds := by
  w_on; o_law; k_head; (case hw => w_witness2)
  k_fill
  refine K01.walk (l := PySem.Challenge.rw_tongueyard_k01_what_patterns_spell) rfl rfl (fun w h Y => PySem.W.kIn_of Y) ?F
  case F =>
    intro w mg fa h KX G hmg
    refine' K01.all_mk KX G hmg ?a0 ?l0 ?c0 ?k0 ?a1 ?l1 ?c1 ?k1 ?a2 ?l2 ?c2 ?k2 ?a3 ?l3 ?c3 ?k3 ?a4 ?l4 ?c4 ?k4 ?a5 ?l5 ?c5 ?k5 ?a6 ?l6 ?c6 ?k6 ?a7 ?l7 ?c7 ?k7 ?a8 ?l8 ?c8 ?k8 ?a9 ?l9 ?c9 ?k9 ?a10 ?l10 ?c10 ?k10 ?a11 ?l11 ?c11 ?k11 ?a12 ?l12 ?c12 ?k12 ?a13 ?l13 ?c13 ?k13 ?a14 ?l14 ?c14 ?k14 ?a15 ?l15 ?c15 ?k15 ?a16 ?l16 ?c16 ?k16 ?a17 ?l17 ?c17 ?k17 ?a18 ?l18 ?c18 ?k18 ?a19 ?l19 ?c19 ?k19 ?a20 ?l20 ?c20 ?k20 ?a21 ?l21 ?c21 ?k21 ?a22 ?l22 ?c22 ?k22 ?a23 ?l23 ?c23 ?k23 ?a24 ?l24 ?c24 ?k24 ?aC0 ?pg0 ?hd0 ?po0 ?sa0 ?mk0 ?kc0 ?n0_0 ?n0_1 ?n0_2 ?aC1 ?pg1 ?hd1 ?po1 ?sa1 ?mk1 ?kc1 ?n1_0 ?n1_1 ?am0 ?im0 ?lm0 ?cm0 ?km0 ?am1 ?im1 ?lm1 ?cm1 ?km1 ?am2 ?im2 ?lm2 ?cm2 ?km2 ?am3 ?im3 ?lm3 ?cm3 ?km3 ?am4 ?im4 ?lm4 ?cm4 ?km4 ?am5 ?im5 ?lm5 ?cm5 ?km5 ?am6 ?im6 ?lm6 ?cm6 ?km6 ?am7 ?im7 ?lm7 ?cm7 ?km7 ?am8 ?im8 ?lm8 ?cm8 ?km8 ?g1 ?z0 ?z1 ?z2 ?z3 ?z4 ?z5 ?z6 ?z7 ?z8 ?z9 ?z10 ?z11 ?z12 ?z13 ?z14
    (case a0 => k_is)
    (case l0 => k_is)
    (case c0 => k_is)
    (case k0 => k_is)
    (case a1 => k_is)
    (case l1 => k_is)
    (case c1 => k_is)
    (case k1 => k_is)
    (case a2 => k_is)
    (case l2 => k_is)
    (case c2 => k_is)
    (case k2 => k_is)
    (case a3 => k_is)
    (case l3 => k_is)
    (case c3 => k_is)
    (case k3 => k_is)
    (case a4 => k_is)
    (case l4 => k_is)
    (case c4 => k_is)
    (case k4 => k_is)
    (case a5 => k_is)
    (case l5 => k_is)
    (case c5 => k_is)
    (case k5 => k_is)
    (case a6 => k_is)
    (case l6 => k_is)
    (case c6 => k_is)
    (case k6 => k_is)
    (case a7 => k_is)
    (case l7 => k_is)
    (case c7 => k_is)
    (case k7 => k_is)
    (case a8 => k_is)
    (case l8 => k_is)
    (case c8 => k_is)
    (case k8 => k_is)
    (case a9 => k_is)
    (case l9 => k_is)
    (case c9 => k_is)
    (case k9 => k_is)
    (case a10 => k_is)
    (case l10 => k_is)
    (case c10 => k_is)
    (case k10 => k_is)
    (case a11 => k_is)
    (case l11 => k_is)
    (case c11 => k_is)
    (case k11 => k_is)
    (case a12 => k_is)
    (case l12 => k_is)
    (case c12 => k_is)
    (case k12 => k_is)
    (case a13 => k_is)
    (case l13 => k_is)
    (case c13 => k_is)
    (case k13 => k_is)
    (case a14 => k_is)
    (case l14 => k_is)
    (case c14 => k_is)
    (case k14 => k_is)
    (case a15 => k_is)
    (case l15 => k_is)
    (case c15 => k_is)
    (case k15 => k_is)
    (case a16 => k_is)
    (case l16 => k_is)
    (case c16 => k_is)
    (case k16 => k_is)
    (case a17 => k_is)
    (case l17 => k_is)
    (case c17 => k_is)
    (case k17 => k_is)
    (case a18 => k_is)
    (case l18 => k_is)
    (case c18 => k_is)
    (case k18 => k_is)
    (case a19 => k_is)
    (case l19 => k_is)
    (case c19 => k_is)
    (case k19 => k_is)
    (case a20 => k_is)
    (case l20 => k_is)
    (case c20 => k_is)
    (case k20 => k_is)
    (case a21 => k_is)
    (case l21 => k_is)
    (case c21 => k_is)
    (case k21 => k_is)
    (case a22 => k_is)
    (case l22 => k_is)
    (case c22 => k_is)
    (case k22 => k_is)
    (case a23 => k_is)
    (case l23 => k_is)
    (case c23 => k_is)
    (case k23 => k_is)
    (case a24 => k_is)
    (case l24 => k_is)
    (case c24 => k_is)
    (case k24 => k_is)
    (case aC0 => k_is)
    (case pg0 => k_is)
    (case hd0 => k_is)
    (case po0 => k_is)
    (case sa0 => k_is)
    (case mk0 => k_is)
    (case kc0 => k_is)
    (case n0_0 => k_is)
    (case n0_1 => k_is)
    (case n0_2 => k_is)
    (case aC1 => k_is)
    (case pg1 => k_is)
    (case hd1 => k_is)
    (case po1 => k_is)
    (case sa1 => k_is)
    (case mk1 => k_is)
    (case kc1 => k_is)
    (case n1_0 => k_is)
    (case n1_1 => k_is)
    (case am0 => k_is)
    (case im0 => k_is)
    (case lm0 => k_is)
    (case cm0 => k_is)
    (case km0 => k_is)
    (case am1 => k_is)
    (case im1 => k_is)
    (case lm1 => k_is)
    (case cm1 => k_is)
    (case km1 => k_is)
    (case am2 => k_is)
    (case im2 => k_is)
    (case lm2 => k_is)
    (case cm2 => k_is)
    (case km2 => k_is)
    (case am3 => k_is)
    (case im3 => k_is)
    (case lm3 => k_is)
    (case cm3 => k_is)
    (case km3 => k_is)
    (case am4 => k_is)
    (case im4 => k_is)
    (case lm4 => k_is)
    (case cm4 => k_is)
    (case km4 => k_is)
    (case am5 => k_is)
    (case im5 => k_is)
    (case lm5 => k_is)
    (case cm5 => k_is)
    (case km5 => k_is)
    (case am6 => k_is)
    (case im6 => k_is)
    (case lm6 => k_is)
    (case cm6 => k_is)
    (case km6 => k_is)
    (case am7 => k_is)
    (case im7 => k_is)
    (case lm7 => k_is)
    (case cm7 => k_is)
    (case km7 => k_is)
    (case am8 => k_is)
    (case im8 => k_is)
    (case lm8 => k_is)
    (case cm8 => k_is)
    (case km8 => k_is)
    (case g1 => k_is)
    (case z0 => k_is)
    (case z1 => k_is)
    (case z2 => k_is)
    (case z3 => k_is)
    (case z4 => k_is)
    (case z5 => k_is)
    (case z6 => k_is)
    (case z7 => k_is)
    (case z8 => k_is)
    (case z9 => k_is)
    (case z10 => k_is)
    (case z11 => k_is)
    (case z12 => k_is)
    (case z13 => k_is)
    (case z14 => k_is)
