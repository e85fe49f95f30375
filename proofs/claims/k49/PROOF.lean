import PyProof.Rows.All
import Wide.All
import OpenK.AllK
import Wide.FinOn
import HandS.Base
import HandS.Call
import HandS.List
import HandS.Ends
import HandS.Words
import PyProof.ReprRoads
import HandS.Dict
import HandS.Comp
import HandS.Text
import HandS.Iter
import PyProof.ReprLen
import PyProof.CallStr
import PyProof.CallFns
import HandS.Set
import HandS.SetFor
import HandS.SetTxt0
import HandS.Strs
import HandS.TupSets
import HandS.Style
import HandS.TupAny
import HandS.IsInst
import HandS.More
import HandS.Wide
import PyProof.Rows.RuleB_pow
import PyProof.NeKinds
import HandS.ForMost
import HandS.Walk
import HandS.DictTup
import HandS.Deep
import PyProof.ListStr
import HandS.ForExc
import HandS.ExcInit
import HandS.ExcField
import HandS.ExcIs
import PyProof.P3Eq
import PySem.Challenge.RW_tongueyard_k49_deeds_done
set_option Elab.async false
set_option linter.all false
set_option maxRecDepth 100000
/-! The yard's own layer, part 1: promises of defs at places where nothing is being shown (no repr under way). -/
namespace Yard
open PySem PySem.Spec PyProof.Rows L2

/-- as the layer's promise, but only where no repr is under way -/
structure FnG (P : Program) (w : World) (K : PySem.W.Frag)
    (mg : Str → Option Value) (base : Heap) (CX : CXT) (k : Nat) (f : Addr)
    (fd : FuncData) (ps : List Str) (sp : Sp) : Prop where
  cnt : ∀ vs H Q E, sp vs H Q E → vs.length = ps.length
  go : ∀ (A : Around) (fr : List Env) (s : Shared) (H : Hp) (ar : Args)
    (us : List Value) (vs : List V) (Q : VK) (E : XK),
    A.guards = some [] → Room k A → Env0 P w K mg base A fr s H →
    BindsTo s fd ar (ps.zip us) → Vals vs us → sp vs H Q E →
    codeAny (model P w) A (.call (.ref f) ar) (CR CX fr P w H s Q E) s

variable {P : Program} {w : World} {K : PySem.W.Frag}
  {mg : Str → Option Value} {base : Heap}

theorem Fun.okG {x qual : Str} {st : Stmt} {f : Addr} {fd : FuncData}
    {N ps : List Str} {k : Nat} {sp : Sp} (F : Fun K x qual st f fd)
    (S : FnScope N ps (defScope st))
    (cnt : ∀ vs H Q E, sp vs H Q E → vs.length = ps.length)
    (bod : ∀ (cdv : Value) (A : Around) (fr : List Env) (s : Shared) (H : Hp)
      (vs : List V) (Q : VK) (E : XK), A.guards = some [] →
      Room k (A.deeper (envOfC qual (defScope st) s.heap.objs.size f cdv)) →
      sp vs H Q E → ∃ t,
        PSs (cxOf CX0 P w K mg base N qual (defScope st) f cdv A fr s H E).nox
          (defBody st) t ∧
        t { nx := fun _ H' => Q .non H', rt := Q } (start N vs) H) :
    FnG P w K mg base CX0 (k + 1) f fd ps sp := by
  obtain ⟨oc, od, kV, doc, pm, an, cdv, ct, osl, rfl, lk, hcd⟩ := F.ex
  refine ⟨cnt, fun A fr s H ar us vs Q E hg hr e0 hb r hsp => ?_⟩
  have inK : K.In s.heap := e0.mod.kin.keeps fun b o e => (e0.bs b o e).1
  have nol := e0.mod.nolimit.keeps fun b o e => (e0.bs b o e).1
  refine codeAny_call_function hr.depth (inK _ _ lk) rfl S.co S.gen rfl
    (PySem.W.codeRec_of inK hcd) (hb _ _ _ _ ?_)
  refine wpAny_newFunctionEnv_cells S.kind (fun ⟨n, v⟩ hy => ?_)
    fun env he s1 x => ?_
  · exact (S.par n (List.of_mem_zip hy).1).imp id
      fun q => ⟨q, PySem.W.cellsFrom_some _ _ _ (.inl q)⟩
  · subst he
    refine ⟨nol.keeps x.toInCall.keep, codeAny_func ?_⟩
    obtain ⟨t, ht, hq⟩ := bod cdv A fr s H vs Q E hg (hr.deeper _) hsp
    have I := inv_start (CX := CX0) (E := E) S hr.hd e0 (cnt _ _ _ _ hsp) r x
    refine wpAny_mono (ht.nox.run [] s1 (start N vs) H _ I hq)
      (fun fl s' hs => ?_) fun e s' hs => hs
    cases fl with
    | ret u =>
      obtain ⟨v, _, H', J, rv, q⟩ := hs
      exact ⟨v, H', J.os, J.bare, J.base, J.hok, rv, q⟩
    | next =>
      obtain ⟨_, H', J, q⟩ := hs
      exact ⟨.non, H', J.os, J.bare, J.base, J.hok, rfl, q⟩
    | brk => exact hs.elim fun _ h => h.elim fun _ h => h.2.elim
    | cont => exact hs.elim fun _ h => h.elim fun _ h => h.2.elim

/-! ### the law's own call -/
/-- a heap of one tracked thing -/
def lone (a : Addr) (o : HO) : Hp := fun b => if b = a then some o else none
/-- at the claim's own place nothing is being shown -/
theorem caller_guards : callerA.guards = some [] := rfl

theorem law_run {CX : CXT} {k : Nat} {fa a : Addr} {fd : FuncData} {x : Str}
    {sp : Sp} {s₁ : Shared} {vs : List Value} {ns : List Int} {mb : Str → Option Value}
    (KX : K.In s₁.heap) (g1 : s₁.heap.Ns mainGlobals mg) (g2 : s₁.heap.Ns builtinsNs mb)
    (g3 : ∀ x : Str, x ≠ "__name__" → mb x = bootBuiltins x) (g4 : s₁.heap.NoLimit)
    (g5 : s₁.gens = #[])
    (ha : s₁.heap.get? a = some { cls := .type "list", data := .seq vs.toArray })
    (hi : IntsAre vs ns) (hl : ns.length ≤ sizeLine) (hr : Room k callerA)
    (g6 : ∃ m, s₁.heap.Ns sysModules m)
    (F : ∀ base : Heap, K.In base → base.Ns mainGlobals mg →
      (∃ m, base.Ns sysModules m) → FnG P w K mg base CX k fa fd [x] sp)
    (hb : ∀ (s : Shared) (u : Value), BindsTo s fd ⟨[u], []⟩ [(x, u)])
    (hsp : ∀ H : Hp, Only H → SqL K H a (ns.map V.int) →
      sp [.ref a] H (fun v _ => v = .bl true) fun _ _ _ => False)
    (hX : ∀ H e s', CX [] H s₁ (fun _ _ _ => False) e s' → False) :
    codeAny (model P w) callerA (.call (.ref fa) ⟨[.ref a], []⟩)
      (fun r s' => r = .ok (.ret (.bool true)) ∧ OldK s₁.heap s'.heap ∧
        s'.os = s₁.os ∧ AllBare s'.gens) s₁ := by
  have rv := vals_ints hi
  -- H: nothing but the script may be tracked
  have main : ∀ H : Hp, Only H → SqL K H a (ns.map V.int) → HOk P w H s₁.heap →
      (∀ b, H b ≠ none → b = a) → (H a ≠ none → K.lookup a = none) →
      codeAny (model P w) callerA (.call (.ref fa) ⟨[.ref a], []⟩)
        (fun r s' => r = .ok (.ret (.bool true)) ∧ OldK s₁.heap s'.heap ∧
          s'.os = s₁.os ∧ AllBare s'.gens) s₁ := by
    intro H hO hS ok onlyA notK
    have freeOf : ∀ {b : Addr}, b ≠ a → H b = none := fun {b} ne =>
      Classical.byContradiction fun z => ne (onlyA b z)
    have dictFree : ∀ {b : Addr} {o : Obj} {es : Array DictEntry} {ep : Nat},
        s₁.heap.get? b = some o → o.data = .dict es ep → H b = none :=
      fun {b o es ep} e d => freeOf fun z => by
        subst z
        have q : some o = some _ := e.symm.trans ha
        cases q
        exact nomatch d
    have nsKeep : ∀ {b : Addr} {m : Str → Option Value}, s₁.heap.Ns b m →
        (hidT s₁.heap H).Ns b m := fun ⟨o, es, ep, e, d, r⟩ =>
      ⟨o, es, ep, hidT_get e (dictFree e d), d, r⟩
    have kKeep : K.In (hidT s₁.heap H) := fun b o e => hidT_get (KX b o e)
      (Classical.byContradiction fun z => by
        have z2 := onlyA b z
        subst z2
        have n := notK z
        rw [e] at n
        cases n)
    have md : Mod K mg (hidT s₁.heap H) := ⟨kKeep, nsKeep g1, ⟨mb, nsKeep g2, g3⟩,
      g4.elim fun mc h => ⟨mc, nsKeep h.1, h.2⟩⟩
    have env : Env0 P w K mg (hidT s₁.heap H) callerA [] s₁ H :=
      ⟨rfl, md, fun _ _ e => of_hidT e, Nat.le_of_eq (hidT_size _ _), trivial,
        fun _ z => (List.not_mem_nil z).elim, ok, .of_eq g5⟩
    refine codeAny_mono ((F _ kKeep (nsKeep g1) (g6.imp fun _ => nsKeep)).go callerA [] s₁ H _ [.ref a]
      [.ref a] _ _ caller_guards hr env (hb s₁ _) (.cons rfl .nil) (hsp H hO hS))
      fun r s' h => ?_
    cases r with
    | error e => exact (hX H e s' h).elim
    | ok fl =>
      cases fl with
      | ret u =>
        obtain ⟨v, H', os, bare, un, ok', r', q⟩ := h
        cases (show v = .bl true from q)
        cases (show u = Value.bool true from r')
        refine ⟨rfl, OldK.of_keep fun b o e => ?_, os, bare⟩
        rcases hO b with z | ⟨ob, xs, z⟩
        · exact un.keep b o e z (fun q => (List.not_mem_nil q).elim)
            fun q => (List.not_mem_nil q).elim
        · have e1 := (ok b _ z).1
          have e2 := (ok' b _ (un.frzs b ob _ z)).1
          rw [e2, ← e1, e]
      | _ => exact False.elim h
  cases hk : K.lookup a with
  | some o =>
    cases (KX a o hk).symm.trans ha
    exact main (fun _ => none) (fun _ => .inl rfl)
      (.inr ⟨_, vs.toArray, _, hk, rfl, rfl, rfl,
        by rw [List.size_toArray, hi.length]; exact hl, by simpa using rv⟩)
      (fun b u z => nomatch (show (none : Option HO) = some u from z))
      (fun _ z => (z rfl).elim) fun z => (z rfl).elim
  | none =>
    have at_ : ∀ {o : HO} {b : Addr} {u : HO}, lone a o b = some u → b = a ∧ u = o :=
      fun {o b u} z => by
      by_cases hb : b = a
      · exact ⟨hb, (Option.some.inj ((if_pos hb).symm.trans z)).symm⟩
      · exact nomatch (if_neg hb).symm.trans z
    refine main (lone a (HO.frz { cls := .type "list", data := .seq vs.toArray }
      (.lst (ns.map V.int)))) (fun b => ?_) (.inl (.inr ⟨_, if_pos rfl⟩))
      (fun b u z => ?_) (fun b z => ?_) fun _ => hk
    · by_cases hb : b = a
      · exact .inr ⟨_, _, if_pos hb⟩
      · exact .inl (if_neg hb)
    · obtain ⟨rfl, rfl⟩ := at_ z
      exact ⟨ha, by rw [List.length_map]; exact hl, vs, _, rv, ha⟩
    · exact Classical.byContradiction fun hb => z (if_neg hb)

/-- the row's end, from the law's promise -/
theorem walk_G {l : PySem.W.OpenLaw} {n k : Nat} {q : Program} {loose : List Str}
    {XP : (Str → Option Value) → Heap → Prop} {YP : World → Heap → Prop} {d : DefRec}
    {K : Params → PySem.W.Frag} {sp : PySem.W.Frag → Sp} {x : Str}
    (hn : l.most = some n) (hn2 : n ≤ sizeLine) (hdf : d.params.defaults = [])
    (hr : Room k callerA) (him : importsNone q = true)
    (hY : ∀ (w : World) (h : Heap), YP w h → (K w.params).In h)
    (F : ∀ (w : World) (mg : Str → Option Value) (fa : Addr) (h : Heap),
      (K w.params).In h → h.Ns mainGlobals mg → mg d.name = some (.ref fa) →
      ∃ fd : FuncData, (∀ (s : Shared) (u : Value), BindsTo s fd ⟨[u], []⟩ [(x, u)]) ∧
        ∀ base : Heap, (K w.params).In base → base.Ns mainGlobals mg →
          (∃ m, base.Ns sysModules m) → FnG l.prog w (K w.params) mg base CX0 k fa fd [x] (sp (K w.params)))
    (hsp : ∀ (K : PySem.W.Frag) (H : Hp) (a : Addr) (ns : List Int), ns.length ≤ n →
      Only H → SqL K H a (ns.map V.int) →
      sp K [.ref a] H (fun v _ => v = .bl true) fun _ _ _ => False) :
    PySem.W.WalkO q loose XP YP l.row.toRowW d [] (fun f vs => PySem.call f vs) := by
  refine Att.attach_call hn hdf fun w s₀ s₁ mg mb fa o pm cd doc a vs ns G Y ho hd hcd
    hmg hobj hints hlen hg => ?_
  obtain ⟨fd, hb, hF⟩ := F w mg fa _ (hY w _ Y) G.T.g hmg
  exact law_run (hY w _ Y) G.T.g G.T.b G.T.builtins G.T.nolimit hg hobj hints
    (Nat.le_trans hlen hn2) hr ((G.T.seer him).mods.imp fun _ h => h.1) hF hb (fun H hO hS => hsp _ H a ns hlen hO hS)
    fun _ _ _ z => z
end Yard
set_option maxRecDepth 100000
/-! The yard's own layer, part 2: data that the calls have made, at any depth; what they are shown as. -/
namespace Yard
open PySem PySem.Spec PyProof.Rows L2

mutual
/-- at the value stands the datum; all its parts are tracked -/
inductive Dq (H : Hp) : V → PyData → Prop
  | non : Dq H .non .none
  | bl (b : Bool) : Dq H (.bl b) (.bool b)
  | int (i : Int) : Dq H (.int i) (.int i)
  | str (x : Str) : Dq H (.str x) (.str x)
  | lst {a : Addr} {xs : List V} {ds : List PyData} : H a = some (.lst xs) → DqL H xs ds → Dq H (.ref a) (.list ds)
  | tup {a : Addr} {xs : List V} {ds : List PyData} : H a = some (.tup xs) → DqL H xs ds → Dq H (.ref a) (.tuple ds)
  | dic {a : Addr} : H a = some (.dK []) → Dq H (.ref a) (.dict [])
inductive DqL (H : Hp) : List V → List PyData → Prop
  | nil : DqL H [] []
  | cons {v : V} {vs : List V} {d : PyData} {ds : List PyData} : Dq H v d → DqL H vs ds → DqL H (v :: vs) (d :: ds)
end

mutual
theorem Dq.mono {H H' : Hp} (s : Same H H') : ∀ {v : V} {d : PyData}, Dq H v d → Dq H' v d
  | _, _, .non => .non
  | _, _, .bl b => .bl b
  | _, _, .int i => .int i
  | _, _, .str x => .str x
  | _, _, .lst h t => .lst (s _ _ h) (t.mono s)
  | _, _, .tup h t => .tup (s _ _ h) (t.mono s)
  | _, _, .dic h => .dic (s _ _ h)
theorem DqL.mono {H H' : Hp} (s : Same H H') : ∀ {vs : List V} {ds : List PyData}, DqL H vs ds → DqL H' vs ds
  | _, _, .nil => .nil
  | _, _, .cons h t => .cons (h.mono s) (t.mono s)
end
theorem DqL.len {H : Hp} : ∀ {vs : List V} {ds : List PyData}, DqL H vs ds → vs.length = ds.length
  | _, _, .nil => rfl
  | _, _, .cons _ t => congrArg (· + 1) t.len
theorem DqL.get {H : Hp} : ∀ {vs : List V} {ds : List PyData} {i : Nat} {v : V}, DqL H vs ds → vs[i]? = some v → ∃ d, ds[i]? = some d ∧ Dq H v d
  | _, _, 0, _, .cons h _, e => by cases e; exact ⟨_, rfl, h⟩
  | _, _, i + 1, _, .cons _ t, e => DqL.get (i := i) t e
theorem DqL.take {H : Hp} : ∀ {vs : List V} {ds : List PyData} (n : Nat), DqL H vs ds → DqL H (vs.take n) (ds.take n)
  | _, _, 0, _ => .nil
  | _, _, _ + 1, .nil => .nil
  | _, _, n + 1, .cons h t => .cons h (t.take n)
theorem DqL.drop {H : Hp} : ∀ {vs : List V} {ds : List PyData} (n : Nat), DqL H vs ds → DqL H (vs.drop n) (ds.drop n)
  | _, _, 0, h => h
  | _, _, _ + 1, .nil => .nil
  | _, _, n + 1, .cons _ t => t.drop n
theorem DqL.app {H : Hp} : ∀ {vs ws : List V} {ds es : List PyData}, DqL H vs ds → DqL H ws es → DqL H (vs ++ ws) (ds ++ es)
  | _, _, _, _, .nil, k => k
  | _, _, _, _, .cons h t, k => .cons h (t.app k)
theorem DqL.rev {H : Hp} : ∀ {vs : List V} {ds : List PyData}, DqL H vs ds → DqL H vs.reverse ds.reverse
  | _, _, .nil => .nil
  | _, _, .cons h t => by
    rw [List.reverse_cons, List.reverse_cons]
    exact t.rev.app (.cons h .nil)

section
variable {X : Cx} {pins : List (Addr × Obj)} {σ : L2.St} {H : Hp} {s : Shared}
mutual
theorem Dq.reads (I : Inv X pins σ H s) : ∀ {v : V} {d : PyData} {u : Value}, Dq H v d → RelV v u → ∃ as, Reads s.heap u d as ∧ ∀ b ∈ as, H b ≠ none
  | _, _, _, .non, r => by cases r; exact ⟨_, .none, fun _ h => nomatch h⟩
  | _, _, _, .bl b, r => by cases r; exact ⟨_, .bool b, fun _ h => nomatch h⟩
  | _, _, _, .int i, r => by obtain ⟨t, rfl⟩ := r; exact ⟨_, .int i t, fun _ h => nomatch h⟩
  | _, _, _, .str x, r => by obtain ⟨t, rfl⟩ := r; exact ⟨_, .str x t, fun _ h => nomatch h⟩
  | _, _, _, .lst h t, r => by
    cases r
    obtain ⟨_, its, n, rv, ho⟩ := I.hok _ _ h
    obtain ⟨as, k, q⟩ := DqL.reads I t rv
    refine ⟨_, .list (vs := its.toArray) ho rfl rfl (by simpa using k), fun b hb => ?_⟩
    rcases List.mem_cons.mp hb with z | z
    · rw [z, h]; exact fun y => nomatch y
    · exact q b z
  | _, _, _, .tup h t, r => by
    cases r
    obtain ⟨_, its, rv, o, ho, hc, n, hd⟩ := I.hok _ _ h
    obtain ⟨as, k, q⟩ := DqL.reads I t rv
    exact ⟨_, .tuple ho hc hd (by simpa using k), q⟩
  | _, _, _, .dic h, r => by
    cases r
    obtain ⟨_, _, vs, rv, o, es, ep, ho, hx, hd, _, hp, _⟩ := I.hok _ _ h
    cases rv
    have e0 : es.toList = [] := by
      generalize es.toList = l at hp
      cases hp
      rfl
    refine ⟨_, .dict (kvs := []) ho hx.1 hd (by rw [e0]; exact .nil) (by rw [e0]; exact .nil), fun b hb => ?_⟩
    have hb' : b ∈ [_] := hb
    rw [List.mem_singleton.mp hb', h]; exact fun y => nomatch y
theorem DqL.reads (I : Inv X pins σ H s) : ∀ {vs : List V} {ds : List PyData} {us : List Value}, DqL H vs ds → Vals vs us → ∃ as, ReadsAll s.heap us ds as ∧ ∀ b ∈ as, H b ≠ none
  | _, _, _, .nil, r => by cases r; exact ⟨_, .nil, fun _ h => nomatch h⟩
  | _, _, _, .cons h t, r => by
    cases r with
    | cons r1 r2 =>
      obtain ⟨as, k, q⟩ := Dq.reads I h r1
      obtain ⟨bs, k2, q2⟩ := DqL.reads I t r2
      exact ⟨_, .cons k k2, fun b hb => (List.mem_append.mp hb).elim (q b) (q2 b)⟩
end
end
end Yard
set_option maxRecDepth 100000
/-! The yard's own layer, part 3: str(x), repr(x) of data. -/
namespace Yard
open PySem PySem.Spec PyProof.Rows L2

/-- what str says of a datum -/
def strText : PyData → Str
  | .str x => x
  | d => d.shown

/-- str or repr of a datum, f the text -/
def rShow (f : PyData → Str) : List V → Hp → VK → Prop := fun xs H Q =>
  ∃ v d, xs = [v] ∧ Dq H v d ∧ d.showable = true ∧ d.depth ≤ 64 ∧
    d.shown.length ≤ sizeLine ∧ Q (.str (f d)) H

section
variable {X : Cx} {pins : List (Addr × Obj)} {σ : L2.St} {H : Hp} {s : Shared}
/-- no tracked thing is the table of modules -/
theorem no_sys (I : Inv X pins σ H s) (hs : ∃ m, X.base.Ns sysModules m)
    {as : List Addr} (h : ∀ b ∈ as, H b ≠ none) : sysModules ∉ as := fun hm => by
  obtain ⟨m, o, es, ep, e, _⟩ := hs
  exact h _ hm (I.bs _ _ e).2

theorem call_strQ (hg : X.A.guards = some []) (hs : ∃ m, X.base.Ns sysModules m)
    (hu : X.A.units + 80 < cLine) : CallR X (.type "str") (rShow strText) := by
  intro pins s σ H xs us Q I r h
  obtain ⟨v, d, rfl, hd, sh, dp, sz, q⟩ := h
  obtain ⟨u, rfl, rv⟩ := vals1 r
  have fin : ∀ (h' : Heap) (t : Nat) (x : Str) (tk : Tok), x = strText d →
      (∀ b o, s.heap.get? b = some o → h'.get? b = some o) →
      EP X pins σ Q (.str x tk) { s with heap := h', toks := t } :=
    fun h' t x tk e k => ⟨.str x, H, I.kept (t' := t) k, ⟨_, rfl⟩, by rw [e]; exact q⟩
  obtain ⟨as, rd, ha⟩ := hd.reads I rv
  have ref_ : ∀ a, u = .ref a → strText d = d.shown →
      wpAny (model X.prog X.w) X.A (PySem.call (.type "str") [u]) (EP X pins σ Q) X.xe s := by
    intro a e e2
    subst e
    refine str_of_reads rd sh (fun _ => no_sys I hs ha) hg (by omega)
      (fun _ _ z => z) (fun h' u tk k => fin h' tk _ u e2.symm k) sz
  cases hd with
  | non =>
    cases rv
    exact P.str_of_none (fin s.heap _ _ _ (by simp only [strText, PyData.shown]) fun _ _ z => z)
  | bl b =>
    cases rv
    refine P.str_of_bool (fin s.heap _ _ _ ?_ fun _ _ z => z)
    cases b <;> simp only [strText, PyData.shown] <;> rfl
  | int i =>
    obtain ⟨t, rfl⟩ := rv
    refine P.str_of_int (by simpa [PyData.showable] using sh)
      (fin s.heap _ _ _ ?_ fun _ _ z => z)
    simp only [strText, PyData.shown]
  | str x =>
    obtain ⟨t, rfl⟩ := rv
    exact P.str_of_str (fin s.heap _ _ _ rfl fun _ _ z => z)
  | lst h t => exact ref_ _ rv rfl
  | tup h t => exact ref_ _ rv rfl
  | dic h => exact ref_ _ rv rfl

theorem call_reprQ (hg : X.A.guards = some []) (hs : ∃ m, X.base.Ns sysModules m)
    (hu : X.A.units + 80 < cLine) : CallR X (.builtin "repr") (rShow PyData.shown) := by
  intro pins s σ H xs us Q I r h
  obtain ⟨v, d, rfl, hd, sh, dp, sz, q⟩ := h
  obtain ⟨u, rfl, rv⟩ := vals1 r
  have fin : ∀ (h' : Heap) (t : Nat) (x : Str) (tk : Tok), x = d.shown →
      (∀ b o, s.heap.get? b = some o → h'.get? b = some o) →
      EP X pins σ Q (.str x tk) { s with heap := h', toks := t } :=
    fun h' t x tk e k => ⟨.str x, H, I.kept (t' := t) k, ⟨_, rfl⟩, by rw [e]; exact q⟩
  obtain ⟨as, rd, ha⟩ := hd.reads I rv
  have ref_ : ∀ a, u = .ref a →
      wpAny (model X.prog X.w) X.A (PySem.call (.builtin "repr") [u]) (EP X pins σ Q) X.xe s := by
    intro a e
    subst e
    exact repr_of_reads' rd sh (fun _ => no_sys I hs ha) hg (by omega)
      (fun _ _ z => z) (fun h' u tk k => fin h' tk _ u rfl k) sz
  cases hd with
  | non =>
    cases rv
    exact P.repr_of_none (fin s.heap _ _ _ (by simp only [PyData.shown]) fun _ _ z => z)
  | bl b =>
    cases rv
    refine P.repr_of_bool (fin s.heap _ _ _ ?_ fun _ _ z => z)
    cases b <;> simp only [PyData.shown] <;> rfl
  | int i =>
    obtain ⟨t, rfl⟩ := rv
    refine P.repr_of_int (by simpa [PyData.showable] using sh)
      (fin s.heap _ _ _ ?_ fun _ _ z => z)
    simp only [PyData.shown]
  | str x =>
    obtain ⟨t, rfl⟩ := rv
    refine P.repr_of_str (fin s.heap _ _ _ ?_ fun _ _ z => z)
      (by simpa only [PyData.shown] using sz)
    simp only [PyData.shown]
  | lst h t => exact ref_ _ rv
  | tup h t => exact ref_ _ rv
  | dic h => exact ref_ _ rv
end
end Yard
set_option maxRecDepth 100000
/-! The yard's own layer, part 4: sorted(set(texts)). -/
namespace Yard
open PySem PySem.Spec PyProof.Rows L2 PySem.Froz

/-- a set's payload of texts that can be walked in any way of the world's -/
structure Walky (P : Program) (w : World) (D : SD) (l : List Str) : Prop where
  tx : TxOk P w D l
  ris : Ris D.2.2.place.toList
  led : w.params.followText "set-order" = true ∨ D.2.2.led = true
  nd : l.Nodup

theorem walky_new (P : Program) (w : World) :
    Walky P w (#[], 0, .fresh 0 0 (!w.params.followText "set-order")) [] where
  tx := TxOk.nil rfl
  ris := List.Pairwise.nil
  led := by
    cases h : w.params.followText "set-order"
    · exact .inr rfl
    · exact .inl rfl
  nd := List.nodup_nil

/-- what a new member makes of the table -/
theorem add_table (h : Int) (v : Value) (D : SD) (r : Ris D.2.2.place.toList) :
    Ris (addTx h v D).2.2.place.toList ∧ (addTx h v D).2.2.led = D.2.2.led := by
  obtain ⟨es, ep, t⟩ := D
  have r1 := layNew_ris t es h v r
  have l1 := layNew_led t es h v
  have tail : ∀ (t2 : SetTable) (b : Bool) (es1 : Array (Int × Value)),
      Ris t2.place.toList → t2.led = t.led →
      Ris (tailTx ep es1 t2 b).2.2.place.toList ∧ (tailTx ep es1 t2 b).2.2.led = t.led := by
    intro t2 b es1 a c
    unfold tailTx
    split
    · exact ⟨relayAll_ris _ _ _, (relayAll_led _ _ _).trans c⟩
    · exact ⟨a, c⟩
  unfold addTx
  refine tail _ _ _ ?_ ?_
  · split
    · exact r1
    · exact r1
  · split
    · exact l1
    · exact l1

theorem walky_add {P : Program} {w : World} {D : SD} {l : List Str} {k : Str} (u : Tok)
    (W : Walky P w D l) (hk : k ∉ l) : Walky P w (addTx (hashStr w k) (.str k u) D) (k :: l) where
  tx := add_ok u W.tx
  ris := (add_table _ _ D W.ris).1
  led := W.led.imp id fun h => (add_table _ _ D W.ris).2.trans h
  nd := List.nodup_cons.mpr ⟨hk, W.nd⟩

section
variable {P : Program} {w : World} {A : Around} {E : Value → Shared → Prop} {s : Shared}

/-- s.add(k) of a member that is there -/
theorem add_same {a : Addr} {T : String} {D : SD} {l : List Str} {k : Str} {u : Tok}
    {Q : Bool → Shared → Prop} (ho : s.heap.get? a = some (sObj T D)) (F : TxOk P w D l)
    (hk : k ∈ l) (hb : l.length < scanBound) (h : Q false s) :
    wpAny (model P w) A (setAddHashed a (.str k u) (hashStr w k)) Q E s := by
  obtain ⟨es, ep, t⟩ := D
  have fd : (sObj T (es, ep, t)).data = .set es ep t := rfl
  have key := is_str (P := P) (w := w) k u
  unfold setAddHashed setAddHashedIn
  refine wpAny_holding (wpAny_bind (wpAny_setState_of ho fd F.fit ?_))
  dsimp only
  rw [byScan_of (knd := strKind P w) rfl (by rw [show es.size = _ from F.sz]; exact hb) F.el]
  simp only [↓reduceIte]
  unfold setAddByScan
  refine wpAny_bind (wpAny_bind (wpAny_rule (wpAny_bind
    (wpAny_setScan_of (knd := strKind P w) (k := k) key ho fd F.fit F.el ?_))))
  cases hr : List.findIdx? (fun e => (strKind P w).is k e.2) es.toList with
  | some j => exact wpAny_pure (wpAny_pure h)
  | none =>
    obtain ⟨e, he, q⟩ := (F.mem k).mp hk
    have z := List.findIdx?_eq_none_iff.mp hr e he
    rw [q] at z
    cases z

/-- what stands at a set of texts -/
def TSet (P : Program) (w : World) (h : Heap) (a : Addr) (l : List Str) : Prop :=
  ∃ D, h.get? a = some (sObj "set" D) ∧ Walky P w D l

theorem tset_keep {h h' : Heap} {a : Addr} {l : List Str} (T : TSet P w h a l)
    (k : ∀ o, h.get? a = some o → h'.get? a = some o) : TSet P w h' a l :=
  let ⟨D, e, W⟩ := T; ⟨D, k _ e, W⟩

/-- s.add(k): what is in then -/
theorem add_text {a : Addr} {l : List Str} {k : Str} {u : Tok} {Q : Bool → Shared → Prop}
    (T : TSet P w s.heap a l) (hb : l.length + 1 < scanBound)
    (h : ∀ (b : Bool) (h' : Heap) (l' : List Str), Heap.SameBut a s.heap h' → TSet P w h' a l' →
      l'.length ≤ l.length + 1 → (∀ x, x ∈ l' ↔ x = k ∨ x ∈ l) → Q b { s with heap := h' }) :
    wpAny (model P w) A (setAddHashed a (.str k u) (hashStr w k)) Q E s := by
  obtain ⟨D, ho, W⟩ := T
  by_cases hk : k ∈ l
  · refine add_same ho W.tx hk (by omega) ?_
    exact h false s.heap l (Heap.SameBut.refl a s.heap) ⟨D, ho, W⟩ (Nat.le_succ _) fun x =>
      ⟨.inr, fun z => z.elim (fun e => e ▸ hk) id⟩
  · refine add_x ho W.tx hk hb ?_
    exact h true _ (k :: l) (Heap.SameBut.update s.heap a _) ⟨_, get_upd _ ho rfl, walky_add u W hk⟩
      (Nat.le_refl _) fun x => List.mem_cons

/-- the loop of set(..): all texts of a walk -/
theorem fill_texts {I : Addr} {fp wr : List Addr} {G : Array GenState → Array GenState → Prop}
    {n : Nat} {Pv : Nat → Value → Prop} {St : Nat → Shared → Prop} {R : Result → Shared → Prop}
    (W : WalksS P w A.in1 I fp wr G n Pv St) (S : Addr) (apart : S ∉ fp) (xs : List Str)
    (hn : n = xs.length) (small : xs.length + 1 < scanBound)
    (val : ∀ i v, Pv i v → ∃ x t, xs[i]? = some x ∧ v = .str x t)
    (fin : ∀ s0 s' l, Moved (S :: wr) G s0 s' → TSet P w s'.heap S l → l.length ≤ n →
      (∀ x, x ∈ l ↔ x ∈ xs) → s0 = s → R (.ok (.ret .none)) s') :
    ∀ (k i : Nat) (s1 : Shared), n - i = k → i ≤ n → St i s1 →
      (i = 0 ∧ s1 = s ∨ Moved (S :: wr) G s s1) →
      (∃ l, TSet P w s1.heap S l ∧ l.length ≤ i ∧ ∀ x, x ∈ l ↔ x ∈ xs.take i) →
      codeAny (model P w) A (.builtin "set.update.loop" ⟨[.ref S, .ref I], []⟩) R s1 := by
  have offW : S ∉ wr := fun z => apart (W.sub _ z)
  have wide : ∀ b ∈ wr, b ∈ S :: wr := fun b hb => List.mem_cons_of_mem _ hb
  have on : ∀ {s1 s2 : Shared} {i : Nat}, (i = 0 ∧ s1 = s ∨ Moved (S :: wr) G s s1) →
      Moved (S :: wr) G s1 s2 → Moved (S :: wr) G s s2 := fun {s1 s2 i} a b => by
    rcases a with ⟨_, e⟩ | a
    · rw [← e]; exact b
    · exact Moved.trans W.gtrans a b
  intro k
  induction k with
  | zero =>
    intro i s1 hk hi hst way ⟨l, hT, hl, hm⟩
    obtain rfl : i = n := by omega
    refine codeAny_builtin F.entry_set_update_loop ?_
    rw [Around.under_plainId F.plain_set_update_loop _]
    show wpAny _ A.in1 (pyNext (.ref I) >>= _) _ _ s1
    refine wpAny_bind (W.done s1 _ _ hst fun s' mv => ?_)
    have e : xs.take i = xs := List.take_of_length_le (by omega)
    rw [e] at hm
    exact wpAny_pure (fin s s' l (on way (mv.mono wide))
      (tset_keep hT fun o q => mv.heap S o offW q) hl hm rfl)
  | succ k ih =>
    intro i s1 hk hi hst way ⟨l, hT, hl, hm⟩
    have lt : i < n := by omega
    refine codeAny_builtin F.entry_set_update_loop ?_
    rw [Around.under_plainId F.plain_set_update_loop _]
    show wpAny _ A.in1 (pyNext (.ref I) >>= _) _ _ s1
    refine wpAny_bind (W.item i s1 _ _ lt hst fun v s' hP st2 mv => ?_)
    obtain ⟨x, t, hx, rfl⟩ := val i v hP
    show wpAny _ A.in1 (holding [Value.str x t] (setAdd S (.str x t)) >>= _) _ _ s'
    refine wpAny_bind (wpAny_holding ?_)
    unfold setAdd
    refine wpAny_holding (wpAny_bind ((strKind P w).pyHash (is_str x t) ?_))
    refine add_text (s := { s' with toks := s'.toks + 1 })
      (tset_keep hT fun o q => mv.heap S o offW q) (by omega) fun b h' l' sb hT' hl' hm' => ?_
    have here : ∀ b o, b ∉ S :: wr → s'.heap.get? b = some o → h'.get? b = some o :=
      fun b o nb e => (sb.2 b fun z => nb (by rw [z]; exact List.mem_cons_self)).trans e
    refine wpAny_pure ⟨plainId_quiet F.plain_set_update_loop _, ?_⟩
    refine ih (i + 1) _ (by omega) lt (W.frame _ s' _ _ st2 (Nat.le_succ _) fun b hb o e => ?_)
      (.inr (on way ((mv.mono wide).then_heap (Nat.le_succ _) fun b o nb e => here b o nb e)))
      ⟨l', hT', by omega, fun y => ?_⟩
    · exact (sb.2 b fun z => apart (by rw [← z]; exact hb)).trans e
    · rw [hm', List.take_add_one, hx, List.mem_append, hm]
      simp only [Option.toList_some, List.mem_singleton]
      exact or_comm
end
end Yard
set_option maxRecDepth 100000
namespace Yard
open PySem PySem.Spec PyProof.Rows L2 PySem.Froz

/-- the object that set(..) begins with -/
abbrev set0 (w : World) : Obj :=
  { cls := .type "set", dict := none, data := .set #[] 0 (.fresh 0 0 (!w.params.followText "set-order")) }

/-- how the set stands behind set(xs) -/
structure SetMade (P : Program) (w : World) (s s2 : Shared) (xs : List Str) : Prop where
  ex : ∃ h' tk m, s2 = { s with heap := h', toks := tk } ∧
    TSet P w h' s.heap.objs.size m ∧ m.length ≤ xs.length ∧ (∀ x, x ∈ m ↔ x ∈ xs) ∧
    ∀ b o, s.heap.get? b = some o → h'.get? b = some o

section
variable {P : Program} {w : World} {A : Around} {E : Value → Shared → Prop} {s : Shared}

set_option maxHeartbeats 3200000 in
/-- set(xs) of a list of texts -/
theorem call_set_texts {l : Addr} {items : Array Value} {xs : List Str} {Q : Value → Shared → Prop}
    (calm : A.handled = none) (hl : s.heap.IsList l items) (hit : StrsAre items.toList xs)
    (small : xs.length + 1 < scanBound)
    (hQ : ∀ s2, SetMade P w s s2 xs → Q (.ref s.heap.objs.size) s2) :
    wpAny (model P w) A (call (.type "set") [.ref l]) Q E s := by
  have len : items.size = xs.length := by
    have q := hit.length
    rwa [Array.length_toList] at q
  obtain ⟨_, _, mro⟩ := F.called_set.mro
  have a1 := F.called_set.made
  have a2 := F.called_set.sub
  have a3 := F.called_set.notType
  have a4 := F.called_set.canCreate
  have a5 := F.typeCall_set_1 (.ref l)
  refine wpAny_call (codeAny_of_tree ?_)
  show wpAny _ _ (callAny (.type "set") _) _ _ _
  refine wpAny_pure ⟨Code.quiet_builtin _ (by decide +kernel), ?_⟩
  refine codeAny_builtin F.entry_type_call ?_
  rw [Around.under_plain (weight_type_call_type "set" [.ref l] []) rfl]
  repeat (any_goals (first | assumption | wp_step))
  refine codeAny_mono (L2.code_set_led1 (.ref l) (E := E)
    (Q₁ := fun o s1 => o = .ref s.heap.objs.size ∧ s1 = { s with heap := s.heap.push (set0 w) })
    ⟨rfl, rfl⟩) fun r s1 hr => ?_
  match r, hr with
  | .error e, hr => exact hr
  | .ok (.ret _), hr =>
    obtain ⟨rfl, rfl⟩ := hr
    have new : (s.heap.push (set0 w)).get? s.heap.objs.size = some (set0 w) :=
      Heap.get?_push_size _ rfl
    have isSet : Shared.TypeIs { s with heap := s.heap.push (set0 w) }
      (.ref s.heap.objs.size) "set" := ⟨_, new, rfl⟩
    have b1 := F.called_set.init.lookup
    have b2 := F.called_set.init.bind (.ref s.heap.objs.size)
    repeat (any_goals (first | assumption | wp_step))
    refine codeAny_mono (codeAny_call_builtin
      (R := wants (fun r s2 => r = .none ∧ SetMade P w s s2 xs) E) F.called_set.init.plain
      F.entry_set_init (check_set_init_1 isSet ?_)) fun r2 s2 hr2 => ?_
    · obtain ⟨⟨c, od, da, sl⟩, ol, e1, nl, e2⟩ := id hl
      simp only at e1 e2
      subst e1 e2
      have ol2 : (s.heap.push (set0 w)).get? l = some ⟨.type "list", od, .seq items nl, sl⟩ :=
        Heap.get?_push_of_some _ ol
      have isl : (s.heap.push (set0 w)).IsList l items := ⟨_, ol2, rfl, nl, rfl⟩
      have q1 := F.sub_list_set
      have q2 := F.sub_list_frozenset
      have q3 : (Value.type "list" == Value.type "dict") = false := by decide
      unfold Builtin.«set.__init__» noKeywords Builtin.Frozenset.updateFrom
      generalize hPI : pyIter = PI
      wp_walk
      subst hPI
      refine wpAny_pyIter_list isl (wpAny_bind (wpAny_runValue ?_))
      have lS : l < s.heap.objs.size := Heap.lt_size ol
      have z1 : (s.heap.push (set0 w)).objs.size = s.heap.objs.size + 1 := Heap.size_push ..
      have lI : l ≠ (s.heap.push (set0 w)).objs.size := by
        rw [z1]; exact Nat.ne_of_lt (Nat.lt_succ_of_lt lS)
      have apart : s.heap.objs.size ∉ [(s.heap.push (set0 w)).objs.size, l] := by
        rw [z1]
        intro z
        rcases List.mem_cons.mp z with z | z
        · exact Nat.ne_of_lt (Nat.lt_succ_self _) z
        · exact Nat.ne_of_gt lS (List.mem_singleton.mp z)
      have val : ∀ (i : Nat) (v : Value), items[i]? = some v →
          ∃ x t, xs[i]? = some x ∧ v = .str x t := fun i v hv => by
        have hi : i < xs.length := by rw [← len]; exact (Array.getElem?_eq_some_iff.mp hv).1
        obtain ⟨t, e⟩ := SS.strs_at hit i v (by rw [Array.getElem?_toList]; exact hv)
        refine ⟨xs[i], t, List.getElem?_eq_getElem hi, ?_⟩
        rw [e, List.getD_eq_getElem?_getD, List.getElem?_eq_getElem hi] <;> rfl
      refine fill_texts (P := P) (w := w) ((Walks.list (by simp [calm]) _ l lI items).toS)
        s.heap.objs.size apart xs len small val ?fin (items.size - 0) 0 _ (by omega)
        (Nat.zero_le _) ⟨⟨_, Heap.get?_push_size _ rfl, rfl, rfl⟩, isl.push _⟩ (.inl ⟨rfl, rfl⟩)
        ⟨[], ⟨(#[], 0, .fresh 0 0 (!w.params.followText "set-order")),
          Heap.get?_push_of_some _ new, walky_new P w⟩, Nat.le_refl _, fun x => by simp⟩
      intro s0 s' m mv hT hm hx e0
      subst e0
      obtain ⟨h', g2, d2, t2, o2⟩ := s'
      obtain rfl : g2 = s.gens := mv.gens
      obtain rfl : d2 = s.drawn := mv.drawn
      obtain rfl : o2 = s.os := mv.os
      show wpAny _ _ _ _ _ _
      refine wpAny_pure ?_
      show wpAny _ _ (ret Value.none) _ _ _
      refine wpAny_pure ⟨rfl, h', t2, m, rfl, hT, by rw [← len]; exact hm, hx, fun b o e => ?_⟩
      have b0 : b < s.heap.objs.size := Heap.lt_size e
      refine mv.heap b o (fun z => ?_) (Heap.get?_push_of_some _ (Heap.get?_push_of_some _ e))
      rcases List.mem_cons.mp z with z | z
      · exact Nat.ne_of_lt b0 z
      · have z' := List.mem_singleton.mp z
        rw [z1] at z'
        exact Nat.ne_of_lt (Nat.lt_succ_of_lt b0) z'
    · match r2, hr2 with
      | .error e, hr2 => exact hr2
      | .ok (.ret _), hr2 =>
        obtain ⟨rfl, M⟩ := hr2
        obtain ⟨h', tk, m, rfl, k⟩ := id M.ex
        repeat (any_goals (first | assumption | wp_step))
        exact hQ _ M
      | .ok .next, hr2 => exact hr2.elim
      | .ok .brk, hr2 => exact hr2.elim
      | .ok .cont, hr2 => exact hr2.elim
  | .ok .next, hr => exact hr.elim
  | .ok .brk, hr => exact hr.elim
  | .ok .cont, hr => exact hr.elim
end
end Yard
set_option maxRecDepth 100000
set_option maxHeartbeats 4000000
namespace Yard
open PySem PySem.Spec PyProof.Rows L2 PySem.Froz
section
variable {P : Program} {w : World} {A : Around} {E : Value → Shared → Prop} {s : Shared}

theorem perm_of_sub {α : Type} [BEq α] [LawfulBEq α] : ∀ (l m : List α), l.Nodup →
    (∀ x ∈ l, x ∈ m) → m.length ≤ l.length → m.Perm l
  | [], m, _, _, h => by
    have : m = [] := List.eq_nil_of_length_eq_zero (by simpa using h)
    rw [this]
  | x :: l, m, nd, sub, h => by
    obtain ⟨n1, n2⟩ := List.nodup_cons.mp nd
    have hx : x ∈ m := sub x List.mem_cons_self
    have len := List.length_erase_of_mem hx
    have h' : m.length ≤ l.length + 1 := h
    refine (List.perm_cons_erase hx).trans (List.Perm.cons x (perm_of_sub l (m.erase x) n2 (fun y hy => ?_) ?_))
    · have ne : y ≠ x := fun e => n1 (e ▸ hy)
      exact (List.mem_erase_of_ne ne).mpr (sub y (List.mem_cons_of_mem _ hy))
    · rw [len]; omega

/-- members of a payload are texts, and they are just the listed ones -/
theorem walky_texts {D : SD} {l : List Str} (W : Walky P w D l) (vs : List Value)
    (pm : vs.Perm (D.1.toList.map (·.2))) : ∃ ys, StrsAre vs ys ∧ ys.Perm l := by
  have tx : ∀ v ∈ vs, ∃ x t, v = Value.str x t := fun v hv => by
    obtain ⟨e, he, q⟩ := List.mem_map.mp (pm.mem_iff.mp hv)
    obtain ⟨⟨k, hk, _⟩, _⟩ := W.tx.el e he
    obtain ⟨t, z⟩ := Value.isStrOf_shape (x := k) (v := e.2) hk
    exact ⟨k, t, q.symm.trans z⟩
  have sa := strsAre_map vs tx
  refine ⟨_, sa, ?_⟩
  have cnt : (vs.map strOf).length = l.length := by
    rw [List.length_map, pm.length_eq, List.length_map, Array.length_toList]
    exact W.tx.sz
  have sub : ∀ x ∈ l, x ∈ vs.map strOf := fun x hx => by
    obtain ⟨e, he, q⟩ := (W.tx.mem x).mp hx
    obtain ⟨t, z⟩ := Value.isStrOf_shape (x := x) (v := e.2) q
    exact List.mem_map.mpr ⟨e.2, pm.mem_iff.mpr (List.mem_map.mpr ⟨e, he, rfl⟩), by rw [z]; rfl⟩
  exact perm_of_sub l _ W.nd sub (Nat.le_of_eq cnt)

/-- sorted(s), s a set of fewer than 64 texts -/
theorem sorted_texts {a : Addr} {l : List Str} {Q : Value → Shared → Prop} (T : TSet P w s.heap a l)
    (calm : A.handled = none) (few : l.length < 64)
    (hQ : ∀ s' p (out : Array Value) (c : Nat) (ys : List Str),
      (∀ b o, s.heap.get? b = some o → s'.heap.get? b = some o) → s'.gens = s.gens →
      s'.os = s.os → s.heap.objs.size ≤ p → s'.heap.get? p = some (seqObj "list" out c) →
      StrsAre out.toList ys → ys.Perm l → sortedS ys = true → Q (.ref p) s') :
    wpAny (model P w) A (call (.builtin "sorted") [.ref a]) Q E s := by
  obtain ⟨D, ho, W⟩ := T
  have sz : D.1.size = l.length := W.tx.sz
  refine Calls.call_function_entry kind_sorted plain_sorted entry_sorted (args_sorted1 _) ?_
  unfold Builtin.«sorted»
  refine wpAny_bind (m := checkCount "sorted" 1 1 _) (wpAny_pure ?_)
  refine wpAny_bind (collect_set (es := D.1) (ep := D.2.1) (t := D.2.2) (A := A.in1) calm
    ⟨_, ho, rfl, rfl⟩ W.tx.fit (by unfold scanBound; omega) W.ris W.led
    fun s1 vs k1 hz g1 o1 pm => ?_)
  obtain ⟨ys, sa, py⟩ := walky_texts W vs pm
  have n : vs.length = l.length := by rw [sa.length, py.length_eq]
  refine wpAny_bind (wpAny_newList ?_ (by rw [n, sizeLine_eq]; omega))
  have new : (s1.heap.push (seqObj "list" vs.toArray 0)).get? s1.heap.objs.size =
    some (seqObj "list" vs.toArray 0) := Heap.get?_push_size _ rfl
  refine wpAny_bind (wpAny_holding (wpAny_call_entry slot_list_sort ⟨_, new, rfl⟩ entry_list_sort
    (list_sort_treeK (κ := PyProof.Rows.strKind) strKind_oneLt new sa.keysOf
      (fun _ _ _ e => keyKind_strs (by rw [← e]; exact sa)) (by rw [n]; exact few)
      fun st hp hs => ⟨_, rfl, ?_⟩) (args_list_sort _)))
  obtain ⟨zs, b1, b2, b3⟩ := sorted_out_str sa hp hs
  generalize (arrOf st).map (·.2) = out at b1
  obtain ⟨c, hc⟩ := sortedHeap_at (vs := vs) (out := out) new
  refine wpAny_pure ⟨_, rfl, hQ _ s1.heap.objs.size out c zs (fun b u e => ?_) g1 o1 hz hc b1
    (b2.trans py) b3⟩
  have lt := Heap.lt_size (k1 b u e)
  refine (sortedHeap_old (Nat.ne_of_lt lt) ?_).trans (Heap.get?_push_of_some _ (k1 b u e))
  rw [size_push']
  exact Nat.lt_succ_of_lt lt
end

/-- the set of texts at a, in the layer's heap -/
def TxO (P : Program) (w : World) (a : Addr) (l : List Str) : HO := .ext fun h => TSet P w h a l
theorem txO_ok {P : Program} {w : World} {H : Hp} {h : Heap} {a : Addr} {l : List Str}
    (T : TSet P w h a l) : ObjOk P w H h a (TxO P w a l) :=
  ⟨T, T.elim fun _ q => ⟨_, q.1⟩, fun _ _ p k => tset_keep p k⟩

section
variable {X : Cx}
def rSetTx (K : PySem.W.Frag) (P : Program) (w : World) : List V → Hp → VK → Prop := fun xs H Q =>
  ∃ (l : Addr) (ts : List Str), xs = [.ref l] ∧ SqL K H l (ts.map V.str) ∧ ts.length ≤ 1000 ∧
    ∀ a m, H a = none → m.length ≤ ts.length → (∀ x, x ∈ m ↔ x ∈ ts) →
      Q (.ref a) (upd H a (TxO P w a m))
theorem cr_setTx (hc : X.calm = true) : CallR X (.type "set") (rSetTx X.K X.prog X.w) := by
  intro pins s σ H xs us Q I r h
  obtain ⟨l, ts, rfl, hl, few, q⟩ := h
  rw [Vals.ref1 r]
  obtain ⟨its, rv, pl, hz⟩ := I.list hl
  refine call_set_texts (P := X.prog) (w := X.w) (I.ok.hd hc) pl.isList (by simpa using rv.strs)
    (by unfold scanBound; omega) fun s2 M => ?_
  obtain ⟨h', tk, m, rfl, T, n, mem, k⟩ := M.ex
  exact ⟨.ref s.heap.objs.size, _, I.laid (t' := tk) k (Nat.le_refl _) (txO_ok T), rfl,
    q _ m (I.hok.fresh (Nat.le_refl _)) n mem⟩
def rSortedTx (P : Program) (w : World) : List V → Hp → VK → Prop := fun xs H Q =>
  ∃ (a : Addr) (m : List Str), xs = [.ref a] ∧ H a = some (TxO P w a m) ∧ m.length < 64 ∧
    ∀ ys p, ys.Perm m → sortedS ys = true → H p = none → Q (.ref p) (upd H p (.lst (ys.map V.str)))
theorem cr_sortedTx (hc : X.calm = true) : CallR X (.builtin "sorted") (rSortedTx X.prog X.w) := by
  intro pins s σ H xs us Q I r h
  obtain ⟨a, m, rfl, ha, few, q⟩ := h
  have T : TSet X.prog X.w s.heap a m := (I.hok a _ ha).1
  rw [Vals.ref1 r]
  refine sorted_texts T (I.ok.hd hc) few fun s' p out c ys k g o hp hg sa pm so => ?_
  have fr : H p = none := I.hok.fresh hp
  have ln : (ys.map V.str).length ≤ sizeLine := by
    rw [List.length_map, pm.length_eq, sizeLine_eq]; omega
  have J : Inv X pins σ (upd H p (.lst (ys.map V.str)))
      { s with heap := s'.heap, gens := s'.gens, drawn := s'.drawn, toks := s'.toks } :=
    I.call (ch := []) (Un.laid k hp fr)
      (I.hok.laid k hp ⟨ln, out.toList, c, vals_of_strs sa, hg⟩) (by rw [g]; exact I.bare)
      fun _ z => nomatch z
  have same : s' = { s with heap := s'.heap, gens := s'.gens, drawn := s'.drawn, toks := s'.toks } := by
    cases s'; cases s; cases o; rfl
  rw [same]
  exact ⟨.ref p, _, J, rfl, q ys p pm so fr⟩
end
end Yard
set_option maxRecDepth 100000
set_option maxHeartbeats 2000000
/-! The yard's own layer, part 5: powers of great numbers, texts and tuples turned round, a tuple held against (). -/
namespace Yard
open PySem PySem.Spec PyProof.Rows L2

/-! ### i ** j, of any size that fits -/
def CPowW (i j : Int) : Prop := 0 ≤ j ∧ ∃ b : Nat, i.natAbs < 2 ^ b ∧ 0 < b ∧ (b : Int) * j ≤ 2 ^ 27
theorem bits_le {i : Int} {b : Nat} (h : i.natAbs < 2 ^ b) (h0 : 0 < b) : Builtin.Int.intBits i ≤ b := by
  have h1 := PySem.Flt.log2_lt_of h0 h
  unfold Builtin.Int.intBits
  split <;> omega
theorem op_powW {X : Cx} : OpR X (binaryOp .Pow) (rI CPowW fun i j => .int (i ^ j.toNat)) :=
  opI fun i j _ _ _ _ _ hc q => by
    obtain ⟨h0, b, h1, h2, h3⟩ := hc
    refine pow_int h0 (Int.le_trans (Int.mul_le_mul_of_nonneg_right ?_ h0) h3) q
    exact Int.ofNat_le.mpr (bits_le h1 h2)

/-! ### s[::-1], t[::-1] -/
/-- the slice of all, backwards -/
abbrev backE (e : Expr) (k : Nat) (p1 p2 p3 pos : Pos) : Expr :=
  .Subscript e (.Slice none none (some (.UnaryOp .USub (.Constant (.int 1) k p1) p2)) p3) pos
def tBackS (te : TE) : TE := fun σ H Q => te σ H fun x H1 => ∃ z : Str, x = .str z ∧ z.length ≤ sizeLine ∧
  ∀ y : Str, y.length ≤ z.length → (∀ c ∈ y.cps.toList, c ∈ z.cps.toList) → Q (.str y) H1
def tBackT (K : PySem.W.Frag) (te : TE) : TE := fun σ H Q => te σ H fun x H1 => ∃ a xs, x = .ref a ∧
  SqT K H1 a xs ∧ ∀ p, H1 p = none → Q (.ref p) (upd H1 p (.tup xs.reverse))

theorem picked_le {α : Type} (f : Nat → Option α) : ∀ l : List Nat, (l.filterMap f).length ≤ l.length
  | [] => Nat.le_refl _
  | x :: l => by
    have h := picked_le f l
    cases e : f x <;> simp [e] <;> omega

section
variable {X : Cx} {e : Expr} {te : TE} {k : Nat} {p1 p2 p3 pos : Pos}
/-- behind the value, the slice's object -/
theorem back_of {R : V → Hp → VK → Prop} (he : PE X e te)
    (step : ∀ (pins : List (Addr × Obj)) (σ : L2.St) (H : Hp) (Q : VK) (s : Shared) (v : Value) (x : V) (vl vu vs : Value),
      Inv X pins σ H { s with heap := s.heap.push { cls := .type "slice", data := .fields #[vl, vu, vs] } } →
      RelV x v → IsPart vl none → IsPart vu none → IsPart vs (some (-1)) → R x H Q →
      ∃ T id, (∃ name, True ∧ name = ()) ∧ ({ s with heap := s.heap.push { cls := .type "slice", data := .fields #[vl, vu, vs] } } : Shared).TypeIs v T ∧
        Slot T "__getitem__" id ∧
        wpAny (model X.prog X.w) X.A (getItem v (.ref s.heap.objs.size)) (EP X pins σ Q) X.xe
          { s with heap := s.heap.push { cls := .type "slice", data := .fields #[vl, vu, vs] } }) :
    PE X (backE e k p1 p2 p3 pos) (fun σ H Q => te σ H fun x H1 => R x H1 Q) := by
  refine ⟨fun pins s σ H Q I h => Subscript_ (thn (he.run pins s σ H _ I h) fun v s1 ⟨x, H1, I1, r1, q1⟩ => ?_)⟩
  have neg1 : PO X (some (.UnaryOp .USub (.Constant (.int 1) k p1) p2))
    (tPart (tUn (rU fun i => .int (-i)) (tC (.int 1)))) := po_some (pe_un un_neg pe_int)
  refine wpAny_Slice (thn (po_none.run pins s1 σ H1 (fun o H' => o = none ∧ H' = H1) I1 ⟨rfl, rfl⟩)
    fun vl s2 ⟨_, _, I2, pl, el, e2⟩ => ?_)
  subst el e2
  refine thn (po_none.run pins s2 σ _ (fun o H' => o = none ∧ H' = _) I2 ⟨rfl, rfl⟩)
    fun vu s3 ⟨_, _, I3, pu, eu, e3⟩ => ?_
  subst eu e3
  refine thn (neg1.run pins s3 σ _ (fun o H' => o = some (-1) ∧ H' = _) I3 ⟨1, rfl, -1, rfl, rfl, rfl⟩)
    fun vs s4 ⟨_, _, I4, ps, eo, e4⟩ => ?_
  subst eo e4
  have J := I4.kept (t' := s4.toks) (h' := s4.heap.push { cls := .type "slice", data := .fields #[vl, vu, vs] })
    fun b o q => Heap.get?_push_of_some _ q
  obtain ⟨T, id, _, ht, sl, g⟩ := step pins σ _ Q s4 v x vl vu vs J r1 pl pu ps q1
  show wpAny (model X.prog X.w) X.A (subscriptTail e _ v (.ref s4.heap.objs.size)) _ _
    { s4 with heap := s4.heap.push { cls := .type "slice", data := .fields #[vl, vu, vs] } }
  exact tail_any (ops := [v, .ref s4.heap.objs.size]) ht sl.lookup g (by with_unfolding_all rfl)
end
end Yard
namespace Yard
open PySem PySem.Spec PyProof.Rows L2
section
variable {X : Cx} {e : Expr} {te : TE} {k : Nat} {p1 p2 p3 pos : Pos}
theorem strIdx_le (n : Nat) : (Builtin.Str.strSliceIndices none none (-1) n).length ≤ n := by
  show (sliceRange ((n : Int) - 1) (-1) (-1)).length ≤ n
  rw [PySem.W.krv_sliceRange, List.length_map, List.length_range]
  exact Nat.le_refl _
/-- s[::-1]: some text of its signs, no longer -/
theorem pe_revS (he : PE X e te) : PE X (backE e k p1 p2 p3 pos) (tBackS te) := by
  refine back_of (R := fun x H Q => ∃ z : Str, x = .str z ∧ z.length ≤ sizeLine ∧
    ∀ y : Str, y.length ≤ z.length → (∀ c ∈ y.cps.toList, c ∈ z.cps.toList) → Q (.str y) H) he ?_
  intro pins σ H Q s v x vl vu vs J rx pl pu ps h
  obtain ⟨z, rfl, hz, q⟩ := h
  obtain ⟨t, rfl⟩ := rx
  obtain ⟨l, rfl, hl⟩ := IsPart.raw pl
  obtain ⟨u, rfl, hu⟩ := IsPart.raw pu
  obtain ⟨m, rfl, hm⟩ := IsPart.raw ps
  obtain rfl : l = none := by cases l <;> first | rfl | cases hl
  obtain rfl : u = none := by cases u <;> first | rfl | cases hu
  obtain ⟨tk, rfl⟩ : ∃ tk, m = some (-1, tk) := by
    match m, hm with
    | some (i, tk), hm =>
      have e : i = -1 := Option.some.inj hm
      exact ⟨tk, by rw [e]⟩
  refine ⟨"str", _, ⟨(), trivial, rfl⟩, typeIs_str _ _ _, F.slot_str_getitem, ?_⟩
  refine wpAny_getItem_str_slice (l := none) (u := none) (st := some (-1, tk))
    ⟨_, Heap.get?_push_size _ rfl, rfl, rfl⟩ (by show ((-1 : Int) == 0) = false; decide) ?_
  have pick : ∀ l : List Nat, ∀ c ∈ l.filterMap (z.cps[·]?), c ∈ z.cps.toList := fun l c hc => by
    obtain ⟨i, _, hi⟩ := List.mem_filterMap.mp hc
    exact Array.mem_toList_iff.mpr (Array.mem_of_getElem? hi)
  have len : ((⟨((Builtin.Str.strSliceIndices none none (-1) z.length).filterMap (z.cps[·]?)).toArray⟩ : Str)).length ≤ z.length := by
    show (List.toArray _).size ≤ _
    rw [List.size_toArray]
    exact Nat.le_trans (picked_le _ _) (strIdx_le _)
  show Made.post (if ((-1 : Int) == 1 && (Builtin.Str.strSliceIndices none none (-1) z.length).length == z.length) = true then Made.val (.str z t)
    else Made.str ⟨((Builtin.Str.strSliceIndices none none (-1) z.length).filterMap (z.cps[·]?)).toArray⟩) _ _
  rw [if_neg (by simp)]
  exact ⟨Nat.le_trans len hz, .str _, H, J.tok _, ⟨_, rfl⟩, q _ len (fun c hc => pick _ c (by simpa using hc))⟩
end
end Yard

namespace Yard
open PySem PySem.Spec PyProof.Rows L2
theorem adjust_back (n : Nat) : Builtin.Slice.sliceAdjust none none (-1) (n : Int) = ((n : Int) - 1, -1) := by
  unfold Builtin.Slice.sliceAdjust
  simp
theorem places_back (n : Nat) : Builtin.Slice.slicePlaces ((n : Int) - 1) (-1) (-1) = n := by
  unfold Builtin.Slice.slicePlaces
  rw [if_neg (by decide)]
  split
  all_goals first | omega | (simp; done) | (simp; omega)
theorem congr_filterMap {α β : Type} {f g : α → Option β} : ∀ {l : List α}, (∀ x ∈ l, f x = g x) →
    l.filterMap f = l.filterMap g
  | [], _ => rfl
  | x :: l, h => by
    rw [List.filterMap_cons, List.filterMap_cons, h x List.mem_cons_self,
      congr_filterMap fun y hy => h y (List.mem_cons_of_mem _ hy)]
theorem pick_back (xs : Array Value) : ((List.range xs.size).filterMap fun (m : Nat) =>
    xs[(((xs.size : Int) - 1) + (m : Int) * (-1)).toNat]?).toArray = xs.toList.reverse.toArray := by
  have e : ∀ m ∈ List.range xs.size, xs[(((xs.size : Int) - 1) + (m : Int) * (-1)).toNat]? =
      xs.toList.reverse[m]? := fun m hm => by
    have hm' := List.mem_range.mp hm
    have q : (((xs.size : Int) - 1) + (m : Int) * (-1)).toNat = xs.size - 1 - m := by omega
    rw [q, List.getElem?_reverse (by simpa using hm'), ← Array.getElem?_toList]
    simp
  rw [congr_filterMap e]
  have z := PySem.W.krv_all xs.toList.reverse.toArray
  have n : xs.toList.reverse.toArray.size = xs.size := by simp
  rw [n] at z
  have z2 : ((List.range xs.size).filterMap fun m => xs.toList.reverse[m]?) = xs.toList.reverse := by
    simpa using z
  rw [z2]
section
variable {P : Program} {w : World} {A : Around} {E : Value → Shared → Prop} {s : Shared}
/-- t[::-1] -/
theorem getItem_back {t sl : Addr} {items : Array Value} {vl vu vs : Value} {Q : Value → Shared → Prop}
    (ht : IsTup s.heap t items) (hs : s.heap.IsSliceOf sl vl vu vs) (pl : IsPart vl none)
    (pu : IsPart vu none) (ps : IsPart vs (some (-1))) (hz : items.size ≤ sizeLine)
    (h : Q (.ref s.heap.objs.size) { s with heap := (s.heap.push
      ({ cls := .type "tuple", data := .seq items.toList.reverse.toArray } : Obj)) }) :
    wpAny (model P w) A (getItem (.ref t) (.ref sl)) Q E s := by
  have small : sizeOk (.seq items.toList.reverse.toArray) := by
    show items.toList.reverse.toArray.size ≤ sizeLine
    simpa using hz
  obtain ⟨so, at_, sc, sd⟩ := id hs
  have isSl : s.TypeIs (.ref sl) "slice" := ⟨so, at_, sc⟩
  unfold getItem
  try with_reducible refine wpAny_holding ?_
  try refine wpAny_bind (wpAny_pure ?_)
  refine wpAny_bind (wpAny_sequenceKey ht.typeIs (by decide) ?_)
  refine wpAny_bind (wpAny_callSpecial?_slot (name := Str.ofString "__getitem__") ht.typeIs
    PyProof.Rows.slot_tuple_getitem (wpAny_call_entry PyProof.Rows.slot_tuple_getitem ht.typeIs
      entry_tuple_getitem ?_ (args_tuple_getitem _ _)))
  show wpAny _ _ (Builtin.Tuple.tupleItemsOf (.ref t) >>= _) _ _ s
  refine wpAny_bind (PyProof.Rows.tupleItemsOf_ ht (wpAny_bind (wpAny_typeOf isSl ?_)))
  rw [if_pos (by decide)]
  have applied : ∀ {R : Int × Int × Nat → Shared → Prop}, R ((items.size : Int) - 1, -1, items.size) s →
      wpAny (model P w) A.in1 (Builtin.Slice.sliceApplied (.ref sl) (pure (items.size : Int))) R
        (fun e s' => E e s') s := by
    intro R hR
    unfold Builtin.Slice.sliceApplied Builtin.Slice.sliceFields
    refine wpAny_bind (wpAny_bind (wpAny_field at_ sd (x := vl) rfl (wpAny_bind (wpAny_field at_ sd
      (x := vu) rfl (wpAny_bind (wpAny_field at_ sd (x := vs) rfl (wpAny_pure ?_)))))))
    refine wpAny_bind (HT.slicePart_ ps ?_)
    show wpAny _ _ (if ((-1 : Int) == 0) = true then _ else _) _ _ s
    rw [if_neg (by decide)]
    refine wpAny_bind (HT.slicePart_ pl (wpAny_bind (HT.slicePart_ pu (wpAny_bind (wpAny_pure ?_)))))
    show wpAny _ _ (match Builtin.Slice.sliceAdjust none none (-1) (items.size : Int) with
      | (lo, hi) => pure (lo, (-1 : Int), Builtin.Slice.slicePlaces lo hi (-1))) _ _ s
    rw [adjust_back]
    show wpAny _ _ (pure ((items.size : Int) - 1, (-1 : Int),
      Builtin.Slice.slicePlaces ((items.size : Int) - 1) (-1) (-1))) _ _ s
    rw [places_back]
    exact wpAny_pure hR
  refine wpAny_bind (applied ?_)
  show wpAny _ _ (if (((items.size : Int) - 1) == 0 && (-1 : Int) == 1 && items.size == items.size) = true
    then _ else _) _ _ s
  rw [if_neg (by simp), pick_back]
  first
    | exact wpAny_bind (m := Builtin.Tuple.tupleExact _)
        (wpAny_newObj_type (wpAny_pure ⟨_, rfl, wpAny_pure h⟩) small)
    | exact wpAny_bind (m := Builtin.Tuple.tupleExact _)
        (wpAny_newObj_type (wpAny_bind (wpAny_pure (wpAny_pure ⟨_, rfl, wpAny_pure h⟩))) small)
    | exact wpAny_bind (wpAny_bind (m := Builtin.Tuple.tupleExact _)
        (wpAny_newObj_type (wpAny_pure (wpAny_pure ⟨_, rfl, wpAny_pure h⟩)) small))
    | exact wpAny_bind (wpAny_bind (m := Builtin.Tuple.tupleExact _)
        (wpAny_newObj_type (wpAny_pure ⟨_, rfl, wpAny_pure h⟩) small))
end
section
variable {X : Cx} {e : Expr} {te : TE} {k : Nat} {p1 p2 p3 pos : Pos}
theorem pe_revT (he : PE X e te) : PE X (backE e k p1 p2 p3 pos) (tBackT X.K te) := by
  refine back_of (R := fun x H Q => ∃ a xs, x = .ref a ∧ SqT X.K H a xs ∧
    ∀ p, H p = none → Q (.ref p) (upd H p (.tup xs.reverse))) he ?_
  intro pins σ H Q s v x vl vu vs J rx pl pu ps h
  obtain ⟨a, xs, rfl, hx, q⟩ := h
  cases rx
  obtain ⟨its, r, ht, hz⟩ := J.tuple hx
  refine ⟨"tuple", _, ⟨(), trivial, rfl⟩, ht.typeIs, PyProof.Rows.slot_tuple_getitem, ?_⟩
  refine getItem_back ht (Heap.IsSliceOf.new _ vl vu vs) pl pu ps
    (by rw [List.size_toArray, ← r.length]; exact hz) ?_
  have fr := J.hok.fresh (Nat.le_refl _)
  refine ⟨.ref _, _, J.laid (t' := s.toks) (o := .tup xs.reverse)
    (fun b o q => Heap.get?_push_of_some _ q) (Nat.le_refl _) ?_, rfl, q _ fr⟩
  exact ⟨by rw [List.length_reverse]; exact hz, its.reverse, r.reverse,
    ⟨_, Heap.get?_push_size _ rfl, rfl, _, rfl⟩⟩
end
end Yard
set_option maxRecDepth 100000
/-! The yard's own layer, part 6: a tuple held against (). -/
namespace Yard
open PySem PySem.Spec PyProof.Rows L2
def rEqE (K : PySem.W.Frag) (neg : Bool) : R2 := fun x y H Q => ∃ a b xs, x = .ref a ∧ y = .ref b ∧
  SqT K H a xs ∧ SqT K H b [] ∧ Q (.bl (if neg then !xs.isEmpty else xs.isEmpty)) H
section
variable {X : Cx}
theorem size_empty {xs : List V} {us : List Value} (r : Vals xs us) :
    ((List.range (min us.toArray.size (#[] : Array Value).size)).all (fun _ => true) &&
      us.toArray.size == (#[] : Array Value).size) = xs.isEmpty := by
  cases r <;> simp
theorem op_eqE {k : Nat} (hr : Room k X.A) : OpR X (compareOp .Eq) (rEqE X.K false) := by
  intro pins s σ H x y v u Q I rx ry h
  obtain ⟨a, b, xs, rfl, rfl, ha, hb, q⟩ := h
  cases rx
  cases ry
  obtain ⟨us, r, ⟨o1, p1, p2, p3⟩, _⟩ := I.tuple ha
  obtain ⟨ws, r2, ⟨o2, q1, q2, q3⟩, _⟩ := I.tuple hb
  cases r2
  refine SeqAt.eq_tupleAt (e := fun _ => true) ⟨o1, p1, p2, p3⟩ ⟨o2, q1, q2, q3⟩ hr.units0
    (fun j _ h2 => absurd h2 (by simp)) ?_
  rw [size_empty r]
  exact ⟨.bl xs.isEmpty, H, I, rfl, q⟩
theorem op_neE {k : Nat} (hr : Room k X.A) : OpR X (compareOp .NotEq) (rEqE X.K true) := by
  intro pins s σ H x y v u Q I rx ry h
  obtain ⟨a, b, xs, rfl, rfl, ha, hb, q⟩ := h
  cases rx
  cases ry
  obtain ⟨us, r, ⟨o1, p1, p2, p3⟩, _⟩ := I.tuple ha
  obtain ⟨ws, r2, ⟨o2, q1, q2, q3⟩, _⟩ := I.tuple hb
  cases r2
  refine SeqAt.RcNeAt.tuples (e := fun _ => true) ⟨o1, p1, p2, p3⟩ ⟨o2, q1, q2, q3⟩ hr.units0
    (fun j _ h2 => absurd h2 (by simp)) _ _ _ _ ?_
  rw [size_empty r]
  exact ⟨.bl (!xs.isEmpty), H, I, rfl, q⟩
end
end Yard
set_option maxRecDepth 100000
/-! The yard's own layer, part 7: defs of the text, the jar of draws. -/
namespace Yard
open PySem PySem.Spec PyProof.Rows L2

/-- a def of the text as the top has left it -/
structure Df (K : PySem.W.Frag) (mg : Str → Option Value) (x : Str) (st : Stmt) (ps : List Str) (f : Addr) (fd : FuncData) : Prop where
  fn : Fun K x x st f fd
  bd : Binds K fd ps []
  at_ : mg x = some (.ref f)
theorem Df.kp {K : PySem.W.Frag} {mg : Str → Option Value} {x : Str} {st : Stmt} {ps : List Str} {f : Addr} {fd : FuncData} (D : Df K mg x st ps f fd) : PySem.W.keepIn K (.ref f) = true := D.fn.kp

/-- all but what stands at a is as before -/
def Off (a : Addr) (H H' : Hp) : Prop := ∀ b o, b ≠ a → H b = some o → H' b = some o
theorem Off.refl (a : Addr) (H : Hp) : Off a H H := fun _ _ _ h => h
theorem Off.trans {a : Addr} {H H1 H2 : Hp} (h : Off a H H1) (k : Off a H1 H2) : Off a H H2 := fun b o n e => k b o n (h b o n e)
theorem Off.of_same {a : Addr} {H H' : Hp} (h : Same H H') : Off a H H' := fun b o _ e => h b o e
theorem Off.new {a p : Addr} {H : Hp} {o : HO} (h : H p = none) : Off a H (upd H p o) := fun b u _ e => by rw [upd_ne (ne_of_none e h)]; exact e
theorem Off.at_ {a : Addr} {H : Hp} {o : HO} : Off a H (upd H a o) := fun b u n e => by rw [upd_ne n]; exact e
theorem same_new {H : Hp} {p : Addr} {o : HO} (h : H p = none) : Same H (upd H p o) := fun b u e => by rw [upd_ne (ne_of_none e h)]; exact e
/-- the heap but for a -/
def wo (a : Addr) (H : Hp) : Hp := fun b => if b = a then none else H b
theorem wo_le (a : Addr) (H : Hp) : Same (wo a H) H := fun b o e => by
  unfold wo at e
  split at e
  · cases e
  · exact e
theorem wo_off {a : Addr} {H H' : Hp} (h : Off a H H') : Same (wo a H) (wo a H') := fun b o e => by
  unfold wo at e ⊢
  by_cases n : b = a
  · rw [if_pos n] at e; cases e
  · rw [if_neg n] at e ⊢; exact h b o n e
theorem wo_get {a b : Addr} {H : Hp} {o : HO} (n : b ≠ a) (h : H b = some o) : wo a H b = some o := by
  unfold wo; rw [if_neg n]; exact h

/-! ### the jar: what is left of a cell's digits, the cell mixed, how many draws were mixed -/
def JarAt (H : Hp) (a : Addr) (c : Nat) : Prop := ∃ x y z : Int, H a = some (.lst [.int x, .int y, .int z]) ∧ 0 ≤ x ∧ 0 ≤ y ∧ y < 2 ^ 100 ∧ 0 ≤ z ∧ z ≤ c
theorem JarAt.same {H H' : Hp} {a : Addr} {c : Nat} (h : JarAt H a c) (s : Same H H') : JarAt H' a c :=
  let ⟨x, y, z, e, r⟩ := h; ⟨x, y, z, s _ _ e, r⟩
theorem JarAt.ne {H : Hp} {a p : Addr} {c : Nat} (h : JarAt H a c) (n : H p = none) : p ≠ a := fun e => by
  obtain ⟨x, y, z, q, _⟩ := h
  rw [e, q] at n; cases n
theorem JarAt.mono {H : Hp} {a : Addr} {c c' : Nat} (h : JarAt H a c) (n : c ≤ c') : JarAt H a c' :=
  let ⟨x, y, z, e, r1, r2, r3, r4, r5⟩ := h; ⟨x, y, z, e, r1, r2, r3, r4, by omega⟩
end Yard
set_option maxRecDepth 100000
/-! The yard's own layer, part 8: comprehensions whose turns keep what stands; types of data. -/
namespace Yard
open PySem PySem.Spec PyProof.Rows L2

theorem same_mut {H H4 : Hp} {D : Addr} {o : HO} (s : Same H H4) (n : H D = none) : Same H (upd H4 D o) := fun b u e => by
  rw [upd_ne (ne_of_none e n)]; exact s b u e
theorem range_snoc {α : Type} (f : Nat → α) (i : Nat) : (List.range (i + 1)).map f = (List.range i).map f ++ [f i] := by
  rw [List.range_succ, List.map_append]; rfl

section
variable {J : It} {n : Nat} {G : Hp → Prop} {Y : Nat → Hp → V → Hp → Prop}
/-- [e for x in ..], e keeps the heap: the list of the values ys -/
theorem lc_pure (w : Walk J n G Y) (ys : Nat → V) {g : TG} {te : TE} {vs : List Nat} {σ : L2.St} {H1 : Hp} {D : Addr} {Qd : Hp → Prop} (hD : H1 D = none) (hn : n ≤ sizeLine)
    (hG : ∀ H, Same H1 H → G H)
    (hs : ∀ i x H H' (N : VK), i < n → Same H1 H → Y i H x H' → (∀ H4, Same H H4 → N (ys i) H4) → g x (wipe σ vs) H' fun σ2 H2 => wipe σ2 vs = wipe σ vs ∧ te σ2 H2 N)
    (hd : ∀ H, Same H1 H → H D = some (.lst ((List.range n).map ys)) → Qd H)
    (mono : ∀ x σ H (N N' : L2.St → Hp → Prop), (∀ σ2 H2, N σ2 H2 → N' σ2 H2) → g x σ H N → g x σ H N' := by exact fun _ _ _ _ _ h q => h _ _ q) :
    ∃ W : Nat → Nat → Hp → Prop, (∃ m, W 0 m (upd H1 D (.lst []))) ∧ ∀ i m H, W i m H →
      (J.stop i H ∧ Qd H) ∨ (J.go i H ∧ ∃ Nx : Hp → Prop, (∀ H', Nx H' → ∃ m', m' < m ∧ W (i + 1) m' H') ∧ ∀ x H', J.yld i H x H' → g x (wipe σ vs) H' fun σ2 H2 => wipe σ2 vs = wipe σ vs ∧ tYes σ2 H2 fun b H3 =>
        if b = true then te σ2 H3 fun y H4 => ∃ acc, H4 D = some (.lst acc) ∧ acc.length < sizeLine ∧ Nx (upd H4 D (.lst (acc ++ [y]))) else Nx H3) := by
  refine lc_it w (fun i H => Same H1 H ∧ H D = some (.lst ((List.range i).map ys))) ⟨same_new hD, upd_same⟩ (fun i H _ p => hG H p.1) ?_ (fun H p => hd H p.1 p.2)
  rintro i x H H' hi ⟨sm, e⟩ y
  refine mono _ _ _ _ _ ?_ (hs i x H H' (fun y H4 => ∃ acc, H4 D = some (.lst acc) ∧ acc.length < sizeLine ∧ Same H1 (upd H4 D (.lst (acc ++ [y]))) ∧
    upd H4 D (.lst (acc ++ [y])) D = some (.lst ((List.range (i + 1)).map ys))) hi sm y fun H4 s4 =>
      ⟨_, s4 _ _ e, by rw [List.length_map, List.length_range]; omega, same_mut (fun b o q => s4 b o (sm b o q)) hD, by rw [upd_same, range_snoc]⟩)
  rintro σ2 H2 ⟨z1, z2⟩
  exact ⟨z1, z2⟩

/-- [x for x in .. if t], the test keeps the heap: those of the values ys whose test bs is true -/
theorem lc_filt (w : Walk J n G Y) (ys : Nat → V) (bs : Nat → Bool) {g : TG} {tt : TT} {te : TE} {vs : List Nat} {σ : L2.St} {H1 : Hp} {D : Addr} {Qd : Hp → Prop} (hD : H1 D = none) (hn : n ≤ sizeLine)
    (hG : ∀ H, Same H1 H → G H)
    (hs : ∀ i x H H' (N : Bool → Hp → Prop), i < n → Same H1 H → Y i H x H' → (∀ H3, Same H H3 → N (bs i) H3) → g x (wipe σ vs) H' fun σ2 H2 => wipe σ2 vs = wipe σ vs ∧ tt σ2 H2 N ∧ ∀ H3 (M : VK), M (ys i) H3 → te σ2 H3 M)
    (hd : ∀ H, Same H1 H → H D = some (.lst (((List.range n).filter bs).map ys)) → Qd H)
    (mono : ∀ x σ H (N N' : L2.St → Hp → Prop), (∀ σ2 H2, N σ2 H2 → N' σ2 H2) → g x σ H N → g x σ H N' := by exact fun _ _ _ _ _ h q => h _ _ q)
    (mono2 : ∀ σ H (N N' : Bool → Hp → Prop), (∀ b H2, N b H2 → N' b H2) → tt σ H N → tt σ H N') :
    ∃ W : Nat → Nat → Hp → Prop, (∃ m, W 0 m (upd H1 D (.lst []))) ∧ ∀ i m H, W i m H →
      (J.stop i H ∧ Qd H) ∨ (J.go i H ∧ ∃ Nx : Hp → Prop, (∀ H', Nx H' → ∃ m', m' < m ∧ W (i + 1) m' H') ∧ ∀ x H', J.yld i H x H' → g x (wipe σ vs) H' fun σ2 H2 => wipe σ2 vs = wipe σ vs ∧ tt σ2 H2 fun b H3 =>
        if b = true then te σ2 H3 fun y H4 => ∃ acc, H4 D = some (.lst acc) ∧ acc.length < sizeLine ∧ Nx (upd H4 D (.lst (acc ++ [y]))) else Nx H3) := by
  refine lc_it w (fun i H => Same H1 H ∧ H D = some (.lst (((List.range i).filter bs).map ys))) ⟨same_new hD, upd_same⟩ (fun i H _ p => hG H p.1) ?_ (fun H p => hd H p.1 p.2)
  rintro i x H H' hi ⟨sm, e⟩ y
  have snoc : (List.range (i + 1)).filter bs = (List.range i).filter bs ++ (if bs i = true then [i] else []) := by
    rw [List.range_succ, List.filter_append]
    cases q : bs i <;> simp [q]
  refine mono _ _ _ _ _ ?_ (hs i x H H' (fun b H3 => b = bs i ∧ Same H H3) hi sm y fun H3 s3 => ⟨rfl, s3⟩)
  rintro σ2 H2 ⟨z1, z2, z3⟩
  refine ⟨z1, mono2 _ _ _ _ ?_ z2⟩
  rintro b H3 ⟨rfl, s3⟩
  have s1 : Same H1 H3 := fun c o q => s3 c o (sm c o q)
  have e3 := s3 _ _ e
  by_cases hb : bs i = true
  · rw [if_pos hb]
    refine z3 H3 _ ⟨_, e3, ?_, same_mut s1 hD, ?_⟩
    · rw [List.length_map]
      exact Nat.lt_of_le_of_lt (List.length_filter_le _ _) (by rw [List.length_range]; omega)
    · rw [upd_same, snoc, if_pos hb, List.map_append]; rfl
  · rw [if_neg hb]
    refine ⟨s1, ?_⟩
    rw [e3, snoc, if_neg hb, List.append_nil]

/-- [e for x in ..]: any turns, by a word over the list made so far -/
theorem lc_acc (w : Walk J n G Y) (Pv : Nat → List V → Hp → Prop) {g : TG} {te : TE} {vs : List Nat} {σ : L2.St} {H1 : Hp} {D : Addr} {Qd : Hp → Prop} (hn : n ≤ sizeLine)
    (h0 : Pv 0 [] (upd H1 D (.lst []))) (hG : ∀ i acc H, i ≤ n → Pv i acc H → G H)
    (hs : ∀ i x H H' acc (N : VK), i < n → Pv i acc H → H D = some (.lst acc) → acc.length = i → Y i H x H' →
      (∀ y H4, H4 D = some (.lst acc) → Pv (i + 1) (acc ++ [y]) (upd H4 D (.lst (acc ++ [y]))) → N y H4) → g x (wipe σ vs) H' fun σ2 H2 => wipe σ2 vs = wipe σ vs ∧ te σ2 H2 N)
    (hd : ∀ H acc, Pv n acc H → H D = some (.lst acc) → acc.length = n → Qd H)
    (mono : ∀ x σ H (N N' : L2.St → Hp → Prop), (∀ σ2 H2, N σ2 H2 → N' σ2 H2) → g x σ H N → g x σ H N' := by exact fun _ _ _ _ _ h q => h _ _ q) :
    ∃ W : Nat → Nat → Hp → Prop, (∃ m, W 0 m (upd H1 D (.lst []))) ∧ ∀ i m H, W i m H →
      (J.stop i H ∧ Qd H) ∨ (J.go i H ∧ ∃ Nx : Hp → Prop, (∀ H', Nx H' → ∃ m', m' < m ∧ W (i + 1) m' H') ∧ ∀ x H', J.yld i H x H' → g x (wipe σ vs) H' fun σ2 H2 => wipe σ2 vs = wipe σ vs ∧ tYes σ2 H2 fun b H3 =>
        if b = true then te σ2 H3 fun y H4 => ∃ acc, H4 D = some (.lst acc) ∧ acc.length < sizeLine ∧ Nx (upd H4 D (.lst (acc ++ [y]))) else Nx H3) := by
  refine lc_it w (fun i H => ∃ acc, Pv i acc H ∧ H D = some (.lst acc) ∧ acc.length = i) ⟨[], h0, upd_same, rfl⟩ (fun i H hi ⟨acc, p, _⟩ => hG i acc H hi p) ?_ (fun H ⟨acc, p, e, l⟩ => hd H acc p e l)
  rintro i x H H' hi ⟨acc, p, e, l⟩ y
  refine mono _ _ _ _ _ ?_ (hs i x H H' acc (fun y H4 => ∃ acc, H4 D = some (.lst acc) ∧ acc.length < sizeLine ∧ ∃ acc', Pv (i + 1) acc' (upd H4 D (.lst (acc ++ [y]))) ∧
    upd H4 D (.lst (acc ++ [y])) D = some (.lst acc') ∧ acc'.length = i + 1) hi p e l y fun y H4 e4 p4 =>
      ⟨acc, e4, by omega, acc ++ [y], p4, upd_same, by rw [List.length_append, l]; rfl⟩)
  rintro σ2 H2 ⟨z1, z2⟩
  exact ⟨z1, z2⟩
end

/-! ### isinstance of data -/
def tyName : PyData → String
  | .none => "NoneType"
  | .bool _ => "bool"
  | .int _ => "int"
  | .str _ => "str"
  | .list _ => "list"
  | .tuple _ => "tuple"
  | .dict _ => "dict"
theorem Dq.ty {K : PySem.W.Frag} {H : Hp} {v : V} {d : PyData} (h : Dq H v d) : TyX K H v (.type (tyName d)) := by
  cases h with
  | non => exact .base .non
  | bl b => exact .base (.bl b)
  | int i => exact .base (.int i)
  | str x => exact .base (.str x)
  | lst e _ => exact .base (.lst e)
  | tup e _ => exact .base (.tup e)
  | dic e => exact .base (.dK e)
theorem isi_data {K : PySem.W.Frag} {H : Hp} {v : V} {d : PyData} {c : String} {b : Bool} {Q : VK} (h : Dq H v d) (hb : kitB (tyName d) c = some b) (q : Q (.bl b) H) : rIsi K [v, .ty c] H Q :=
  ⟨v, .ty c, _, _, b, rfl, .ty c, h.ty, kit_ty hb, q⟩
def isTup : PyData → Bool
  | .tuple _ => true
  | _ => false
def isStr : PyData → Bool
  | .str _ => true
  | _ => false
theorem kit_tup (d : PyData) : kitB (tyName d) "tuple" = some (isTup d) := by
  have k0 : kitB "NoneType" "tuple" = some false := by decide +kernel
  have k1 : kitB "bool" "tuple" = some false := by decide +kernel
  have k2 : kitB "int" "tuple" = some false := by decide +kernel
  have k3 : kitB "str" "tuple" = some false := by decide +kernel
  have k4 : kitB "list" "tuple" = some false := by decide +kernel
  have k5 : kitB "tuple" "tuple" = some true := by decide +kernel
  have k6 : kitB "dict" "tuple" = some false := by decide +kernel
  cases d <;> first | exact k0 | exact k1 | exact k2 | exact k3 | exact k4 | exact k5 | exact k6
theorem kit_str (d : PyData) : kitB (tyName d) "str" = some (isStr d) := by
  have k0 : kitB "NoneType" "str" = some false := by decide +kernel
  have k1 : kitB "bool" "str" = some false := by decide +kernel
  have k2 : kitB "int" "str" = some false := by decide +kernel
  have k3 : kitB "str" "str" = some true := by decide +kernel
  have k4 : kitB "list" "str" = some false := by decide +kernel
  have k5 : kitB "tuple" "str" = some false := by decide +kernel
  have k6 : kitB "dict" "str" = some false := by decide +kernel
  cases d <;> first | exact k0 | exact k1 | exact k2 | exact k3 | exact k4 | exact k5 | exact k6
end Yard
set_option maxRecDepth 100000
/-! The yard's own layer, part 9: readings that make data beside the jar. -/
namespace Yard
open PySem PySem.Spec PyProof.Rows L2

theorem atI_at {α : Type} {l : List α} {r : Int} (h0 : 0 ≤ r) (h : r.toNat < l.length) : atI l r = some l[r.toNat] := by
  have e : r = ((r.toNat : Nat) : Int) := by omega
  have g : atI l ((r.toNat : Nat) : Int) = some l[r.toNat] := atI_nat (List.getElem?_eq_getElem h)
  rw [← e] at g
  exact g
theorem JarAt.upd {H : Hp} {a p : Addr} {c : Nat} {o : HO} (j : JarAt H a c) (n : p ≠ a) : JarAt (L2.upd H p o) a c :=
  let ⟨x, y, z, e, r⟩ := j
  ⟨x, y, z, by rw [upd_ne (Ne.symm n)]; exact e, r⟩
theorem Off.upd {H H' : Hp} {a p : Addr} {o : HO} (h : Off a H H') (n : H p = none) : Off a H (L2.upd H' p o) := fun b u nb e => by
  rw [upd_ne (ne_of_none e n)]; exact h b u nb e
/-- a[lo:hi] of any list -/
def cutL {α : Type} (xs : List α) (lo hi : Option Int) : List α := (xs.drop (HT.sIx xs.length 0 lo)).take (HT.sIx xs.length xs.length hi - HT.sIx xs.length 0 lo)
theorem DqL.cut {H : Hp} {vs : List V} {ds : List PyData} (h : DqL H vs ds) (lo hi : Option Int) : DqL H (cutV vs lo hi) (cutL ds lo hi) := by
  unfold cutV cutL
  rw [h.len]
  exact (h.drop _).take _
theorem cutL_whole {α : Type} {xs : List α} {lo hi : Option Int} (h : HT.sIx xs.length 0 lo = 0 ∧ HT.sIx xs.length xs.length hi = xs.length) : cutL xs lo hi = xs := by
  unfold cutL
  rw [h.1, h.2]
  show List.take (xs.length - 0) xs = xs
  rw [Nat.sub_zero]
  exact List.take_length
theorem DqL.nil_of {H : Hp} {ds : List PyData} (h : DqL H [] ds) : ds = [] := by
  cases h; rfl

/-- what is known of data in a heap -/
def Knows (a : Addr) (H : Hp) (G : List (V × PyData)) : Prop := ∀ x ∈ G, Dq (wo a H) x.1 x.2
theorem Knows.mono {a : Addr} {H H' : Hp} {G : List (V × PyData)} (k : Knows a H G) (o : Off a H H') : Knows a H' G := fun x hx => (k x hx).mono (wo_off o)
theorem Knows.cons {a : Addr} {H : Hp} {G : List (V × PyData)} {v : V} {d : PyData} (k : Knows a H G) (h : Dq (wo a H) v d) : Knows a H ((v, d) :: G) := fun x hx => by
  rcases List.mem_cons.mp hx with e | e
  · rw [e]; exact h
  · exact k x e
/-- the reading makes a datum of the kind; c, c': draws before and behind -/
def Made (a : Addr) (c c' : Nat) (σ : L2.St) (G : List (V × PyData)) (t : TE) (Pd : PyData → Prop) : Prop :=
  ∀ H Q, JarAt H a c → Knows a H G → (∀ v d H', Off a H H' → JarAt H' a c' → Dq (wo a H') v d → Pd d → Q v H') → t σ H Q
def MadeL (a : Addr) (c c' : Nat) (σ : L2.St) (G : List (V × PyData)) (t : TA) (Pd : List PyData → Prop) : Prop :=
  ∀ H Q, JarAt H a c → Knows a H G → (∀ vs ds H', Off a H H' → JarAt H' a c' → DqL (wo a H') vs ds → Pd ds → Q vs H') → t σ H Q
/-- a part of a slice, known -/
def MadeO (σ : L2.St) (t : TO) (o : Option Int) : Prop := ∀ H Q, Q o H → t σ H Q
section
variable {a : Addr} {c c' c'' : Nat} {σ : L2.St} {G : List (V × PyData)} {t t1 t2 : TE} {ta : TA}
theorem Made.imp {P P' : PyData → Prop} (h : Made a c c' σ G t P) (i : ∀ d, P d → P' d) : Made a c c' σ G t P' := fun H Q j k q =>
  h H Q j k fun v d H' o j' dq p => q v d H' o j' dq (i d p)
theorem MadeL.imp {P P' : List PyData → Prop} (h : MadeL a c c' σ G ta P) (i : ∀ d, P d → P' d) : MadeL a c c' σ G ta P' := fun H Q j k q =>
  h H Q j k fun v d H' o j' dq p => q v d H' o j' dq (i d p)
theorem made_c {v : V} {d : PyData} (h : ∀ H, Dq H v d) : Made a c c σ G (tC v) (· = d) := fun H Q j _ q => q v d H (Off.refl _ _) j (h _) rfl
theorem made_non : Made a c c σ G (tC .non) (· = .none) := made_c fun _ => .non
theorem made_bl (b : Bool) : Made a c c σ G (tC (.bl b)) (· = .bool b) := made_c fun _ => .bl b
theorem made_int (i : Int) : Made a c c σ G (tC (.int i)) (· = .int i) := made_c fun _ => .int i
theorem made_str (x : Str) : Made a c c σ G (tC (.str x)) (· = .str x) := made_c fun _ => .str x
theorem made_var {i : Nat} {v : V} {d : PyData} (hs : σ[i]? = some (some v)) (hg : (v, d) ∈ G) : Made a c c σ G (tVar i) (· = d) := fun H Q j k q =>
  ⟨v, hs, q v d H (Off.refl _ _) j (k _ hg) rfl⟩
theorem madeL_nil : MadeL a c c σ G tNil (· = []) := fun H Q j _ q => q [] [] H (Off.refl _ _) j .nil rfl
theorem madeL_cons {Pd : PyData → Prop} {Ps Pn : List PyData → Prop} (h : Made a c c' σ G t Pd) (h2 : MadeL a c' c'' σ G ta Ps) (i : ∀ d ds, Pd d → Ps ds → Pn (d :: ds)) : MadeL a c c'' σ G (tCons t ta) Pn := fun H Q j k q =>
  h H _ j k fun v d H1 o1 j1 dq1 p1 => h2 H1 _ j1 (k.mono o1) fun vs ds H2 o2 j2 dq2 p2 => q _ (d :: ds) H2 (o1.trans o2) j2 (.cons (dq1.mono (wo_off o2)) dq2) (i d ds p1 p2)
theorem madeL_e {d : PyData} {ds : List PyData} (h : Made a c c' σ G t (· = d)) (h2 : MadeL a c' c'' σ G ta (· = ds)) : MadeL a c c'' σ G (tCons t ta) (· = d :: ds) :=
  madeL_cons h h2 fun _ _ e1 e2 => by rw [e1, e2]
/-- n data of one kind -/
def Alls (Pd : PyData → Prop) (n : Nat) (ds : List PyData) : Prop := ds.length = n ∧ ∀ d ∈ ds, Pd d
theorem madeL_a {Pd : PyData → Prop} {n : Nat} (h : Made a c c' σ G t Pd) (h2 : MadeL a c' c'' σ G ta (Alls Pd n)) : MadeL a c c'' σ G (tCons t ta) (Alls Pd (n + 1)) :=
  madeL_cons h h2 fun d ds e1 e2 => ⟨congrArg (· + 1) e2.1, fun x hx => by
    rcases List.mem_cons.mp hx with e | e
    · rw [e]; exact e1
    · exact e2.2 x e⟩
theorem madeL_0 {Pd : PyData → Prop} : MadeL a c c σ G tNil (Alls Pd 0) := madeL_nil.imp fun _ e => by rw [e]; exact ⟨rfl, fun _ h => nomatch h⟩
theorem made_tup {Ps : List PyData → Prop} {Pd : PyData → Prop} (h : MadeL a c c' σ G ta Ps) (l : ∀ ds, Ps ds → ds.length ≤ sizeLine) (i : ∀ ds, Ps ds → Pd (.tuple ds)) : Made a c c' σ G (tTup ta) Pd := fun H Q j k q =>
  h H _ j k fun vs ds H1 o1 j1 dq p => ⟨by rw [dq.len]; exact l ds p, fun r nr => by
    have nra := j1.ne nr
    have w1 : Same (wo a H1) (wo a (L2.upd H1 r (.tup vs))) := wo_off (Off.new nr)
    exact q _ (.tuple ds) _ (o1.trans (Off.new nr)) (j1.upd nra) (.tup (wo_get nra upd_same) (dq.mono w1)) (i ds p)⟩
theorem made_tupE {ds : List PyData} (h : MadeL a c c' σ G ta (· = ds)) (l : ds.length ≤ 100) : Made a c c' σ G (tTup ta) (· = .tuple ds) :=
  made_tup h (fun _ e => by rw [e, sizeLine_eq]; omega) fun _ e => by rw [e]
theorem made_lst {Ps : List PyData → Prop} {Pd : PyData → Prop} (h : MadeL a c c' σ G ta Ps) (l : ∀ ds, Ps ds → ds.length ≤ sizeLine) (i : ∀ ds, Ps ds → Pd (.list ds)) : Made a c c' σ G (tLst ta) Pd := fun H Q j k q =>
  h H _ j k fun vs ds H1 o1 j1 dq p => ⟨by rw [dq.len]; exact l ds p, fun r nr => by
    have nra := j1.ne nr
    have w1 : Same (wo a H1) (wo a (L2.upd H1 r (.lst vs))) := wo_off (Off.new nr)
    exact q _ (.list ds) _ (o1.trans (Off.new nr)) (j1.upd nra) (.lst (wo_get nra upd_same) (dq.mono w1)) (i ds p)⟩
theorem made_lstE {ds : List PyData} (h : MadeL a c c' σ G ta (· = ds)) (l : ds.length ≤ 100) : Made a c c' σ G (tLst ta) (· = .list ds) :=
  made_lst h (fun _ e => by rw [e, sizeLine_eq]; omega) fun _ e => by rw [e]
/-- a list of n data of one kind -/
def ListOf (Pd : PyData → Prop) (n : Nat) (d : PyData) : Prop := ∃ ds, d = .list ds ∧ Alls Pd n ds
theorem made_lstA {Pd : PyData → Prop} {n : Nat} (h : MadeL a c c' σ G ta (Alls Pd n)) (l : n ≤ 100) : Made a c c' σ G (tLst ta) (ListOf Pd n) :=
  made_lst h (fun _ e => by rw [e.1, sizeLine_eq]; omega) fun ds e => ⟨ds, rfl, e⟩
theorem made_dic : Made a c c σ G tDNewK (· = .dict []) := fun H Q j k q r nr => by
  have nra := j.ne nr
  exact q _ (.dict []) _ (Off.new nr) (j.upd nra) (.dic (wo_get nra upd_same)) rfl
theorem made_set {i : Nat} {u : TS} {D : Ends} {H : Hp} {Pd : PyData → Prop} (h : Made a c c' σ G t Pd) (j : JarAt H a c) (k : Knows a H G)
    (q : ∀ v d H', Off a H H' → JarAt H' a c' → Dq (wo a H') v d → Pd d → u D (σ.set i (some v)) H') : tSeq (tAsg t (gName i)) u D σ H := h H _ j k q
theorem madeL_alls {Pd : PyData → Prop} {ds : List PyData} (h : MadeL a c c' σ G ta (· = ds)) (p : ∀ d ∈ ds, Pd d) : MadeL a c c' σ G ta (Alls Pd ds.length) := h.imp fun _ e => by rw [e]; exact ⟨rfl, p⟩
/-- two lists, one behind the other -/
theorem made_cat {Pd : PyData → Prop} {n m : Nat} (h : Made a c c' σ G t1 (ListOf Pd n)) (h2 : Made a c' c'' σ G t2 (ListOf Pd m)) (l : n + m ≤ 100) : Made a c c'' σ G (tOp rCat t1 t2) (ListOf Pd (n + m)) := fun H Q j k q =>
  h H _ j k fun v d H1 o1 j1 dq1 ⟨ds, e1, p1⟩ => h2 H1 _ j1 (k.mono o1) fun u e H2 o2 j2 dq2 ⟨es, e2, p2⟩ => by
    subst e1 e2
    have dq1' := dq1.mono (wo_off o2)
    cases dq1' with
    | @lst p xs _ ep hl1 =>
    cases dq2 with
    | @lst r ys _ er hl2 =>
      refine ⟨p, r, xs, ys, rfl, rfl, wo_le _ _ _ _ ep, wo_le _ _ _ _ er, by rw [hl1.len, hl2.len, p1.1, p2.1, sizeLine_eq]; omega, fun z nz => ?_⟩
      have nza := j2.ne nz
      have w1 : Same (wo a H2) (wo a (L2.upd H2 z (.lst (xs ++ ys)))) := wo_off (Off.new nz)
      refine q _ (.list (ds ++ es)) _ (o1.trans (o2.trans (Off.new nz))) (j2.upd nza) (.lst (wo_get nza upd_same) ((hl1.mono w1).app (hl2.mono w1))) ⟨_, rfl, by rw [List.length_append, p1.1, p2.1], fun x hx => ?_⟩
      rcases List.mem_append.mp hx with e | e
      · exact p1.2 x e
      · exact p2.2 x e
/-- two tuples, one behind the other -/
theorem made_catT {K : PySem.W.Frag} {Ps Qs : List PyData → Prop} {Pd : PyData → Prop} (h : Made a c c' σ G t1 (fun d => ∃ ds, d = .tuple ds ∧ Ps ds)) (h2 : Made a c' c'' σ G t2 (fun d => ∃ ds, d = .tuple ds ∧ Qs ds))
    (l : ∀ ds es, Ps ds → Qs es → ds.length + es.length ≤ sizeLine) (i : ∀ ds es, Ps ds → Qs es → Pd (.tuple (ds ++ es))) : Made a c c'' σ G (tOp (rCatA K) t1 t2) Pd := fun H Q j k q =>
  h H _ j k fun v d H1 o1 j1 dq1 ⟨ds, e1, p1⟩ => h2 H1 _ j1 (k.mono o1) fun u e H2 o2 j2 dq2 ⟨es, e2, p2⟩ => by
    subst e1 e2
    have dq1' := dq1.mono (wo_off o2)
    cases dq1' with
    | @tup p xs _ ep hl1 =>
    cases dq2 with
    | @tup r ys _ er hl2 =>
      have gp := i ds es p1 p2
      refine ⟨p, r, xs, ys, rfl, rfl, SqT.of (wo_le _ _ _ _ ep), SqT.of (wo_le _ _ _ _ er), by rw [hl1.len, hl2.len]; exact l _ _ p1 p2, fun e => ?_, fun _ e => ?_, fun _ _ z nz => ?_⟩
      · subst e
        have := hl1.nil_of
        subst this
        exact q _ (.tuple es) H2 (o1.trans o2) j2 (.tup er hl2) gp
      · subst e
        have := hl2.nil_of
        subst this
        rw [List.append_nil] at gp
        exact q _ (.tuple ds) H2 (o1.trans o2) j2 (.tup ep hl1) gp
      · have nza := j2.ne nz
        have w1 : Same (wo a H2) (wo a (L2.upd H2 z (.tup (xs ++ ys)))) := wo_off (Off.new nz)
        exact q _ (.tuple (ds ++ es)) _ (o1.trans (o2.trans (Off.new nz))) (j2.upd nza) (.tup (wo_get nza upd_same) ((hl1.mono w1).app (hl2.mono w1))) gp
theorem made_sl {K : PySem.W.Frag} {ds : List PyData} {tl th : TO} {lo hi : Option Int} (h : Made a c c' σ G t (· = .tuple ds)) (hl : MadeO σ tl lo) (hh : MadeO σ th hi) : Made a c c' σ G (tSl (rSlA K) t tl th) (· = .tuple (cutL ds lo hi)) := fun H Q j k q =>
  h H _ j k fun v d H1 o1 j1 dq1 e1 => hl _ _ (hh _ _ (by
    subst e1
    have q' := fun v d H' o j' dq e => q v d H' (o1.trans o) j' dq e
    cases dq1 with
    | @tup p xs _ ep hl1 =>
      refine ⟨p, xs, rfl, SqT.of (wo_le _ _ _ _ ep), fun e => ?_, fun _ z nz => ?_⟩
      · refine q' _ _ H1 (Off.refl _ _) j1 (.tup ep hl1) ?_
        rw [cutL_whole (by rw [← hl1.len]; exact e)]
      · have nza := j1.ne nz
        have w1 : Same (wo a H1) (wo a (L2.upd H1 z (.tup (cutV xs lo hi)))) := wo_off (Off.new nz)
        exact q' _ _ _ (Off.new nz) (j1.upd nza) (.tup (wo_get nza upd_same) ((hl1.cut lo hi).mono w1)) rfl))
theorem madeO_none : MadeO σ tNoPart none := fun _ _ q => q
theorem madeO_int {i : Int} : MadeO σ (tPart (tC (.int i))) (some i) := fun _ _ q => ⟨i, rfl, q⟩
theorem madeO_var {n : Nat} {i : Int} (h : σ[n]? = some (some (.int i))) : MadeO σ (tPart (tVar n)) (some i) := fun _ _ q => ⟨_, h, i, rfl, q⟩
theorem madeO_add {n : Nat} {i j : Int} (h : σ[n]? = some (some (.int i))) : MadeO σ (tPart (tOp (rI0 fun i j => .int (i + j)) (tVar n) (tC (.int j)))) (some (i + j)) := fun _ _ q => ⟨_, h, i, j, rfl, rfl, _, rfl, q⟩
end
end Yard
set_option maxRecDepth 100000
/-! The yard's own layer, part 10: the order of tuples of texts and numbers, told place by place. -/
namespace Yard
open PySem PySem.Spec PyProof.Rows L2
def EqAll (v w : Value) (e : Bool) : Prop := ∀ A s, SeqAt.EqAt A s v w e
def LtAll (v w : Value) (r : Bool) : Prop :=
  ∀ (A : Around) (s : Shared) (prog : Program) (wd : World) (E : Value → Shared → Prop)
    (Q : Value → Shared → Prop), Q (.bool r) s →
    wpAny (model prog wd) A (richCompare .Lt v w) Q E s
/-- the first places at which they differ decide -/
inductive Lex : List Value → List Value → Bool → Prop
  | nn : Lex [] [] false
  | nc {w : Value} {ws : List Value} : Lex [] (w :: ws) true
  | cn {v : Value} {vs : List Value} : Lex (v :: vs) [] false
  | same {v w : Value} {vs ws : List Value} {r : Bool} : EqAll v w true → Lex vs ws r →
      Lex (v :: vs) (w :: ws) r
  | unlike {v w : Value} {vs ws : List Value} {r : Bool} : EqAll v w false → LtAll v w r →
      Lex (v :: vs) (w :: ws) r
theorem Lex.ends {vs ws : List Value} {r : Bool} (h : Lex vs ws r) (n m : Nat)
    (k : vs.length + m = ws.length + n) (z : vs.zip ws = []) : r = decide (n < m) := by
  cases h with
  | nn => exact (decide_eq_false (by simp at k; omega)).symm
  | nc => exact (decide_eq_true (by simp at k; omega)).symm
  | cn => exact (decide_eq_false (by simp at k; omega)).symm
  | same _ _ => cases z
  | unlike _ _ => cases z
section
open PySem.SeqAt
open PySem.AutoSeq1 (wpAny_loadPart')
open PySem.MeetsSeq PySem.MeetsSeq2 PySem.MeetsSeq3
theorem tuple_lt_lex (l b : Addr) (xs ys : Array Value) (n m : Nat) (d1 d2 : Option Addr)
    (s1 s2 : Array (Option Value)) (r : Bool) (hx : Lex xs.toList ys.toList r) :
    Meets (Builtin.«tuple.__lt__» ⟨[.ref l, .ref b], []⟩) fun _ R s =>
      s.heap.get? l = some { cls := .type "tuple", dict := d1, data := .seq xs n, slots := s1 } ∧
      s.heap.get? b = some { cls := .type "tuple", dict := d2, data := .seq ys m, slots := s2 } ∧
      R (.ok (.ret (.bool r))) s :=
  .of_wp fun prog w A R s h => by
    obtain ⟨hp, g, d, tk, os⟩ := s
    obtain ⟨hl, hb, h⟩ := h
    have f2 := AutoSeq1.sub_tuple_tuple
    wp_walk using wpAny_loadPart' hl, wpAny_loadPart' hb,
      wpAny_forIn_list _ (fun rest c s' => c.1 = none ∧ s' = ⟨hp, g, d, tk, os⟩ ∧
        ∃ (us vs : List Value) (q : Bool), rest = us.zip vs ∧ Lex us vs q ∧
          us.length + ys.size = vs.length + xs.size ∧
          R (.ok (.ret (.bool q))) ⟨hp, g, d, tk, os⟩) _
    case turn =>
      rintro ⟨y, x⟩ rest c s' ⟨hc, rfl, us, vs, q, hz, hL, hlen, hR⟩
      cases hL with
      | nn => cases hz
      | nc => rw [List.zip_nil_left] at hz; cases hz
      | cn => rw [List.zip_nil_right] at hz; cases hz
      | @same v v2 us vs _ he t =>
        rw [List.zip_cons_cons] at hz
        injection hz with hyx hrest
        injection hyx with hy hx2
        subst hy hx2
        refine wpAny_bind (he A.in1 _ prog w _ _ ?_)
        wp_walk
        simp only [List.length_cons] at hlen
        exact ⟨rfl, rfl, us, vs, q, hrest, t, by omega, hR⟩
      | @unlike v v2 us vs _ he lt =>
        rw [List.zip_cons_cons] at hz
        injection hz with hyx hrest
        injection hyx with hy hx2
        subst hy hx2
        refine wpAny_bind (he A.in1 _ prog w _ _ ?_)
        have hri := lt A.in1 ⟨hp, g, d, tk, os⟩ prog w
        wp_walk using hri
        exact ⟨_, rfl, by simpa using hR⟩
    case fin =>
      rintro ⟨c1, c2⟩ s' ⟨hc, rfl, us, vs, q, hz, hL, hlen, hR⟩
      simp only at hc
      subst hc
      rw [hL.ends xs.size ys.size hlen hz.symm] at hR
      wp_walk
      exact ⟨_, rfl, by simpa [Builtin.Tuple.tupleCompareSizes] using hR⟩
    case h => exact ⟨rfl, rfl, _, _, r, rfl, hx, by simp; omega, h⟩
end
section
variable {prog : Program} {w : World} {A : Around} {E : Value → Shared → Prop} {s : Shared}
theorem lt_lex {l b : Addr} {xs ys : Array Value} {r : Bool} {Q : Value → Shared → Prop}
    (hl : IsTup s.heap l xs) (hb : IsTup s.heap b ys) (hx : Lex xs.toList ys.toList r)
    (hu : A.units < cLine) (h : Q (.bool r) s) :
    wpAny (model prog w) A (compareOp .Lt (.ref l) (.ref b)) Q E s := by
  obtain ⟨⟨c1, d1, t1, s1⟩, ho, hc, n, hd⟩ := id hl
  obtain ⟨⟨c2, d2, t2, s2⟩, ho2, hc2, m, hd2⟩ := id hb
  simp only at hc hd hc2 hd2
  subst hc hd hc2 hd2
  refine richCompare_meets_room (op := .Lt) ⟨_, ho, rfl⟩ ⟨_, ho2, rfl⟩ PySem.F.slot_tuple_lt
    PySem.F.entry_tuple_lt (PySem.F.args_tuple_lt_2 _ _)
    (tuple_lt_lex l b xs ys n m d1 d2 s1 s2 r hx) ⟨ho, ho2, ?_⟩ hu
  exact ⟨(fun x => nomatch x), h⟩
end
/-- (i, x) < (j, y) -/
def rLtIS (K : PySem.W.Frag) : R2 := fun x y H Q => ∃ (a b : Addr) (i j : Int) (u v : Str),
  x = .ref a ∧ y = .ref b ∧ SqT K H a [.int i, .str u] ∧ SqT K H b [.int j, .str v] ∧
  Q (.bl (if i = j then decide (u.cps.toList < v.cps.toList) else decide (i < j))) H
theorem op_ltIS {X : Cx} (hu : X.A.units < cLine) : OpR X (compareOp .Lt) (rLtIS X.K) := by
  intro pins s σ H x y vx vy Q I rx ry h
  obtain ⟨a, b, i, j, u, v, rfl, rfl, ha, hb, q⟩ := h
  cases rx
  cases ry
  obtain ⟨xs, r1, p1, _⟩ := I.tuple ha
  obtain ⟨ys, r2, p2, _⟩ := I.tuple hb
  cases r1 with
  | cons e1 r1 =>
  cases r1 with
  | cons e2 r1 =>
  cases r1
  cases r2 with
  | cons f1 r2 =>
  cases r2 with
  | cons f2 r2 =>
  cases r2
  obtain ⟨t1, rfl⟩ := e1
  obtain ⟨t2, rfl⟩ := e2
  obtain ⟨t3, rfl⟩ := f1
  obtain ⟨t4, rfl⟩ := f2
  have ei : EqAll (.int i t1) (.int j t3) (i == j) := fun A s => SeqAt.EqAt.int_int i t1 j t3
  have es : EqAll (.str u t2) (.str v t4) (u == v) := fun A s => SeqAt.EqAt.str_str u t2 v t4
  have li : LtAll (.int i t1) (.int j t3) (decide (i < j)) := fun A s prog wd E Q h => HT.rcLt_int A s i t1 j t3 prog wd E Q h
  refine lt_lex p1 p2 (r := if i = j then decide (u.cps.toList < v.cps.toList) else decide (i < j)) ?_ hu ⟨.bl _, H, I, rfl, q⟩
  show Lex [.int i t1, .str u t2] [.int j t3, .str v t4] _
  by_cases c : i = j
  · rw [if_pos c]
    refine .same (by rw [← beq_iff_eq.mpr c]; exact ei) ?_
    by_cases k : u = v
    · have z : decide (u.cps.toList < v.cps.toList) = false := by
        rw [k]
        exact decide_eq_false (List.lt_irrefl _)
      rw [z]
      exact .same (by rw [← beq_iff_eq.mpr k]; exact es) .nn
    · refine .unlike (by rw [← beq_eq_false_iff_ne.mpr k]; exact es) fun A s prog wd E Q h => ?_
      exact (PyProof.Rows.lt_str h : wpAny (model prog wd) A (compareOp .Lt (.str u t2) (.str v t4)) Q E s)
  · rw [if_neg c]
    exact .unlike (by rw [← beq_eq_false_iff_ne.mpr c]; exact ei) li
end Yard
set_option maxRecDepth 100000
/-! The yard's own layer, part 11: data beside some lists that change. -/
namespace Yard
open PySem PySem.Spec PyProof.Rows L2
/-- the heap but for what stands at S -/
def wox (S : List Addr) (H : Hp) : Hp := fun b => if b ∈ S then none else H b
/-- all but what stands at S is as before -/
def OffS (S : List Addr) (H H' : Hp) : Prop := ∀ b o, b ∉ S → H b = some o → H' b = some o
theorem OffS.refl (S : List Addr) (H : Hp) : OffS S H H := fun _ _ _ h => h
theorem OffS.trans {S : List Addr} {H H1 H2 : Hp} (h : OffS S H H1) (k : OffS S H1 H2) : OffS S H H2 := fun b o n e => k b o n (h b o n e)
theorem OffS.of_same {S : List Addr} {H H' : Hp} (h : Same H H') : OffS S H H' := fun b o _ e => h b o e
theorem OffS.at_ {S : List Addr} {H : Hp} {a : Addr} {o : HO} (h : a ∈ S) : OffS S H (upd H a o) := fun b u n e => by
  rw [upd_ne (fun z : b = a => n (by rw [z]; exact h))]; exact e
theorem wox_le (S : List Addr) (H : Hp) : Same (wox S H) H := fun b o e => by
  unfold wox at e
  split at e
  · cases e
  · exact e
theorem wox_off {S : List Addr} {H H' : Hp} (h : OffS S H H') : Same (wox S H) (wox S H') := fun b o e => by
  unfold wox at e ⊢
  by_cases n : b ∈ S
  · rw [if_pos n] at e; cases e
  · rw [if_neg n] at e ⊢; exact h b o n e
theorem wox_get {S : List Addr} {b : Addr} {H : Hp} {o : HO} (n : b ∉ S) (h : H b = some o) : wox S H b = some o := by
  unfold wox; rw [if_neg n]; exact h
/-- more lists that change: data that stood ahead of them stay data -/
theorem wox_more {S S' : List Addr} {H : Hp} (h : ∀ b ∈ S', b ∉ S → H b = none) : Same (wox S H) (wox S' H) := fun b o e => by
  unfold wox at e ⊢
  by_cases n : b ∈ S
  · rw [if_pos n] at e; cases e
  · rw [if_neg n] at e
    by_cases k : b ∈ S'
    · rw [h b k n] at e; cases e
    · rw [if_neg k]; exact e
theorem DqL.snoc {H : Hp} {vs : List V} {ds : List PyData} {v : V} {d : PyData} (h : DqL H vs ds) (k : Dq H v d) : DqL H (vs ++ [v]) (ds ++ [d]) := h.app (.cons k .nil)
/-- the last of a list taken off -/
theorem DqL.last {H : Hp} {vs : List V} {ds : List PyData} (h : DqL H vs ds) (n : ds ≠ []) : ∃ us v es d, vs = us ++ [v] ∧ ds = es ++ [d] ∧ DqL H us es ∧ Dq H v d := by
  have l := h.len
  have nv : vs ≠ [] := fun e => by
    rw [e] at l
    exact n (List.eq_nil_of_length_eq_zero l.symm)
  have k1 : vs = vs.take (vs.length - 1) ++ [vs.getLast nv] := by
    rw [← List.dropLast_eq_take]; exact (List.dropLast_concat_getLast nv).symm
  have k2 : ds = ds.take (ds.length - 1) ++ [ds.getLast n] := by
    rw [← List.dropLast_eq_take]; exact (List.dropLast_concat_getLast n).symm
  refine ⟨_, _, _, _, k1, k2, by rw [l]; exact h.take _, ?_⟩
  have g : vs[vs.length - 1]? = some (vs.getLast nv) := by rw [List.getLast_eq_getElem, List.getElem?_eq_getElem]
  obtain ⟨d, hd, q⟩ := h.get g
  have g2 : ds[ds.length - 1]? = some (ds.getLast n) := by rw [List.getLast_eq_getElem, List.getElem?_eq_getElem]
  rw [l, g2] at hd
  cases hd
  exact q
end Yard
set_option maxRecDepth 100000
/-! The yard's pure layer, part 1: data as trees, slots, what is one's own and what stays. -/
namespace YP
open PySem PySem.Spec PyProof.Rows L2

/-- data as trees -/
inductive D where
  | non | bl (b : Bool) | int (i : Int) | str (x : Str) | lst (l : List D) | tup (l : List D) | dic (l : List (Key × D))
  | obj (C : Addr) (fs : List (Str × D)) | ref (a : Addr) | ty (n : String) | exc (a dd C : Addr) (fs : List (Str × D))

mutual
/-- a value that stays: all its parts stand in F, which nobody changes -/
inductive RD (K : PySem.W.Frag) (F : Hp) : V → D → Prop
  | non : RD K F .non .non
  | bl (b : Bool) : RD K F (.bl b) (.bl b)
  | int (i : Int) : RD K F (.int i) (.int i)
  | str (x : Str) : RD K F (.str x) (.str x)
  | ty (n : String) : RD K F (.ty n) (.ty n)
  | ref (a : Addr) : RD K F (.ref a) (.ref a)
  | lst {a : Addr} {vs : List V} {ds : List D} : F a = some (.lst vs) → RL K F vs ds → RD K F (.ref a) (.lst ds)
  | tup {a : Addr} {vs : List V} {ds : List D} : F a = some (.tup vs) → RL K F vs ds → RD K F (.ref a) (.tup ds)
  | dic {a : Addr} {kvs : List (Key × V)} {ds : List (Key × D)} : F a = some (.dK kvs) → RK K F kvs ds → RD K F (.ref a) (.dic ds)
  | obj {a C dx : Addr} {fs : List (Str × V)} {ds : List (Str × D)} : F a = some (.ins C dx fs) → RF K F fs ds → RD K F (.ref a) (.obj C ds)
  | exc {a dd C : Addr} {fs : List (Str × V)} {ds : List (Str × D)} : F dd = some (.xd fs) → RF K F fs ds → RD K F (.ref a) (.exc a dd C ds)
inductive RL (K : PySem.W.Frag) (F : Hp) : List V → List D → Prop
  | nil : RL K F [] []
  | cons {v : V} {vs : List V} {d : D} {ds : List D} : RD K F v d → RL K F vs ds → RL K F (v :: vs) (d :: ds)
inductive RK (K : PySem.W.Frag) (F : Hp) : List (Key × V) → List (Key × D) → Prop
  | nil : RK K F [] []
  | cons {k : Key} {v : V} {vs : List (Key × V)} {d : D} {ds : List (Key × D)} : RD K F v d → RK K F vs ds → RK K F ((k, v) :: vs) ((k, d) :: ds)
inductive RF (K : PySem.W.Frag) (F : Hp) : List (Str × V) → List (Str × D) → Prop
  | nil : RF K F [] []
  | cons {k : Str} {v : V} {vs : List (Str × V)} {d : D} {ds : List (Str × D)} : RD K F v d → RF K F vs ds → RF K F ((k, v) :: vs) ((k, d) :: ds)
end
section
variable {K : PySem.W.Frag} {F F' H H' : Hp}
theorem rd_mono {a : Addr} {u : HO} (s : Same F F') (h : Rd F a u) : Rd F' a u := h.imp (s _ _) fun ⟨o, e⟩ => ⟨o, s _ _ e⟩
theorem sqT_mono {a : Addr} {xs : List V} (s : Same F F') (h : SqT K F a xs) : SqT K F' a xs := h.imp (rd_mono s) fun h => h
mutual
theorem RD.mono (s : Same F F') : ∀ {v : V} {d : D}, RD K F v d → RD K F' v d
  | _, _, .non => .non
  | _, _, .bl b => .bl b
  | _, _, .int i => .int i
  | _, _, .str x => .str x
  | _, _, .ty n => .ty n
  | _, _, .ref a => .ref a
  | _, _, .lst h t => .lst (s _ _ h) (t.mono s)
  | _, _, .tup h t => .tup (s _ _ h) (t.mono s)
  | _, _, .dic h t => .dic (s _ _ h) (t.mono s)
  | _, _, .obj h t => .obj (s _ _ h) (t.mono s)
  | _, _, .exc h t => .exc (s _ _ h) (t.mono s)
theorem RL.mono (s : Same F F') : ∀ {vs : List V} {ds : List D}, RL K F vs ds → RL K F' vs ds
  | _, _, .nil => .nil
  | _, _, .cons h t => .cons (h.mono s) (t.mono s)
theorem RK.mono (s : Same F F') : ∀ {vs : List (Key × V)} {ds : List (Key × D)}, RK K F vs ds → RK K F' vs ds
  | _, _, .nil => .nil
  | _, _, .cons h t => .cons (h.mono s) (t.mono s)
theorem RF.mono (s : Same F F') : ∀ {vs : List (Str × V)} {ds : List (Str × D)}, RF K F vs ds → RF K F' vs ds
  | _, _, .nil => .nil
  | _, _, .cons h t => .cons (h.mono s) (t.mono s)
end
theorem RL.len : ∀ {vs : List V} {ds : List D}, RL K F vs ds → vs.length = ds.length
  | _, _, .nil => rfl
  | _, _, .cons _ t => congrArg (· + 1) t.len
theorem RL.get : ∀ {vs : List V} {ds : List D} {i : Nat} {v : V}, RL K F vs ds → vs[i]? = some v → ∃ d, ds[i]? = some d ∧ RD K F v d
  | _, _, 0, _, .cons h _, e => by cases e; exact ⟨_, rfl, h⟩
  | _, _, i + 1, _, .cons _ t, e => RL.get (i := i) t e
theorem RL.got : ∀ {vs : List V} {ds : List D} {i : Nat} {d : D}, RL K F vs ds → ds[i]? = some d → ∃ v, vs[i]? = some v ∧ RD K F v d
  | _, _, 0, _, .cons h _, e => by cases e; exact ⟨_, rfl, h⟩
  | _, _, i + 1, _, .cons _ t, e => RL.got (i := i) t e
theorem RL.take : ∀ {vs : List V} {ds : List D} (n : Nat), RL K F vs ds → RL K F (vs.take n) (ds.take n)
  | _, _, 0, _ => .nil
  | _, _, _ + 1, .nil => .nil
  | _, _, n + 1, .cons h t => .cons h (t.take n)
theorem RL.drop : ∀ {vs : List V} {ds : List D} (n : Nat), RL K F vs ds → RL K F (vs.drop n) (ds.drop n)
  | _, _, 0, h => h
  | _, _, _ + 1, .nil => .nil
  | _, _, n + 1, .cons _ t => t.drop n
theorem RL.app : ∀ {vs ws : List V} {ds es : List D}, RL K F vs ds → RL K F ws es → RL K F (vs ++ ws) (ds ++ es)
  | _, _, _, _, .nil, k => k
  | _, _, _, _, .cons h t, k => .cons h (t.app k)
theorem RL.rev : ∀ {vs : List V} {ds : List D}, RL K F vs ds → RL K F vs.reverse ds.reverse
  | _, _, .nil => .nil
  | _, _, .cons h t => by
    rw [List.reverse_cons, List.reverse_cons]
    exact t.rev.app (.cons h .nil)
theorem RL.snoc {vs : List V} {ds : List D} {v : V} {d : D} (h : RL K F vs ds) (k : RD K F v d) : RL K F (vs ++ [v]) (ds ++ [d]) := h.app (.cons k .nil)
theorem RL.set : ∀ {vs : List V} {ds : List D} {v : V} {d : D} (i : Nat), RL K F vs ds → RD K F v d → RL K F (vs.set i v) (ds.set i d)
  | _, _, _, _, _, .nil, _ => .nil
  | _, _, _, _, 0, .cons _ t, k => .cons k t
  | _, _, _, _, i + 1, .cons h t, k => .cons h (t.set i k)
theorem RL.last {vs : List V} {ds : List D} (h : RL K F vs ds) (n : ds ≠ []) : ∃ us v es d, vs = us ++ [v] ∧ ds = es ++ [d] ∧ RL K F us es ∧ RD K F v d := by
  have r := h.rev
  have nr : ds.reverse ≠ [] := fun e => n (List.reverse_eq_nil_iff.mp e)
  generalize e1 : vs.reverse = vr at r
  generalize e2 : ds.reverse = dr at r nr
  cases r with
  | nil => exact absurd rfl nr
  | @cons v us d es h1 h2 =>
    refine ⟨us.reverse, v, es.reverse, d, ?_, ?_, h2.rev, h1⟩
    · rw [← List.reverse_reverse vs, e1, List.reverse_cons]
    · rw [← List.reverse_reverse ds, e2, List.reverse_cons]
theorem RK.len : ∀ {vs : List (Key × V)} {ds : List (Key × D)}, RK K F vs ds → vs.length = ds.length
  | _, _, .nil => rfl
  | _, _, .cons _ t => congrArg (· + 1) t.len

/-- a value that is one's own: its object may be changed, its parts stay -/
inductive RO (K : PySem.W.Frag) (F H : Hp) : V → D → Prop
  | lst {a : Addr} {vs : List V} {ds : List D} : H a = some (.lst vs) → RL K F vs ds → RO K F H (.ref a) (.lst ds)
  | dic {a : Addr} {kvs : List (Key × V)} {ds : List (Key × D)} : H a = some (.dK kvs) → RK K F kvs ds → RO K F H (.ref a) (.dic ds)
  | obj {a C dx : Addr} {fs : List (Str × V)} {ds : List (Str × D)} : H a = some (.ins C dx fs) → RF K F fs ds → RO K F H (.ref a) (.obj C ds)
theorem RO.there {v : V} {d : D} (h : RO K F H v d) : ∃ a o, v = .ref a ∧ H a = some o := by
  cases h with
  | lst h _ => exact ⟨_, _, rfl, h⟩
  | dic h _ => exact ⟨_, _, rfl, h⟩
  | obj h _ => exact ⟨_, _, rfl, h⟩
theorem RO.keep {a : Addr} {d : D} (s : Same F F') (e : H' a = H a) (h : RO K F H (.ref a) d) : RO K F' H' (.ref a) d := by
  cases h with
  | lst h t => exact .lst (e.trans h) (t.mono s)
  | dic h t => exact .dic (e.trans h) (t.mono s)
  | obj h t => exact .obj (e.trans h) (t.mono s)
/-- one's own, from now on not changed -/
theorem RO.froze {a : Addr} {d : D} {o : HO} (n : F a = none) (e : H a = some o) (h : RO K F H (.ref a) d) : RD K (upd F a o) (.ref a) d := by
  have s : Same F (upd F a o) := fun b u q => by rw [upd_ne (ne_of_none q n)]; exact q
  cases h with
  | lst h t => rw [e] at h; cases h; exact .lst upd_same (t.mono s)
  | dic h t => rw [e] at h; cases h; exact .dic upd_same (t.mono s)
  | obj h t => rw [e] at h; cases h; exact .obj upd_same (t.mono s)
/-- either -/
def RW (K : PySem.W.Frag) (F H : Hp) (v : V) (d : D) : Prop := RD K F v d ∨ RO K F H v d
theorem RW.non {v : V} (h : RW K F H v .non) : v = .non := by rcases h with h | h <;> cases h; rfl
theorem RW.bl {v : V} {b : Bool} (h : RW K F H v (.bl b)) : v = .bl b := by rcases h with h | h <;> cases h; rfl
theorem RW.int {v : V} {i : Int} (h : RW K F H v (.int i)) : v = .int i := by rcases h with h | h <;> cases h; rfl
theorem RW.str {v : V} {i : Str} (h : RW K F H v (.str i)) : v = .str i := by rcases h with h | h <;> cases h; rfl
theorem RW.ty {v : V} {i : String} (h : RW K F H v (.ty i)) : v = .ty i := by rcases h with h | h <;> cases h; rfl
theorem RW.exc {v : V} {a dd C : Addr} {fs : List (Str × D)} (h : RW K F H v (.exc a dd C fs)) : v = .ref a ∧ ∃ vfs, F dd = some (.xd vfs) ∧ RF K F vfs fs := by rcases h with h | h <;> cases h; exact ⟨rfl, _, ‹_›, ‹_›⟩
theorem RW.ref {v : V} {a : Addr} (h : RW K F H v (.ref a)) : v = .ref a := by rcases h with h | h <;> cases h; rfl
theorem RW.lst {v : V} {ds : List D} (s : Same F H) (h : RW K F H v (.lst ds)) : ∃ a vs, v = .ref a ∧ H a = some (.lst vs) ∧ RL K F vs ds := by
  rcases h with h | h <;> cases h
  · exact ⟨_, _, rfl, s _ _ ‹_›, ‹_›⟩
  · exact ⟨_, _, rfl, ‹_›, ‹_›⟩
theorem RW.tup {v : V} {ds : List D} (s : Same F H) (h : RW K F H v (.tup ds)) : ∃ a vs, v = .ref a ∧ SqT K H a vs ∧ RL K F vs ds := by
  rcases h with h | h <;> cases h
  exact ⟨_, _, rfl, .of (s _ _ ‹_›), ‹_›⟩
theorem RW.dic {v : V} {ds : List (Key × D)} (s : Same F H) (h : RW K F H v (.dic ds)) : ∃ a kvs, v = .ref a ∧ H a = some (.dK kvs) ∧ RK K F kvs ds := by
  rcases h with h | h <;> cases h
  · exact ⟨_, _, rfl, s _ _ ‹_›, ‹_›⟩
  · exact ⟨_, _, rfl, ‹_›, ‹_›⟩
theorem RW.obj {v : V} {C : Addr} {ds : List (Str × D)} (s : Same F H) (h : RW K F H v (.obj C ds)) : ∃ a dx fs, v = .ref a ∧ H a = some (.ins C dx fs) ∧ RF K F fs ds := by
  rcases h with h | h <;> cases h
  · exact ⟨_, _, _, rfl, s _ _ ‹_›, ‹_›⟩
  · exact ⟨_, _, _, rfl, ‹_›, ‹_›⟩
end

/-- a slot: empty, or a datum: one's own or not, still what was handed in or not -/
inductive Sl where
  | un | sl (o p : Bool) (d : D)
/-- what an expression gives: a datum that stays, one of one's own that nobody holds, what the slot i holds -/
inductive Rv where
  | val (d : D) | own (d : D) | at (i : Nat)
/-- the datum as it stands -/
def wv (ρ : List Sl) (r : Rv) (k : D → Prop) : Prop := match r with
  | .val d => k d
  | .own d => k d
  | .at i => match ρ[i]? with
    | some (.sl _ _ d) => k d
    | _ => False
/-- the slots behind it where it stays from now on -/
def frz (ρ : List Sl) (r : Rv) : List Sl := match r with
  | .at i => match ρ[i]? with
    | some (.sl _ p d) => ρ.set i (Sl.sl false p d)
    | _ => ρ
  | _ => ρ

structure ER (K : PySem.W.Frag) (F H : Hp) (σ0 : L2.St) (ρ : List Sl) (σ : L2.St) (B : Addr → Prop) : Prop where
  len : ρ.length = σ.length
  sub : Same F H
  fz : ∀ (i : Nat) p d, ρ[i]? = some (Sl.sl false p d) → ∃ v, σ[i]? = some (some v) ∧ RD K F v d
  ow : ∀ (i : Nat) p d, ρ[i]? = some (Sl.sl true p d) → ∃ a, σ[i]? = some (some (V.ref a)) ∧ RO K F H (.ref a) d ∧ F a = none ∧ ¬ B a
  inj : ∀ (i j : Nat) a p q d e, ρ[i]? = some (Sl.sl true p d) → ρ[j]? = some (Sl.sl true q e) → σ[i]? = some (some (V.ref a)) → σ[j]? = some (some (V.ref a)) → i = j
  par : ∀ (i : Nat) o d, ρ[i]? = some (Sl.sl o true d) → σ[i]? = σ0[i]?
  out : ∀ a, B a → H a ≠ none ∧ F a = none
structure Nx (F H F' H' : Hp) (B : Addr → Prop) : Prop where
  fz : Same F F'
  out : ∀ a, B a → H' a = H a
theorem Nx.refl (F H : Hp) (B : Addr → Prop) : Nx F H F H B := ⟨Same.refl _, fun _ _ => rfl⟩
theorem Nx.trans {F H F1 H1 F2 H2 : Hp} {B : Addr → Prop} (a : Nx F H F1 H1 B) (b : Nx F1 H1 F2 H2 B) : Nx F H F2 H2 B := ⟨a.fz.trans b.fz, fun c h => (b.out c h).trans (a.out c h)⟩
theorem Nx.mono {F H F' H' : Hp} {B B' : Addr → Prop} (a : Nx F H F' H' B') (h : ∀ c, B c → B' c) : Nx F H F' H' B := ⟨a.fz, fun c z => a.out c (h c z)⟩
def RR (K : PySem.W.Frag) (F H : Hp) (ρ : List Sl) (σ : L2.St) (B : Addr → Prop) (r : Rv) (v : V) : Prop := match r with
  | .val d => RD K F v d
  | .own d => ∃ a, v = .ref a ∧ RO K F H v d ∧ F a = none ∧ ¬ B a ∧ ∀ (i : Nat) p e, ρ[i]? = some (Sl.sl true p e) → σ[i]? ≠ some (some (V.ref a))
  | .at i => σ[i]? = some (some v)
def hB (B : Addr → Prop) (r : Rv) (v : V) : Addr → Prop := match r with
  | .own _ => fun a => B a ∨ v = .ref a
  | _ => B
section
variable {K : PySem.W.Frag} {F F' H H' : Hp} {σ0 σ : L2.St} {ρ ρ' : List Sl} {B : Addr → Prop} {r : Rv} {v : V} {d : D}
theorem hB_sub : ∀ c, B c → hB B r v c := fun c h => by cases r <;> first | exact h | exact .inl h
/-- the datum as it stands, of a result -/
theorem ER.seen (E : ER K F H σ0 ρ σ B) (h : RR K F H ρ σ B r v) {k : D → Prop} (w : wv ρ r k) : ∃ d, RW K F H v d ∧ k d := by
  cases r with
  | val d => exact ⟨d, .inl h, w⟩
  | own d => obtain ⟨a, _, ro, _⟩ := h; exact ⟨d, .inr ro, w⟩
  | «at» i =>
    unfold wv at w
    dsimp only at w
    cases q : ρ[i]? with
    | none => rw [q] at w; exact w.elim
    | some s =>
      cases s with
      | un => rw [q] at w; exact w.elim
      | sl o p d =>
        rw [q] at w
        have h' : σ[i]? = some (some v) := h
        cases o with
        | false =>
          obtain ⟨u, e, rd⟩ := E.fz i p d q
          rw [h'] at e; cases e
          exact ⟨d, .inl rd, w⟩
        | true =>
          obtain ⟨a, e, ro, _⟩ := E.ow i p d q
          rw [h'] at e; cases e
          exact ⟨d, .inr ro, w⟩
/-- a result is held while others are reckoned -/
theorem ER.hold (E : ER K F H σ0 ρ σ B) (h : RR K F H ρ σ B r v) : ER K F H σ0 ρ σ (hB B r v) := by
  cases r with
  | val d => exact E
  | «at» i => exact E
  | own d =>
    obtain ⟨a, rfl, ro, n, nb, ns⟩ := h
    refine ⟨E.len, E.sub, E.fz, fun i p d q => ?_, E.inj, E.par, fun b hb => ?_⟩
    · obtain ⟨b, e, z⟩ := E.ow i p d q
      refine ⟨b, e, z.1, z.2.1, fun hb => ?_⟩
      rcases hb with hb | hb
      · exact z.2.2 hb
      · cases hb; exact ns i p d q e
    · rcases hb with hb | hb
      · exact E.out b hb
      · cases hb
        obtain ⟨_, o, e, z⟩ := ro.there
        cases e
        exact ⟨by rw [z]; exact fun y => (nomatch y), n⟩
theorem ER.unhold (E : ER K F' H' σ0 ρ' σ (hB B r v)) : ER K F' H' σ0 ρ' σ B :=
  ⟨E.len, E.sub, E.fz, fun i p d q => let ⟨a, e, x, y, z⟩ := E.ow i p d q; ⟨a, e, x, y, fun hb => z (hB_sub _ hb)⟩, E.inj, E.par, fun a h => E.out a (hB_sub _ h)⟩
theorem RR.held (E : ER K F H σ0 ρ σ B) (E' : ER K F' H' σ0 ρ' σ (hB B r v)) (h : RR K F H ρ σ B r v) (n : Nx F H F' H' (hB B r v)) : RR K F' H' ρ' σ B r v := by
  cases r with
  | val d => exact RD.mono n.fz h
  | «at» i => exact h
  | own d =>
    obtain ⟨a, rfl, ro, n1, nb, ns⟩ := h
    refine ⟨a, rfl, ro.keep n.fz (n.out a (.inr rfl)), (E'.out a (.inr rfl)).2, nb, fun i p e q z => ?_⟩
    obtain ⟨b, e2, _, _, nb2⟩ := E'.ow i p e q
    rw [z] at e2; cases e2
    exact nb2 (.inr rfl)
/-- a result stays from now on -/
theorem ER.freeze (E : ER K F H σ0 ρ σ B) (h : RR K F H ρ σ B r v) {k : D → Prop} (w : wv ρ r k) : ∃ F' d, Nx F H F' H B ∧ ER K F' H σ0 (frz ρ r) σ B ∧ RD K F' v d ∧ k d := by
  cases r with
  | val d => exact ⟨F, d, .refl _ _ _, E, h, w⟩
  | own d =>
    obtain ⟨a, rfl, ro, n, nb, ns⟩ := h
    obtain ⟨_, o, e, z⟩ := ro.there
    cases e
    have s : Same F (upd F a o) := fun b u q => by rw [upd_ne (ne_of_none q n)]; exact q
    refine ⟨upd F a o, d, ⟨s, fun _ _ => rfl⟩, ⟨E.len, fun b u q => ?_, fun i p d q => ?_, fun i p d q => ?_, E.inj, E.par, fun b hb => ?_⟩, ro.froze n z, w⟩
    · by_cases hb : b = a
      · subst hb; rw [upd_same] at q; cases q; exact z
      · rw [upd_ne hb] at q; exact E.sub b u q
    · obtain ⟨v, e, rd⟩ := E.fz i p d q
      exact ⟨v, e, rd.mono s⟩
    · obtain ⟨b, e, ro2, n2, nb2⟩ := E.ow i p d q
      have hb : b ≠ a := fun y => by subst y; exact ns i p d q e
      exact ⟨b, e, ro2.keep s rfl, by rw [upd_ne hb]; exact n2, nb2⟩
    · have hb' : b ≠ a := fun y => by subst y; exact nb hb
      rw [upd_ne hb']; exact E.out b hb
  | «at» i =>
    have h' : σ[i]? = some (some v) := h
    unfold wv at w
    dsimp only at w
    cases q : ρ[i]? with
    | none => rw [q] at w; exact w.elim
    | some s =>
      cases s with
      | un => rw [q] at w; exact w.elim
      | sl o p d =>
        rw [q] at w
        have fe : frz ρ (.at i) = ρ.set i (Sl.sl false p d) := by simp only [frz, q]
        have hi : i < ρ.length := (List.getElem?_eq_some_iff.mp q).1
        have at_ : ∀ (j : Nat) s, (ρ.set i (Sl.sl false p d))[j]? = some s → (j = i ∧ s = .sl false p d) ∨ (j ≠ i ∧ ρ[j]? = some s) := fun j s e => by
          by_cases hj : j = i
          · subst hj; rw [List.getElem?_set_self hi] at e; cases e; exact .inl ⟨rfl, rfl⟩
          · rw [List.getElem?_set_ne (Ne.symm hj)] at e; exact .inr ⟨hj, e⟩
        cases o with
        | false =>
          obtain ⟨u, e, rd⟩ := E.fz i p d q
          rw [h'] at e; cases e
          refine ⟨F, d, .refl _ _ _, ?_, rd, w⟩
          rw [fe]
          have : ρ.set i (Sl.sl false p d) = ρ := by
            refine List.ext_getElem? fun j => ?_
            by_cases hj : j = i
            · subst hj; rw [List.getElem?_set_self hi, q]
            · rw [List.getElem?_set_ne (Ne.symm hj)]
          rw [this]; exact E
        | true =>
          obtain ⟨a, e, ro, n, nb⟩ := E.ow i p d q
          rw [h'] at e; cases e
          obtain ⟨_, o, e, z⟩ := ro.there
          cases e
          have s : Same F (upd F a o) := fun b u q => by rw [upd_ne (ne_of_none q n)]; exact q
          refine ⟨upd F a o, d, ⟨s, fun _ _ => rfl⟩, ?_, ro.froze n z, w⟩
          rw [fe]
          refine ⟨by rw [List.length_set]; exact E.len, fun b u q => ?_, fun j p' d' q' => ?_, fun j p' d' q' => ?_, fun j k b p1 p2 d1 d2 q1 q2 => ?_, fun j o' d' q' => ?_, fun b hb => ?_⟩
          · by_cases hb : b = a
            · subst hb; rw [upd_same] at q; cases q; exact z
            · rw [upd_ne hb] at q; exact E.sub b u q
          · rcases at_ _ _ q' with ⟨rfl, y⟩ | ⟨_, y⟩
            · cases y
              exact ⟨_, h', ro.froze n z⟩
            · obtain ⟨v, e, rd⟩ := E.fz j p' d' y
              exact ⟨v, e, rd.mono s⟩
          · rcases at_ _ _ q' with ⟨rfl, y⟩ | ⟨hj, y⟩
            · cases y
            · obtain ⟨b, e, ro2, n2, nb2⟩ := E.ow j p' d' y
              have hb : b ≠ a := fun w => by subst w; exact hj (E.inj j i b _ _ _ _ y q e h')
              exact ⟨b, e, ro2.keep s rfl, by rw [upd_ne hb]; exact n2, nb2⟩
          · rcases at_ _ _ q1 with ⟨rfl, y⟩ | ⟨_, y⟩
            · cases y
            · rcases at_ _ _ q2 with ⟨rfl, y2⟩ | ⟨_, y2⟩
              · cases y2
              · exact E.inj j k b _ _ _ _ y y2
          · rcases at_ _ _ q' with ⟨rfl, y⟩ | ⟨_, y⟩
            · cases y; exact E.par j true d q
            · exact E.par j o' d' y
          · have hb' : b ≠ a := fun y => by subst y; exact nb hb
            rw [upd_ne hb']; exact E.out b hb
/-! ### new objects -/
theorem ER.free (E : ER K F H σ0 ρ σ B) {p : Addr} (h : H p = none) : F p = none := E.sub.free h
theorem ER.nB (E : ER K F H σ0 ρ σ B) {p : Addr} (h : H p = none) : ¬ B p := fun b => (E.out p b).1 h
theorem ER.nS (E : ER K F H σ0 ρ σ B) {p : Addr} (h : H p = none) : ∀ (i : Nat) q e, ρ[i]? = some (Sl.sl true q e) → σ[i]? ≠ some (some (V.ref p)) := fun i q e z y => by
  obtain ⟨b, e1, ro, _⟩ := E.ow i q e z
  rw [y] at e1; cases e1
  obtain ⟨_, o, e2, w⟩ := ro.there
  cases e2
  rw [h] at w; cases w
theorem nx_new {p : Addr} {o : HO} (E : ER K F H σ0 ρ σ B) (h : H p = none) : Nx F H F (upd H p o) B := ⟨Same.refl _, fun a b => upd_ne fun e => by subst e; exact E.nB h b⟩
/-- a new object, one's own -/
theorem ER.laid {p : Addr} {o : HO} (E : ER K F H σ0 ρ σ B) (h : H p = none) : ER K F (upd H p o) σ0 ρ σ B := by
  have keep : ∀ b u, H b = some u → upd H p o b = some u := fun b u e => by rw [upd_ne (ne_of_none e h)]; exact e
  refine ⟨E.len, fun b u e => keep b u (E.sub b u e), E.fz, fun i q d z => ?_, E.inj, E.par, fun a b => ⟨?_, (E.out a b).2⟩⟩
  · obtain ⟨b, e, ro, n, nb⟩ := E.ow i q d z
    obtain ⟨_, u, e2, w⟩ := ro.there
    cases e2
    exact ⟨b, e, ro.keep (Same.refl _) (by rw [keep b u w, w]), n, nb⟩
  · rw [upd_ne fun e => by subst e; exact E.nB h b]; exact (E.out a b).1
theorem ER.laid_own {p : Addr} {o : HO} {d : D} (E : ER K F H σ0 ρ σ B) (h : H p = none) (ro : RO K F (upd H p o) (.ref p) d) : RR K F (upd H p o) ρ σ B (.own d) (.ref p) :=
  ⟨p, rfl, ro, E.free h, E.nB h, E.nS h⟩
/-- a new object that stays -/
theorem ER.laid_val {p : Addr} {o : HO} (E : ER K F H σ0 ρ σ B) (h : H p = none) : ER K (upd F p o) (upd H p o) σ0 ρ σ B ∧ Nx F H (upd F p o) (upd H p o) B := by
  have nF := E.free h
  have s : Same F (upd F p o) := fun b u q => by rw [upd_ne (ne_of_none q nF)]; exact q
  have E1 := E.laid (o := o) h
  refine ⟨⟨E.len, fun b u e => ?_, fun i q d z => ?_, fun i q d z => ?_, E.inj, E.par, fun a b => ⟨(E1.out a b).1, ?_⟩⟩, s, (nx_new E h).out⟩
  · by_cases hb : b = p
    · subst hb; rw [upd_same] at e ⊢; exact e
    · rw [upd_ne hb] at e ⊢; exact E.sub b u e
  · obtain ⟨v, e, rd⟩ := E.fz i q d z
    exact ⟨v, e, rd.mono s⟩
  · obtain ⟨b, e, ro, n, nb⟩ := E1.ow i q d z
    have hb : b ≠ p := fun y => by subst y; exact E.nS h i q d z e
    exact ⟨b, e, ro.keep s rfl, by rw [upd_ne hb]; exact n, nb⟩
  · rw [upd_ne fun e => by subst e; exact E.nB h b]; exact (E.out a b).2
/-- one's own object is written -/
theorem ER.wrote {i : Nat} {q : Bool} {a : Addr} {d e : D} {o : HO} (E : ER K F H σ0 ρ σ B) (hi : ρ[i]? = some (Sl.sl true q d)) (ha : σ[i]? = some (some (V.ref a))) (ro : RO K F (upd H a o) (.ref a) e) :
    ER K F (upd H a o) σ0 (ρ.set i (Sl.sl true q e)) σ B ∧ Nx F H F (upd H a o) B := by
  have hl : i < ρ.length := (List.getElem?_eq_some_iff.mp hi).1
  obtain ⟨a', e1, ro1, n1, nb1⟩ := E.ow i q d hi
  rw [ha] at e1; cases e1
  have at_ : ∀ (j : Nat) s, (ρ.set i (Sl.sl true q e))[j]? = some s → (j = i ∧ s = .sl true q e) ∨ (j ≠ i ∧ ρ[j]? = some s) := fun j s z => by
    by_cases hj : j = i
    · subst hj; rw [List.getElem?_set_self hl] at z; cases z; exact .inl ⟨rfl, rfl⟩
    · rw [List.getElem?_set_ne (Ne.symm hj)] at z; exact .inr ⟨hj, z⟩
  refine ⟨⟨by rw [List.length_set]; exact E.len, fun b u z => ?_, fun j p f z => ?_, fun j p f z => ?_, fun j k b p1 p2 d1 d2 q1 q2 h1 h2 => ?_, fun j o' f z => ?_, fun b hb => ⟨?_, (E.out b hb).2⟩⟩, Same.refl _, fun b hb => upd_ne fun y => by subst y; exact nb1 hb⟩
  · rw [upd_ne (ne_of_none z n1)]; exact E.sub b u z
  · rcases at_ _ _ z with ⟨_, y⟩ | ⟨_, y⟩
    · cases y
    · exact E.fz j p f y
  · rcases at_ _ _ z with ⟨rfl, y⟩ | ⟨hj, y⟩
    · cases y; exact ⟨a, ha, ro, n1, nb1⟩
    · obtain ⟨b, e2, ro2, n2, nb2⟩ := E.ow j p f y
      have hb : b ≠ a := fun w => by subst w; exact hj (E.inj j i b _ _ _ _ y hi e2 ha)
      exact ⟨b, e2, ro2.keep (Same.refl _) (upd_ne hb), n2, nb2⟩
  · have g : ∀ (j : Nat) p (d1 : D), (ρ.set i (Sl.sl true q e))[j]? = some (Sl.sl true p d1) → ∃ p' d', ρ[j]? = some (Sl.sl true p' d') := fun j p d1 z => by
      rcases at_ _ _ z with ⟨rfl, _⟩ | ⟨_, y⟩
      · exact ⟨_, _, hi⟩
      · exact ⟨_, _, y⟩
    obtain ⟨_, _, y1⟩ := g _ _ _ q1
    obtain ⟨_, _, y2⟩ := g _ _ _ q2
    exact E.inj j k b _ _ _ _ y1 y2 h1 h2
  · rcases at_ _ _ z with ⟨rfl, y⟩ | ⟨_, y⟩
    · cases y; exact E.par j true d hi
    · exact E.par j o' f y
  · rw [upd_ne fun y => by subst y; exact nb1 hb]; exact (E.out b hb).1
/-- a name is stored -/
def put (ρ : List Sl) (i : Nat) (r : Rv) (k : List Sl → Prop) : Prop := match r with
  | .val d => k (ρ.set i (Sl.sl false false d))
  | .own d => k (ρ.set i (Sl.sl true false d))
  | .at j => match ρ[j]? with
    | some (.sl _ p d) => k ((ρ.set j (Sl.sl false p d)).set i (Sl.sl false false d))
    | _ => False
theorem ER.set_val {i : Nat} (E : ER K F H σ0 ρ σ B) (h : RD K F v d) : ER K F H σ0 (ρ.set i (Sl.sl false false d)) (σ.set i (some v)) B := by
  by_cases hl : i < ρ.length
  · have hs : i < σ.length := by rw [← E.len]; exact hl
    have at_ : ∀ (j : Nat) s, (ρ.set i (Sl.sl false false d))[j]? = some s → (j = i ∧ s = .sl false false d) ∨ (j ≠ i ∧ ρ[j]? = some s) := fun j s z => by
      by_cases hj : j = i
      · subst hj; rw [List.getElem?_set_self hl] at z; cases z; exact .inl ⟨rfl, rfl⟩
      · rw [List.getElem?_set_ne (Ne.symm hj)] at z; exact .inr ⟨hj, z⟩
    have sn : ∀ (j : Nat), j ≠ i → (σ.set i (some v))[j]? = σ[j]? := fun j hj => List.getElem?_set_ne (Ne.symm hj)
    refine ⟨by rw [List.length_set, List.length_set]; exact E.len, E.sub, fun j p f z => ?_, fun j p f z => ?_, fun j k b p1 p2 d1 d2 q1 q2 h1 h2 => ?_, fun j o' f z => ?_, E.out⟩
    · rcases at_ _ _ z with ⟨rfl, y⟩ | ⟨hj, y⟩
      · cases y; exact ⟨v, List.getElem?_set_self hs, h⟩
      · rw [sn j hj]; exact E.fz j p f y
    · rcases at_ _ _ z with ⟨rfl, y⟩ | ⟨hj, y⟩
      · cases y
      · rw [sn j hj]; exact E.ow j p f y
    · rcases at_ _ _ q1 with ⟨rfl, y⟩ | ⟨hj, y⟩
      · cases y
      · rcases at_ _ _ q2 with ⟨rfl, y2⟩ | ⟨hk, y2⟩
        · cases y2
        · rw [sn j hj] at h1; rw [sn k hk] at h2
          exact E.inj j k b _ _ _ _ y y2 h1 h2
    · rcases at_ _ _ z with ⟨rfl, y⟩ | ⟨hj, y⟩
      · cases y
      · rw [sn j hj]; exact E.par j o' f y
  · have e1 : ρ.set i (Sl.sl false false d) = ρ := List.set_eq_of_length_le (by omega)
    have e2 : σ.set i (some v) = σ := List.set_eq_of_length_le (by have := E.len; omega)
    rw [e1, e2]; exact E
theorem ER.set_own {i : Nat} (E : ER K F H σ0 ρ σ B) (h : RR K F H ρ σ B (.own d) v) : ER K F H σ0 (ρ.set i (Sl.sl true false d)) (σ.set i (some v)) B := by
  obtain ⟨a, rfl, ro, n, nb, ns⟩ := h
  by_cases hl : i < ρ.length
  · have hs : i < σ.length := by rw [← E.len]; exact hl
    have at_ : ∀ (j : Nat) s, (ρ.set i (Sl.sl true false d))[j]? = some s → (j = i ∧ s = .sl true false d) ∨ (j ≠ i ∧ ρ[j]? = some s) := fun j s z => by
      by_cases hj : j = i
      · subst hj; rw [List.getElem?_set_self hl] at z; cases z; exact .inl ⟨rfl, rfl⟩
      · rw [List.getElem?_set_ne (Ne.symm hj)] at z; exact .inr ⟨hj, z⟩
    have sn : ∀ (j : Nat), j ≠ i → (σ.set i (some (V.ref a)))[j]? = σ[j]? := fun j hj => List.getElem?_set_ne (Ne.symm hj)
    have si : (σ.set i (some (V.ref a)))[i]? = some (some (V.ref a)) := List.getElem?_set_self hs
    refine ⟨by rw [List.length_set, List.length_set]; exact E.len, E.sub, fun j p f z => ?_, fun j p f z => ?_, fun j k b p1 p2 d1 d2 q1 q2 h1 h2 => ?_, fun j o' f z => ?_, E.out⟩
    · rcases at_ _ _ z with ⟨rfl, y⟩ | ⟨hj, y⟩
      · cases y
      · rw [sn j hj]; exact E.fz j p f y
    · rcases at_ _ _ z with ⟨rfl, y⟩ | ⟨hj, y⟩
      · cases y; exact ⟨a, si, ro, n, nb⟩
      · rw [sn j hj]; exact E.ow j p f y
    · rcases at_ _ _ q1 with ⟨rfl, y⟩ | ⟨hj, y⟩
      · rcases at_ _ _ q2 with ⟨rfl, y2⟩ | ⟨hk, y2⟩
        · rfl
        · rw [si] at h1; cases h1
          rw [sn k hk] at h2
          exact absurd h2 (ns k _ _ y2)
      · rw [sn j hj] at h1
        rcases at_ _ _ q2 with ⟨rfl, y2⟩ | ⟨hk, y2⟩
        · rw [si] at h2; cases h2
          exact absurd h1 (ns j _ _ y)
        · rw [sn k hk] at h2
          exact E.inj j k b _ _ _ _ y y2 h1 h2
    · rcases at_ _ _ z with ⟨rfl, y⟩ | ⟨hj, y⟩
      · cases y
      · rw [sn j hj]; exact E.par j o' f y
  · have e1 : ρ.set i (Sl.sl true false d) = ρ := List.set_eq_of_length_le (by omega)
    have e2 : σ.set i (some (V.ref a)) = σ := List.set_eq_of_length_le (by have := E.len; omega)
    rw [e1, e2]; exact E
theorem ER.put {i : Nat} {k : List Sl → Prop} (E : ER K F H σ0 ρ σ B) (h : RR K F H ρ σ B r v) (p : put ρ i r k) : ∃ F' ρ', Nx F H F' H B ∧ ER K F' H σ0 ρ' (σ.set i (some v)) B ∧ k ρ' := by
  cases r with
  | val d => exact ⟨F, _, .refl _ _ _, E.set_val h, p⟩
  | own d => exact ⟨F, _, .refl _ _ _, E.set_own h, p⟩
  | «at» j =>
    unfold YP.put at p
    dsimp only at p
    cases q : ρ[j]? with
    | none => rw [q] at p; exact p.elim
    | some s =>
      cases s with
      | un => rw [q] at p; exact p.elim
      | sl o pp d =>
        rw [q] at p
        have w : wv ρ (.at j) (fun e => e = d) := by simp only [wv, q]
        obtain ⟨F', d', nx, E', rd, rfl⟩ := E.freeze h w
        refine ⟨F', _, nx, ?_, p⟩
        have fe : frz ρ (.at j) = ρ.set j (Sl.sl false pp d') := by simp only [frz, q]
        rw [fe] at E'
        exact E'.set_val rd
end
end YP
set_option maxRecDepth 100000
/-! The yard's pure layer, part 2: expressions. -/
namespace YP
open PySem PySem.Spec PyProof.Rows L2

abbrev UE := List Sl → (Rv → List Sl → Prop) → Prop
abbrev UT := List Sl → (Bool → List Sl → Prop) → Prop
def tS (X : Cx) (e : Expr) : TE := fun σ H Q => ∀ pins s, Inv X pins σ H s → wpAny (model X.prog X.w) X.A (eval e X.env) (EP X pins σ Q) X.xe s
def tST (X : Cx) (e : Expr) : TT := fun σ H Q => ∀ pins s, Inv X pins σ H s → wpAny (model X.prog X.w) X.A (isTrue e X.env (eval e X.env)) (TP X pins σ Q) X.xe s
def tSW (X : Cx) (e : Expr) : TT := fun σ H Q => ∀ whole pins s, Inv X pins σ H s → wpAny (model X.prog X.w) X.A (isTrue e X.env whole) (TP X pins σ Q) X.xe s
theorem pe_S {X : Cx} {e : Expr} : PE X e (tS X e) := ⟨fun pins s σ H Q I h => h pins s I⟩
theorem pt_S {X : Cx} {e : Expr} : PT X e (tST X e) := ⟨fun pins s σ H Q I h => h pins s I⟩
theorem pw_S {X : Cx} {e : Expr} : PW X e (tSW X e) := ⟨fun whole pins s σ H Q I h => h whole pins s I⟩
/-- a state that was come to -/
structure Gd (K : PySem.W.Frag) (F H F' H' : Hp) (σ0 : L2.St) (ρ : List Sl) (σ : L2.St) (B : Addr → Prop) : Prop where
  nx : Nx F H F' H' B
  er : ER K F' H' σ0 ρ σ B
structure Gt (K : PySem.W.Frag) (F H F' H' : Hp) (σ0 : L2.St) (ρ : List Sl) (σ : L2.St) (B : Addr → Prop) (r : Rv) (v : V) : Prop where
  nx : Nx F H F' H' B
  er : ER K F' H' σ0 ρ σ B
  rr : RR K F' H' ρ σ B r v
structure FE (X : Cx) (e : Expr) (u : UE) : Prop where
  run : ∀ (ρ : List Sl) (R : Rv → List Sl → Prop), u ρ R → ∀ (F H : Hp) (σ0 σ : L2.St) (B : Addr → Prop) (Q : VK), ER X.K F H σ0 ρ σ B →
    (∀ r ρ' v F' H', R r ρ' → Gt X.K F H F' H' σ0 ρ' σ B r v → Q v H') → tS X e σ H Q
instance {X : Cx} {e : Expr} {u : UE} : CoeFun (FE X e u) (fun _ => ∀ (ρ : List Sl) (R : Rv → List Sl → Prop), u ρ R → ∀ (F H : Hp) (σ0 σ : L2.St) (B : Addr → Prop) (Q : VK), ER X.K F H σ0 ρ σ B →
  (∀ r ρ' v F' H', R r ρ' → Gt X.K F H F' H' σ0 ρ' σ B r v → Q v H') → tS X e σ H Q) := ⟨FE.run⟩
structure FT (X : Cx) (e : Expr) (u : UT) : Prop where
  run : ∀ (ρ : List Sl) (R : Bool → List Sl → Prop), u ρ R → ∀ (F H : Hp) (σ0 σ : L2.St) (B : Addr → Prop) (Q : Bool → Hp → Prop), ER X.K F H σ0 ρ σ B →
    (∀ b ρ' F' H', R b ρ' → Gd X.K F H F' H' σ0 ρ' σ B → Q b H') → tST X e σ H Q
instance {X : Cx} {e : Expr} {u : UT} : CoeFun (FT X e u) (fun _ => ∀ (ρ : List Sl) (R : Bool → List Sl → Prop), u ρ R → ∀ (F H : Hp) (σ0 σ : L2.St) (B : Addr → Prop) (Q : Bool → Hp → Prop), ER X.K F H σ0 ρ σ B →
  (∀ b ρ' F' H', R b ρ' → Gd X.K F H F' H' σ0 ρ' σ B → Q b H') → tST X e σ H Q) := ⟨FT.run⟩
structure FW (X : Cx) (e : Expr) (u : UT) : Prop where
  run : ∀ (ρ : List Sl) (R : Bool → List Sl → Prop), u ρ R → ∀ (F H : Hp) (σ0 σ : L2.St) (B : Addr → Prop) (Q : Bool → Hp → Prop), ER X.K F H σ0 ρ σ B →
    (∀ b ρ' F' H', R b ρ' → Gd X.K F H F' H' σ0 ρ' σ B → Q b H') → tSW X e σ H Q
instance {X : Cx} {e : Expr} {u : UT} : CoeFun (FW X e u) (fun _ => ∀ (ρ : List Sl) (R : Bool → List Sl → Prop), u ρ R → ∀ (F H : Hp) (σ0 σ : L2.St) (B : Addr → Prop) (Q : Bool → Hp → Prop), ER X.K F H σ0 ρ σ B →
  (∀ b ρ' F' H', R b ρ' → Gd X.K F H F' H' σ0 ρ' σ B → Q b H') → tSW X e σ H Q) := ⟨FW.run⟩
section
variable {X : Cx} {e a b : Expr} {ua ub : UE} {F H : Hp} {σ0 σ : L2.St} {ρ : List Sl} {B : Addr → Prop}
theorem to_S {t : TE} {Q : VK} (h : PE X e t) (q : t σ H Q) : tS X e σ H Q := fun pins s I => h.run pins s σ H Q I q
theorem to_ST {t : TT} {Q : Bool → Hp → Prop} (h : PT X e t) (q : t σ H Q) : tST X e σ H Q := fun pins s I => h.run pins s σ H Q I q
theorem to_SW {t : TT} {Q : Bool → Hp → Prop} (h : PW X e t) (q : t σ H Q) : tSW X e σ H Q := fun wh pins s I => h.run wh pins s σ H Q I q
theorem FW.ft {u : UT} (h : FW X e u) : FT X e u := ⟨fun ρ R q F H σ0 σ B Q E g pins s I => h ρ R q F H σ0 σ B Q E g _ pins s I⟩
/-- two in a row -/
theorem FE.two (ha : FE X a ua) (hb : FE X b ub) {T : Rv → Rv → List Sl → Prop} (h : ua ρ fun r ρ1 => ub ρ1 fun q ρ2 => T r q ρ2) (E : ER X.K F H σ0 ρ σ B) (S : V → V → Hp → Prop)
    (g : ∀ r q ρ2 x y F2 H2, T r q ρ2 → Nx F H F2 H2 B → ER X.K F2 H2 σ0 ρ2 σ B → RR X.K F2 H2 ρ2 σ B r x → RR X.K F2 H2 ρ2 σ (hB B r x) q y → S x y H2) : tS X a σ H fun x H1 => tS X b σ H1 fun y H2 => S x y H2 :=
  ha ρ _ h F H σ0 σ B _ E fun r ρ1 x F1 H1 h1 A1 => hb ρ1 _ h1 F1 H1 σ0 σ (hB B r x) _ (A1.er.hold A1.rr) fun q ρ2 y F2 H2 h2 A2 =>
    g r q ρ2 x y F2 H2 h2 (A1.nx.trans (A2.nx.mono hB_sub)) A2.er.unhold (A1.rr.held A1.er A2.er A2.nx) A2.rr
theorem RR.weak {K : PySem.W.Frag} {B' : Addr → Prop} {r : Rv} {v : V} (h : RR K F H ρ σ B' r v) (s : ∀ c, B c → B' c) : RR K F H ρ σ B r v := by
  cases r with
  | val d => exact h
  | «at» i => exact h
  | own d => obtain ⟨a, x, y, z, n, w⟩ := h; exact ⟨a, x, y, z, fun b => n (s _ b), w⟩

/-! ### names and constants -/
def uVar (i : Nat) : UE := fun ρ R => match ρ[i]? with
  | some (.sl false _ d) => R (.val d) ρ
  | some (.sl true _ _) => R (.at i) ρ
  | _ => False
theorem fe_pv {i : Nat} (h : PE X e (tVar i)) : FE X e (uVar i) := ⟨fun ρ R q F H σ0 σ B Q E g => by
  refine to_S h ?_
  unfold uVar at q
  cases z : ρ[i]? with
  | none => rw [z] at q; exact q.elim
  | some s =>
    cases s with
    | un => rw [z] at q; exact q.elim
    | sl o p d =>
      rw [z] at q
      cases o with
      | false =>
        obtain ⟨v, e1, rd⟩ := E.fz i p d z
        exact ⟨v, e1, g _ _ _ _ _ q ⟨.refl _ _ _, E, rd⟩⟩
      | true =>
        obtain ⟨a, e1, _⟩ := E.ow i p d z
        exact ⟨_, e1, g _ _ _ _ _ q ⟨.refl _ _ _, E, e1⟩⟩⟩
theorem fv (i : Nat) {x : Str} {pos : Pos} (hN : X.N[i]? = some x := by rfl) (hv : Vis X.env.scope x := by first | exact Or.inl rfl | exact Or.inr (Or.inl rfl) | exact Or.inr (Or.inr rfl)) (hd : (x == ("__debug__" : Str)) = false := by decide)
    (hcd : (x == ("__classdict__" : Str)) = false := by decide) : FE X (.Name x pos) (uVar i) := fe_pv (pe_var hN hv hd hcd)
def uC (d : D) : UE := fun ρ R => R (.val d) ρ
theorem fe_c {v : V} {d : D} (h : PE X e (tC v)) (rd : ∀ F, RD X.K F v d) : FE X e (uC d) := ⟨fun ρ R q F H σ0 σ B Q E g =>
  to_S h (g _ _ _ _ _ q ⟨.refl _ _ _, E, rd F⟩)⟩
theorem fe_int {i : Int} {j pos} : FE X (.Constant (.int i) j pos) (uC (.int i)) := fe_c pe_int fun _ => .int i
theorem fe_bl {b : Bool} {j pos} : FE X (.Constant (.bool b) j pos) (uC (.bl b)) := fe_c pe_bl fun _ => .bl b
theorem fe_non {j pos} : FE X (.Constant .none j pos) (uC .non) := fe_c pe_non fun _ => .non
theorem fe_str {x : Str} {j pos} : FE X (.Constant (.str x) j pos) (uC (.str x)) := fe_c pe_str fun _ => .str x
theorem fe_glob {x : Str} {v : V} {d : D} {u : Value} {pos : Pos} (hg : Gl X x) (hm : X.mg x = some u) (r : RelV v u) (rd : ∀ F, RD X.K F v d) (hd : (x == ("__debug__" : Str)) = false := by decide) : FE X (.Name x pos) (uC d) := fe_c (pe_glob hg hm r hd) rd
theorem fe_ty {x : Str} {n : String} {pos : Pos} (hg : Gl X x) (hm : X.mg x = none) (hv : bootBuiltins x = some (.type n)) (hn : x ≠ "__name__" := by decide) (hd : (x == ("__debug__" : Str)) = false := by decide) : FE X (.Name x pos) (uC (.ty n)) :=
  fe_c (pe_bltn (v := .ty n) hg hm hv rfl hn hd) fun _ => .ty n

/-! ### operations of two -/
structure OpS (X : Cx) (f : Value → Value → Sem Value) (o : D → D → (Rv → Prop) → Prop) : Prop where
  ex : ∃ r : R2, OpR X f r ∧ ∀ {F H : Hp} {σ0 σ : L2.St} {ρ : List Sl} {B : Addr → Prop} {x y : V} {d e : D} {T : Rv → Prop} {Q : VK}, ER X.K F H σ0 ρ σ B → RW X.K F H x d → RW X.K F H y e → o d e T →
    (∀ z v F' H', T z → Gt X.K F H F' H' σ0 ρ σ B z v → Q v H') → r x y H Q
def uBin (o : D → D → (Rv → Prop) → Prop) (ua ub : UE) : UE := fun ρ R => ua ρ fun r ρ1 => ub ρ1 fun q ρ2 => wv ρ2 r fun d => wv ρ2 q fun e => o d e fun z => R z ρ2
theorem FE.binR {o : D → D → (Rv → Prop) → Prop} {f : Value → Value → Sem Value} (ho : OpS X f o) (ha : FE X a ua) (hb : FE X b ub) {R : Rv → List Sl → Prop} {Q : VK} (h : uBin o ua ub ρ R) (E : ER X.K F H σ0 ρ σ B)
    (g : ∀ r ρ' v F' H', R r ρ' → Gt X.K F H F' H' σ0 ρ' σ B r v → Q v H') : ∃ r : R2, OpR X f r ∧ tS X a σ H fun x H1 => tS X b σ H1 fun y H2 => r x y H2 Q := by
  obtain ⟨r, hr, k⟩ := ho.ex
  refine ⟨r, hr, FE.two ha hb h E (fun x y H2 => r x y H2 Q) fun p q ρ2 x y F2 H2 t n2 E2 r1 r2 => ?_⟩
  obtain ⟨d, w1, t⟩ := E2.seen r1 t
  obtain ⟨e, w2, t⟩ := E2.seen (r2.weak hB_sub) t
  exact k E2 w1 w2 t fun z v F' H' tz G => g z ρ2 v F' H' tz ⟨n2.trans G.nx, G.er, G.rr⟩
theorem fe_op {op : Operator} {o : D → D → (Rv → Prop) → Prop} {pos : Pos} (ho : OpS X (binaryOp op) o) (ha : FE X a ua) (hb : FE X b ub) : FE X (.BinOp a op b pos) (uBin o ua ub) := ⟨fun ρ R q F H σ0 σ B Q E g => by
  obtain ⟨r, hr, t⟩ := FE.binR ho ha hb q E g
  exact to_S (pe_op hr pe_S pe_S) t⟩
theorem fe_cmp {op : CmpOp} {o : D → D → (Rv → Prop) → Prop} {pos : Pos} (ho : OpS X (compareOp op) o) (ha : FE X a ua) (hb : FE X b ub) (hm : behindInMarks op b = false := by rfl) : FE X (.Compare a [op] [b] pos) (uBin o ua ub) := ⟨fun ρ R q F H σ0 σ B Q E g => by
  obtain ⟨r, hr, t⟩ := FE.binR ho ha hb q E g
  exact to_S (pe_cmpR hr pe_S pe_S hm) t⟩
/-- a test: of a value that is a truth -/
def isB (R : Bool → List Sl → Prop) : Rv → List Sl → Prop := fun r ρ => match r with
  | .val (.bl c) => R c ρ
  | _ => False
theorem ft_cmp {op : CmpOp} {o : D → D → (Rv → Prop) → Prop} {pos : Pos} (ho : OpS X (compareOp op) o) (ha : FE X a ua) (hb : FE X b ub) (hm : behindInMarks op b = false := by rfl) : FT X (.Compare a [op] [b] pos) (fun ρ R => uBin o ua ub ρ (isB R)) := ⟨fun ρ R q F H σ0 σ B Q E g => by
  obtain ⟨r, hr, t⟩ := FE.binR (Q := fun x H' => ∃ k, x = .bl k ∧ Q k H') ho ha hb q E fun r ρ' v F' H' h G => by
    unfold isB at h
    split at h
    · rename_i c
      have rr : RD X.K F' v (.bl c) := G.rr
      cases rr
      exact ⟨c, rfl, g c ρ' F' H' h ⟨G.nx, G.er⟩⟩
    · exact h.elim
  exact to_ST (pt_cmpR hr pe_S pe_S hm) t⟩
/-- the truth of a datum -/
def tru : D → (Bool → Prop) → Prop
  | .non, k => k false
  | .bl b, k => k b
  | .int i, k => k (i != 0)
  | .str y, k => y.length ≤ sizeLine ∧ k ((y.length : Int) != 0)
  | .lst l, k => k (!l.isEmpty)
  | .tup l, k => k (!l.isEmpty)
  | .dic l, k => k (!l.isEmpty)
  | _, _ => False
theorem tru_ex {K : PySem.W.Frag} {v : V} {d : D} {k : Bool → Prop} (E : ER K F H σ0 ρ σ B) (h : RW K F H v d) (t : tru d k) : ∃ c, TruV K v H c ∧ k c := by
  cases d with
  | non => cases h.non; exact ⟨_, rfl, t⟩
  | bl b => cases h.bl; exact ⟨_, rfl, t⟩
  | int b => cases h.int; exact ⟨_, rfl, t⟩
  | str b => cases h.str; exact ⟨_, ⟨t.1, rfl⟩, t.2⟩
  | lst l =>
    obtain ⟨a, vs, rfl, h1, h2⟩ := h.lst E.sub
    have e : vs.isEmpty = l.isEmpty := by cases h2 <;> rfl
    exact ⟨_, .inl ⟨vs, .of h1, rfl⟩, by rw [e]; exact t⟩
  | tup l =>
    obtain ⟨a, vs, rfl, h1, h2⟩ := h.tup E.sub
    have e : vs.isEmpty = l.isEmpty := by cases h2 <;> rfl
    exact ⟨_, .inr (.inl ⟨vs, h1, rfl⟩), by rw [e]; exact t⟩
  | dic l =>
    obtain ⟨a, vs, rfl, h1, h2⟩ := h.dic E.sub
    have e : vs.isEmpty = l.isEmpty := by cases h2 <;> rfl
    exact ⟨_, .inr (.inr ⟨vs, h1, rfl⟩), by rw [e]; exact t⟩
  | _ => exact t.elim
def uTru (u : UE) : UT := fun ρ R => u ρ fun r ρ1 => wv ρ1 r fun d => tru d fun c => R c ρ1
theorem ft_tru (ha : FE X a ua) (he : ∀ whole, isTrue a X.env whole = (do let v ← whole; standAt a.pos; holding [v] (truthy v)) := by intro _; rfl) : FT X a (uTru ua) := ⟨fun ρ R q F H σ0 σ B Q E g => by
  refine to_ST (pt_truth pe_S he) (ha ρ _ q F H σ0 σ B _ E fun r ρ1 v F1 H1 h G => ?_)
  obtain ⟨d, w, h⟩ := G.er.seen G.rr h
  obtain ⟨c, w, h⟩ := tru_ex G.er w h
  exact ⟨c, w, g c ρ1 F1 H1 h ⟨G.nx, G.er⟩⟩⟩

/-! ### and, or, not -/
section
variable {rest : List Expr} {t1 t2 : UT} {pos : Pos}
def uAnd (t u : UT) : UT := fun ρ R => t ρ fun c ρ1 => if c = true then u ρ1 R else R false ρ1
def uOr (t u : UT) : UT := fun ρ R => t ρ fun c ρ1 => if c = true then R true ρ1 else u ρ1 R
def uNot (t : UT) : UT := fun ρ R => t ρ fun c ρ1 => R (!c) ρ1
theorem fw_and1 (h : FT X a t1) : FW X (.BoolOp .And [a] pos) t1 := ⟨fun ρ R q F H σ0 σ B Q E g => to_SW (pw_and1 pt_S) (h ρ R q F H σ0 σ B Q E g)⟩
theorem fw_or1 (h : FT X a t1) : FW X (.BoolOp .Or [a] pos) t1 := ⟨fun ρ R q F H σ0 σ B Q E g => to_SW (pw_or1 pt_S) (h ρ R q F H σ0 σ B Q E g)⟩
theorem fw_and (h : FT X a t1) (k : FW X (.BoolOp .And (b :: rest) pos) t2) : FW X (.BoolOp .And (a :: b :: rest) pos) (uAnd t1 t2) := ⟨fun ρ R q F H σ0 σ B Q E g => by
  refine to_SW (pw_and pt_S pw_S) (h ρ _ q F H σ0 σ B _ E fun c ρ1 F1 H1 z G => ?_)
  cases c with
  | true => exact k ρ1 R z F1 H1 σ0 σ B Q G.er fun b ρ' F' H' r G' => g b ρ' F' H' r ⟨G.nx.trans G'.nx, G'.er⟩
  | false => exact g false ρ1 F1 H1 z G⟩
theorem fw_or (h : FT X a t1) (k : FW X (.BoolOp .Or (b :: rest) pos) t2) : FW X (.BoolOp .Or (a :: b :: rest) pos) (uOr t1 t2) := ⟨fun ρ R q F H σ0 σ B Q E g => by
  refine to_SW (pw_or pt_S pw_S) (h ρ _ q F H σ0 σ B _ E fun c ρ1 F1 H1 z G => ?_)
  cases c with
  | false => exact k ρ1 R z F1 H1 σ0 σ B Q G.er fun b ρ' F' H' r G' => g b ρ' F' H' r ⟨G.nx.trans G'.nx, G'.er⟩
  | true => exact g true ρ1 F1 H1 z G⟩
theorem ft_not (h : FT X a t1) : FT X (.UnaryOp .Not a pos) (uNot t1) := ⟨fun ρ R q F H σ0 σ B Q E g => to_ST (pt_not pt_S) (h ρ _ q F H σ0 σ B _ E fun c ρ1 F1 H1 z G => g (!c) ρ1 F1 H1 z G)⟩
/-- .. as values, where they are truths -/
def uAndV (ua ub : UE) : UE := fun ρ R => ua ρ fun r ρ1 => match r with
  | .val (.bl c) => if c = true then ub ρ1 R else R (.val (.bl false)) ρ1
  | _ => False
def uOrV (ua ub : UE) : UE := fun ρ R => ua ρ fun r ρ1 => match r with
  | .val (.bl c) => if c = true then R (.val (.bl true)) ρ1 else ub ρ1 R
  | _ => False
def uNotV (ua : UE) : UE := fun ρ R => ua ρ fun r ρ1 => match r with
  | .val (.bl c) => R (.val (.bl (!c))) ρ1
  | _ => False
theorem fe_one {op} (h : FE X a ua) : FE X (.BoolOp op [a] pos) ua := ⟨fun ρ R q F H σ0 σ B Q E g => to_S (pe_one pe_S) (h ρ R q F H σ0 σ B Q E g)⟩
theorem fe_and (h : FE X a ua) (k : FE X (.BoolOp .And (b :: rest) pos) ub) : FE X (.BoolOp .And (a :: b :: rest) pos) (uAndV ua ub) := ⟨fun ρ R q F H σ0 σ B Q E g => by
  refine to_S (pe_and pe_S pe_S) (h ρ _ q F H σ0 σ B _ E fun r ρ1 v F1 H1 z G => ?_)
  split at z
  · rename_i c
    have rr : RD X.K F1 v (.bl c) := G.rr
    cases rr
    refine ⟨c, rfl, ?_⟩
    cases c with
    | true => exact k ρ1 R z F1 H1 σ0 σ B Q G.er fun r ρ' v F' H' y G' => g r ρ' v F' H' y ⟨G.nx.trans G'.nx, G'.er, G'.rr⟩
    | false => exact g _ _ _ _ _ z G
  · exact z.elim⟩
theorem fe_or (h : FE X a ua) (k : FE X (.BoolOp .Or (b :: rest) pos) ub) : FE X (.BoolOp .Or (a :: b :: rest) pos) (uOrV ua ub) := ⟨fun ρ R q F H σ0 σ B Q E g => by
  refine to_S (pe_or pe_S pe_S) (h ρ _ q F H σ0 σ B _ E fun r ρ1 v F1 H1 z G => ?_)
  split at z
  · rename_i c
    have rr : RD X.K F1 v (.bl c) := G.rr
    cases rr
    refine ⟨c, rfl, ?_⟩
    cases c with
    | false => exact k ρ1 R z F1 H1 σ0 σ B Q G.er fun r ρ' v F' H' y G' => g r ρ' v F' H' y ⟨G.nx.trans G'.nx, G'.er, G'.rr⟩
    | true => exact g _ _ _ _ _ z G
  · exact z.elim⟩
theorem fe_not (h : FE X a ua) : FE X (.UnaryOp .Not a pos) (uNotV ua) := ⟨fun ρ R q F H σ0 σ B Q E g => by
  refine to_S (pe_not pe_S) (h ρ _ q F H σ0 σ B _ E fun r ρ1 v F1 H1 z G => ?_)
  split at z
  · rename_i c
    have rr : RD X.K F1 v (.bl c) := G.rr
    cases rr
    exact ⟨c, rfl, g _ _ _ _ _ z ⟨G.nx, G.er, .bl _⟩⟩
  · exact z.elim⟩
def uIf (t : UT) (ua ub : UE) : UE := fun ρ R => t ρ fun c ρ1 => if c = true then ua ρ1 R else ub ρ1 R
theorem fe_if {c : Expr} (hc : FT X c t1) (ha : FE X a ua) (hb : FE X b ub) : FE X (.IfExp c a b pos) (uIf t1 ua ub) := ⟨fun ρ R q F H σ0 σ B Q E g => by
  refine to_S (pe_ifExp pt_S pe_S pe_S) (hc ρ _ q F H σ0 σ B _ E fun c ρ1 F1 H1 z G => ?_)
  cases c with
  | true => exact ha ρ1 R z F1 H1 σ0 σ B Q G.er fun r ρ' v F' H' y G' => g r ρ' v F' H' y ⟨G.nx.trans G'.nx, G'.er, G'.rr⟩
  | false => exact hb ρ1 R z F1 H1 σ0 σ B Q G.er fun r ρ' v F' H' y G' => g r ρ' v F' H' y ⟨G.nx.trans G'.nx, G'.er, G'.rr⟩⟩
end

/-! ### lists of expressions whose values stay -/
abbrev UA := List Sl → (List D → List Sl → Prop) → Prop
def tA (X : Cx) (es : List Expr) : TA := fun σ H Q => ∀ pos pins s, Inv X pins σ H s → wpAny (model X.prog X.w) X.A (spliced (backTo pos (starEach es X.env))) (AP X pins σ Q) X.xe s
theorem pa_S {es : List Expr} : PA X es (tA X es) := ⟨fun pos pins s σ H Q I h => h pos pins s I⟩
theorem to_A {es : List Expr} {t : TA} {Q : List V → Hp → Prop} (h : PA X es t) (q : t σ H Q) : tA X es σ H Q := fun pos pins s I => h.run pos pins s σ H Q I q
structure FA (X : Cx) (es : List Expr) (u : UA) : Prop where
  run : ∀ (ρ : List Sl) (R : List D → List Sl → Prop), u ρ R → ∀ (F H : Hp) (σ0 σ : L2.St) (B : Addr → Prop) (Q : List V → Hp → Prop), ER X.K F H σ0 ρ σ B →
    (∀ ds ρ' vs F' H', R ds ρ' → Gd X.K F H F' H' σ0 ρ' σ B → RL X.K F' vs ds → Q vs H') → tA X es σ H Q
instance {X : Cx} {es : List Expr} {u : UA} : CoeFun (FA X es u) (fun _ => ∀ (ρ : List Sl) (R : List D → List Sl → Prop), u ρ R → ∀ (F H : Hp) (σ0 σ : L2.St) (B : Addr → Prop) (Q : List V → Hp → Prop), ER X.K F H σ0 ρ σ B →
  (∀ ds ρ' vs F' H', R ds ρ' → Gd X.K F H F' H' σ0 ρ' σ B → RL X.K F' vs ds → Q vs H') → tA X es σ H Q) := ⟨FA.run⟩
def uNil : UA := fun ρ R => R [] ρ
def uCons (ue : UE) (u : UA) : UA := fun ρ R => ue ρ fun r ρ1 => wv ρ1 r fun d => u (frz ρ1 r) fun ds ρ2 => R (d :: ds) ρ2
theorem fa_nil : FA X [] uNil := ⟨fun ρ R q F H σ0 σ B Q E g => to_A pa_nil (g [] ρ [] F H q ⟨.refl _ _ _, E⟩ .nil)⟩
theorem fa_cons {es : List Expr} {u : UA} (ha : FE X a ua) (hr : FA X es u) (hs : starEach (a :: es) X.env = (false, eval a X.env) :: starEach es X.env := by rfl) : FA X (a :: es) (uCons ua u) := ⟨fun ρ R q F H σ0 σ B Q E g => by
  refine to_A (pa_cons pe_S pa_S hs) (ha ρ _ q F H σ0 σ B _ E fun r ρ1 v F1 H1 z G => ?_)
  obtain ⟨F2, d, n2, E2, rd, z⟩ := G.er.freeze G.rr z
  exact hr _ _ z F2 H1 σ0 σ B _ E2 fun ds ρ' vs F' H' y G' l => g (d :: ds) ρ' (v :: vs) F' H' y ⟨G.nx.trans (n2.trans G'.nx), G'.er⟩ (.cons (rd.mono G'.nx.fz) l)⟩
def uTup (u : UA) : UE := fun ρ R => u ρ fun ds ρ1 => ds.length ≤ sizeLine ∧ R (.val (.tup ds)) ρ1
def uLst (u : UA) : UE := fun ρ R => u ρ fun ds ρ1 => ds.length ≤ sizeLine ∧ R (.own (.lst ds)) ρ1
theorem fe_tup {es : List Expr} {u : UA} {k pos} (h : FA X es u) : FE X (.Tuple es k pos) (uTup u) := ⟨fun ρ R q F H σ0 σ B Q E g => by
  refine to_S (pe_tup pa_S) (h ρ _ q F H σ0 σ B _ E fun ds ρ1 vs F1 H1 ⟨y, z⟩ G l => ⟨by rw [l.len]; exact y, fun p np => ?_⟩)
  obtain ⟨E2, n2⟩ := G.er.laid_val (o := .tup vs) np
  exact g _ _ _ _ _ z ⟨G.nx.trans n2, E2, .tup upd_same (l.mono n2.fz)⟩⟩
theorem fe_lst {es : List Expr} {u : UA} {pos} (h : FA X es u) : FE X (.List es pos) (uLst u) := ⟨fun ρ R q F H σ0 σ B Q E g => by
  refine to_S (pe_lst pa_S) (h ρ _ q F H σ0 σ B _ E fun ds ρ1 vs F1 H1 ⟨y, z⟩ G l => ⟨by rw [l.len]; exact y, fun p np => ?_⟩)
  exact g _ _ _ _ _ z ⟨G.nx.trans (nx_new G.er np), G.er.laid np, G.er.laid_own np (.lst upd_same l)⟩⟩
end
end YP
set_option maxRecDepth 100000
/-! The yard's pure layer, part 3: targets, statements, loops, comprehensions. -/
namespace YP
open PySem PySem.Spec PyProof.Rows L2

/-! ### targets, what is stored stays -/
abbrev UG := D → List Sl → (List Sl → Prop) → Prop
abbrev UGs := List D → List Sl → (List Sl → Prop) → Prop
def tG (X : Cx) (tg : Expr) : TG := fun v σ H Q => ∀ pins s u, Inv X pins σ H s → RelV v u → wpAny (model X.prog X.w) X.A (assign tg X.env u) (fun _ s' => ∃ σ' H', Inv X pins σ' H' s' ∧ Q σ' H') X.xe s
def tGs (X : Cx) (ts : List Expr) : TGs := fun vs σ H Q => ∀ pins s us, Inv X pins σ H s → Vals vs us → wpAny (model X.prog X.w) X.A (assignInOrder ((assignEach ts X.env).map (·.2)) us) (fun _ s' => ∃ σ' H', Inv X pins σ' H' s' ∧ Q σ' H') X.xe s
theorem pg_S {X : Cx} {tg : Expr} : PG X tg (tG X tg) := ⟨fun pins s σ H v u Q I r h => h pins s u I r⟩
theorem pgs_S {X : Cx} {ts : List Expr} : PGs X ts (tGs X ts) := ⟨fun pins s σ H v u Q I r h => h pins s u I r⟩
theorem to_G {X : Cx} {tg : Expr} {t : TG} {v : V} {σ : L2.St} {H : Hp} {Q : L2.St → Hp → Prop} (h : PG X tg t) (q : t v σ H Q) : tG X tg v σ H Q := fun pins s u I r => h.run pins s σ H v u Q I r q
theorem to_Gs {X : Cx} {ts : List Expr} {t : TGs} {v : List V} {σ : L2.St} {H : Hp} {Q : L2.St → Hp → Prop} (h : PGs X ts t) (q : t v σ H Q) : tGs X ts v σ H Q := fun pins s u I r => h.run pins s σ H v u Q I r q
/-- only own slots are stored: what a comprehension's target keeps -/
def Keeps (vs : Option (List Nat)) (σ σ' : L2.St) : Prop := match vs with
  | none => True
  | some vs => wipe σ' vs = wipe σ vs
structure FG (X : Cx) (vs : Option (List Nat)) (tg : Expr) (w : UG) : Prop where
  run : ∀ (d : D) (ρ : List Sl) (R : List Sl → Prop), w d ρ R → ∀ (F H : Hp) (σ0 σ : L2.St) (B : Addr → Prop) (v : V) (Q : L2.St → Hp → Prop), ER X.K F H σ0 ρ σ B → RD X.K F v d →
    (∀ ρ' σ' F' H', R ρ' → Gd X.K F H F' H' σ0 ρ' σ' B → Keeps vs σ σ' → Q σ' H') → tG X tg v σ H Q
instance (X : Cx) (vs : Option (List Nat)) (tg : Expr) (w : UG) : CoeFun (FG X vs tg w) (fun _ => ∀ (d : D) (ρ : List Sl) (R : List Sl → Prop), w d ρ R → ∀ (F H : Hp) (σ0 σ : L2.St) (B : Addr → Prop) (v : V) (Q : L2.St → Hp → Prop), ER X.K F H σ0 ρ σ B → RD X.K F v d →
  (∀ ρ' σ' F' H', R ρ' → Gd X.K F H F' H' σ0 ρ' σ' B → Keeps vs σ σ' → Q σ' H') → tG X tg v σ H Q) := ⟨FG.run⟩
structure FGs (X : Cx) (vs : Option (List Nat)) (ts : List Expr) (w : UGs) : Prop where
  run : ∀ (ds : List D) (ρ : List Sl) (R : List Sl → Prop), w ds ρ R → ∀ (F H : Hp) (σ0 σ : L2.St) (B : Addr → Prop) (l : List V) (Q : L2.St → Hp → Prop), ER X.K F H σ0 ρ σ B → RL X.K F l ds →
    (∀ ρ' σ' F' H', R ρ' → Gd X.K F H F' H' σ0 ρ' σ' B → Keeps vs σ σ' → Q σ' H') → tGs X ts l σ H Q
instance (X : Cx) (vs : Option (List Nat)) (ts : List Expr) (w : UGs) : CoeFun (FGs X vs ts w) (fun _ => ∀ (ds : List D) (ρ : List Sl) (R : List Sl → Prop), w ds ρ R → ∀ (F H : Hp) (σ0 σ : L2.St) (B : Addr → Prop) (l : List V) (Q : L2.St → Hp → Prop), ER X.K F H σ0 ρ σ B → RL X.K F l ds →
  (∀ ρ' σ' F' H', R ρ' → Gd X.K F H F' H' σ0 ρ' σ' B → Keeps vs σ σ' → Q σ' H') → tGs X ts l σ H Q) := ⟨FGs.run⟩
theorem Keeps.refl {vs : Option (List Nat)} {σ : L2.St} : Keeps vs σ σ := by cases vs <;> first | trivial | rfl
theorem Keeps.trans {vs : Option (List Nat)} {σ σ1 σ2 : L2.St} (h : Keeps vs σ σ1) (k : Keeps vs σ1 σ2) : Keeps vs σ σ2 := by
  cases vs with
  | none => trivial
  | some vs => exact (show wipe σ2 vs = wipe σ1 vs from k).trans h
def uName (i : Nat) : UG := fun d ρ R => R (ρ.set i (.sl false false d))
theorem wipe_set {i : Nat} {x : Option V} : ∀ {vs : List Nat} {σ : L2.St}, i ∈ vs → wipe (σ.set i x) vs = wipe σ vs
  | [], _, h => nomatch h
  | v :: vs, σ, h => by
    show (wipe (σ.set i x) vs).set v none = (wipe σ vs).set v none
    by_cases e : i ∈ vs
    · rw [wipe_set e]
    · have ei : i = v := by
        rcases List.mem_cons.mp h with z | z
        · exact z
        · exact absurd z e
      subst ei
      have c : ∀ (l : List Nat) (σ : L2.St), i ∉ l → wipe (σ.set i x) l = (wipe σ l).set i x := by
        intro l
        induction l with
        | nil => intro σ _; rfl
        | cons a l ih =>
          intro σ h
          show (wipe (σ.set i x) l).set a none = ((wipe σ l).set a none).set i x
          rw [ih σ (fun z => h (List.mem_cons_of_mem _ z)), List.set_comm _ _ (fun z => h (by rw [z]; exact List.mem_cons_self))]
      rw [c vs σ e, List.set_set]
theorem fg_name {X : Cx} {tg : Expr} {i : Nat} {vs : Option (List Nat)} (h : PG X tg (gName i)) (k : ∀ l, vs = some l → i ∈ l := by first | exact fun _ e => by cases e | (intro l e; cases e; decide)) : FG X vs tg (uName i) := ⟨fun d ρ R w F H σ0 σ B v Q E rd g =>
  to_G h (g _ _ F H w ⟨.refl _ _ _, E.set_val rd⟩ (by
    cases vs with
    | none => trivial
    | some l => exact wipe_set (k l rfl)))⟩
def uGNil : UGs := fun ds ρ R => match ds with
  | [] => R ρ
  | _ => False
def uGCons (t : UG) (u : UGs) : UGs := fun ds ρ R => match ds with
  | d :: r => t d ρ fun ρ1 => u r ρ1 R
  | _ => False
theorem fgs_nil {X : Cx} {vs : Option (List Nat)} : FGs X vs [] uGNil := ⟨fun ds ρ R w F H σ0 σ B l Q E rl g => by
  cases rl with
  | nil => exact to_Gs pgs_nil ⟨rfl, g _ _ F H w ⟨.refl _ _ _, E⟩ .refl⟩
  | cons _ _ => exact w.elim⟩
theorem fgs_cons {X : Cx} {vs : Option (List Nat)} {e : Expr} {es : List Expr} {t : UG} {u : UGs} (h1 : FG X vs e t) (h2 : FGs X vs es u)
    (hs : (assignEach (e :: es) X.env).map (·.2) = assign e X.env :: (assignEach es X.env).map (·.2) := by rfl) : FGs X vs (e :: es) (uGCons t u) := ⟨fun ds ρ R w F H σ0 σ B l Q E rl g => by
  cases rl with
  | nil => exact w.elim
  | @cons v l d ds rd rl =>
    exact to_Gs (pgs_cons pg_S pgs_S hs) ⟨v, l, rfl, h1 d ρ _ w F H σ0 σ B v _ E rd fun ρ1 σ1 F1 H1 w1 G1 k1 =>
      h2 ds ρ1 R w1 F1 H1 σ0 σ1 B l Q G1.er (rl.mono G1.nx.fz) fun ρ2 σ2 F2 H2 w2 G2 k2 => g ρ2 σ2 F2 H2 w2 ⟨G1.nx.trans G2.nx, G2.er⟩ (k1.trans k2)⟩⟩
def uGTup (n : Nat) (u : UGs) : UG := fun d ρ R => match d with
  | .tup ds => ds.length = n ∧ u ds ρ R
  | _ => False
theorem fg_tup {X : Cx} {vs : Option (List Nat)} {es : List Expr} {k : Nat} {u : UGs} {n : Nat} {pos : Pos} (hc : X.calm = true) (h : FGs X vs es u)
    (hn : (assignEach es X.env).length = n := by rfl) (hst : (assignEach es X.env).findIdx? (·.1) = none := by rfl) : FG X vs (.Tuple es k pos) (uGTup n u) := ⟨fun d ρ R w F H σ0 σ B v Q E rd g => by
  cases rd with
  | tup h1 h2 => exact to_G (pg_tup hc pgs_S hn hst) ⟨_, _, rfl, .of (E.sub _ _ h1), by rw [h2.len]; exact w.1, h _ ρ R w.2 F H σ0 σ B _ Q E h2 g⟩
  | _ => exact w.elim⟩

/-! ### statements -/
structure En where
  nx : List Sl → Prop
  rt : Rv → List Sl → Prop
  bk : List Sl → Prop := fun _ => False
  ct : List Sl → Prop := fun _ => False
abbrev US := En → List Sl → Prop
def tSS (X : Cx) (st : Stmt) : TS := fun D σ H => ∀ pins s, Inv X pins σ H s → wpAny (model X.prog X.w) X.A (exec st X.env) (SP X pins D) X.xe s
def tBs (X : Cx) (sts : List Stmt) : TS := fun D σ H => ∀ pins s, Inv X pins σ H s → wpAny (model X.prog X.w) X.A (execs sts X.env) (SP X pins D) X.xe s
theorem ps_S {X : Cx} {st : Stmt} : PS X st (tSS X st) := ⟨fun pins s σ H D I h => h pins s I⟩
theorem pss_S {X : Cx} {sts : List Stmt} : PSs X sts (tBs X sts) := ⟨fun pins s σ H D I h => h pins s I⟩
theorem to_SS {X : Cx} {st : Stmt} {t : TS} {D : Ends} {σ : L2.St} {H : Hp} (h : PS X st t) (q : t D σ H) : tSS X st D σ H := fun pins s I => h.run pins s σ H D I q
theorem to_Bs {X : Cx} {sts : List Stmt} {t : TS} {D : Ends} {σ : L2.St} {H : Hp} (h : PSs X sts t) (q : t D σ H) : tBs X sts D σ H := fun pins s I => h.run pins s σ H D I q
structure Fol (K : PySem.W.Frag) (F H : Hp) (σ0 : L2.St) (B : Addr → Prop) (E : En) (D : Ends) : Prop where
  nx : ∀ ρ' σ' F' H', E.nx ρ' → Gd K F H F' H' σ0 ρ' σ' B → D.nx σ' H'
  rt : ∀ r ρ' v σ' F' H', E.rt r ρ' → Gt K F H F' H' σ0 ρ' σ' B r v → D.rt v H'
  bk : ∀ ρ' σ' F' H', E.bk ρ' → Gd K F H F' H' σ0 ρ' σ' B → D.bk σ' H'
  ct : ∀ ρ' σ' F' H', E.ct ρ' → Gd K F H F' H' σ0 ρ' σ' B → D.ct σ' H'
theorem Fol.on {K : PySem.W.Frag} {F H F1 H1 : Hp} {σ0 : L2.St} {B : Addr → Prop} {E : En} {D : Ends} (f : Fol K F H σ0 B E D) (n : Nx F H F1 H1 B) : Fol K F1 H1 σ0 B E D :=
  ⟨fun ρ' σ' F' H' e G => f.nx ρ' σ' F' H' e ⟨n.trans G.nx, G.er⟩, fun r ρ' v σ' F' H' e G => f.rt r ρ' v σ' F' H' e ⟨n.trans G.nx, G.er, G.rr⟩,
    fun ρ' σ' F' H' e G => f.bk ρ' σ' F' H' e ⟨n.trans G.nx, G.er⟩, fun ρ' σ' F' H' e G => f.ct ρ' σ' F' H' e ⟨n.trans G.nx, G.er⟩⟩
structure FS (X : Cx) (st : Stmt) (u : US) : Prop where
  run : ∀ (E : En) (ρ : List Sl), u E ρ → ∀ (F H : Hp) (σ0 σ : L2.St) (B : Addr → Prop) (D : Ends), ER X.K F H σ0 ρ σ B → Fol X.K F H σ0 B E D → tSS X st D σ H
instance {X : Cx} {st : Stmt} {u : US} : CoeFun (FS X st u) (fun _ => ∀ (E : En) (ρ : List Sl), u E ρ → ∀ (F H : Hp) (σ0 σ : L2.St) (B : Addr → Prop) (D : Ends), ER X.K F H σ0 ρ σ B → Fol X.K F H σ0 B E D → tSS X st D σ H) := ⟨FS.run⟩
structure FB (X : Cx) (sts : List Stmt) (u : US) : Prop where
  run : ∀ (E : En) (ρ : List Sl), u E ρ → ∀ (F H : Hp) (σ0 σ : L2.St) (B : Addr → Prop) (D : Ends), ER X.K F H σ0 ρ σ B → Fol X.K F H σ0 B E D → tBs X sts D σ H
instance {X : Cx} {sts : List Stmt} {u : US} : CoeFun (FB X sts u) (fun _ => ∀ (E : En) (ρ : List Sl), u E ρ → ∀ (F H : Hp) (σ0 σ : L2.St) (B : Addr → Prop) (D : Ends), ER X.K F H σ0 ρ σ B → Fol X.K F H σ0 B E D → tBs X sts D σ H) := ⟨FB.run⟩
section
variable {X : Cx} {st : Stmt} {rest body : List Stmt} {t u : US} {e : Expr} {ue : UE} {pos : Pos}
def uNext : US := fun E ρ => E.nx ρ
def uSeq (t u : US) : US := fun E ρ => t { E with nx := u E } ρ
theorem fb_nil : FB X [] uNext := ⟨fun E ρ q F H σ0 σ B D er f => to_Bs pss_nil (f.nx ρ σ F H q ⟨.refl _ _ _, er⟩)⟩
theorem fb_cons (h1 : FS X st t) (h2 : FB X rest u) : FB X (st :: rest) (uSeq t u) := ⟨fun E ρ q F H σ0 σ B D er f =>
  to_Bs (pss_cons ps_S pss_S) (h1 _ ρ q F H σ0 σ B _ er ⟨fun ρ' σ' F' H' z G => h2 E ρ' z F' H' σ0 σ' B D G.er (f.on G.nx), f.rt, f.bk, f.ct⟩)⟩
theorem fb_one (h1 : FS X st t) : FB X [st] t := ⟨fun E ρ q F H σ0 σ B D er f => to_Bs (pss_one ps_S) (h1 E ρ q F H σ0 σ B D er f)⟩
def uBreak : US := fun E ρ => E.bk ρ
def uCont : US := fun E ρ => E.ct ρ
theorem fs_pass : FS X (.Pass pos) uNext := ⟨fun E ρ q F H σ0 σ B D er f => to_SS ps_pass (f.nx ρ σ F H q ⟨.refl _ _ _, er⟩)⟩
theorem fs_break : FS X (.Break pos) uBreak := ⟨fun E ρ q F H σ0 σ B D er f => to_SS ps_break (f.bk ρ σ F H q ⟨.refl _ _ _, er⟩)⟩
theorem fs_continue : FS X (.Continue pos) uCont := ⟨fun E ρ q F H σ0 σ B D er f => to_SS ps_continue (f.ct ρ σ F H q ⟨.refl _ _ _, er⟩)⟩
def uDrop (ue : UE) : US := fun E ρ => ue ρ fun _ ρ1 => E.nx ρ1
theorem fs_expr (he : FE X e ue) (hs : swapsWith e none pos.line X.env = pure false := by rfl) : FS X (.Expr e pos) (uDrop ue) := ⟨fun E ρ q F H σ0 σ B D er f =>
  to_SS (ps_expr pe_S hs) (he ρ _ q F H σ0 σ B _ er fun r ρ1 v F1 H1 z G => f.nx ρ1 σ F1 H1 z ⟨G.nx, G.er⟩)⟩
def uRet (ue : UE) : US := fun E ρ => ue ρ E.rt
theorem fs_ret (he : FE X e ue) : FS X (.Return (some e) pos) (uRet ue) := ⟨fun E ρ q F H σ0 σ B D er f =>
  to_SS (ps_ret pe_S) (he ρ _ q F H σ0 σ B _ er fun r ρ1 v F1 H1 z G => f.rt r ρ1 v σ F1 H1 z G)⟩
def uRetN : US := fun E ρ => E.rt (.val .non) ρ
theorem fs_retN : FS X (.Return none pos) uRetN := ⟨fun E ρ q F H σ0 σ B D er f => to_SS ps_retN (f.rt _ ρ _ σ F H q ⟨.refl _ _ _, er, .non⟩)⟩
def uIfS (c : UT) (t u : US) : US := fun E ρ => c ρ fun b ρ1 => if b = true then t E ρ1 else u E ρ1
theorem fs_if {c : Expr} {a b : List Stmt} {tc : UT} (hc : FT X c tc) (ha : FB X a t) (hb : FB X b u) : FS X (.If c a b pos) (uIfS tc t u) := ⟨fun E ρ q F H σ0 σ B D er f => by
  refine to_SS (ps_if pt_S pss_S pss_S) (hc ρ _ q F H σ0 σ B _ er fun c ρ1 F1 H1 z G => ?_)
  cases c with
  | true => exact ha E ρ1 z F1 H1 σ0 σ B D G.er (f.on G.nx)
  | false => exact hb E ρ1 z F1 H1 σ0 σ B D G.er (f.on G.nx)⟩
/-- name = value: the statement's rule, with tS for the value -/
def uSet (i : Nat) (ue : UE) : US := fun E ρ => ue ρ fun r ρ1 => put ρ1 i r E.nx
theorem fs_set {i : Nat} (h : PS X st (tAsg (tS X e) (gName i))) (he : FE X e ue) : FS X st (uSet i ue) := ⟨fun E ρ q F H σ0 σ B D er f =>
  to_SS h (he ρ _ q F H σ0 σ B _ er fun r ρ1 v F1 H1 z G => by
    obtain ⟨F2, ρ2, n2, er2, z⟩ := G.er.put G.rr z
    exact f.nx ρ2 _ F2 H1 z ⟨G.nx.trans n2, er2⟩)⟩
/-- target = value, the value stays -/
def uAsg (ue : UE) (g : UG) : US := fun E ρ => ue ρ fun r ρ1 => wv ρ1 r fun d => g d (frz ρ1 r) E.nx
theorem fs_asg {tg : Expr} {g : UG} (h : PS X st (tAsg (tS X e) (tG X tg))) (he : FE X e ue) (hg : FG X none tg g) : FS X st (uAsg ue g) := ⟨fun E ρ q F H σ0 σ B D er f =>
  to_SS h (he ρ _ q F H σ0 σ B _ er fun r ρ1 v F1 H1 z G => by
    obtain ⟨F2, d, n2, E2, rd, z⟩ := G.er.freeze G.rr z
    exact hg d _ _ z F2 H1 σ0 σ B v _ E2 rd fun ρ' σ' F' H' y G' _ => f.nx ρ' σ' F' H' y ⟨G.nx.trans (n2.trans G'.nx), G'.er⟩)⟩
/-- name op= value -/
def uAug (i : Nat) (o : D → D → (Rv → Prop) → Prop) (ue : UE) : US := fun E ρ => match ρ[i]? with
  | some (.sl false _ d) => ue ρ fun r ρ1 => wv ρ1 r fun e => o d e fun z => put ρ1 i z E.nx
  | _ => False
theorem fs_aug {i : Nat} {op : Operator} {o : D → D → (Rv → Prop) → Prop} (ho : OpS X (inplaceOp op) o) (h : ∀ ti, PIp X op ti → PS X st (tAug i (tS X e) ti)) (he : FE X e ue) : FS X st (uAug i o ue) := ⟨fun E ρ q F H σ0 σ B D er f => by
  obtain ⟨r, hr, k⟩ := ho.ex
  unfold uAug at q
  cases z : ρ[i]? with
  | none => rw [z] at q; exact q.elim
  | some s =>
    cases s with
    | un => rw [z] at q; exact q.elim
    | sl o' p d =>
      rw [z] at q
      cases o' with
      | true => exact q.elim
      | false =>
        obtain ⟨x, e1, rd⟩ := er.fz i p d z
        refine to_SS (h r fun pins s σ H x y v u Q I rx ry t => hr pins s σ H x y v u Q I rx ry t) ⟨x, e1, he ρ _ q F H σ0 σ B _ er fun r1 ρ1 v F1 H1 z G => ?_⟩
        obtain ⟨e, w, z⟩ := G.er.seen G.rr z
        refine k G.er (.inl (rd.mono G.nx.fz)) w z fun r2 v2 F2 H2 z2 G2 => ?_
        obtain ⟨F3, ρ3, n3, er3, z3⟩ := G2.er.put G2.rr z2
        exact f.nx ρ3 _ F3 H2 z3 ⟨G.nx.trans (G2.nx.trans n3), er3⟩⟩

/-! ### while -/
def uWhile (c : UT) (tb : US) : US := fun E ρ => ∃ W : Nat → List Sl → Prop, (∃ m, W m ρ) ∧ ∀ m ρ, W m ρ →
  c ρ fun b ρ1 => if b = true then tb { E with nx := fun ρ2 => ∃ m', m' < m ∧ W m' ρ2, ct := fun ρ2 => ∃ m', m' < m ∧ W m' ρ2, bk := E.nx } ρ1 else E.nx ρ1
theorem fs_while {c : Expr} {tc : UT} (hp : PassesOwn (model X.prog X.w) X.A X.env X.xe) (hc : FT X c tc) (hb : FB X body t) : FS X (.While c body [] pos) (uWhile tc t) := ⟨fun E ρ q F H σ0 σ B D er f => by
  obtain ⟨W, ⟨m0, w0⟩, turn⟩ := q
  refine to_SS (ps_while hp pt_S pss_S) ⟨fun m σ' H' => ∃ ρ' F', W m ρ' ∧ Gd X.K F H F' H' σ0 ρ' σ' B, ⟨m0, ρ, F, w0, .refl _ _ _, er⟩, ?_⟩
  rintro m σ1 H1 ⟨ρ1, F1, w1, G1⟩
  refine hc ρ1 _ (turn m ρ1 w1) F1 H1 σ0 σ1 B _ G1.er fun b ρ2 F2 H2 z G2 => ?_
  cases b with
  | false => exact f.nx ρ2 σ1 F2 H2 z ⟨G1.nx.trans G2.nx, G2.er⟩
  | true =>
    refine ⟨fun σ' H' => ∃ m', m' < m ∧ ∃ ρ' F', W m' ρ' ∧ Gd X.K F H F' H' σ0 ρ' σ' B, fun σ' H' h => h, ?_⟩
    have n2 := G1.nx.trans G2.nx
    have f2 := f.on n2
    exact hb _ ρ2 z F2 H2 σ0 σ1 B _ G2.er ⟨fun ρ' σ' F' H' ⟨m', l, w⟩ G => ⟨m', l, ρ', F', w, n2.trans G.nx, G.er⟩, f2.rt, f2.nx, fun ρ' σ' F' H' ⟨m', l, w⟩ G => ⟨m', l, ρ', F', w, n2.trans G.nx, G.er⟩⟩⟩

/-! ### what is walked -/
abbrev UI := List Sl → (List D → List Sl → Prop) → Prop
def tI (X : Cx) (tg iter : Expr) : TI := fun σ H R => ∀ pins s, Inv X pins σ H s → wpAny (model X.prog X.w) X.A (eval iter X.env) (fun v s1 => wpAny (model X.prog X.w) X.A (pyIter v) (PIE X pins σ tg R) X.xe s1) X.xe s
theorem pi_S {tg iter : Expr} : PI X tg iter (tI X tg iter) := ⟨fun pins s σ H R I h => h pins s I⟩
theorem to_I {tg iter : Expr} {w : TI} {σ : L2.St} {H : Hp} {R : It → Hp → Prop} (h : PI X tg iter w) (q : w σ H R) : tI X tg iter σ H R := fun pins s I => h.run pins s σ H R I q
/-- at a turn it gives the i-th datum: one that stays, or a new one -/
def YD (K : PySem.W.Frag) (F : Hp) (ds : List D) : Nat → Hp → V → Hp → Prop := fun i H x H' => ∃ d, ds[i]? = some d ∧
  ((H' = H ∧ RD K F x d) ∨ ∃ p o, H' = upd H p o ∧ H p = none ∧ ∀ F', Same F F' → F' p = none → RD K (upd F' p o) x d)
abbrev WD (K : PySem.W.Frag) (F : Hp) (J : It) (ds : List D) : Prop := Walk J ds.length (fun H => Same F H) (YD K F ds)
structure FI (X : Cx) (tg iter : Expr) (w : UI) : Prop where
  run : ∀ (ρ : List Sl) (R : List D → List Sl → Prop), w ρ R → ∀ (F H : Hp) (σ0 σ : L2.St) (B : Addr → Prop) (Q : It → Hp → Prop), ER X.K F H σ0 ρ σ B →
    (∀ ds ρ' J F' H', R ds ρ' → Gd X.K F H F' H' σ0 ρ' σ B → WD X.K F' J ds → Q J H') → tI X tg iter σ H Q
instance {X : Cx} {tg iter : Expr} {w : UI} : CoeFun (FI X tg iter w) (fun _ => ∀ (ρ : List Sl) (R : List D → List Sl → Prop), w ρ R → ∀ (F H : Hp) (σ0 σ : L2.St) (B : Addr → Prop) (Q : It → Hp → Prop), ER X.K F H σ0 ρ σ B →
  (∀ ds ρ' J F' H', R ds ρ' → Gd X.K F H F' H' σ0 ρ' σ B → WD X.K F' J ds → Q J H') → tI X tg iter σ H Q) := ⟨FI.run⟩
/-- what it gives, in the state behind -/
theorem yd_er {K : PySem.W.Frag} {F0 F H H' : Hp} {σ0 σ : L2.St} {ρ : List Sl} {B : Addr → Prop} {ds : List D} {i : Nat} {x : V} (E : ER K F H σ0 ρ σ B) (s : Same F0 F) (y : YD K F0 ds i H x H') :
    ∃ d F', ds[i]? = some d ∧ Gd K F H F' H' σ0 ρ σ B ∧ RD K F' x d := by
  obtain ⟨d, e, ⟨rfl, rd⟩ | ⟨p, o, rfl, np, rd⟩⟩ := y
  · exact ⟨d, F, e, ⟨.refl _ _ _, E⟩, rd.mono s⟩
  · obtain ⟨E2, n2⟩ := E.laid_val (o := o) np
    exact ⟨d, _, e, ⟨n2, E2⟩, rd F s (E.free np)⟩
def uFor (w : UI) (g : UG) (tb : US) : US := fun E ρ => w ρ fun ds ρ1 => ∃ W : Nat → List Sl → Prop, W 0 ρ1 ∧ (∀ i d ρ, ds[i]? = some d → W i ρ →
  g d ρ fun ρ2 => tb { E with nx := W (i + 1), ct := W (i + 1), bk := E.nx } ρ2) ∧ ∀ ρ, W ds.length ρ → E.nx ρ
theorem fs_for {tg iter : Expr} {w : UI} {g : UG} (hp : PassesOwn (model X.prog X.w) X.A X.env X.xe) (hc : X.calm = true) (hi : FI X tg iter w) (hg : FG X none tg g) (hb : FB X body t)
    (hs : ∀ x, foldedSetIterable iter X.env x = pure x := by intro _; rfl) : FS X (.For tg iter body [] pos) (uFor w g t) := ⟨fun E ρ q F H σ0 σ B D er f => by
  refine to_SS (ps_for hp hc pi_S pg_S pss_S hs) (hi ρ _ q F H σ0 σ B _ er fun ds ρ1 J F1 H1 ⟨W, w0, turn, done⟩ G1 wd => ?_)
  refine for_it wd (fun i σ' H' => ∃ ρ' F', W i ρ' ∧ Gd X.K F1 H1 F' H' σ0 ρ' σ' B) ⟨ρ1, F1, w0, .refl _ _ _, G1.er⟩ (fun i σ' H' _ ⟨ρ', F', _, G⟩ => G.nx.fz.trans G.er.sub) ?_ (fun σ' H' ⟨ρ', F', w', G⟩ => f.nx ρ' σ' F' H' (done ρ' w') ⟨G1.nx.trans G.nx, G.er⟩)
  rintro i x σ2 H2 H3 hi ⟨ρ2, F2, w2, G2⟩ y
  obtain ⟨d, F3, e, G3, rd⟩ := yd_er G2.er G2.nx.fz y
  refine hg d ρ2 _ (turn i d ρ2 e w2) F3 H3 σ0 σ2 B x _ G3.er rd fun ρ4 σ4 F4 H4 z G4 _ => ?_
  have n4 := G2.nx.trans (G3.nx.trans G4.nx)
  have f4 := f.on (G1.nx.trans n4)
  exact hb _ ρ4 z F4 H4 σ0 σ4 B _ G4.er ⟨fun ρ' σ' F' H' w' G => ⟨ρ', F', w', n4.trans G.nx, G.er⟩, f4.rt, f4.nx, fun ρ' σ' F' H' w' G => ⟨ρ', F', w', n4.trans G.nx, G.er⟩⟩⟩

/-! ### comprehensions -/
def wipeS (ρ : List Sl) : List Nat → List Sl
  | [] => ρ
  | v :: vs => (wipeS ρ vs).set v .un
theorem ER.forget {K : PySem.W.Frag} {F H : Hp} {σ0 σ : L2.St} {ρ : List Sl} {B : Addr → Prop} (E : ER K F H σ0 ρ σ B) (v : Nat) : ER K F H σ0 (ρ.set v .un) σ B := by
  have at_ : ∀ (j : Nat) o p d, (ρ.set v .un)[j]? = some (Sl.sl o p d) → ρ[j]? = some (Sl.sl o p d) ∧ j ≠ v := fun j o p d e => by
    by_cases hj : j = v
    · subst hj
      by_cases hl : j < ρ.length
      · rw [List.getElem?_set_self hl] at e; cases e
      · rw [List.getElem?_eq_none (by rw [List.length_set]; omega)] at e; cases e
    · rw [List.getElem?_set_ne (Ne.symm hj)] at e; exact ⟨e, hj⟩
  exact ⟨by rw [List.length_set]; exact E.len, E.sub, fun i p d h => E.fz i p d (at_ _ _ _ _ h).1, fun i p d h => E.ow i p d (at_ _ _ _ _ h).1, fun i j a p q d e h k => E.inj i j a p q d e (at_ _ _ _ _ h).1 (at_ _ _ _ _ k).1, fun i o d h => E.par i o d (at_ _ _ _ _ h).1, E.out⟩
theorem ER.unset {K : PySem.W.Frag} {F H : Hp} {σ0 σ : L2.St} {ρ : List Sl} {B : Addr → Prop} {v : Nat} {x : Option V} (E : ER K F H σ0 ρ σ B) : ER K F H σ0 (ρ.set v .un) (σ.set v x) B := by
  have E1 := E.forget v
  have at_ : ∀ (j : Nat) o p d, (ρ.set v .un)[j]? = some (Sl.sl o p d) → (σ.set v x)[j]? = σ[j]? := fun j o p d e => by
    by_cases hj : j = v
    · subst hj
      by_cases hl : j < ρ.length
      · rw [List.getElem?_set_self hl] at e; cases e
      · rw [List.getElem?_eq_none (by rw [List.length_set]; omega)] at e; cases e
    · exact List.getElem?_set_ne (Ne.symm hj)
  exact ⟨by rw [List.length_set, List.length_set]; exact E.len, E.sub, fun i p d h => by rw [at_ _ _ _ _ h]; exact E1.fz i p d h, fun i p d h => by rw [at_ _ _ _ _ h]; exact E1.ow i p d h,
    fun i j a p q d e h k hi hj => by rw [at_ _ _ _ _ h] at hi; rw [at_ _ _ _ _ k] at hj; exact E1.inj i j a p q d e h k hi hj, fun i o d h => by rw [at_ _ _ _ _ h]; exact E1.par i o d h, E.out⟩
theorem ER.wipe {K : PySem.W.Frag} {F H : Hp} {σ0 σ : L2.St} {ρ : List Sl} {B : Addr → Prop} (E : ER K F H σ0 ρ σ B) : ∀ vs : List Nat, ER K F H σ0 (wipeS ρ vs) (L2.wipe σ vs) B
  | [] => E
  | v :: vs => (E.wipe vs).unset
theorem wipeS_get {ρ : List Sl} {j : Nat} {o p : Bool} {d : D} : ∀ {vs : List Nat}, (wipeS ρ vs)[j]? = some (Sl.sl o p d) → j ∉ vs
  | [], _ => fun h => nomatch h
  | v :: vs, e => by
    have e' : ((wipeS ρ vs).set v .un)[j]? = some (Sl.sl o p d) := e
    by_cases hj : j = v
    · subst hj
      by_cases hl : j < (wipeS ρ vs).length
      · rw [List.getElem?_set_self hl] at e'; cases e'
      · rw [List.getElem?_eq_none (by rw [List.length_set]; omega)] at e'; cases e'
    · rw [List.getElem?_set_ne (Ne.symm hj)] at e'
      exact fun h => (List.mem_cons.mp h).elim hj (wipeS_get e')
theorem wipe_get {σ : L2.St} {j : Nat} : ∀ {vs : List Nat}, j ∉ vs → (L2.wipe σ vs)[j]? = σ[j]?
  | [], _ => rfl
  | v :: vs, h => by
    show ((L2.wipe σ vs).set v none)[j]? = _
    rw [List.getElem?_set_ne (fun z => h (by rw [z]; exact List.mem_cons_self)), wipe_get fun z => h (List.mem_cons_of_mem _ z)]
/-- the slots within a comprehension's block are forgotten behind it -/
theorem ER.unwipe {K : PySem.W.Frag} {F H : Hp} {σ0 σ : L2.St} {ρ : List Sl} {B : Addr → Prop} {vs : List Nat} (E : ER K F H σ0 (wipeS ρ vs) (L2.wipe σ vs) B) : ER K F H σ0 (wipeS ρ vs) σ B := by
  have at_ : ∀ (j : Nat) o p d, (wipeS ρ vs)[j]? = some (Sl.sl o p d) → (L2.wipe σ vs)[j]? = σ[j]? := fun j o p d e => wipe_get (wipeS_get e)
  exact ⟨by rw [E.len, wipe_length], E.sub, fun i p d h => by rw [← at_ _ _ _ _ h]; exact E.fz i p d h, fun i p d h => by rw [← at_ _ _ _ _ h]; exact E.ow i p d h,
    fun i j a p q d e h k hi hj => by rw [← at_ _ _ _ _ h] at hi; rw [← at_ _ _ _ _ k] at hj; exact E.inj i j a p q d e h k hi hj, fun i o d h => by rw [← at_ _ _ _ _ h]; exact E.par i o d h, E.out⟩
/-- W: by the turn, what is made so far, the slots -/
def uLc (w : UI) (g : UG) (tt : UT) (te : UE) (vs : List Nat) : UE := fun ρ R => w ρ fun ds ρ1 => ∃ W : Nat → List D → List Sl → Prop, W 0 [] (wipeS ρ1 vs) ∧ (∀ i d acc ρ, ds[i]? = some d → W i acc ρ →
  g d ρ fun ρ2 => tt ρ2 fun b ρ3 => if b = true then te ρ3 fun r ρ4 => wv ρ4 r fun e => acc.length < sizeLine ∧ W (i + 1) (acc ++ [e]) (wipeS (frz ρ4 r) vs) else W (i + 1) acc (wipeS ρ3 vs)) ∧
  (∀ i acc ρ, W i acc ρ → ∃ ρ', ρ = wipeS ρ' vs) ∧ ∀ acc ρ, W ds.length acc ρ → R (.own (.lst acc)) ρ
structure FTs (X : Cx) (ifs : List Expr) (u : UT) : Prop where
  run : ∀ (ρ : List Sl) (R : Bool → List Sl → Prop), u ρ R → ∀ (F H : Hp) (σ0 σ : L2.St) (B : Addr → Prop) (Q : Bool → Hp → Prop), ER X.K F H σ0 ρ σ B →
    (∀ b ρ' F' H', R b ρ' → Gd X.K F H F' H' σ0 ρ' σ B → Q b H') → ∀ pins s, Inv X pins σ H s → wpAny (model X.prog X.w) X.A (forIn ifs true fun c r => if r = true then do let ok ← isTrue c X.env (eval c X.env); pure (ForInStep.yield ok) else pure (ForInStep.yield r)) (TP X pins σ Q) X.xe s
instance {X : Cx} {ifs : List Expr} {u : UT} : CoeFun (FTs X ifs u) (fun _ => ∀ (ρ : List Sl) (R : Bool → List Sl → Prop), u ρ R → ∀ (F H : Hp) (σ0 σ : L2.St) (B : Addr → Prop) (Q : Bool → Hp → Prop), ER X.K F H σ0 ρ σ B →
  (∀ b ρ' F' H', R b ρ' → Gd X.K F H F' H' σ0 ρ' σ B → Q b H') → ∀ pins s, Inv X pins σ H s → wpAny (model X.prog X.w) X.A (forIn ifs true fun c r => if r = true then do let ok ← isTrue c X.env (eval c X.env); pure (ForInStep.yield ok) else pure (ForInStep.yield r)) (TP X pins σ Q) X.xe s) := ⟨FTs.run⟩
def uYes : UT := fun ρ R => R true ρ
theorem fts_nil : FTs X [] uYes := ⟨fun ρ R q F H σ0 σ B Q E g pins s I => pts_nil.run pins s σ H Q I (g true ρ F H q ⟨.refl _ _ _, E⟩)⟩
theorem fts_one {c : Expr} {u : UT} (h : FT X c u) : FTs X [c] u := ⟨fun ρ R q F H σ0 σ B Q E g pins s I => (pts_one pt_S).run pins s σ H Q I (h ρ R q F H σ0 σ B Q E g)⟩
def bG (X : Cx) (scope : Scope) (tg : Expr) : TG := fun v σ H Q => ∀ s H0 C cl fp, tG (X.blk s H0 scope (compEnvC scope cl C X.env) fp) tg v σ H Q
def bT (X : Cx) (scope : Scope) (ifs : List Expr) : TT := fun σ H Q => ∀ s0 H0 C cl fp pins s, Inv (X.blk s0 H0 scope (compEnvC scope cl C X.env) fp) pins σ H s → wpAny (model X.prog X.w) (X.blk s0 H0 scope (compEnvC scope cl C X.env) fp).A (forIn ifs true fun c r => if r = true then do let ok ← isTrue c (X.blk s0 H0 scope (compEnvC scope cl C X.env) fp).env (eval c (X.blk s0 H0 scope (compEnvC scope cl C X.env) fp).env); pure (ForInStep.yield ok) else pure (ForInStep.yield r)) (TP (X.blk s0 H0 scope (compEnvC scope cl C X.env) fp) pins σ Q) (X.blk s0 H0 scope (compEnvC scope cl C X.env) fp).xe s
def bE (X : Cx) (scope : Scope) (elt : Expr) : TE := fun σ H Q => ∀ s H0 C cl fp, tS (X.blk s H0 scope (compEnvC scope cl C X.env) fp) elt σ H Q
theorem pg_bS {scope : Scope} {tg : Expr} (s : Shared) (H : Hp) (C : Addr) (cl : List (Str × Addr)) (fp : List Addr) : PG (X.blk s H scope (compEnvC scope cl C X.env) fp) tg (bG X scope tg) := ⟨fun pins s' σ _ v u Q I r h => h s H C cl fp pins s' u I r⟩
theorem pts_bS {scope : Scope} {ifs : List Expr} (s : Shared) (H : Hp) (C : Addr) (cl : List (Str × Addr)) (fp : List Addr) : PTs (X.blk s H scope (compEnvC scope cl C X.env) fp) ifs (bT X scope ifs) := ⟨fun pins s' σ _ Q I h => h s H C cl fp pins s' I⟩
theorem pe_bS {scope : Scope} {elt : Expr} (s : Shared) (H : Hp) (C : Addr) (cl : List (Str × Addr)) (fp : List Addr) : PE (X.blk s H scope (compEnvC scope cl C X.env) fp) elt (bE X scope elt) := ⟨fun pins s' σ _ Q I h => h s H C cl fp pins s' I⟩
theorem lc_tl {elt tg iter : Expr} {ifs : List Expr} {scope : Scope} {own : List (Str × Nat)} {w : UI} {g : UG} {tt : UT} {te : UE}
    (hi : FI X tg iter w) (hK : ∀ (s : Shared) (H : Hp) (C : Addr) (cl : List (Str × Addr)) (fp : List Addr), (X.blk s H scope (compEnvC scope cl C X.env) fp).K = X.K)
    (hg : ∀ (s : Shared) (H : Hp) (C : Addr) (cl : List (Str × Addr)) (fp : List Addr), FG (X.blk s H scope (compEnvC scope cl C X.env) fp) (some (own.map (·.2))) tg g)
    (ht : ∀ (s : Shared) (H : Hp) (C : Addr) (cl : List (Str × Addr)) (fp : List Addr), FTs (X.blk s H scope (compEnvC scope cl C X.env) fp) ifs tt)
    (he : ∀ (s : Shared) (H : Hp) (C : Addr) (cl : List (Str × Addr)) (fp : List Addr), FE (X.blk s H scope (compEnvC scope cl C X.env) fp) elt te)
    {ρ : List Sl} {R : Rv → List Sl → Prop} (q : uLc w g tt te (own.map (·.2)) ρ R) {F H : Hp} {σ0 σ : L2.St} {B : Addr → Prop} {Q : VK} (E : ER X.K F H σ0 ρ σ B)
    (k : ∀ r ρ' v F' H', R r ρ' → Gt X.K F H F' H' σ0 ρ' σ B r v → Q v H') : tLc (tI X tg iter) (bG X scope tg) (bT X scope ifs) (bE X scope elt) (own.map (·.2)) σ H Q := by
  refine hi ρ _ q F H σ0 σ B _ E fun ds ρ1 J F1 H1 ⟨W, w0, turn, form, done⟩ G1 wd D nD => ?_
  have hD : ¬ B D := G1.er.nB nD
  have keepB : ∀ {H : Hp} {o : HO} (c : Addr), B c → upd H D o c = H c := fun c b => upd_ne fun z => by subst z; exact hD b
  refine lc_it wd (fun i H' => ∃ acc vacc ρ' F', W i acc ρ' ∧ ER X.K F' H' σ0 ρ' (L2.wipe σ (own.map (·.2))) (fun c => B c ∨ c = D) ∧ Nx F1 H1 F' H' B ∧ H' D = some (.lst vacc) ∧ RL X.K F' vacc acc) ?_ (fun i H' _ ⟨_, _, _, _, _, E', n', _⟩ => n'.fz.trans E'.sub) ?_ ?_
  · refine ⟨[], [], _, F1, w0, ?_, ?_, upd_same, .nil⟩
    · have E2 := (G1.er.laid (o := .lst []) nD).wipe (own.map (·.2))
      refine ⟨E2.len, E2.sub, E2.fz, fun i p d h => ?_, E2.inj, E2.par, fun c hc => ?_⟩
      · obtain ⟨a, e, ro, n, nb⟩ := E2.ow i p d h
        refine ⟨a, e, ro, n, fun hb => hb.elim nb fun z => ?_⟩
        subst z
        have hs : (L2.wipe σ (own.map (·.2)))[i]? = σ[i]? := wipe_get (wipeS_get h)
        have hj := wipeS_get h
        rw [hs] at e
        -- the slot holds an address that was free
        have gq : ∀ {ρ : List Sl} {vs : List Nat}, i ∉ vs → (wipeS ρ vs)[i]? = ρ[i]? := by
          intro ρ vs
          induction vs with
          | nil => intro _; rfl
          | cons v vs ih =>
            intro hv
            show ((wipeS ρ vs).set v .un)[i]? = _
            rw [List.getElem?_set_ne (fun z => hv (by rw [z]; exact List.mem_cons_self)), ih fun z => hv (List.mem_cons_of_mem _ z)]
        rw [gq hj] at h
        exact G1.er.nS nD i p d h e
      · rcases hc with hc | rfl
        · exact E2.out c hc
        · exact ⟨by rw [upd_same]; exact fun z => (nomatch z), G1.er.free nD⟩
    · exact ⟨Same.refl _, fun c b => keepB c b⟩
  · rintro i x H2 H3 hi ⟨acc, vacc, ρ2, F2, w2, E2, n2, eD, rl⟩ y
    obtain ⟨d, F3, ed, G3, rd⟩ := yd_er E2 n2.fz y
    intro s0 H0 C cl fp
    refine hg s0 H0 C cl fp d ρ2 _ (turn i d acc ρ2 ed w2) F3 H3 σ0 _ _ x _ (by rw [hK]; exact G3.er) (by rw [hK]; exact rd) fun ρ4 σ4 F4 H4 z G4 kp => ?_
    rw [hK] at G4
    have kp' : L2.wipe σ4 (own.map (·.2)) = L2.wipe (L2.wipe σ (own.map (·.2))) (own.map (·.2)) := kp
    have ww : ∀ (l : List Nat) (σ : L2.St), (∀ v ∈ l, v < σ.length → σ[v]? = some none) → L2.wipe σ l = σ := by
      intro l
      induction l with
      | nil => intro σ _; rfl
      | cons v l ih =>
        intro σ h
        show (L2.wipe σ l).set v none = σ
        rw [ih σ fun u hu => h u (List.mem_cons_of_mem _ hu)]
        refine List.ext_getElem? fun j => ?_
        by_cases hj : j = v
        · subst hj
          by_cases hl : j < σ.length
          · rw [List.getElem?_set_self hl, h j List.mem_cons_self hl]
          · rw [List.getElem?_eq_none (by rw [List.length_set]; omega), List.getElem?_eq_none (by omega)]
        · rw [List.getElem?_set_ne (Ne.symm hj)]
    have wn : ∀ (l : List Nat) (σ : L2.St) (v : Nat), v ∈ l → v < σ.length → (L2.wipe σ l)[v]? = some none := by
      intro l
      induction l with
      | nil => intro σ v h; exact nomatch h
      | cons u l ih =>
        intro σ v h hl
        show ((L2.wipe σ l).set u none)[v]? = _
        by_cases e : v = u
        · subst e; exact List.getElem?_set_self (by rw [wipe_length]; exact hl)
        · rw [List.getElem?_set_ne (Ne.symm e)]
          rcases List.mem_cons.mp h with z | z
          · exact absurd z e
          · exact ih σ v z hl
    have w4 : L2.wipe σ4 (own.map (·.2)) = L2.wipe σ (own.map (·.2)) := by
      rw [kp']
      exact ww _ _ fun v hv hl => wn _ _ v hv (by rw [wipe_length] at hl; exact hl)
    refine ⟨w4, ?_⟩
    intro s1 H01 C1 cl1 fp1 pins s' I'
    refine ht s1 H01 C1 cl1 fp1 ρ4 _ z F4 H4 σ0 σ4 _ _ (by rw [hK]; exact G4.er) (fun b ρ5 F5 H5 z5 G5 => ?_) pins s' I'
    rw [hK] at G5
    have n5 : Nx F2 H2 F5 H5 (fun c => B c ∨ c = D) := G3.nx.trans (G4.nx.trans G5.nx)
    have fin : ∀ {ρ6 : List Sl} {F6 H6 : Hp}, ER X.K F6 H6 σ0 ρ6 σ4 (fun c => B c ∨ c = D) → ER X.K F6 H6 σ0 (wipeS ρ6 (own.map (·.2))) (L2.wipe σ (own.map (·.2))) (fun c => B c ∨ c = D) := fun {ρ6 F6 H6} er => by
      have := er.wipe (own.map (·.2))
      rw [w4] at this
      exact this
    have sub5 : ∀ c, B c → B c ∨ c = D := fun c => .inl
    cases b with
    | false =>
      simp only [Bool.false_eq_true, if_false] at z5 ⊢
      exact ⟨acc, vacc, _, F5, z5, fin G5.er, n2.trans (n5.mono sub5), by rw [n5.out D (.inr rfl)]; exact eD, rl.mono n5.fz⟩
    | true =>
      simp only [if_true] at z5 ⊢
      intro s2 H02 C2 cl2 fp2
      refine he s2 H02 C2 cl2 fp2 ρ5 _ z5 F5 H5 σ0 σ4 _ _ (by rw [hK]; exact G5.er) fun r ρ6 yv F6 H6 z6 G6 => ?_
      rw [hK] at G6
      obtain ⟨F7, e7, nn7, E7, rd7, lt7, w7⟩ := G6.er.freeze G6.rr z6
      have n7 : Nx F2 H2 F7 H6 (fun c => B c ∨ c = D) := n5.trans (G6.nx.trans nn7)
      have e6 : H6 D = some (.lst vacc) := by rw [n7.out D (.inr rfl)]; exact eD
      have rl7 := rl.mono n7.fz
      refine ⟨vacc, e6, by rw [rl7.len]; exact lt7, acc ++ [e7], vacc ++ [yv], _, F7, w7, ?_, ?_, upd_same, rl7.snoc rd7⟩
      · have E8 := fin E7
        have fD : F7 D = none := (E7.out D (.inr rfl)).2
        refine ⟨E8.len, fun b u q => by rw [upd_ne (ne_of_none q fD)]; exact E8.sub b u q, E8.fz, fun i p d h => ?_, E8.inj, E8.par, fun c hc => ⟨?_, (E8.out c hc).2⟩⟩
        · obtain ⟨a, ea, ro, n, nb⟩ := E8.ow i p d h
          exact ⟨a, ea, ro.keep (Same.refl _) (upd_ne fun z => nb (.inr z)), n, nb⟩
        · by_cases hc' : c = D
          · subst hc'; rw [upd_same]; exact fun z => (nomatch z)
          · rw [upd_ne hc']; exact (E8.out c hc).1
      · exact ⟨n2.fz.trans n7.fz, fun c b => by rw [keepB c b]; exact (n7.out c (.inl b)).trans (n2.out c b)⟩
  · rintro H' ⟨acc, vacc, ρ', F', w', E', n', eD, rl⟩
    obtain ⟨ρ'', rfl⟩ := form _ _ _ w'
    have E3 := E'.unwipe
    refine k _ _ _ F' H' (done acc _ w') ⟨G1.nx.trans n', ⟨E3.len, E3.sub, E3.fz, fun i p d h => let ⟨a, e, x, y, z⟩ := E3.ow i p d h; ⟨a, e, x, y, fun b => z (.inl b)⟩, E3.inj, E3.par, fun c b => E3.out c (.inl b)⟩, D, rfl, .lst eD rl, (E3.out D (.inr rfl)).2, hD, fun i p e h z => ?_⟩
    obtain ⟨a, e2, _, _, nb⟩ := E3.ow i p e h
    rw [z] at e2; cases e2
    exact nb (.inr rfl)
theorem fe_lc {elt tg iter : Expr} {ifs : List Expr} {scope : Scope} {own : List (Str × Nat)} {pos : Pos} {w : UI} {g : UG} {tt : UT} {te : UE} (hc : X.calm = true) (hN : X.N.Nodup) (hi : FI X tg iter w) (ok : BlkOk X.N X.env.scope scope own)
    (hg : ∀ (s : Shared) (H : Hp) (C : Addr) (cl : List (Str × Addr)) (fp : List Addr), FG (X.blk s H scope (compEnvC scope cl C X.env) fp) (some (own.map (·.2))) tg g)
    (ht : ∀ (s : Shared) (H : Hp) (C : Addr) (cl : List (Str × Addr)) (fp : List Addr), FTs (X.blk s H scope (compEnvC scope cl C X.env) fp) ifs tt)
    (he : ∀ (s : Shared) (H : Hp) (C : Addr) (cl : List (Str × Addr)) (fp : List Addr), FE (X.blk s H scope (compEnvC scope cl C X.env) fp) elt te) (hs : ∀ x, foldedSetIterable iter X.env x = pure x := by intro _; rfl) :
    FE X (.ListComp elt [⟨tg, iter, ifs, 0⟩] scope pos) (uLc w g tt te (own.map (·.2))) := ⟨fun ρ R q F H σ0 σ B Q E k =>
  to_S (pe_lc hc hN pi_S ok pg_bS pts_bS pe_bS hs)
    (lc_tl hi (fun _ _ _ _ _ => rfl) hg ht he q E k)⟩
/-- name = [..] on one line -/
theorem fs_setLc {i : Nat} {y : Str} {py : Pos} {elt tg iter : Expr} {ifs : List Expr} {scope : Scope} {own : List (Str × Nat)} {pos spos : Pos} {w : UI} {g : UG} {tt : UT} {te : UE} (hc : X.calm = true) (hN : X.N.Nodup) (hy : X.N[i]? = some y) (hyl : X.env.scope.names.lookup y = some .local)
    (hsw : swapsWith (.ListComp elt [⟨tg, iter, ifs, 0⟩] scope pos) (some (.Name y py)) spos.line X.env = pure true) (hi : FI X tg iter w) (ok : BlkOk X.N X.env.scope scope own)
    (hg : ∀ (s : Shared) (H : Hp) (C : Addr) (cl : List (Str × Addr)) (fp : List Addr), FG (X.blk s H scope (compEnvC scope cl C X.env) fp) (some (own.map (·.2))) tg g)
    (ht : ∀ (s : Shared) (H : Hp) (C : Addr) (cl : List (Str × Addr)) (fp : List Addr), FTs (X.blk s H scope (compEnvC scope cl C X.env) fp) ifs tt)
    (he : ∀ (s : Shared) (H : Hp) (C : Addr) (cl : List (Str × Addr)) (fp : List Addr), FE (X.blk s H scope (compEnvC scope cl C X.env) fp) elt te) (hs : ∀ x, foldedSetIterable iter X.env x = pure x := by intro _; rfl) :
    FS X (.Assign [.Name y py] (.ListComp elt [⟨tg, iter, ifs, 0⟩] scope pos) spos) (uSet i (uLc w g tt te (own.map (·.2)))) := ⟨fun E ρ q F H σ0 σ B D er f => by
  refine to_SS (ps_setLc hc hN hy hyl hsw pi_S ok pg_bS pts_bS pe_bS hs) ?_
  refine lc_tl hi (fun _ _ _ _ _ => rfl) hg ht he q er fun r ρ1 v F1 H1 z G => ?_
  obtain ⟨F2, ρ2, n2, er2, z⟩ := G.er.put G.rr z
  exact f.nx ρ2 _ F2 H1 z ⟨G.nx.trans n2, er2⟩⟩

/-! ### what is walked: lists, tuples, texts, ranges -/
def uItL (u : UE) : UI := fun ρ R => u ρ fun r ρ1 => wv ρ1 r fun d => match d with
  | .lst l => R l (frz ρ1 r)
  | _ => False
def uItT (u : UE) : UI := fun ρ R => u ρ fun r ρ1 => wv ρ1 r fun d => match d with
  | .tup l => R l (frz ρ1 r)
  | _ => False
def uItS (u : UE) : UI := fun ρ R => u ρ fun r ρ1 => match r with
  | .val (.str x) => R (x.cps.toList.map fun c => .str ⟨#[c]⟩) ρ1
  | _ => False
theorem wd_at {K : PySem.W.Frag} {F : Hp} {J : It} {vs : List V} {ds : List D} {G : Hp → Prop} (w : Walk J vs.length G (YAt vs)) (hG : ∀ H, Same F H → G H) (l : RL K F vs ds) : WD K F J ds := by
  have e := l.len
  rw [e] at w
  exact w.mono hG fun i H x H' hi s ⟨e1, e2⟩ => by
    obtain ⟨d, e3, rd⟩ := l.get e2
    exact ⟨d, e3, .inl ⟨e1, rd⟩⟩
theorem fi_list {tg iter : Expr} {u : UE} (h : FE X iter u) : FI X tg iter (uItL u) := ⟨fun ρ R q F H σ0 σ B Q E g => by
  refine to_I (pi_list pe_S) (h ρ _ q F H σ0 σ B _ E fun r ρ1 v F1 H1 z G => ?_)
  obtain ⟨F2, d, n2, E2, rd, z⟩ := G.er.freeze G.rr z
  cases rd with
  | @lst a vs ds h1 l => exact ⟨a, rfl, ⟨vs, .of (E2.sub _ _ h1)⟩, g _ _ _ F2 H1 z ⟨G.nx.trans n2, E2⟩ (wd_at walk_list (fun H s => .of (s _ _ h1)) l)⟩
  | _ => exact z.elim⟩
theorem fi_tup {tg iter : Expr} {u : UE} (h : FE X iter u) : FI X tg iter (uItT u) := ⟨fun ρ R q F H σ0 σ B Q E g => by
  refine to_I (pi_tup pe_S) (h ρ _ q F H σ0 σ B _ E fun r ρ1 v F1 H1 z G => ?_)
  obtain ⟨F2, d, n2, E2, rd, z⟩ := G.er.freeze G.rr z
  cases rd with
  | @tup a vs ds h1 l => exact ⟨a, rfl, ⟨vs, .of (E2.sub _ _ h1)⟩, g _ _ _ F2 H1 z ⟨G.nx.trans n2, E2⟩ (wd_at walk_tup (fun H s => .of (s _ _ h1)) l)⟩
  | _ => exact z.elim⟩
theorem fi_str {tg iter : Expr} {u : UE} (h : FE X iter u) : FI X tg iter (uItS u) := ⟨fun ρ R q F H σ0 σ B Q E g => by
  refine to_I (pi_str pe_S) (h ρ _ q F H σ0 σ B _ E fun r ρ1 v F1 H1 z G => ?_)
  split at z
  · rename_i x
    have rr : RD X.K F1 v (.str x) := G.rr
    cases rr
    refine ⟨x, rfl, g _ _ _ F1 H1 z ⟨G.nx, G.er⟩ ?_⟩
    have w := walk_str (z := x)
    have e : x.cps.size = (x.cps.toList.map fun c => D.str ⟨#[c]⟩).length := by simp
    rw [e] at w
    refine w.mono (fun _ _ => trivial) fun i H x' H' hi s ⟨e1, c, e2, e3⟩ => ⟨.str ⟨#[c]⟩, ?_, .inl ⟨e1, by rw [e3]; exact .str _⟩⟩
    rw [List.getElem?_map, Array.getElem?_toList, e2]; rfl
  · exact z.elim⟩
def intsD (lo : Int) (n : Nat) : List D := (List.range n).map fun (i : Nat) => D.int (lo + (i : Int))
def uRng1 (u : UA) : UI := fun ρ R => u ρ fun ds ρ1 => match ds with
  | [.int j] => -(2 ^ 62) ≤ j ∧ j < 2 ^ 62 ∧ R (intsD 0 j.toNat) ρ1
  | _ => False
def uRng2 (u : UA) : UI := fun ρ R => u ρ fun ds ρ1 => match ds with
  | [.int i, .int j] => (-(2 ^ 62) ≤ i ∧ i < 2 ^ 62 ∧ -(2 ^ 62) ≤ j ∧ j < 2 ^ 62) ∧ R (intsD i (j - i).toNat) ρ1
  | _ => False
theorem wd_ints {K : PySem.W.Frag} {F : Hp} {lo : Int} {n : Nat} : WD K F (Itr lo n) (intsD lo n) := by
  have w := walk_range (lo := lo) (n := n)
  have e : n = (intsD lo n).length := by simp [intsD]
  have w' : Walk (Itr lo n) (intsD lo n).length (fun _ => True) (YFn fun i => V.int (lo + (i : Nat))) := by rw [← e]; exact w
  refine w'.mono (fun _ _ => trivial) fun i H x H' hi s ⟨e1, e2⟩ => ⟨.int (lo + (i : Nat)), ?_, .inl ⟨e1, by rw [e2]; exact .int _⟩⟩
  rw [← e] at hi
  simp [intsD, hi]
theorem fi_range1 {tg a : Expr} {u : UA} {p pos : Pos} (hg : Gl X "range") (hm : X.mg "range" = none) (ha : FA X [a] u) (hs : starEach [a] X.env = [(false, eval a X.env)] := by rfl) : FI X tg (.Call (.Name "range" p) [a] [] pos) (uRng1 u) := ⟨fun ρ R q F H σ0 σ B Q E g => by
  refine to_I (pi_range1 hg hm pa_S hs) (ha ρ _ q F H σ0 σ B _ E fun ds ρ1 vs F1 H1 z G l => ?_)
  split at z
  · rename_i j
    cases l with
    | cons l1 l2 =>
      cases l1; cases l2
      exact ⟨j, rfl, z.1, z.2.1, g _ _ _ F1 H1 z.2.2 G wd_ints⟩
  · exact z.elim⟩
theorem fi_range2 {tg a b : Expr} {u : UA} {p pos : Pos} (hg : Gl X "range") (hm : X.mg "range" = none) (ha : FA X [a, b] u) (hs : starEach [a, b] X.env = [(false, eval a X.env), (false, eval b X.env)] := by rfl) (hs2 : starEach [b] X.env = [(false, eval b X.env)] := by rfl) :
    FI X tg (.Call (.Name "range" p) [a, b] [] pos) (uRng2 u) := ⟨fun ρ R q F H σ0 σ B Q E g => by
  refine to_I (pi_range2 hg hm pa_S hs hs2) (ha ρ _ q F H σ0 σ B _ E fun ds ρ1 vs F1 H1 z G l => ?_)
  split at z
  · rename_i i j
    cases l with
    | cons l1 l2 =>
      cases l1
      cases l2 with
      | cons l2 l3 =>
        cases l2; cases l3
        exact ⟨i, j, rfl, z.1, g _ _ _ F1 H1 z.2 G wd_ints⟩
  · exact z.elim⟩
/-- enumerate of a list -/
def nums (ds : List D) : List D := (List.range ds.length).map fun (i : Nat) => D.tup [.int (i : Int), ds.getD i .non]
def uEnum (u : UA) : UI := fun ρ R => u ρ fun ds ρ1 => match ds with
  | [.lst l] => R (nums l) ρ1
  | _ => False
theorem fi_enum {e : Expr} {u : UA} {p pos tpos : Pos} {elts : List Expr} {kk : Nat} (hg : Gl X "enumerate") (hm : X.mg "enumerate" = none) (ha : FA X [e] u) (hs : starEach [e] X.env = [(false, eval e X.env)] := by rfl) :
    FI X (.Tuple elts kk tpos) (.Call (.Name "enumerate" p) [e] [] pos) (uEnum u) := ⟨fun ρ R q F H σ0 σ B Q E g => by
  refine to_I (pi_enum hg hm pa_S hs) (ha ρ _ q F H σ0 σ B _ E fun ds ρ1 vs F1 H1 z G l => ?_)
  split at z
  case h_2 => exact z.elim
  rename_i ds
  cases l with
  | cons l0 l9 =>
  cases l9
  cases l0 with
  | @lst a vs _ h1 l =>
    refine ⟨a, vs, rfl, .of (G.er.sub _ _ h1), g _ _ _ F1 H1 z G ?_⟩
    have w := walk_enum (K := X.K) (a := a) (xs := vs)
    have e : vs.length = (nums ds).length := by simp [nums, l.len]
    rw [e] at w
    refine w.mono (fun H s => .of (s _ _ h1)) fun i H x H' hi s ⟨t, x1, y1, e1, e2, e3, e4, e5⟩ => ?_
    obtain ⟨d', ed, rd'⟩ := l.get e5
    have hi' : i < ds.length := (List.getElem?_eq_some_iff.mp ed).1
    refine ⟨.tup [.int (i : Int), d'], ?_, .inr ⟨t, .tup [x1, y1], e3, e2, fun F' s' nF => ?_⟩⟩
    · have ed2 : ds[i] = d' := by
        have := List.getElem?_eq_getElem hi'
        rw [ed] at this
        exact (Option.some.inj this).symm
      simp [nums, hi', ed2]
    · cases e4
      subst e1
      have s2 : Same F' (upd F' t (.tup [.int (i : Nat), y1])) := fun b u q => by rw [upd_ne (ne_of_none q nF)]; exact q
      exact .tup upd_same (.cons (.int _) (.cons (rd'.mono (s'.trans s2)) .nil))⟩
end
end YP
set_option maxRecDepth 100000
/-! The yard's pure layer, part 4: defs and their calls. -/
namespace YP
open PySem PySem.Spec PyProof.Rows L2

/-! ### arguments: what stays, one's own, what a slot holds -/
def RRs (K : PySem.W.Frag) (F H : Hp) (ρ : List Sl) (σ : L2.St) : (Addr → Prop) → List Rv → List V → Prop
  | _, [], [] => True
  | B, r :: rs, v :: vs => RR K F H ρ σ B r v ∧ RRs K F H ρ σ (hB B r v) rs vs
  | _, _, _ => False
abbrev UR := List Sl → (List Rv → List Sl → Prop) → Prop
structure FR (X : Cx) (es : List Expr) (u : UR) : Prop where
  run : ∀ (ρ : List Sl) (R : List Rv → List Sl → Prop), u ρ R → ∀ (F H : Hp) (σ0 σ : L2.St) (B : Addr → Prop) (Q : List V → Hp → Prop), ER X.K F H σ0 ρ σ B →
    (∀ rs ρ' vs F' H', R rs ρ' → Gd X.K F H F' H' σ0 ρ' σ B → RRs X.K F' H' ρ' σ B rs vs → rs.length = es.length → Q vs H') → tA X es σ H Q
instance {X : Cx} {es : List Expr} {u : UR} : CoeFun (FR X es u) (fun _ => ∀ (ρ : List Sl) (R : List Rv → List Sl → Prop), u ρ R → ∀ (F H : Hp) (σ0 σ : L2.St) (B : Addr → Prop) (Q : List V → Hp → Prop), ER X.K F H σ0 ρ σ B →
  (∀ rs ρ' vs F' H', R rs ρ' → Gd X.K F H F' H' σ0 ρ' σ B → RRs X.K F' H' ρ' σ B rs vs → rs.length = es.length → Q vs H') → tA X es σ H Q) := ⟨FR.run⟩
section
variable {X : Cx} {e a : Expr} {ua : UE} {F H : Hp} {σ0 σ : L2.St} {ρ : List Sl} {B : Addr → Prop}
def uRNil : UR := fun ρ R => R [] ρ
/-- kept as it is -/
def uRRef (ue : UE) (u : UR) : UR := fun ρ R => ue ρ fun r ρ1 => u ρ1 fun rs ρ2 => R (r :: rs) ρ2
/-- it stays from now on -/
def uRVal (ue : UE) (u : UR) : UR := fun ρ R => ue ρ fun r ρ1 => wv ρ1 r fun d => u (frz ρ1 r) fun rs ρ2 => R (.val d :: rs) ρ2
theorem fr_nil : FR X [] uRNil := ⟨fun ρ R q F H σ0 σ B Q E g => to_A pa_nil (g [] ρ [] F H q ⟨.refl _ _ _, E⟩ trivial rfl)⟩
theorem fr_ref {es : List Expr} {u : UR} (ha : FE X a ua) (hr : FR X es u) (hs : starEach (a :: es) X.env = (false, eval a X.env) :: starEach es X.env := by rfl) : FR X (a :: es) (uRRef ua u) := ⟨fun ρ R q F H σ0 σ B Q E g =>
  to_A (pa_cons pe_S pa_S hs) (ha ρ _ q F H σ0 σ B _ E fun r ρ1 v F1 H1 z G =>
    hr ρ1 _ z F1 H1 σ0 σ (hB B r v) _ (G.er.hold G.rr) fun rs ρ2 vs F2 H2 y G2 l ll =>
      g (r :: rs) ρ2 (v :: vs) F2 H2 y ⟨G.nx.trans (G2.nx.mono hB_sub), G2.er.unhold⟩ ⟨G.rr.held G.er G2.er G2.nx, l⟩ (congrArg (· + 1) ll))⟩
theorem fr_val {es : List Expr} {u : UR} (ha : FE X a ua) (hr : FR X es u) (hs : starEach (a :: es) X.env = (false, eval a X.env) :: starEach es X.env := by rfl) : FR X (a :: es) (uRVal ua u) := ⟨fun ρ R q F H σ0 σ B Q E g =>
  to_A (pa_cons pe_S pa_S hs) (ha ρ _ q F H σ0 σ B _ E fun r ρ1 v F1 H1 z G => by
    obtain ⟨F2, d, n2, E2, rd, z⟩ := G.er.freeze G.rr z
    exact hr _ _ z F2 H1 σ0 σ B _ E2 fun rs ρ3 vs F3 H3 y G3 l ll => g (.val d :: rs) ρ3 (v :: vs) F3 H3 y ⟨G.nx.trans (n2.trans G3.nx), G3.er⟩ ⟨rd.mono G3.nx.fz, l⟩ (congrArg (· + 1) ll))⟩
end

/-- the slots that are handed in -/
def ats : List Rv → List Nat
  | [] => []
  | .at i :: rs => i :: ats rs
  | _ :: rs => ats rs
def slOf (ρ : List Sl) : Rv → Sl
  | .val d => .sl false false d
  | .own d => .sl true false d
  | .at i => match ρ[i]? with
    | some (.sl o _ d) => .sl o false d
    | _ => .un
def wb1 (s : Sl) (t : Option Sl) : Sl := match s, t with
  | .sl o _ d, some (.sl _ p _) => .sl o p d
  | _, _ => .un
/-- the caller's slots behind a call -/
def wb (ρ : List Sl) : List Rv → List Sl → List Sl
  | .at i :: rs, s :: ss => (wb ρ rs ss).set i (wb1 s ρ[i]?)
  | _ :: rs, _ :: ss => wb ρ rs ss
  | _, _ => ρ
abbrev UF := List Sl → (Rv → List Sl → Prop) → Prop
/-- the promise of a def: slots of its parameters in, the result and these slots out -/
def PSp (K : PySem.W.Frag) (n : Nat) (u : UF) : Sp := fun vs H Q _ => ∃ ρ F B R, ρ.length = n ∧ vs.length = n ∧ ER K F H [] ρ (vs.map some) B ∧ u ρ R ∧
  ∀ r ρ' v F' H', R r ρ' → Nx F H F' H' B → ER K F' H' [] ρ' (vs.map some) B → RR K F' H' ρ' (vs.map some) B r v → (∀ i, r ≠ .at i) → Q v H'
def uCall (u : UF) (ua : UR) : UE := fun ρ R => ua ρ fun rs ρ1 => (ats rs).Nodup ∧ u (rs.map (slOf ρ1)) fun r ss => R r (wb ρ1 rs ss)

section
variable {K : PySem.W.Frag} {F F' H H' : Hp} {σ0 σ : L2.St} {ρ : List Sl} {B : Addr → Prop}
theorem RRs.len : ∀ {B : Addr → Prop} {rs : List Rv} {vs : List V}, RRs K F H ρ σ B rs vs → rs.length = vs.length
  | _, [], [], _ => rfl
  | _, _ :: _, _ :: _, h => congrArg (· + 1) (RRs.len h.2)
  | _, [], _ :: _, h => h.elim
  | _, _ :: _, [], h => h.elim
theorem RRs.at_ : ∀ {B : Addr → Prop} {rs : List Rv} {vs : List V} {i : Nat} {r : Rv} {v : V}, RRs K F H ρ σ B rs vs → rs[i]? = some r → vs[i]? = some v → RR K F H ρ σ B r v
  | _, [], _, _, _, _, _, e, _ => nomatch e
  | _, _ :: _, [], _, _, _, h, _, _ => h.elim
  | _, _ :: _, _ :: _, 0, _, _, h, e, k => by cases e; cases k; exact h.1
  | B, r0 :: rs, v0 :: vs, i + 1, r, v, h, e, k => (RRs.at_ (i := i) h.2 e k).weak hB_sub
theorem RRs.apart : ∀ {B : Addr → Prop} {rs : List Rv} {vs : List V} {i j : Nat} {d e : D} {a : Addr}, RRs K F H ρ σ B rs vs → i < j → rs[i]? = some (.own d) → rs[j]? = some (.own e) → vs[i]? = some (.ref a) → vs[j]? = some (.ref a) → False
  | _, [], _, _, _, _, _, _, _, _, e, _, _, _ => nomatch e
  | _, _ :: _, [], _, _, _, _, _, h, _, _, _, _, _ => h.elim
  | _, _ :: _, _ :: _, _, 0, _, _, _, _, l, _, _, _, _ => absurd l (Nat.not_lt_zero _)
  | B, r0 :: rs, v0 :: vs, 0, j + 1, d, e, a, h, _, e1, e2, e3, e4 => by
    cases e1; cases e3
    obtain ⟨b, eb, _, _, nb, _⟩ := RRs.at_ (i := j) h.2 e2 e4
    cases eb
    exact nb (.inr rfl)
  | B, r0 :: rs, v0 :: vs, i + 1, j + 1, d, e, a, h, l, e1, e2, e3, e4 => RRs.apart (i := i) (j := j) h.2 (Nat.lt_of_succ_lt_succ l) e1 e2 e3 e4
theorem ats_mem : ∀ {rs : List Rv} {i k : Nat}, rs[k]? = some (.at i) → i ∈ ats rs
  | [], _, _, e => nomatch e
  | r :: rs, i, 0, e => by cases e; exact List.mem_cons_self
  | r :: rs, i, k + 1, e => by
    have h := ats_mem (rs := rs) (i := i) (k := k) e
    cases r <;> first | exact h | exact List.mem_cons_of_mem _ h
theorem ats_inj : ∀ {rs : List Rv} {i k l : Nat}, (ats rs).Nodup → rs[k]? = some (.at i) → rs[l]? = some (.at i) → k = l
  | [], _, _, _, _, e, _ => nomatch e
  | r :: rs, i, 0, 0, _, _, _ => rfl
  | r :: rs, i, 0, l + 1, n, e, f => by
    cases e
    exact absurd (ats_mem (rs := rs) (k := l) f) (List.nodup_cons.mp n).1
  | r :: rs, i, k + 1, 0, n, e, f => by
    cases f
    exact absurd (ats_mem (rs := rs) (k := k) e) (List.nodup_cons.mp n).1
  | r :: rs, i, k + 1, l + 1, n, e, f => by
    have n' : (ats rs).Nodup := by cases r <;> first | exact n | exact (List.nodup_cons.mp n).2
    exact congrArg (· + 1) (ats_inj (rs := rs) n' e f)
theorem wb_len : ∀ (rs : List Rv) (ss : List Sl), (wb ρ rs ss).length = ρ.length
  | [], _ => rfl
  | r :: rs, [] => by cases r <;> rfl
  | r :: rs, s :: ss => by
    cases r with
    | «at» i => show ((wb ρ rs ss).set i _).length = _; rw [List.length_set, wb_len rs ss]
    | val d => exact wb_len rs ss
    | own d => exact wb_len rs ss
theorem wb_out : ∀ {rs : List Rv} {ss : List Sl} {j : Nat}, j ∉ ats rs → (wb ρ rs ss)[j]? = ρ[j]?
  | [], _, _, _ => rfl
  | r :: rs, [], _, _ => by cases r <;> rfl
  | r :: rs, s :: ss, j, h => by
    cases r with
    | «at» i =>
      show ((wb ρ rs ss).set i _)[j]? = _
      have hj : j ≠ i := fun z => h (by rw [z]; exact List.mem_cons_self)
      rw [List.getElem?_set_ne (Ne.symm hj)]
      exact wb_out fun z => h (List.mem_cons_of_mem _ z)
    | val d => exact wb_out (rs := rs) h
    | own d => exact wb_out (rs := rs) h
theorem wb_in : ∀ {rs : List Rv} {ss : List Sl} {j k : Nat} {s : Sl}, (ats rs).Nodup → rs[k]? = some (.at j) → ss[k]? = some s → j < ρ.length → (wb ρ rs ss)[j]? = some (wb1 s ρ[j]?)
  | [], _, _, _, _, _, e, _, _ => nomatch e
  | r :: rs, [], _, _, _, _, _, e, _ => nomatch e
  | r :: rs, s0 :: ss, j, 0, s, n, e, f, l => by
    cases e; cases f
    show ((wb ρ rs ss).set j _)[j]? = _
    rw [List.getElem?_set_self (by rw [wb_len]; exact l)]
  | r :: rs, s0 :: ss, j, k + 1, s, n, e, f, l => by
    have n' : (ats rs).Nodup := by cases r <;> first | exact n | exact (List.nodup_cons.mp n).2
    have h := wb_in (rs := rs) (ss := ss) (k := k) n' e f l
    cases r with
    | «at» i =>
      show ((wb ρ rs ss).set i _)[j]? = _
      have hj : j ≠ i := fun z => by subst z; exact (List.nodup_cons.mp n).1 (ats_mem (rs := rs) (k := k) e)
      rw [List.getElem?_set_ne (Ne.symm hj)]; exact h
    | val d => exact h
    | own d => exact h
/-- an index among those handed in -/
theorem mem_ats : ∀ {rs : List Rv} {j : Nat}, j ∈ ats rs → ∃ k : Nat, rs[k]? = some (Rv.at j)
  | [], _, h => nomatch h
  | r :: rs, j, h => by
    cases r with
    | «at» i =>
      rcases List.mem_cons.mp h with z | z
      · subst z; exact ⟨0, rfl⟩
      · obtain ⟨k, e⟩ := mem_ats (rs := rs) z; exact ⟨k + 1, e⟩
    | val d => obtain ⟨k, e⟩ := mem_ats (rs := rs) h; exact ⟨k + 1, e⟩
    | own d => obtain ⟨k, e⟩ := mem_ats (rs := rs) h; exact ⟨k + 1, e⟩
/-- what the callee may not change -/
def bB (B : Addr → Prop) (ρ : List Sl) (σ : L2.St) (rs : List Rv) : Addr → Prop := fun c => B c ∨ ∃ (j : Nat) (p : Bool) (d : D), ρ[j]? = some (Sl.sl true p d) ∧ j ∉ ats rs ∧ σ[j]? = some (some (.ref c))
theorem sl_own {r : Rv} {d : D} {p : Bool} (h : slOf ρ r = .sl true p d) : p = false ∧ (r = .own d ∨ ∃ i q, r = .at i ∧ ρ[i]? = some (.sl true q d)) := by
  cases r with
  | val e => cases h
  | own e => cases h; exact ⟨rfl, .inl rfl⟩
  | «at» i =>
    cases z : ρ[i]? with
    | none => simp only [slOf, z] at h; cases h
    | some s =>
      cases s with
      | un => simp only [slOf, z] at h; cases h
      | sl o q e => simp only [slOf, z] at h; cases h; exact ⟨rfl, .inr ⟨i, q, rfl, z⟩⟩
theorem sl_val {r : Rv} {d : D} {p : Bool} (h : slOf ρ r = .sl false p d) : p = false ∧ (r = .val d ∨ ∃ i q, r = .at i ∧ ρ[i]? = some (.sl false q d)) := by
  cases r with
  | val e => cases h; exact ⟨rfl, .inl rfl⟩
  | own e => cases h
  | «at» i =>
    cases z : ρ[i]? with
    | none => simp only [slOf, z] at h; cases h
    | some s =>
      cases s with
      | un => simp only [slOf, z] at h; cases h
      | sl o q e => simp only [slOf, z] at h; cases h; exact ⟨rfl, .inr ⟨i, q, rfl, z⟩⟩
/-- into the callee -/
theorem ER.into {rs : List Rv} {vs : List V} (E : ER K F H σ0 ρ σ B) (h : RRs K F H ρ σ B rs vs) (n : (ats rs).Nodup) : ER K F H [] (rs.map (slOf ρ)) (vs.map some) (bB B ρ σ rs) := by
  have lv := h.len
  have gv : ∀ (i : Nat) s, (rs.map (slOf ρ))[i]? = some s → ∃ r v, rs[i]? = some r ∧ slOf ρ r = s ∧ vs[i]? = some v ∧ (vs.map some)[i]? = some (some v) := fun i s e => by
    rw [List.getElem?_map] at e
    cases q : rs[i]? with
    | none => rw [q] at e; cases e
    | some r =>
      rw [q] at e
      have hi : i < rs.length := (List.getElem?_eq_some_iff.mp q).1
      have e3 : vs[i]? = some (vs[i]'(by omega)) := List.getElem?_eq_getElem (by omega)
      refine ⟨r, vs[i]'(by omega), rfl, Option.some.inj e, e3, ?_⟩
      rw [List.getElem?_map, e3]; rfl
  have ow : ∀ (i : Nat) (p : Bool) (d : D), (rs.map (slOf ρ))[i]? = some (Sl.sl true p d) → ∃ r a, rs[i]? = some r ∧ vs[i]? = some (.ref a) ∧ (vs.map some)[i]? = some (some (.ref a)) ∧ RO K F H (.ref a) d ∧ F a = none ∧ ¬ B a ∧
      ((r = .own d ∧ ∀ (j : Nat) q e, ρ[j]? = some (Sl.sl true q e) → σ[j]? ≠ some (some (.ref a))) ∨ ∃ j q, r = .at j ∧ ρ[j]? = some (.sl true q d) ∧ σ[j]? = some (some (.ref a))) := fun i p d e => by
    obtain ⟨r, v, e1, e2, e3, e4⟩ := gv i _ e
    have rr := h.at_ e1 e3
    rcases (sl_own e2).2 with rfl | ⟨j, q, rfl, z⟩
    · obtain ⟨a, rfl, ro, x, y, w⟩ := rr
      exact ⟨_, a, e1, e3, e4, ro, x, y, .inl ⟨rfl, w⟩⟩
    · have rr' : σ[j]? = some (some v) := rr
      obtain ⟨a, e5, ro, x, y⟩ := E.ow j q d z
      rw [rr'] at e5; cases e5
      exact ⟨_, a, e1, e3, e4, ro, x, y, .inr ⟨j, q, rfl, z, rr'⟩⟩
  refine ⟨by simp [lv], E.sub, fun i p d e => ?_, fun i p d e => ?_, fun i j a p q d e h1 h2 h3 h4 => ?_, fun i o d e => ?_, fun c hc => ?_⟩
  · obtain ⟨r, v, e1, e2, e3, e4⟩ := gv i _ e
    have rr := h.at_ e1 e3
    rcases (sl_val e2).2 with rfl | ⟨j, q, rfl, z⟩
    · exact ⟨v, e4, rr⟩
    · have rr' : σ[j]? = some (some v) := rr
      obtain ⟨u, e5, rd⟩ := E.fz j q d z
      rw [rr'] at e5; cases e5
      exact ⟨v, e4, rd⟩
  · obtain ⟨r, a, e1, e3, e4, ro, x, y, w⟩ := ow i p d e
    refine ⟨a, e4, ro, x, fun hb => ?_⟩
    rcases hb with hb | ⟨j, q, f, z1, z2, z3⟩
    · exact y hb
    · rcases w with ⟨rfl, w⟩ | ⟨k, q', rfl, z4, z5⟩
      · exact w j q f z1 z3
      · have := E.inj j k a q q' f d z1 z4 z3 z5
        subst this
        exact z2 (ats_mem e1)
  · obtain ⟨r1, a1, e1, e3, e4, ro, x, y, w⟩ := ow i p d h1
    obtain ⟨r2, a2, f1, f3, f4, ro2, x2, y2, w2⟩ := ow j q e h2
    rw [e4] at h3; cases h3
    rw [f4] at h4; cases h4
    rcases w with ⟨rfl, w⟩ | ⟨k, q1, rfl, z1, z2⟩
    · rcases w2 with ⟨rfl, w2⟩ | ⟨l, q2, rfl, z3, z4⟩
      · rcases Nat.lt_trichotomy i j with l | l | l
        · exact (h.apart l e1 f1 e3 f3).elim
        · exact l
        · exact (h.apart l f1 e1 f3 e3).elim
      · exact absurd z4 (w l q2 e z3)
    · rcases w2 with ⟨rfl, w2⟩ | ⟨l, q2, rfl, z3, z4⟩
      · exact absurd z2 (w2 k q1 d z1)
      · have := E.inj k l a q1 q2 d e z1 z3 z2 z4
        subst this
        exact ats_inj n e1 f1
  · obtain ⟨r, v, e1, e2, e3, e4⟩ := gv i _ e
    cases o with
    | false => cases (sl_val e2).1
    | true => cases (sl_own e2).1
  · rcases hc with hc | ⟨j, q, f, z1, z2, z3⟩
    · exact E.out c hc
    · obtain ⟨a, e5, ro, x, y⟩ := E.ow j q f z1
      rw [z3] at e5; cases e5
      obtain ⟨_, o, e6, e7⟩ := ro.there
      cases e6
      exact ⟨by rw [e7]; exact fun z => (nomatch z), x⟩
/-- back from the callee -/
theorem ER.behind {rs : List Rv} {vs : List V} {ss : List Sl} {r : Rv} {v : V} (E : ER K F H σ0 ρ σ B) (h : RRs K F H ρ σ B rs vs) (n : (ats rs).Nodup) (nx : Nx F H F' H' (bB B ρ σ rs))
    (E' : ER K F' H' [] ss (vs.map some) (bB B ρ σ rs)) (rr : RR K F' H' ss (vs.map some) (bB B ρ σ rs) r v) (na : ∀ i, r ≠ .at i) : Gt K F H F' H' σ0 (wb ρ rs ss) σ B r v := by
  have lv := h.len
  have ls : ss.length = rs.length := by rw [E'.len, List.length_map, lv]
  -- a slot behind the call
  have wh : ∀ (j : Nat) o p d, (wb ρ rs ss)[j]? = some (Sl.sl o p d) → (j ∉ ats rs ∧ ρ[j]? = some (.sl o p d)) ∨
      ∃ (k : Nat) (q o' : Bool) (d' : D) (u : V), rs[k]? = some (.at j) ∧ ss[k]? = some (.sl o q d) ∧ ρ[j]? = some (.sl o' p d') ∧ vs[k]? = some u ∧ (vs.map some)[k]? = some (some u) ∧ σ[j]? = some (some u) := fun j o p d e => by
    by_cases hj : j ∈ ats rs
    · obtain ⟨k, ek⟩ := mem_ats hj
      have hk : k < rs.length := (List.getElem?_eq_some_iff.mp ek).1
      have es : ss[k]? = some (ss[k]'(by omega)) := List.getElem?_eq_getElem (by omega)
      have ev : vs[k]? = some (vs[k]'(by omega)) := List.getElem?_eq_getElem (by omega)
      by_cases hl : j < ρ.length
      · rw [wb_in n ek es hl] at e
        have e := Option.some.inj e
        have rj : σ[j]? = some (some (vs[k]'(by omega))) := h.at_ ek ev
        generalize ss[k]'(by omega) = s at es e
        cases s with
        | un => simp only [wb1] at e; cases e
        | sl o2 q2 d2 =>
          cases zr : ρ[j]? with
          | none => rw [zr] at e; simp only [wb1] at e; cases e
          | some t =>
            cases t with
            | un => rw [zr] at e; simp only [wb1] at e; cases e
            | sl o3 p3 d3 =>
              rw [zr] at e; simp only [wb1] at e
              cases e
              exact .inr ⟨k, q2, o3, d3, _, ek, es, rfl, ev, by rw [List.getElem?_map, ev]; rfl, rj⟩
      · rw [List.getElem?_eq_none (by rw [wb_len]; omega)] at e; cases e
    · rw [wb_out hj] at e; exact .inl ⟨hj, e⟩
  have ow : ∀ (j : Nat) p d, (wb ρ rs ss)[j]? = some (Sl.sl true p d) → ∃ a, σ[j]? = some (some (.ref a)) ∧ RO K F' H' (.ref a) d ∧ F' a = none ∧ ¬ B a ∧
      ((j ∉ ats rs ∧ ρ[j]? = some (.sl true p d)) ∨ ∃ (k : Nat) (q : Bool), rs[k]? = some (.at j) ∧ ss[k]? = some (.sl true q d) ∧ (vs.map some)[k]? = some (some (.ref a)) ∧ ¬ bB B ρ σ rs a) := fun j p d e => by
    rcases wh j _ _ _ e with ⟨hj, z⟩ | ⟨k, q, o', d', u, ek, es, _, ev, em, ej⟩
    · obtain ⟨a, e1, ro, x, y⟩ := E.ow j p d z
      have ba : bB B ρ σ rs a := .inr ⟨j, p, d, z, hj, e1⟩
      exact ⟨a, e1, ro.keep nx.fz (nx.out a ba), (E'.out a ba).2, y, .inl ⟨hj, z⟩⟩
    · obtain ⟨a, e1, ro, x, y⟩ := E'.ow k q d es
      rw [em] at e1; cases e1
      exact ⟨a, ej, ro, x, fun hb => y (.inl hb), .inr ⟨k, q, ek, es, em, y⟩⟩
  have er : ER K F' H' σ0 (wb ρ rs ss) σ B := by
    refine ⟨by rw [wb_len]; exact E.len, E'.sub, fun j p d e => ?_, fun j p d e => ?_, fun i j a p q d e h1 h2 h3 h4 => ?_, fun j o d e => ?_, fun c hc => ⟨?_, (E'.out c (.inl hc)).2⟩⟩
    · rcases wh j _ _ _ e with ⟨hj, z⟩ | ⟨k, q, o', d', u, ek, es, _, ev, em, ej⟩
      · obtain ⟨u, e1, rd⟩ := E.fz j p d z
        exact ⟨u, e1, rd.mono nx.fz⟩
      · obtain ⟨u', e1, rd⟩ := E'.fz k q d es
        rw [em] at e1; cases e1
        exact ⟨u, ej, rd⟩
    · obtain ⟨a, x, y, z, w, _⟩ := ow j p d e
      exact ⟨a, x, y, z, w⟩
    · obtain ⟨a1, x1, _, _, _, w1⟩ := ow i p d h1
      obtain ⟨a2, x2, _, _, _, w2⟩ := ow j q e h2
      rw [x1] at h3; cases h3
      rw [x2] at h4; cases h4
      rcases w1 with ⟨n1, z1⟩ | ⟨k, q1, z1, z2, z3, z4⟩
      · rcases w2 with ⟨n2, y1⟩ | ⟨l, q2, y1, y2, y3, y4⟩
        · exact E.inj i j a p q d e z1 y1 x1 x2
        · exact absurd (Or.inr ⟨i, p, d, z1, n1, x1⟩) y4
      · rcases w2 with ⟨n2, y1⟩ | ⟨l, q2, y1, y2, y3, y4⟩
        · exact absurd (Or.inr ⟨j, q, e, y1, n2, x2⟩) z4
        · have := E'.inj k l a q1 q2 d e z2 y2 z3 y3
          subst this
          rw [z1] at y1; cases y1; rfl
    · rcases wh j _ _ _ e with ⟨hj, z⟩ | ⟨k, q, o', d', u, ek, es, z, ev, em, ej⟩
      · exact E.par j o d z
      · exact E.par j o' d' z
    · rw [nx.out c (.inl hc)]; exact (E.out c hc).1
  refine ⟨nx.mono fun c => .inl, er, ?_⟩
  cases r with
  | val d => exact rr
  | «at» i => exact absurd rfl (na i)
  | own d =>
    obtain ⟨a, rfl, ro, x, y, w⟩ := rr
    refine ⟨a, rfl, ro, x, fun hb => y (.inl hb), fun j p e h1 h2 => ?_⟩
    obtain ⟨a1, x1, _, _, _, w1⟩ := ow j p e h1
    rw [x1] at h2; cases h2
    rcases w1 with ⟨n1, z1⟩ | ⟨k, q1, z1, z2, z3, z4⟩
    · exact y (.inr ⟨j, p, e, z1, n1, x1⟩)
    · exact w k q1 e z2 z3
end

/-- a call of a def -/
theorem fe_call {X : Cx} {ea : Expr} {es : List Expr} {pf pos : Pos} {x : Str} {u : UF} {ua : UR} {k : Nat} {f : Addr} {fd : FuncData} {ps : List Str} (Fn : FnOk X.prog X.w X.K X.mg X.base CX0 k f fd ps (PSp X.K ps.length u)) (hr : Room k X.A) (hg : Gl X x) (hm : X.mg x = some (.ref f)) (hk : PySem.W.keepIn X.K (.ref f) = true) (hb : Binds X.K fd ps [])
    (ha : FR X (ea :: es) ua) (hn : (ea :: es).length = ps.length := by rfl) (hdb : (x == ("__debug__" : Str)) = false := by decide) (he : starEach (ea :: es) X.env = (false, eval ea X.env) :: starEach es X.env := by rfl) (hpl : (backTo pos (starEach es X.env)).any (·.1) = false := by rfl) :
    FE X (.Call (.Name x pf) (ea :: es) [] pos) (uCall u ua) := ⟨fun ρ R q F H σ0 σ B Q E g => by
  refine to_S (pe_call Fn hr hg hm hk hb .nil (E := fun _ _ _ => False) pass0 pa_S hdb he hpl) (ha ρ _ q F H σ0 σ B _ E fun rs ρ1 vs F1 H1 ⟨n1, z⟩ G l ll => ?_)
  have ln := ll.trans hn
  have lv := l.len
  refine ⟨_, F1, bB B ρ1 σ rs, _, by rw [List.length_map]; exact ln, by rw [List.length_append, ← lv, ln]; rfl, by rw [List.append_nil]; exact G.er.into l n1, z, fun r ss v F' H' y nx E' rr na => ?_⟩
  rw [List.append_nil] at E' rr
  have G' := G.er.behind l n1 nx E' rr na
  exact g r _ v F' H' y ⟨G.nx.trans G'.nx, G'.er, G'.rr⟩⟩
end YP
set_option maxRecDepth 100000
/-! The yard's pure layer, part 5: a def's body. -/
namespace YP
open PySem PySem.Spec PyProof.Rows L2

def mark : Sl → Sl
  | .sl o _ d => .sl o true d
  | .un => .un
def enter (N : Nat) (ρ : List Sl) : List Sl := ρ.map mark ++ List.replicate (N - ρ.length) .un
def unmark : Sl → Sl
  | .sl o true d => .sl o false d
  | _ => .un
def back : Nat → List Sl → List Sl
  | 0, _ => []
  | n + 1, [] => .un :: back n []
  | n + 1, s :: ρ => unmark s :: back n ρ
/-- a result as it leaves the def -/
def fin (ρ : List Sl) (r : Rv) (k : Rv → List Sl → Prop) : Prop := match r with
  | .at i => match ρ[i]? with
    | some (.sl true false d) => k (.own d) ρ
    | some (.sl true true d) => k (.val d) (ρ.set i (.sl false true d))
    | some (.sl false _ d) => k (.val d) ρ
    | _ => False
  | r => k r ρ
section
variable {K : PySem.W.Frag} {F F' H H' : Hp} {σ0 σ : L2.St} {ρ : List Sl} {B : Addr → Prop} {n : Nat}
theorem back_len : ∀ (n : Nat) (ρ : List Sl), (back n ρ).length = n
  | 0, _ => rfl
  | n + 1, [] => congrArg (· + 1) (back_len n [])
  | n + 1, _ :: ρ => congrArg (· + 1) (back_len n ρ)
theorem back_get {o p : Bool} {d : D} : ∀ {n i : Nat} {ρ : List Sl}, (back n ρ)[i]? = some (Sl.sl o p d) → i < n ∧ p = false ∧ ρ[i]? = some (.sl o true d)
  | 0, _, _, h => nomatch h
  | n + 1, 0, [], h => nomatch h
  | n + 1, i + 1, [], h => by
    obtain ⟨a, b, c⟩ := back_get (n := n) (i := i) (ρ := []) h
    exact nomatch c
  | n + 1, 0, s :: ρ, h => by
    have h : some (unmark s) = some (Sl.sl o p d) := h
    have h := Option.some.inj h
    cases s with
    | un => cases h
    | sl o' p' d' => cases p' <;> cases h; exact ⟨by omega, rfl, rfl⟩
  | n + 1, i + 1, s :: ρ, h => by
    obtain ⟨a, b, c⟩ := back_get (n := n) (i := i) (ρ := ρ) h
    exact ⟨by omega, b, c⟩
theorem ER.back (E : ER K F H σ0 ρ σ B) (hn : n = σ0.length) : ER K F H [] (back n ρ) σ0 B := by
  refine ⟨by rw [back_len]; exact hn, E.sub, fun i p d h => ?_, fun i p d h => ?_, fun i j a p q d e h1 h2 h3 h4 => ?_, fun i o d h => ?_, E.out⟩
  · obtain ⟨_, _, z⟩ := back_get h
    rw [← E.par i _ d z]
    exact E.fz i true d z
  · obtain ⟨_, _, z⟩ := back_get h
    rw [← E.par i _ d z]
    exact E.ow i true d z
  · obtain ⟨_, _, z⟩ := back_get h1
    obtain ⟨_, _, y⟩ := back_get h2
    rw [← E.par i _ d z] at h3
    rw [← E.par j _ e y] at h4
    exact E.inj i j a _ _ d e z y h3 h4
  · obtain ⟨_, y, _⟩ := back_get h
    cases y
theorem fin_ok {r : Rv} {v : V} {k : Rv → List Sl → Prop} (E : ER K F H σ0 ρ σ B) (rr : RR K F H ρ σ B r v) (h : fin ρ r k) (hn : n = σ0.length) :
    ∃ F' r' ρ', k r' ρ' ∧ Nx F H F' H B ∧ ER K F' H [] (back n ρ') σ0 B ∧ RR K F' H (back n ρ') σ0 B r' v ∧ ∀ i, r' ≠ .at i := by
  cases r with
  | val d => exact ⟨F, _, ρ, h, .refl _ _ _, E.back hn, rr, fun _ z => nomatch z⟩
  | own d =>
    refine ⟨F, _, ρ, h, .refl _ _ _, E.back hn, ?_, fun _ z => nomatch z⟩
    obtain ⟨a, x, ro, y, z, w⟩ := rr
    refine ⟨a, x, ro, y, z, fun i p e q => ?_⟩
    obtain ⟨_, _, z⟩ := back_get q
    rw [← E.par i _ e z]
    exact w i _ e z
  | «at» i =>
    unfold fin at h
    dsimp only at h
    have rr' : σ[i]? = some (some v) := rr
    cases q : ρ[i]? with
    | none => rw [q] at h; exact h.elim
    | some s =>
      cases s with
      | un => rw [q] at h; exact h.elim
      | sl o p d =>
        cases o with
        | false =>
          rw [q] at h
          obtain ⟨u, e, rd⟩ := E.fz i p d q
          rw [rr'] at e; cases e
          refine ⟨F, _, ρ, ?_, .refl _ _ _, E.back hn, (show RR K F H _ _ B (.val d) v from rd), fun _ z => nomatch z⟩
          cases p <;> exact h
        | true =>
          cases p with
          | false =>
            rw [q] at h
            obtain ⟨a, e, ro, x, y⟩ := E.ow i _ d q
            rw [rr'] at e; cases e
            refine ⟨F, _, ρ, h, .refl _ _ _, E.back hn, ⟨a, rfl, ro, x, y, fun j p e z w => ?_⟩, fun _ z => nomatch z⟩
            obtain ⟨_, _, z2⟩ := back_get z
            rw [← E.par j _ e z2] at w
            have := E.inj j i a _ _ e d z2 q w rr'
            subst this
            rw [z2] at q; cases q
          | true =>
            rw [q] at h
            have w : wv ρ (.at i) (fun e => e = d) := by simp only [wv, q]
            obtain ⟨F', d', nx, E', rd, rfl⟩ := E.freeze rr w
            have fe : frz ρ (.at i) = ρ.set i (Sl.sl false true d') := by simp only [frz, q]
            rw [fe] at E'
            exact ⟨F', _, _, h, nx, E'.back hn, (show RR K F' H _ _ B (.val d') v from rd), fun _ z => nomatch z⟩
theorem ER.enter {vs : List V} {N : List Str} (E : ER K F H [] ρ (vs.map some) B) : ER K F H (vs.map some) (enter N.length ρ) (L2.start N vs) B := by
  have lv : ρ.length = vs.length := by have := E.len; rwa [List.length_map] at this
  have g : ∀ (i : Nat) o p d, (YP.enter N.length ρ)[i]? = some (Sl.sl o p d) → i < ρ.length ∧ (∃ p', ρ[i]? = some (.sl o p' d)) ∧ (L2.start N vs)[i]? = (vs.map some)[i]? := fun i o p d e => by
    unfold YP.enter at e
    by_cases hi : i < ρ.length
    · rw [List.getElem?_append_left (by rw [List.length_map]; exact hi), List.getElem?_map] at e
      cases q : ρ[i]? with
      | none => rw [q] at e; cases e
      | some s =>
        rw [q] at e
        have e := Option.some.inj e
        cases s with
        | un => cases e
        | sl o' p' d' =>
          cases e
          refine ⟨hi, ⟨p', rfl⟩, ?_⟩
          unfold L2.start
          rw [List.getElem?_append_left (by rw [List.length_map]; omega)]
    · rw [List.getElem?_append_right (by rw [List.length_map]; omega), List.getElem?_replicate] at e
      split at e <;> cases e
  refine ⟨?_, E.sub, fun i p d h => ?_, fun i p d h => ?_, fun i j a p q d e h1 h2 h3 h4 => ?_, fun i o d h => (g _ _ _ _ h).2.2, E.out⟩
  · unfold YP.enter L2.start
    rw [List.length_append, List.length_append, List.length_map, List.length_map, List.length_replicate, List.length_replicate, lv]
  · obtain ⟨_, ⟨p', z⟩, y⟩ := g _ _ _ _ h
    rw [y]; exact E.fz i p' d z
  · obtain ⟨_, ⟨p', z⟩, y⟩ := g _ _ _ _ h
    rw [y]; exact E.ow i p' d z
  · obtain ⟨_, ⟨p', z⟩, y⟩ := g _ _ _ _ h1
    obtain ⟨_, ⟨q', z2⟩, y2⟩ := g _ _ _ _ h2
    rw [y] at h3; rw [y2] at h4
    exact E.inj i j a _ _ d e z z2 h3 h4
end
theorem ru {k : Nat} {A : Around} (hr : Room k A) : A.units + 64 < cLine := by have := hr.un; omega
theorem rv {k : Nat} {A : Around} (hr : Room k A) : A.units + 65 < cLine := by have := hr.un; omega
theorem rk {k : Nat} {A : Around} (hr : Room k A) : A.units + 1 < cLine := by have := hr.un; omega
/-- the end of a def's body -/
def enEnd (n : Nat) (R : Rv → List Sl → Prop) : En := { nx := fun ρe => R (.val .non) (back n ρe), rt := fun r ρe => fin ρe r fun r ρ2 => R r (back n ρ2) }
section
variable {P : Program} {w : World} {K : PySem.W.Frag} {mg : Str → Option Value} {base : Heap}
/-- THE RULE for a def -/
theorem fn_mk {x qual : Str} {st : Stmt} {f : Addr} {fd : FuncData} {N ps : List Str} {k : Nat} {u : UF} (Fn : Fun K x qual st f fd) (S : FnScope N ps (defScope st)) (hN : ps.length ≤ N.length)
    (body : ∀ (cdv : Value) (A : Around) (outer : List Env) (s : Shared) (H : Hp) (E : XK), Room k (A.deeper (envOfC qual (defScope st) s.heap.objs.size f cdv)) →
      ∃ ub, FB (cxOf CX0 P w K mg base N qual (defScope st) f cdv A outer s H E).nox (defBody st) ub ∧ ∀ ρ R, ρ.length = ps.length → u ρ R → ub (enEnd ps.length R) (enter N.length ρ)) : FnOk P w K mg base CX0 (k + 1) f fd ps (PSp K ps.length u) := by
  refine Fn.ok S (fun vs H Q E h => ?_) fun cdv A outer s H vs Q E hr h => ?_
  · obtain ⟨ρ, F, B, R, _, l, _⟩ := h; exact l
  · obtain ⟨ρ, F, B, R, l1, l2, er, hu, g⟩ := h
    obtain ⟨ub, hub, go⟩ := body cdv A outer s H E hr
    refine ⟨_, pss_S, hub _ _ (go ρ R l1 hu) F H (vs.map some) _ B _ er.enter ⟨fun ρ' σ' F' H' e G => ?_, fun r ρ' v σ' F' H' e G => ?_, fun _ _ _ _ e _ => e.elim, fun _ _ _ _ e _ => e.elim⟩⟩
    · have hn : ps.length = (vs.map some).length := by rw [List.length_map]; exact l2.symm
      exact g _ _ _ F' H' e G.nx (G.er.back hn) .non (fun _ z => nomatch z)
    · have hn : ps.length = (vs.map some).length := by rw [List.length_map]; exact l2.symm
      obtain ⟨F2, r2, ρ2, hk, nx, er2, rr2, na⟩ := fin_ok (k := fun r ρ2 => R r (YP.back ps.length ρ2)) G.er G.rr e hn
      exact g r2 _ v F2 H' hk (G.nx.trans nx) er2 rr2 na
end
end YP
set_option maxRecDepth 100000
/-! The yard's pure layer, part 6: operators, subscripts, slices. -/
namespace YP
open PySem PySem.Spec PyProof.Rows L2

theorem OpS.of {X : Cx} {f : Value → Value → Sem Value} {o : D → D → (Rv → Prop) → Prop} {r : R2} (h : OpR X f r) (k : ∀ {F H : Hp} {σ0 σ : L2.St} {ρ : List Sl} {B : Addr → Prop} {x y : V} {d e : D} {T : Rv → Prop} {Q : VK}, ER X.K F H σ0 ρ σ B → RW X.K F H x d → RW X.K F H y e → o d e T →
    (∀ z v F' H', T z → Gt X.K F H F' H' σ0 ρ σ B z v → Q v H') → r x y H Q) : OpS X f o := ⟨⟨r, h, k⟩⟩
section
variable {K : PySem.W.Frag} {F H : Hp} {σ0 σ : L2.St} {ρ : List Sl} {B : Addr → Prop} {T : Rv → Prop} {Q : VK}
/-- a result that is plain -/
theorem gt_val {d : D} {v : V} (E : ER K F H σ0 ρ σ B) (g : ∀ z v F' H', T z → Gt K F H F' H' σ0 ρ σ B z v → Q v H') (t : T (.val d)) (rd : RD K F v d) : Q v H := g _ _ _ _ t ⟨.refl _ _ _, E, rd⟩
/-- a new list -/
theorem gt_lst {vs : List V} {ds : List D} (E : ER K F H σ0 ρ σ B) (g : ∀ z v F' H', T z → Gt K F H F' H' σ0 ρ σ B z v → Q v H') (t : T (.own (.lst ds))) (rl : RL K F vs ds) : ∀ p, H p = none → Q (.ref p) (upd H p (.lst vs)) := fun p np =>
  g _ _ F _ t ⟨nx_new E np, E.laid np, E.laid_own np (.lst upd_same rl)⟩
/-- a new tuple -/
theorem gt_tup {vs : List V} {ds : List D} (E : ER K F H σ0 ρ σ B) (g : ∀ z v F' H', T z → Gt K F H F' H' σ0 ρ σ B z v → Q v H') (t : T (.val (.tup ds))) (rl : RL K F vs ds) : ∀ p, H p = none → Q (.ref p) (upd H p (.tup vs)) := fun p np => by
  obtain ⟨E2, n2⟩ := E.laid_val (o := .tup vs) np
  exact g _ _ _ _ t ⟨n2, E2, .tup upd_same (rl.mono n2.fz)⟩
/-- a new dict -/
theorem gt_dic {vs : List (Key × V)} {ds : List (Key × D)} (E : ER K F H σ0 ρ σ B) (g : ∀ z v F' H', T z → Gt K F H F' H' σ0 ρ σ B z v → Q v H') (t : T (.own (.dic ds))) (rl : RK K F vs ds) : ∀ p, H p = none → Q (.ref p) (upd H p (.dK vs)) := fun p np =>
  g _ _ F _ t ⟨nx_new E np, E.laid np, E.laid_own np (.dic upd_same rl)⟩
end

/-! ### + -/
def oAdd (d e : D) (T : Rv → Prop) : Prop := match d, e with
  | .int i, .int j => T (.val (.int (i + j)))
  | .str x, .str y => x.length + y.length ≤ sizeLine ∧ T (.val (.str (x ++ y)))
  | .lst xs, .lst ys => xs.length + ys.length ≤ sizeLine ∧ T (.own (.lst (xs ++ ys)))
  | .tup xs, .tup ys => xs.length + ys.length ≤ sizeLine ∧ T (.val (.tup (xs ++ ys)))
  | _, _ => False
theorem os_add {X : Cx} : OpS X (binaryOp .Add) oAdd := .of (OpR.or op_add (OpR.or op_add_str (OpR.or op_cat op_catA))) fun {F H σ0 σ ρ B x y d e T Q} E w1 w2 t g => by
  unfold oAdd at t
  split at t
  · cases w1.int; cases w2.int
    exact .inl ⟨_, _, rfl, rfl, gt_val E g t (.int _)⟩
  · cases w1.str; cases w2.str
    exact .inr (.inl ⟨_, _, rfl, rfl, t.1, gt_val E g t.2 (.str _)⟩)
  · obtain ⟨a, vs, rfl, h1, l1⟩ := w1.lst E.sub
    obtain ⟨b, us, rfl, h2, l2⟩ := w2.lst E.sub
    exact .inr (.inr (.inl ⟨a, b, vs, us, rfl, rfl, h1, h2, by rw [l1.len, l2.len]; exact t.1, gt_lst E g t.2 (l1.app l2)⟩))
  · obtain ⟨a, vs, rfl, h1, l1⟩ := w1.tup E.sub
    obtain ⟨b, us, rfl, h2, l2⟩ := w2.tup E.sub
    refine .inr (.inr (.inr ⟨a, b, vs, us, rfl, rfl, h1, h2, by rw [l1.len, l2.len]; exact t.1, fun e => ?_, fun _ e => ?_, fun _ _ => gt_tup E g t.2 (l1.app l2)⟩))
    · subst e; cases l1
      rcases w2 with w | w
      · exact gt_val E g t.2 w
      · cases w
    · subst e; cases l2
      have t2 := t.2
      rw [List.append_nil] at t2
      rcases w1 with w | w
      · exact gt_val E g t2 w
      · cases w
  · exact t.elim

/-! ### the others on ints -/
def oI (C : Int → Int → Prop) (k : Int → Int → D) (d e : D) (T : Rv → Prop) : Prop := match d, e with
  | .int i, .int j => C i j ∧ T (.val (k i j))
  | _, _ => False
def oI0 (k : Int → Int → D) (d e : D) (T : Rv → Prop) : Prop := match d, e with
  | .int i, .int j => T (.val (k i j))
  | _, _ => False
theorem os_I {X : Cx} {f : Value → Value → Sem Value} {C : Int → Int → Prop} {k : Int → Int → D} {kv : Int → Int → V} (h : OpR X f (rI C kv)) (hk : ∀ F i j, RD X.K F (kv i j) (k i j)) : OpS X f (oI C k) := .of h fun {F H σ0 σ ρ B x y d e T Q} E w1 w2 t g => by
  unfold oI at t
  split at t
  · cases w1.int; cases w2.int
    exact ⟨_, _, rfl, rfl, t.1, gt_val E g t.2 (hk F _ _)⟩
  · exact t.elim
theorem os_I0 {X : Cx} {f : Value → Value → Sem Value} {k : Int → Int → D} {kv : Int → Int → V} (h : OpR X f (rI0 kv)) (hk : ∀ F i j, RD X.K F (kv i j) (k i j)) : OpS X f (oI0 k) := .of h fun {F H σ0 σ ρ B x y d e T Q} E w1 w2 t g => by
  unfold oI0 at t
  split at t
  · cases w1.int; cases w2.int
    exact ⟨_, _, rfl, rfl, gt_val E g t (hk F _ _)⟩
  · exact t.elim
abbrev oSub := oI0 fun i j => .int (i - j)
abbrev oMul := oI CMul fun i j => .int (i * j)
abbrev oMod := oI (fun _ j => 0 < j) fun i j => .int (i % j)
abbrev oDiv := oI CDiv fun i j => .int (i / j)
abbrev oPow := oI Yard.CPowW fun i j => .int (i ^ j.toNat)
abbrev oAnd := oI0 fun i j => .int (Builtin.bitAnd i j)
abbrev oOr := oI0 fun i j => .int (Builtin.bitOr i j)
theorem os_sub {X : Cx} : OpS X (binaryOp .Sub) oSub := os_I0 op_sub fun _ _ _ => .int _
theorem os_mul {X : Cx} : OpS X (binaryOp .Mult) oMul := os_I op_mul fun _ _ _ => .int _
theorem os_mod {X : Cx} : OpS X (binaryOp .Mod) oMod := os_I op_mod fun _ _ _ => .int _
theorem os_div {X : Cx} : OpS X (binaryOp .FloorDiv) oDiv := os_I op_fdiv fun _ _ _ => .int _
theorem os_pow {X : Cx} : OpS X (binaryOp .Pow) oPow := os_I Yard.op_powW fun _ _ _ => .int _
theorem os_and {X : Cx} : OpS X (binaryOp .BitAnd) oAnd := os_I0 op_and fun _ _ _ => .int _
theorem os_or {X : Cx} : OpS X (binaryOp .BitOr) oOr := os_I0 op_or fun _ _ _ => .int _
abbrev oGt := oI0 fun i j => .bl (decide (j < i))
abbrev oGe := oI0 fun i j => .bl (decide (j ≤ i))
abbrev oLe := oI0 fun i j => .bl (decide (i ≤ j))
theorem os_gt {X : Cx} : OpS X (compareOp .Gt) oGt := os_I0 op_gt fun _ _ _ => .bl _
theorem os_ge {X : Cx} : OpS X (compareOp .GtE) oGe := os_I0 op_ge fun _ _ _ => .bl _
theorem os_le {X : Cx} : OpS X (compareOp .LtE) oLe := os_I0 op_le fun _ _ _ => .bl _
def oLt (d e : D) (T : Rv → Prop) : Prop := match d, e with
  | .int i, .int j => T (.val (.bl (decide (i < j))))
  | .str i, .str j => T (.val (.bl (decide (i.cps.toList < j.cps.toList))))
  | _, _ => False
theorem os_lt {X : Cx} : OpS X (compareOp .Lt) oLt := .of (OpR.or op_lt op_lt_str) fun {F H σ0 σ ρ B x y d e T Q} E w1 w2 t g => by
  unfold oLt at t
  split at t
  · cases w1.int; cases w2.int
    exact .inl ⟨_, _, rfl, rfl, gt_val E g t (.bl _)⟩
  · cases w1.str; cases w2.str
    exact .inr ⟨_, _, rfl, rfl, gt_val E g t (.bl _)⟩
  · exact t.elim
/-- is None, is not None -/
def oIsN (neg : Bool) (d e : D) (T : Rv → Prop) : Prop := match d, e with
  | .non, .non => T (.val (.bl (!neg)))
  | .ty _, .non => False
  | _, .non => T (.val (.bl neg))
  | _, _ => False
theorem os_is {X : Cx} : OpS X (compareOp .Is) (oIsN false) := .of op_isN fun {F H σ0 σ ρ B x y d e T Q} E w1 w2 t g => by
  cases e with
  | non =>
    cases w2.non
    refine ⟨rfl, ?_⟩
    cases d with
    | non => cases w1.non; exact gt_val E g t (.bl _)
    | bl b => cases w1.bl; exact gt_val E g t (.bl _)
    | int b => cases w1.int; exact gt_val E g t (.bl _)
    | str b => cases w1.str; exact gt_val E g t (.bl _)
    | lst b => obtain ⟨_, _, rfl, _⟩ := w1.lst E.sub; exact gt_val E g t (.bl _)
    | tup b => obtain ⟨_, _, rfl, _⟩ := w1.tup E.sub; exact gt_val E g t (.bl _)
    | dic b => obtain ⟨_, _, rfl, _⟩ := w1.dic E.sub; exact gt_val E g t (.bl _)
    | obj c b => obtain ⟨_, _, _, rfl, _⟩ := w1.obj E.sub; exact gt_val E g t (.bl _)
    | ref b => cases w1.ref; exact gt_val E g t (.bl _)
    | exc _ _ _ _ => cases w1.exc.1; exact gt_val E g t (.bl _)
    | ty n => exact t.elim
  | _ => cases d <;> exact t.elim
theorem os_isnot {X : Cx} : OpS X (compareOp .IsNot) (oIsN true) := .of op_notN fun {F H σ0 σ ρ B x y d e T Q} E w1 w2 t g => by
  cases e with
  | non =>
    cases w2.non
    refine ⟨rfl, ?_⟩
    cases d with
    | non => cases w1.non; exact gt_val E g t (.bl _)
    | bl b => cases w1.bl; exact gt_val E g t (.bl _)
    | int b => cases w1.int; exact gt_val E g t (.bl _)
    | str b => cases w1.str; exact gt_val E g t (.bl _)
    | lst b => obtain ⟨_, _, rfl, _⟩ := w1.lst E.sub; exact gt_val E g t (.bl _)
    | tup b => obtain ⟨_, _, rfl, _⟩ := w1.tup E.sub; exact gt_val E g t (.bl _)
    | dic b => obtain ⟨_, _, rfl, _⟩ := w1.dic E.sub; exact gt_val E g t (.bl _)
    | obj c b => obtain ⟨_, _, _, rfl, _⟩ := w1.obj E.sub; exact gt_val E g t (.bl _)
    | ref b => cases w1.ref; exact gt_val E g t (.bl _)
    | exc _ _ _ _ => cases w1.exc.1; exact gt_val E g t (.bl _)
    | ty n => exact t.elim
  | _ => cases d <;> exact t.elim

/-! ### == and in, of data of any depth -/
mutual
def toP : D → PyData
  | .non => .none
  | .bl b => .bool b
  | .int i => .int i
  | .str x => .str x
  | .lst l => .list (toPs l)
  | .tup l => .tuple (toPs l)
  | _ => .none
def toPs : List D → List PyData
  | [] => []
  | d :: l => toP d :: toPs l
end
mutual
def plain : D → Bool
  | .non => true
  | .bl _ => true
  | .int _ => true
  | .str _ => true
  | .lst l => plains l
  | .tup l => plains l
  | _ => false
def plains : List D → Bool
  | [] => true
  | d :: l => plain d && plains l
end
theorem toPs_map : ∀ l : List D, toPs l = l.map toP
  | [] => rfl
  | d :: l => congrArg (toP d :: ·) (toPs_map l)
theorem plains_all : ∀ l : List D, plains l = l.all plain
  | [] => rfl
  | d :: l => by
    show (plain d && plains l) = _
    rw [plains_all l]; rfl
section
variable {K : PySem.W.Frag} {F H : Hp}
mutual
theorem RD.dp (s : Same F H) : ∀ {v : V} {d : D}, RD K F v d → plain d = true → Dp K H v (toP d)
  | _, _, .non, _ => .non
  | _, _, .bl b, _ => .bl b
  | _, _, .int i, _ => .int i
  | _, _, .str x, _ => .str x
  | _, _, .ty n, h => nomatch h
  | _, _, .ref a, h => nomatch h
  | _, _, .lst h t, p => .lst (.of (s _ _ h)) (t.dp s p)
  | _, _, .tup h t, p => .tup (.of (s _ _ h)) (t.dp s p)
  | _, _, .dic h t, p => nomatch p
  | _, _, .obj h t, p => nomatch p
  | _, _, .exc h t, p => nomatch p
theorem RL.dp (s : Same F H) : ∀ {vs : List V} {ds : List D}, RL K F vs ds → plains ds = true → DpAll K H vs (toPs ds)
  | _, _, .nil, _ => .nil
  | _, _, .cons h t, p => .cons (h.dp s (Bool.and_eq_true .. ▸ p).1) (t.dp s (Bool.and_eq_true .. ▸ p).2)
end
theorem RW.dp {v : V} {d : D} (s : Same F H) (h : RW K F H v d) (p : plain d = true) : Dp K H v (toP d) := by
  rcases h with h | h
  · exact h.dp s p
  · cases h with
    | lst h t => exact .lst (.of h) (t.dp s p)
    | dic h t => cases p
    | obj h t => cases p
end
/-- plain, and not too deep -/
def okD (d : D) : Bool := plain d && SeqAt.shaped (toP d)
def eqD (d e : D) : Bool := PyData.eqv (toP d) (toP e)
theorem okD_p {d : D} (h : okD d = true) : plain d = true := (Bool.and_eq_true .. ▸ h).1
theorem okD_s {d : D} (h : okD d = true) : SeqAt.shaped (toP d) = true := (Bool.and_eq_true .. ▸ h).2
def oEq (d e : D) (T : Rv → Prop) : Prop := okD d = true ∧ okD e = true ∧ T (.val (.bl (eqD d e)))
def oNe (d e : D) (T : Rv → Prop) : Prop := okD d = true ∧ okD e = true ∧ T (.val (.bl (!eqD d e)))
theorem os_eq {X : Cx} (hu : X.A.units + 64 < cLine) : OpS X (compareOp .Eq) oEq := .of (op_eqD hu) fun {F H σ0 σ ρ B x y d e T Q} E w1 w2 t g =>
  ⟨_, _, w1.dp E.sub (okD_p t.1), w2.dp E.sub (okD_p t.2.1), okD_s t.1, okD_s t.2.1, gt_val E g t.2.2 (.bl _)⟩
theorem os_ne {X : Cx} (hu : X.A.units + 64 < cLine) : OpS X (compareOp .NotEq) oNe := .of (op_neD hu) fun {F H σ0 σ ρ B x y d e T Q} E w1 w2 t g =>
  ⟨_, _, w1.dp E.sub (okD_p t.1), w2.dp E.sub (okD_p t.2.1), okD_s t.1, okD_s t.2.1, gt_val E g t.2.2 (.bl _)⟩
/-- in a list; a sign in a text -/
def oIn (neg : Bool) (d e : D) (T : Rv → Prop) : Prop := match e with
  | .lst l => okD d = true ∧ okD (.lst l) = true ∧ T (.val (.bl (neg ^^ l.any fun z => eqD z d)))
  | .str z => ∃ c : Nat, d = .str ⟨#[c]⟩ ∧ T (.val (.bl (neg ^^ decide (c ∈ z.cps.toList))))
  | _ => False
theorem any_toPs (d : D) : ∀ l : List D, ((toPs l).any fun z => PyData.eqv z (toP d)) = l.any fun z => eqD z d
  | [] => rfl
  | z :: l => by
    show (PyData.eqv (toP z) (toP d) || (toPs l).any _) = _
    rw [any_toPs d l]; rfl
theorem os_in {X : Cx} (hu : X.A.units + 65 < cLine) : OpS X (compareOp .In) (oIn false) := .of (OpR.or (op_inD hu) op_in_sign) fun {F H σ0 σ ρ B x y d e T Q} E w1 w2 t g => by
  unfold oIn at t
  split at t
  · refine .inl ⟨_, _, w1.dp E.sub (okD_p t.1), w2.dp E.sub (okD_p t.2.1), okD_s t.1, okD_s t.2.1, ?_⟩
    have t3 := t.2.2
    rw [any_toPs]
    exact gt_val E g t3 (by rw [Bool.false_xor]; exact .bl _)
  · obtain ⟨c, rfl, t⟩ := t
    cases w1.str; cases w2.str
    exact .inr ⟨c, _, rfl, rfl, gt_val E g t (by rw [Bool.false_xor]; exact .bl _)⟩
  · exact t.elim
theorem os_notin {X : Cx} (hu : X.A.units + 65 < cLine) : OpS X (compareOp .NotIn) (oIn true) := .of (OpR.or (op_notInD hu) op_notIn_sign) fun {F H σ0 σ ρ B x y d e T Q} E w1 w2 t g => by
  unfold oIn at t
  split at t
  · refine .inl ⟨_, _, w1.dp E.sub (okD_p t.1), w2.dp E.sub (okD_p t.2.1), okD_s t.1, okD_s t.2.1, ?_⟩
    have t3 := t.2.2
    rw [any_toPs]
    exact gt_val E g t3 (by rw [Bool.true_xor]; exact .bl _)
  · obtain ⟨c, rfl, t⟩ := t
    cases w1.str; cases w2.str
    exact .inr ⟨c, _, rfl, rfl, gt_val E g t (by rw [Bool.true_xor]; exact .bl _)⟩
  · exact t.elim

/-! ### subscripts -/
def oIx (d e : D) (T : Rv → Prop) : Prop := match d, e with
  | .lst l, .int i => ∃ x, atI l i = some x ∧ T (.val x)
  | .tup l, .int i => ∃ x, atI l i = some x ∧ T (.val x)
  | .str z, .int i => z.length ≤ sizeLine ∧ ∃ c, atI z.cps.toList i = some c ∧ T (.val (.str ⟨#[c]⟩))
  | _, _ => False
theorem RL.atI {K : PySem.W.Frag} {F : Hp} {vs : List V} {ds : List D} {i : Int} {x : D} (h : RL K F vs ds) (e : L2.atI ds i = some x) : ∃ v, L2.atI vs i = some v ∧ RD K F v x := by
  unfold L2.atI at e ⊢
  rw [h.len]
  cases q : ixN ds.length i with
  | none => rw [q] at e; cases e
  | some j =>
    rw [q] at e
    exact h.got e
theorem IxR.or {X : Cx} {r r' : R2} (h : IxR X r) (h' : IxR X r') : IxR X (fun x y H Q => r x y H Q ∨ r' x y H Q) := by
  intro value slice pins s σ H x y v u Q I rx ry q hs
  rcases q with q | q
  · exact h value slice pins s σ H x y v u Q I rx ry q hs
  · exact h' value slice pins s σ H x y v u Q I rx ry q hs
section
variable {X : Cx} {a b : Expr} {ua ub : UE} {pos : Pos}
theorem fe_ix (ha : FE X a ua) (hb : FE X b ub) (hs : PlainIx b := by exact fun _ _ => rfl) : FE X (.Subscript a b pos) (uBin oIx ua ub) := ⟨fun ρ R q F H σ0 σ B Q E g => by
  refine to_S (pe_ix (IxR.or (ix_list (X := X)) (IxR.or (ix_tup (X := X)) ix_str)) pe_S pe_S hs) (FE.two ha hb q E (fun x y H2 => _) fun p q ρ2 x y F2 H2 t n2 E2 r1 r2 => ?_)
  obtain ⟨d, w1, t⟩ := E2.seen r1 t
  obtain ⟨e, w2, t⟩ := E2.seen (r2.weak hB_sub) t
  have g2 : ∀ z v F' H', R z ρ2 → Gt X.K F2 H2 F' H' σ0 ρ2 σ B z v → Q v H' := fun z v F' H' tz G => g z ρ2 v F' H' tz ⟨n2.trans G.nx, G.er, G.rr⟩
  unfold oIx at t
  split at t
  · obtain ⟨z, e1, t⟩ := t
    obtain ⟨c, vs, rfl, h1, l1⟩ := w1.lst E2.sub
    cases w2.int
    obtain ⟨v, e2, rd⟩ := l1.atI e1
    exact .inl ⟨c, vs, _, v, rfl, rfl, .of h1, e2, gt_val E2 g2 t rd⟩
  · obtain ⟨z, e1, t⟩ := t
    obtain ⟨c, vs, rfl, h1, l1⟩ := w1.tup E2.sub
    cases w2.int
    obtain ⟨v, e2, rd⟩ := l1.atI e1
    exact .inr (.inl ⟨c, vs, _, v, rfl, rfl, h1, e2, gt_val E2 g2 t rd⟩)
  · obtain ⟨z, c, e1, t⟩ := t
    cases w1.str; cases w2.int
    exact .inr (.inr ⟨_, _, c, rfl, rfl, z, e1, gt_val E2 g2 t (.str _)⟩)
  · exact t.elim⟩

/-! ### slices -/
abbrev UO := List Sl → (Option Int → List Sl → Prop) → Prop
def tO (X : Cx) (e : Option Expr) : TO := fun σ H Q => ∀ pins s, Inv X pins σ H s → wpAny (model X.prog X.w) X.A (evalPart e X.env) (fun u s' => ∃ o H', Inv X pins σ H' s' ∧ IsPart u o ∧ Q o H') X.xe s
theorem po_S {e : Option Expr} : PO X e (tO X e) := ⟨fun pins s σ H Q I h => h pins s I⟩
structure FO (X : Cx) (e : Option Expr) (u : UO) : Prop where
  run : ∀ (ρ : List Sl) (R : Option Int → List Sl → Prop), u ρ R → ∀ (F H : Hp) (σ0 σ : L2.St) (B : Addr → Prop) (Q : Option Int → Hp → Prop), ER X.K F H σ0 ρ σ B →
    (∀ o ρ' F' H', R o ρ' → Gd X.K F H F' H' σ0 ρ' σ B → Q o H') → tO X e σ H Q
instance {X : Cx} {e : Option Expr} {u : UO} : CoeFun (FO X e u) (fun _ => ∀ (ρ : List Sl) (R : Option Int → List Sl → Prop), u ρ R → ∀ (F H : Hp) (σ0 σ : L2.St) (B : Addr → Prop) (Q : Option Int → Hp → Prop), ER X.K F H σ0 ρ σ B →
  (∀ o ρ' F' H', R o ρ' → Gd X.K F H F' H' σ0 ρ' σ B → Q o H') → tO X e σ H Q) := ⟨FO.run⟩
def uONo : UO := fun ρ R => R none ρ
def uOInt (u : UE) : UO := fun ρ R => u ρ fun r ρ1 => match r with
  | .val (.int i) => R (some i) ρ1
  | _ => False
theorem fo_no : FO X none uONo := ⟨fun ρ R q F H σ0 σ B Q E g pins s I => po_none.run pins s σ H Q I (g none ρ F H q ⟨.refl _ _ _, E⟩)⟩
theorem fo_int {e : Expr} {u : UE} (h : FE X e u) : FO X (some e) (uOInt u) := ⟨fun ρ R q F H σ0 σ B Q E g pins s I => by
  refine (po_some pe_S).run pins s σ H Q I (h ρ _ q F H σ0 σ B _ E fun r ρ1 v F1 H1 z G => ?_)
  split at z
  · rename_i i
    have rr : RD X.K F1 v (.int i) := G.rr
    cases rr
    exact ⟨i, rfl, g _ _ _ _ z ⟨G.nx, G.er⟩⟩
  · exact z.elim⟩
/-- l[lo:hi] of any list -/
def cut {α : Type} (xs : List α) (lo hi : Option Int) : List α := (xs.drop (HT.sIx xs.length 0 lo)).take (HT.sIx xs.length xs.length hi - HT.sIx xs.length 0 lo)
theorem RL.cut {K : PySem.W.Frag} {F : Hp} {vs : List V} {ds : List D} (h : RL K F vs ds) (lo hi : Option Int) : RL K F (cutV vs lo hi) (YP.cut ds lo hi) := by
  unfold cutV YP.cut
  rw [h.len]
  exact (h.drop _).take _
theorem cut_whole {α : Type} {xs : List α} {lo hi : Option Int} (h : HT.sIx xs.length 0 lo = 0 ∧ HT.sIx xs.length xs.length hi = xs.length) : cut xs lo hi = xs := by
  unfold cut
  rw [h.1, h.2]
  show List.take (xs.length - 0) xs = xs
  rw [Nat.sub_zero]
  exact List.take_length
def oSl (d : D) (lo hi : Option Int) (T : Rv → Prop) : Prop := match d with
  | .lst l => T (.own (.lst (cut l lo hi)))
  | .tup l => T (.val (.tup (cut l lo hi)))
  | .str z => z.length ≤ sizeLine ∧ T (.val (.str (cutS z lo hi)))
  | _ => False
def uSl (ua : UE) (ul uh : UO) : UE := fun ρ R => ua ρ fun r ρ1 => ul ρ1 fun lo ρ2 => uh ρ2 fun hi ρ3 => wv ρ3 r fun d => oSl d lo hi fun z => R z ρ3
theorem fe_sl {lo hi : Option Expr} {ul uh : UO} {p2 : Pos} (ha : FE X a ua) (hl : FO X lo ul) (hh : FO X hi uh) : FE X (.Subscript a (.Slice lo hi none p2) pos) (uSl ua ul uh) := ⟨fun ρ R q F H σ0 σ B Q E g => by
  refine to_S (pe_slice (SlR.or (sl_list (X := X)) (SlR.or (sl_tupA (X := X)) sl_str)) pe_S po_S po_S) (ha ρ _ q F H σ0 σ B _ E fun r ρ1 x F1 H1 q1 G1 => hl ρ1 _ q1 F1 H1 σ0 σ (hB B r x) _ (G1.er.hold G1.rr) fun lo ρ2 F2 H2 q2 G2 => hh ρ2 _ q2 F2 H2 σ0 σ (hB B r x) _ G2.er fun hi ρ3 F3 H3 t G3 => ?_)
  have n3 := G2.nx.trans G3.nx
  have E3 := G3.er.unhold
  obtain ⟨d, w1, t⟩ := E3.seen (G1.rr.held G1.er G3.er n3) t
  have nn := G1.nx.trans (n3.mono hB_sub)
  have g2 : ∀ z v F' H', R z ρ3 → Gt X.K F3 H3 F' H' σ0 ρ3 σ B z v → Q v H' := fun z v F' H' tz G => g z ρ3 v F' H' tz ⟨nn.trans G.nx, G.er, G.rr⟩
  unfold oSl at t
  split at t
  · obtain ⟨c, vs, rfl, h1, l1⟩ := w1.lst E3.sub
    exact .inl ⟨c, vs, rfl, .of h1, gt_lst E3 g2 t (l1.cut lo hi)⟩
  · obtain ⟨c, vs, rfl, h1, l1⟩ := w1.tup E3.sub
    refine .inr (.inl ⟨c, vs, rfl, h1, fun e => ?_, fun _ => gt_tup E3 g2 t (l1.cut lo hi)⟩)
    rw [l1.len] at e
    rw [cut_whole e] at t
    rcases w1 with w | w
    · exact gt_val E3 g2 t w
    · cases w
  · cases w1.str
    exact .inr (.inr ⟨_, rfl, t.1, gt_val E3 g2 t.2 (.str _)⟩)
  · exact t.elim⟩
/-! ### - x -/
def uNeg (u : UE) : UE := fun ρ R => u ρ fun r ρ1 => match r with
  | .val (.int i) => R (.val (.int (-i))) ρ1
  | _ => False
theorem fe_neg {e : Expr} {u : UE} (h : FE X e u) : FE X (.UnaryOp .USub e pos) (uNeg u) := ⟨fun ρ R q F H σ0 σ B Q E g => by
  refine to_S (pe_un un_neg pe_S) (h ρ _ q F H σ0 σ B _ E fun r ρ1 v F1 H1 z G => ?_)
  split at z
  · rename_i i
    have rr : RD X.K F1 v (.int i) := G.rr
    cases rr
    exact ⟨i, rfl, g _ _ _ _ _ z ⟨G.nx, G.er, .int _⟩⟩
  · exact z.elim⟩
end
end YP
set_option maxRecDepth 100000
/-! The yard's pure layer, part 7: calls of what is built in, methods. -/
namespace YP
open PySem PySem.Spec PyProof.Rows L2

/-- the data as they stand -/
def wvs (ρ : List Sl) : List Rv → (List D → Prop) → Prop
  | [], k => k []
  | r :: rs, k => wv ρ r fun d => wvs ρ rs fun ds => k (d :: ds)
def RWs (K : PySem.W.Frag) (F H : Hp) : List V → List D → Prop
  | [], [] => True
  | v :: vs, d :: ds => RW K F H v d ∧ RWs K F H vs ds
  | _, _ => False
theorem ER.seens {K : PySem.W.Frag} {F H : Hp} {σ0 σ : L2.St} {ρ : List Sl} (B0 : Addr → Prop) (E : ER K F H σ0 ρ σ B0) : ∀ {B : Addr → Prop} {rs : List Rv} {vs : List V} {k : List D → Prop}, RRs K F H ρ σ B rs vs → wvs ρ rs k → ∃ ds, RWs K F H vs ds ∧ k ds
  | _, [], [], k, _, w => ⟨[], trivial, w⟩
  | B, r :: rs, v :: vs, k, h, w => by
    have h1 : RR K F H ρ σ (fun _ => False) r v := h.1.weak fun _ z => z.elim
    have E1 : ER K F H σ0 ρ σ (fun _ => False) := ⟨E.len, E.sub, E.fz, fun i p d q => let ⟨a, x, y, z, _⟩ := E.ow i p d q; ⟨a, x, y, z, fun w => w⟩, E.inj, E.par, fun _ z => z.elim⟩
    obtain ⟨d, w1, w⟩ := E1.seen h1 w
    obtain ⟨ds, w2, w⟩ := ER.seens B0 E h.2 w
    exact ⟨d :: ds, ⟨w1, w2⟩, w⟩
  | _, [], _ :: _, _, h, _ => h.elim
  | _, _ :: _, [], _, h, _ => h.elim
/-- a call of a built-in with values -/
structure CbS (X : Cx) (f : Value) (o : List D → (Rv → Prop) → Prop) : Prop where
  ex : ∃ r, CallR X f r ∧ ∀ {F H : Hp} {σ0 σ : L2.St} {ρ : List Sl} {B : Addr → Prop} {vs : List V} {ds : List D} {T : Rv → Prop} {Q : VK}, ER X.K F H σ0 ρ σ B → RWs X.K F H vs ds → o ds T →
    (∀ z v F' H', T z → Gt X.K F H F' H' σ0 ρ σ B z v → Q v H') → r vs H Q
theorem CbS.of {X : Cx} {f : Value} {o : List D → (Rv → Prop) → Prop} {r : List V → Hp → VK → Prop} (h : CallR X f r) (k : ∀ {F H : Hp} {σ0 σ : L2.St} {ρ : List Sl} {B : Addr → Prop} {vs : List V} {ds : List D} {T : Rv → Prop} {Q : VK}, ER X.K F H σ0 ρ σ B → RWs X.K F H vs ds → o ds T →
    (∀ z v F' H', T z → Gt X.K F H F' H' σ0 ρ σ B z v → Q v H') → r vs H Q) : CbS X f o := ⟨⟨r, h, k⟩⟩
theorem CallR.or {X : Cx} {f : Value} {r r' : List V → Hp → VK → Prop} (h : CallR X f r) (h' : CallR X f r') : CallR X f (fun x H Q => r x H Q ∨ r' x H Q) := by
  intro pins s σ H x v Q I rx q
  rcases q with q | q
  · exact h pins s σ H x v Q I rx q
  · exact h' pins s σ H x v Q I rx q
def uB (o : List D → (Rv → Prop) → Prop) (ua : UR) : UE := fun ρ R => ua ρ fun rs ρ1 => wvs ρ1 rs fun ds => o ds fun z => R z ρ1
section
variable {X : Cx} {e : Expr} {es : List Expr} {ua : UR} {p pos : Pos} {x : Str} {id T : String} {o : List D → (Rv → Prop) → Prop}
theorem fe_b (cb : CbS X (.builtin id) o) (hg : Gl X x) (hm : X.mg x = none) (hv : bootBuiltins x = some (.builtin id)) (ha : FR X (e :: es) ua) (hn : x ≠ "__name__" := by decide) (hdb : (x == ("__debug__" : Str)) = false := by decide)
    (he : starEach (e :: es) X.env = (false, eval e X.env) :: starEach es X.env := by rfl) (hpl : (backTo pos (starEach es X.env)).any (·.1) = false := by rfl) : FE X (.Call (.Name x p) (e :: es) [] pos) (uB o ua) := ⟨fun ρ R q F H σ0 σ B Q E g => by
  obtain ⟨r, hr, k⟩ := cb.ex
  refine to_S (pe_callB hr hg hm hv pa_S hn hdb he hpl) (ha ρ _ q F H σ0 σ B _ E fun rs ρ1 vs F1 H1 z G l _ => ?_)
  obtain ⟨ds, w, z⟩ := G.er.seens B l z
  exact k G.er w z fun z v F' H' t G' => g z ρ1 v F' H' t ⟨G.nx.trans G'.nx, G'.er, G'.rr⟩⟩
theorem fe_bt (cb : CbS X (.type T) o) (hg : Gl X x) (hm : X.mg x = none) (hv : bootBuiltins x = some (.type T)) (ha : FR X (e :: es) ua) (hn : x ≠ "__name__" := by decide) (hdb : (x == ("__debug__" : Str)) = false := by decide)
    (he : starEach (e :: es) X.env = (false, eval e X.env) :: starEach es X.env := by rfl) (hpl : (backTo pos (starEach es X.env)).any (·.1) = false := by rfl) : FE X (.Call (.Name x p) (e :: es) [] pos) (uB o ua) := ⟨fun ρ R q F H σ0 σ B Q E g => by
  obtain ⟨r, hr, k⟩ := cb.ex
  refine to_S (pe_callTy hr hg hm hv pa_S hn hdb he hpl) (ha ρ _ q F H σ0 σ B _ E fun rs ρ1 vs F1 H1 z G l _ => ?_)
  obtain ⟨ds, w, z⟩ := G.er.seens B l z
  exact k G.er w z fun z v F' H' t G' => g z ρ1 v F' H' t ⟨G.nx.trans G'.nx, G'.er, G'.rr⟩⟩
end
section
variable {K : PySem.W.Frag} {F H : Hp} {vs : List V}
theorem RWs.one {d : D} (h : RWs K F H vs [d]) : ∃ v, vs = [v] ∧ RW K F H v d := by
  match vs, h with
  | [v], h => exact ⟨v, rfl, h.1⟩
theorem RWs.two {d e : D} (h : RWs K F H vs [d, e]) : ∃ v u, vs = [v, u] ∧ RW K F H v d ∧ RW K F H u e := by
  match vs, h with
  | [v, u], h => exact ⟨v, u, rfl, h.1, h.2.1⟩
theorem RWs.three {d e f : D} (h : RWs K F H vs [d, e, f]) : ∃ v u w, vs = [v, u, w] ∧ RW K F H v d ∧ RW K F H u e ∧ RW K F H w f := by
  match vs, h with
  | [v, u, w], h => exact ⟨v, u, w, rfl, h.1, h.2.1, h.2.2.1⟩
theorem rl_ints : ∀ {vs : List V} {ns : List Int}, RL K F vs (ns.map D.int) → vs = ns.map V.int
  | _, [], h => by cases h; rfl
  | _, n :: ns, h => by cases h with | cons h1 h2 => cases h1; rw [rl_ints h2]; rfl
theorem rl_bls : ∀ {vs : List V} {ns : List Bool}, RL K F vs (ns.map D.bl) → vs = ns.map V.bl
  | _, [], h => by cases h; rfl
  | _, n :: ns, h => by cases h with | cons h1 h2 => cases h1; rw [rl_bls h2]; rfl
theorem rl_strs : ∀ {vs : List V} {ns : List Str}, RL K F vs (ns.map D.str) → vs = ns.map V.str
  | _, [], h => by cases h; rfl
  | _, n :: ns, h => by cases h with | cons h1 h2 => cases h1; rw [rl_strs h2]; rfl
theorem strs_rl : ∀ (ns : List Str), RL K F (ns.map V.str) (ns.map D.str)
  | [] => .nil
  | n :: ns => .cons (.str n) (strs_rl ns)
theorem ints_rl : ∀ (ns : List Int), RL K F (ns.map V.int) (ns.map D.int)
  | [] => .nil
  | n :: ns => .cons (.int n) (ints_rl ns)
end

/-! ### len, int, max, min, sum, all, any, list, tuple, sorted -/
def oLen (ds : List D) (T : Rv → Prop) : Prop := match ds with
  | [.lst l] => T (.val (.int (l.length : Nat)))
  | [.tup l] => T (.val (.int (l.length : Nat)))
  | [.dic l] => T (.val (.int (l.length : Nat)))
  | [.str x] => x.length ≤ sizeLine ∧ T (.val (.int (x.length : Nat)))
  | _ => False
theorem cb_len {X : Cx} : CbS X (.builtin "len") oLen := .of (CallR.or call_len_seq (CallR.or call_lenD call_len_str)) fun {F H σ0 σ ρ B vs ds T Q} E w t g => by
  unfold oLen at t
  split at t
  · obtain ⟨v, rfl, w0⟩ := w.one
    obtain ⟨a, us, rfl, h1, l1⟩ := w0.lst E.sub
    exact .inl ⟨a, us, rfl, .inl (.of h1), by rw [l1.len]; exact gt_val E g t (.int _)⟩
  · obtain ⟨v, rfl, w0⟩ := w.one
    obtain ⟨a, us, rfl, h1, l1⟩ := w0.tup E.sub
    exact .inl ⟨a, us, rfl, .inr h1, by rw [l1.len]; exact gt_val E g t (.int _)⟩
  · obtain ⟨v, rfl, w0⟩ := w.one
    obtain ⟨a, us, rfl, h1, l1⟩ := w0.dic E.sub
    exact .inr (.inl ⟨a, us, rfl, h1, by rw [l1.len]; exact gt_val E g t (.int _)⟩)
  · obtain ⟨v, rfl, w0⟩ := w.one
    cases w0.str
    exact .inr (.inr ⟨_, rfl, t.1, gt_val E g t.2 (.int _)⟩)
  · exact t.elim
def oInt (ds : List D) (T : Rv → Prop) : Prop := match ds with
  | [.int i] => T (.val (.int i))
  | [.bl b] => T (.val (.int (if b then 1 else 0)))
  | _ => False
theorem cb_int {X : Cx} : CbS X (.type "int") oInt := .of call_int1 fun {F H σ0 σ ρ B vs ds T Q} E w t g => by
  unfold oInt at t
  split at t
  · obtain ⟨v, rfl, w0⟩ := w.one
    cases w0.int
    exact .inl ⟨_, rfl, gt_val E g t (.int _)⟩
  · obtain ⟨v, rfl, w0⟩ := w.one
    cases w0.bl
    exact .inr ⟨_, rfl, gt_val E g t (.int _)⟩
  · exact t.elim
def oMax (ds : List D) (T : Rv → Prop) : Prop := match ds with
  | [.int i, .int j] => T (.val (.int (if j > i then j else i)))
  | [.lst l] => ∃ ns : List Int, l = ns.map D.int ∧ 0 < ns.length ∧ ∀ m, m ∈ ns → (∀ y, y ∈ ns → y ≤ m) → T (.val (.int m))
  | _ => False
theorem cb_max {X : Cx} (hc : X.calm = true) : CbS X (.builtin "max") oMax := .of (CallR.or (call_max2 hc) (cr_max hc)) fun {F H σ0 σ ρ B vs ds T Q} E w t g => by
  unfold oMax at t
  split at t
  · obtain ⟨v, u, rfl, w1, w2⟩ := w.two
    cases w1.int; cases w2.int
    exact .inl ⟨_, _, rfl, gt_val E g t (.int _)⟩
  · obtain ⟨ns, rfl, h0, t⟩ := t
    obtain ⟨v, rfl, w0⟩ := w.one
    obtain ⟨a, us, rfl, h1, l1⟩ := w0.lst E.sub
    cases rl_ints l1
    exact .inr ⟨a, ns, rfl, .of h1, h0, fun m hm hx => gt_val E g (t m hm hx) (.int _)⟩
  · exact t.elim
def oMin (ds : List D) (T : Rv → Prop) : Prop := match ds with
  | [.int i, .int j] => T (.val (.int (if j < i then j else i)))
  | [.lst l] => ∃ ns : List Int, l = ns.map D.int ∧ 0 < ns.length ∧ ∀ m, m ∈ ns → (∀ y, y ∈ ns → m ≤ y) → T (.val (.int m))
  | _ => False
theorem cb_min {X : Cx} (hc : X.calm = true) : CbS X (.builtin "min") oMin := .of (CallR.or (call_min2 hc) (cr_min hc)) fun {F H σ0 σ ρ B vs ds T Q} E w t g => by
  unfold oMin at t
  split at t
  · obtain ⟨v, u, rfl, w1, w2⟩ := w.two
    cases w1.int; cases w2.int
    exact .inl ⟨_, _, rfl, gt_val E g t (.int _)⟩
  · obtain ⟨ns, rfl, h0, t⟩ := t
    obtain ⟨v, rfl, w0⟩ := w.one
    obtain ⟨a, us, rfl, h1, l1⟩ := w0.lst E.sub
    cases rl_ints l1
    exact .inr ⟨a, ns, rfl, .of h1, h0, fun m hm hx => gt_val E g (t m hm hx) (.int _)⟩
  · exact t.elim
def oSum (ds : List D) (T : Rv → Prop) : Prop := match ds with
  | [.lst l] => ∃ ns : List Int, l = ns.map D.int ∧ T (.val (.int ns.sum))
  | _ => False
theorem cb_sum {X : Cx} (hc : X.calm = true) : CbS X (.builtin "sum") oSum := .of (cr_sum hc) fun {F H σ0 σ ρ B vs ds T Q} E w t g => by
  unfold oSum at t
  split at t
  · obtain ⟨ns, rfl, t⟩ := t
    obtain ⟨v, rfl, w0⟩ := w.one
    obtain ⟨a, us, rfl, h1, l1⟩ := w0.lst E.sub
    cases rl_ints l1
    exact ⟨a, ns, rfl, .of h1, gt_val E g t (.int _)⟩
  · exact t.elim
def oAll (ds : List D) (T : Rv → Prop) : Prop := match ds with
  | [.lst l] => ∃ bs : List Bool, l = bs.map D.bl ∧ T (.val (.bl (bs.all id)))
  | _ => False
theorem cb_all {X : Cx} (hc : X.calm = true) : CbS X (.builtin "all") oAll := .of (cr_all hc) fun {F H σ0 σ ρ B vs ds T Q} E w t g => by
  unfold oAll at t
  split at t
  · obtain ⟨ns, rfl, t⟩ := t
    obtain ⟨v, rfl, w0⟩ := w.one
    obtain ⟨a, us, rfl, h1, l1⟩ := w0.lst E.sub
    cases rl_bls l1
    exact ⟨a, ns, rfl, .of h1, gt_val E g t (.bl _)⟩
  · exact t.elim
def oAny (ds : List D) (T : Rv → Prop) : Prop := match ds with
  | [.lst l] => ∃ bs : List Bool, l = bs.map D.bl ∧ T (.val (.bl (bs.any id)))
  | _ => False
theorem cb_any {X : Cx} (hc : X.calm = true) : CbS X (.builtin "any") oAny := .of (cr_any hc) fun {F H σ0 σ ρ B vs ds T Q} E w t g => by
  unfold oAny at t
  split at t
  · obtain ⟨ns, rfl, t⟩ := t
    obtain ⟨v, rfl, w0⟩ := w.one
    obtain ⟨a, us, rfl, h1, l1⟩ := w0.lst E.sub
    cases rl_bls l1
    exact ⟨a, ns, rfl, .of h1, gt_val E g t (.bl _)⟩
  · exact t.elim
def oList (ds : List D) (T : Rv → Prop) : Prop := match ds with
  | [.lst l] => T (.own (.lst l))
  | [.tup l] => T (.own (.lst l))
  | _ => False
theorem cb_list {X : Cx} : CbS X (.type "list") oList := .of call_list_of fun {F H σ0 σ ρ B vs ds T Q} E w t g => by
  unfold oList at t
  split at t
  · obtain ⟨v, rfl, w0⟩ := w.one
    obtain ⟨a, us, rfl, h1, l1⟩ := w0.lst E.sub
    exact ⟨a, us, rfl, .inl (.of h1), gt_lst E g t l1⟩
  · obtain ⟨v, rfl, w0⟩ := w.one
    obtain ⟨a, us, rfl, h1, l1⟩ := w0.tup E.sub
    exact ⟨a, us, rfl, .inr h1, gt_lst E g t l1⟩
  · exact t.elim
def oTuple (ds : List D) (T : Rv → Prop) : Prop := match ds with
  | [.lst l] => T (.val (.tup l))
  | [.tup l] => T (.val (.tup l))
  | _ => False
theorem cb_tuple {X : Cx} : CbS X (.type "tuple") oTuple := .of call_tuple_of fun {F H σ0 σ ρ B vs ds T Q} E w t g => by
  unfold oTuple at t
  split at t
  · obtain ⟨v, rfl, w0⟩ := w.one
    obtain ⟨a, us, rfl, h1, l1⟩ := w0.lst E.sub
    exact ⟨a, us, rfl, .inl ⟨.of h1, gt_tup E g t l1⟩⟩
  · obtain ⟨v, rfl, w0⟩ := w.one
    obtain ⟨a, us, e, h1, l1⟩ := w0.tup E.sub
    subst e
    rcases w0 with w0 | w0
    · exact ⟨a, us, rfl, .inr ⟨h1, gt_val E g t w0⟩⟩
    · cases w0
  · exact t.elim
def oSorted (ds : List D) (T : Rv → Prop) : Prop := match ds with
  | [.lst l] => ∃ xs : List Str, l = xs.map D.str ∧ xs.length < 64 ∧ ∀ ys : List Str, ys.Perm xs → sortedS ys = true → T (.own (.lst (ys.map D.str)))
  | _ => False
theorem cb_sorted {X : Cx} : CbS X (.builtin "sorted") oSorted := .of cr_sortedS fun {F H σ0 σ ρ B vs ds T Q} E w t g => by
  unfold oSorted at t
  split at t
  · obtain ⟨xs, rfl, h0, t⟩ := t
    obtain ⟨v, rfl, w0⟩ := w.one
    obtain ⟨a, us, rfl, h1, l1⟩ := w0.lst E.sub
    cases rl_strs l1
    exact ⟨a, xs, rfl, .of h1, h0, fun ys p pm so np => gt_lst E g (t ys pm so) (strs_rl ys) p np⟩
  · exact t.elim
/-- sorted(set(a list of texts)) -/
def oSetSorted (ds : List D) (T : Rv → Prop) : Prop := match ds with
  | [.lst l] => ∃ xs : List Str, l = xs.map D.str ∧ xs.length ≤ 1000 ∧ ∀ m : List Str, m.length ≤ xs.length → (∀ x, x ∈ m ↔ x ∈ xs) → m.length < 64 ∧ ∀ ys : List Str, ys.Perm m → sortedS ys = true → T (.own (.lst (ys.map D.str)))
  | _ => False
def uSetSorted (ua : UR) : UE := uB oSetSorted ua
theorem fe_setsorted {X : Cx} {e : Expr} {ua : UR} {p p2 pos pos2 : Pos} (hc : X.calm = true) (hg : Gl X "sorted") (hm : X.mg "sorted" = none) (hg2 : Gl X "set") (hm2 : X.mg "set" = none) (ha : FR X [e] ua)
    (he : starEach [.Call (.Name "set" p2) [e] [] pos2] X.env = (false, eval (.Call (.Name "set" p2) [e] [] pos2) X.env) :: starEach [] X.env := by rfl) (he2 : starEach [e] X.env = (false, eval e X.env) :: starEach [] X.env := by rfl)
    (hpl : (backTo pos (starEach [] X.env)).any (·.1) = false := by rfl) (hpl2 : (backTo pos2 (starEach [] X.env)).any (·.1) = false := by rfl) :
    FE X (.Call (.Name "sorted" p) [.Call (.Name "set" p2) [e] [] pos2] [] pos) (uSetSorted ua) := ⟨fun ρ R q F H σ0 σ B Q E g => by
  refine to_S (pe_callB (Yard.cr_sortedTx hc) hg hm (by decide +kernel) (pa_cons (pe_callTy (Yard.cr_setTx hc) hg2 hm2 (by decide +kernel) pa_S (by decide) (by decide) he2 hpl2) pa_nil he) (by decide) (by decide) he hpl) (ha ρ _ q F H σ0 σ B _ E fun rs ρ1 vs F1 H1 z G l _ => ?_)
  obtain ⟨ds, w, z⟩ := G.er.seens B l z
  unfold oSetSorted at z
  split at z
  · obtain ⟨xs, rfl, h0, t⟩ := z
    obtain ⟨v, rfl, w0⟩ := w.one
    obtain ⟨a, us, rfl, h1, l1⟩ := w0.lst G.er.sub
    cases rl_strs l1
    refine ⟨a, xs, rfl, .of h1, h0, fun c m nc lm hm' => ?_⟩
    obtain ⟨l64, t⟩ := t m lm hm'
    refine ⟨c, m, rfl, upd_same, l64, fun ys p' pm so np => ?_⟩
    obtain ⟨E2, n2⟩ := G.er.laid_val (o := Yard.TxO X.prog X.w c m) nc
    exact gt_lst E2 (fun z v F' H' t G' => g z ρ1 v F' H' t ⟨G.nx.trans (n2.trans G'.nx), G'.er, G'.rr⟩) (t ys pm so) (strs_rl ys) p' np
  · exact z.elim⟩

/-! ### isinstance -/
def tyD : D → Option String
  | .non => some "NoneType"
  | .bl _ => some "bool"
  | .int _ => some "int"
  | .str _ => some "str"
  | .lst _ => some "list"
  | .tup _ => some "tuple"
  | .dic _ => some "dict"
  | _ => none
theorem RW.tyx {K : PySem.W.Frag} {F H : Hp} {v : V} {d : D} {n : String} (s : Same F H) (h : RW K F H v d) (e : tyD d = some n) : TyX K H v (.type n) := by
  cases d with
  | non => cases e; cases h.non; exact .base .non
  | bl b => cases e; cases h.bl; exact .base (.bl _)
  | int b => cases e; cases h.int; exact .base (.int _)
  | str b => cases e; cases h.str; exact .base (.str _)
  | lst l => cases e; obtain ⟨a, us, rfl, h1, _⟩ := h.lst s; exact .base (.lst h1)
  | tup l =>
    cases e
    obtain ⟨a, us, rfl, h1, _⟩ := h.tup s
    rcases h1 with (h1 | ⟨o, h1⟩) | ⟨o, its, n, h1, h2, _⟩
    · exact .base (.tup h1)
    · exact .fTuple h1
    · exact .kTuple h1 h2
  | dic l => cases e; obtain ⟨a, us, rfl, h1, _⟩ := h.dic s; exact .base (.dK h1)
  | _ => cases e
/-- the answer, for the classes that are asked -/
def isTy (n c : String) : Option Bool :=
  if c = "str" then some (n == "str") else if c = "tuple" then some (n == "tuple") else if c = "list" then some (n == "list") else if c = "dict" then some (n == "dict")
  else if c = "bool" then some (n == "bool") else if c = "int" then some (n == "int" || n == "bool") else none
theorem isTy_ok {d : D} {n c : String} {b : Bool} (h : tyD d = some n) (e : isTy n c = some b) : kitB n c = some b := by
  have kk : ∀ c ∈ ["str", "tuple", "list", "dict", "bool", "int"], ∀ n ∈ ["NoneType", "bool", "int", "str", "list", "tuple", "dict"], kitB n c = isTy n c := by decide +kernel
  have hn : n ∈ ["NoneType", "bool", "int", "str", "list", "tuple", "dict"] := by
    cases d <;> cases h <;> decide
  have hc : c ∈ ["str", "tuple", "list", "dict", "bool", "int"] := by
    unfold isTy at e
    by_cases c1 : c = "str"
    · subst c1; decide
    rw [if_neg c1] at e
    by_cases c2 : c = "tuple"
    · subst c2; decide
    rw [if_neg c2] at e
    by_cases c3 : c = "list"
    · subst c3; decide
    rw [if_neg c3] at e
    by_cases c4 : c = "dict"
    · subst c4; decide
    rw [if_neg c4] at e
    by_cases c5 : c = "bool"
    · subst c5; decide
    rw [if_neg c5] at e
    by_cases c6 : c = "int"
    · subst c6; decide
    rw [if_neg c6] at e
    cases e
  rw [kk c hc n hn]; exact e
def isTyAny (n : String) : List D → Option Bool
  | [] => some false
  | .ty c :: cs => match isTy n c, isTyAny n cs with
    | some b, some b' => some (b || b')
    | _, _ => none
  | _ => none
def oIsi (ds : List D) (T : Rv → Prop) : Prop := match ds with
  | [d, .ty c] => ∃ n b, tyD d = some n ∧ isTy n c = some b ∧ T (.val (.bl b))
  | _ => False
theorem any_ok {K : PySem.W.Frag} {d : D} {n : String} (h : tyD d = some n) : ∀ {cs : List D} {b : Bool} {F : Hp} {vs : List V}, isTyAny n cs = some b → RL K F vs cs → ∃ us, Paired ClsV vs us ∧ PySem.W.kitAny K (.type n) us = some b
  | [], b, F, vs, e, l => by cases l; cases e; exact ⟨[], .nil, rfl⟩
  | c :: cs, b, F, vs, e, l => by
    cases l with
    | @cons v vs _ _ l1 l2 =>
    cases c with
    | ty c =>
      unfold isTyAny at e
      cases q1 : isTy n c with
      | none => rw [q1] at e; cases e
      | some b1 =>
        cases q2 : isTyAny n cs with
        | none => rw [q1, q2] at e; cases e
        | some b2 =>
          rw [q1, q2] at e; cases e
          obtain ⟨us, p, ka⟩ := any_ok h q2 l2
          cases l1
          refine ⟨.type c :: us, .cons (.ty c) p, kitAny_cons (kit_ty (isTy_ok h q1)) (fun z => ?_) fun z => ?_⟩
          · rw [z]; exact ka
          · rw [z]; rfl
    | _ => unfold isTyAny at e; cases e
theorem cb_isi {X : Cx} : CbS X (.builtin "isinstance") oIsi := .of call_isi fun {F H σ0 σ ρ B vs ds T Q} E w t g => by
  unfold oIsi at t
  split at t
  · obtain ⟨n, b, h1, h2, t⟩ := t
    obtain ⟨v, u, rfl, w1, w2⟩ := w.two
    cases w2.ty
    exact ⟨v, _, _, _, b, rfl, .ty _, w1.tyx E.sub h1, kit_ty (isTy_ok h1 h2), gt_val E g t (.bl _)⟩
  · exact t.elim
/-- isinstance(e, (T1, T2)) -/
def uIsiT (ua : UE) (ut : UA) : UE := fun ρ R => ua ρ fun r ρ1 => ut ρ1 fun cs ρ2 => cs.length ≤ sizeLine ∧ wv ρ2 r fun d => ∃ n b, tyD d = some n ∧ isTyAny n cs = some b ∧ R (.val (.bl b)) ρ2
theorem fe_isiT {X : Cx} {e : Expr} {ts : List Expr} {ua : UE} {ut : UA} {p pos pos2 : Pos} {k : Nat} (hg : Gl X "isinstance") (hm : X.mg "isinstance" = none) (ha : FE X e ua) (ht : FA X ts ut)
    (he : starEach [e, .Tuple ts k pos2] X.env = (false, eval e X.env) :: starEach [.Tuple ts k pos2] X.env := by rfl) (he2 : starEach [.Tuple ts k pos2] X.env = (false, eval (.Tuple ts k pos2) X.env) :: starEach [] X.env := by rfl)
    (hpl : (backTo pos (starEach [.Tuple ts k pos2] X.env)).any (·.1) = false := by rfl) : FE X (.Call (.Name "isinstance" p) [e, .Tuple ts k pos2] [] pos) (uIsiT ua ut) := ⟨fun ρ R q F H σ0 σ B Q E g => by
  refine to_S (pe_callB call_isiT hg hm (by decide +kernel) (pa_cons pe_S (pa_cons (pe_tup pa_S) pa_nil he2) he) (by decide) (by decide) he hpl)
    (ha ρ _ q F H σ0 σ B _ E fun r ρ1 v F1 H1 z G => ht ρ1 _ z F1 H1 σ0 σ (hB B r v) _ (G.er.hold G.rr) fun cs ρ2 vs F2 H2 ⟨zl, z2⟩ G2 l => ⟨by rw [l.len]; exact zl, fun tp np => ?_⟩)
  have E2 := G2.er.unhold
  have rr := G.rr.held G.er G2.er G2.nx
  obtain ⟨d, w, n, b, h1, h2, z⟩ := E2.seen rr z2
  obtain ⟨us, pa, ka⟩ := any_ok (K := X.K) h1 h2 l
  have n2 := G2.nx.mono hB_sub (B := B)
  obtain ⟨E3, n3⟩ := E2.laid_val (o := .tup vs) np
  have w3 : RW X.K (upd F2 tp (.tup vs)) (upd H2 tp (.tup vs)) v d := by
    rcases w with w | w
    · exact .inl (w.mono n3.fz)
    · obtain ⟨a, o, e1, e2⟩ := w.there
      subst e1
      exact .inr (w.keep n3.fz (upd_ne fun z => by subst z; rw [np] at e2; cases e2))
  exact ⟨v, tp, vs, _, us, b, rfl, upd_same, pa, w3.tyx E3.sub h1, ka, g _ _ _ _ _ z ⟨G.nx.trans (n2.trans n3), E3, .bl _⟩⟩⟩
end YP
set_option maxRecDepth 100000
/-! The yard's pure layer, part 8: methods of lists and texts, stores to places. -/
namespace PySem
open Sem (wp)
section
variable {prog : Program} {w : World} {A : Around} {R : Result → Shared → Prop} {I : Addr} {fp wr : List Addr} {G : Array GenState → Array GenState → Prop} {n m : Nat} {P P' : Nat → Value → Prop} {St : Nat → Shared → Prop}
/-- a walk's items behind what stands in the list -/
theorem ycodeAny_extend_loop (W : WalksS prog w A.in1 I fp wr G n P St) (hn : m + n ≤ sizeLine) (hP' : ∀ i v, P i v → P' (m + i) v) (S : Addr) (hSf : S ∉ fp) (res : Value) :
    ∀ (k i : Nat) (s : Shared) (acc : Array Value) (c : Nat), n - i = k → i ≤ n → St i s → s.heap.get? S = some { cls := .type "list", dict := none, data := .seq acc c, slots := #[] } → ItemsOf P' acc (m + i) →
    (∀ s' acc' c', Moved (S :: wr) G s s' → s'.heap.get? S = some { cls := .type "list", dict := none, data := .seq acc' c', slots := #[] } → ItemsOf P' acc' (m + n) → R (.ok (.ret res)) s') →
    codeAny (model prog w) A (.builtin "list.extend.loop" ⟨[.ref S, .ref I, res], []⟩) R s := by
  have hSw : S ∉ wr := fun h => hSf (W.sub _ h)
  have hsub : ∀ b ∈ wr, b ∈ S :: wr := fun b hb => List.mem_cons_of_mem _ hb
  intro k
  induction k with
  | zero =>
    intro i s acc c hk hi hst hS hacc hR
    have hin : i = n := by omega
    subst hin
    refine codeAny_builtin F.entry_extend_loop ?_
    rw [Around.under_plainId F.plain_extend_loop _]
    show wpAny _ A.in1 (pyNext (.ref I) >>= _) _ _ s
    refine wpAny_bind (W.done s _ _ hst fun s' hm => ?_)
    exact wpAny_pure (hR s' acc c (hm.mono hsub) (hm.heap S _ hSw hS) hacc)
  | succ k ih =>
    intro i s acc c hk hi hst hS hacc hR
    have hlt : i < n := by omega
    refine codeAny_builtin F.entry_extend_loop ?_
    rw [Around.under_plainId F.plain_extend_loop _]
    show wpAny _ A.in1 (pyNext (.ref I) >>= _) _ _ s
    refine wpAny_bind (W.item i s _ _ hlt hst fun v s' hP hst' hm => ?_)
    have hS' := hm.heap S _ hSw hS
    show wpAny _ A.in1 (updateSeq S (·.push v) >>= _) _ _ _
    refine wpAny_bind ?_
    refine wpAny_updateSeq hS' rfl (wpAny_pure ⟨plainId_quiet F.plain_extend_loop _, ih (i + 1) _ (acc.push v) _ (by omega) hlt (W.frame _ s' _ s'.toks hst' (Nat.le_refl _) fun b hb o e => ?_) (Heap.get?_update_self _ hS' rfl) (hacc.push (hP' i v hP)) fun s'' acc' c' hm'' hS'' hacc' => ?_⟩)
      (by rw [hacc.1]; omega) (by show (acc.push v).size ≤ sizeLine + 1; rw [Array.size_push, hacc.1]; omega)
    · exact (Heap.get?_update_other _ _ (fun h : S = b => hSf (by rw [h]; exact hb))).trans e
    · refine hR s'' acc' c' (Moved.trans W.gtrans ((hm.mono hsub).then_heap (by first | exact Nat.le_refl _ | exact Nat.le_succ _ | omega) fun b o hb e => ?_) hm'') hS'' hacc'
      exact (Heap.get?_update_other _ _ (fun h : S = b => hb (by rw [h]; exact List.mem_cons_self))).trans e
end
section
variable {prog : Program} {w : World} {A : Around} {E : Value → Shared → Prop} {s : Shared}
/-- a list, and a text's signs behind -/
theorem ywpAny_extend_str {R : Result → Shared → Prop} (hh : A.handled = none) (x : Str) (t : Tok) (S : Addr) (res : Value) (its : Array Value) (c₀ : Nat) (hS : s.heap.get? S = some { cls := .type "list", data := .seq its c₀ })
    (hR : ∀ h' tk acc' c', (∀ b o, b ≠ S → s.heap.get? b = some o → h'.get? b = some o) → h'.get? S = some { cls := .type "list", dict := none, data := .seq acc' c', slots := #[] } →
      ItemsOf (fun j v => if j < its.size then its[j]? = some v else SignAt x (j - its.size) v) acc' (its.size + x.cps.size) → R (.ok (.ret res)) { s with heap := h', toks := tk }) (hn : its.size + x.cps.size ≤ sizeLine) :
    wpAny (model prog w) A.in1 (Builtin.List.listExtendWith (.ref S) (.str x t) res)
      (fun fin s' => match fin with | .done f => R (.ok f) s' | .again c' => c'.quiet = true ∧ codeAny (model prog w) A c' R s') (fun e s' => R (.error e) s') s := by
  have hSI : S ≠ s.heap.objs.size := Nat.ne_of_lt (Heap.lt_size hS)
  have hSf : S ∉ [s.heap.objs.size] := fun hm => hSI (List.mem_singleton.mp hm)
  unfold Builtin.List.listExtendWith
  refine wpAny_bind (wpAny_typeOf (T := "str") (v := .str x t) rfl ?_)
  have h1 : Builtin.List.listSameRef (.ref S) (.str x t) = false := rfl
  have h2 : (Value.type "str" == Value.type "list") = false := by decide
  have h3 : (Value.type "str" == Value.type "tuple") = false := by decide
  simp only [h1, h2, h3, Bool.or_false, Bool.false_eq_true, if_false]
  refine wpAny_bind (wpAny_pyIter_str fun o St W hst => ?_)
  refine wpAny_bind (wpAny_holding ?_)
  unfold Builtin.List.listLengthHint
  refine wpAny_bind (wpAny_specialOf (T := "str") (v := .str x t) rfl F.str_len ?_)

  wp_delta
  refine wpAny_bind (wpAny_isInstance (T := "str") (v := .str x t) (b := true) rfl (by rw [isSubtype_type]; kernel_rfl) ?_)
  show wpAny _ _ (typeOf (Value.str x t) >>= _) _ _ _
  refine wpAny_bind (wpAny_typeOf (T := "str") (v := .str x t) rfl ?_)
  refine wpAny_pure ?_
  rw [if_neg (by decide)]
  refine wpAny_pure ⟨plainId_quiet F.plain_extend_loop _, ycodeAny_extend_loop (m := its.size) (P' := fun j v => if j < its.size then its[j]? = some v else SignAt x (j - its.size) v) (W A.in1 hh).toS hn (fun i v hp => ?_) _ hSf _ x.cps.size 0 _ _ _ rfl (Nat.zero_le _) hst (Heap.get?_push_of_some _ hS) ⟨rfl, fun j v hj => ?_⟩ fun s' acc' c' hm hS' hacc => ?_⟩
  · have e1 : ¬ its.size + i < its.size := by omega
    have e2 : its.size + i - its.size = i := by omega
    show if its.size + i < its.size then _ else SignAt x (its.size + i - its.size) v
    rw [if_neg e1, e2]; exact hp
  · have hlt : j < its.size := (Array.getElem?_eq_some_iff.mp hj).1
    show if j < its.size then _ else _
    rw [if_pos hlt]; exact hj
  · rw [Moved.eq_with hm]
    refine hR s'.heap s'.toks acc' c' (fun b ob hb e => hm.heap b ob (fun hmem => ?_) (Heap.get?_push_of_some _ e)) hS' hacc
    rcases List.mem_cons.mp hmem with e' | hmem
    · exact hb e'
    · exact absurd (Heap.lt_size e) (by rw [List.mem_singleton.mp hmem]; exact Nat.lt_irrefl _)
theorem ywpAny_extend_tup {M : Model} {A : Around} {l b : Addr} {res : Value} {its its2 : Array Value} {n : Nat} {Q : Fin → Shared → Prop} (hl : s.heap.get? l = some { cls := .type "list", data := .seq its n }) (hb : PyProof.Rows.IsTup s.heap b its2)
    (hz : its.size + its2.size ≤ sizeLine) (h : Q (.done (.ret res)) { s with heap := s.heap.update l (Obj.mapSeq fun x => x ++ its2) }) : wpAny M A (Builtin.List.listExtendWith (.ref l) (.ref b) res) Q E s := by
  obtain ⟨o, ho, hc, k, hd⟩ := hb
  unfold Builtin.List.listExtendWith
  refine wpAny_bind (wpAny_typeOf_ref ho ?_)
  rw [hc]
  have h3 : (Value.type "tuple" == Value.type "tuple") = true := by decide
  simp only [h3, Bool.or_true, if_true]
  unfold Builtin.List.listItems
  refine wpAny_bind (wpAny_bind (wpAny_seqItems ho hd (wpAny_pure ?_)))
  refine wpAny_bind (wpAny_bind (wpAny_seqItems hl rfl (wpAny_pure ?_)))
  have e : (!its.isEmpty && Builtin.List.listTooLong (its.size + its2.size)) = false := by rw [L2.notLongL hz, Bool.and_false]
  simp only [e, Bool.false_eq_true, if_false]
  refine wpAny_bind ?_
  refine wpAny_updateSeq hl rfl ?_ (by omega) (by show (its ++ its2).size ≤ _; rw [Array.size_append]; omega)
  exact wpAny_pure h
end
end PySem

namespace YP
open PySem PySem.Spec PyProof.Rows L2
section
variable {X : Cx}
theorem mext_tup (l b : Addr) (its its2 : Array Value) (n : Nat) (hz : its.size + its2.size ≤ sizeLine) : Meets (Builtin.«list.extend» ⟨[.ref l, .ref b], []⟩)
    (fun _ R s => s.heap.get? l = some { cls := .type "list", data := .seq its n } ∧ IsTup s.heap b its2 ∧ R (.ok (.ret .none)) { s with heap := s.heap.update l (Obj.mapSeq fun x => x ++ its2) }) := fun prog w A R s h => by
  obtain ⟨hl, hb, h⟩ := h
  show wpAny _ _ (Builtin.List.listExtendWith (.ref l) (.ref b) .none) _ _ _
  exact ywpAny_extend_tup hl hb hz h
theorem mext_str (l : Addr) (its : Array Value) (n : Nat) (x : Str) (t : Tok) (hz : its.size + x.cps.size ≤ sizeLine) : Meets (Builtin.«list.extend» ⟨[.ref l, .str x t], []⟩)
    (fun A R s => A.handled = none ∧ s.heap.get? l = some { cls := .type "list", data := .seq its n } ∧ ∀ h' tk acc' c', (∀ b o, b ≠ l → s.heap.get? b = some o → h'.get? b = some o) → h'.get? l = some { cls := .type "list", dict := none, data := .seq acc' c', slots := #[] } →
      ItemsOf (fun j v => if j < its.size then its[j]? = some v else SignAt x (j - its.size) v) acc' (its.size + x.cps.size) → R (.ok (.ret .none)) { s with heap := h', toks := tk }) := fun prog w A R s h => by
  obtain ⟨hh, hl, h⟩ := h
  show wpAny _ _ (Builtin.List.listExtendWith (.ref l) (.str x t) .none) _ _ _
  exact ywpAny_extend_str hh x t l .none its n hl h hz
theorem pairedOf {α β : Type} {R : α → β → Prop} : ∀ {l : List α} {m : List β}, l.length = m.length → (∀ (i : Nat) x, l[i]? = some x → ∃ y, m[i]? = some y ∧ R x y) → Paired R l m
  | [], [], _, _ => .nil
  | [], _ :: _, h, _ => nomatch h
  | _ :: _, [], h, _ => nomatch h
  | a :: l, b :: m, h, k => by
    obtain ⟨y, e, r⟩ := k 0 a rfl
    cases e
    exact .cons r (pairedOf (Nat.succ.inj h) fun i x e => k (i + 1) x e)
def rExtT (K : PySem.W.Frag) : V → List V → Hp → VK → Prop := fun x vs H Q => ∃ l b xs zs, x = .ref l ∧ vs = [.ref b] ∧ H l = some (.lst xs) ∧ SqT K H b zs ∧ xs.length + zs.length ≤ sizeLine ∧ Q .non (upd H l (.lst (xs ++ zs)))
theorem mt_extT : MtR X "list.extend" (rExtT X.K) := by
  intro pins s σ H x vs v us Q I rx rv h
  obtain ⟨l, b, xs, zs, rfl, rfl, hH, hB, hz, q⟩ := h
  cases rx
  obtain ⟨u, rfl, ru⟩ := rv.one
  cases ru
  obtain ⟨z, its, n, r, hl, e⟩ := I.lstM hH
  obtain ⟨its2, r2, e2, _⟩ := I.tuple hB
  have l2 := r2.length
  refine call_meets F.slot_list_extend ⟨_, e, rfl⟩ F.entry_list_extend (F.args_list_extend_2 _ _) (mext_tup l b its.toArray its2.toArray n (by rw [List.size_toArray, List.size_toArray]; omega)) ⟨e, e2, ?_⟩
  refine ⟨.non, _, I.lset (its' := its ++ its2) (t' := s.toks) hH e (by simp) (r.append r2) ?_, rfl, q⟩
  rw [List.length_append]
  omega
def rExtS : V → List V → Hp → VK → Prop := fun x vs H Q => ∃ l xs z, x = .ref l ∧ vs = [.str z] ∧ H l = some (.lst xs) ∧ xs.length + z.cps.size ≤ sizeLine ∧ Q .non (upd H l (.lst (xs ++ z.cps.toList.map fun c => .str ⟨#[c]⟩)))
theorem mt_extS (hc : X.calm = true) : MtR X "list.extend" rExtS := by
  intro pins s σ H x vs v us Q I rx rv h
  obtain ⟨l, xs, z, rfl, rfl, hH, hz, q⟩ := h
  cases rx
  obtain ⟨u, rfl, ru⟩ := rv.one
  obtain ⟨t, rfl⟩ := ru
  obtain ⟨zl, its, n, r, hl, e⟩ := I.lstM hH
  refine call_meets F.slot_list_extend ⟨_, e, rfl⟩ F.entry_list_extend (F.args_list_extend_2 _ _) (mext_str l its.toArray n z t (by rw [List.size_toArray]; omega)) ⟨I.ok.hd hc, e, fun h' tk acc' c' k e' it => ?_⟩
  have rv' : Vals (xs ++ z.cps.toList.map fun c => V.str ⟨#[c]⟩) acc'.toList := by
    refine pairedOf ?_ fun i x hx => ?_
    · have i1 : acc'.size = its.toArray.size + z.cps.size := it.1
      have i2 : its.toArray.size = its.length := List.size_toArray
      have i3 : acc'.toList.length = acc'.size := Array.length_toList
      have i4 : z.cps.toList.length = z.cps.size := Array.length_toList
      rw [List.length_append, List.length_map]
      omega
    · by_cases hi : i < xs.length
      · rw [List.getElem?_append_left hi] at hx
        obtain ⟨u, e1, r1⟩ := r.get hx
        have hi2 : i < acc'.size := by rw [it.1, List.size_toArray]; omega
        have e3 : acc'[i]? = some acc'[i] := Array.getElem?_eq_getElem hi2
        have p : if i < its.toArray.size then its.toArray[i]? = some acc'[i] else SignAt z (i - its.toArray.size) acc'[i] := it.2 i _ e3
        have hi3 : i < its.toArray.size := by rw [List.size_toArray]; omega
        rw [if_pos hi3] at p
        refine ⟨acc'[i], by rw [Array.getElem?_toList]; exact e3, ?_⟩
        have e4 : its[i]? = some acc'[i] := by simpa using p
        rw [e1] at e4
        cases e4; exact r1
      · rw [List.getElem?_append_right (by omega), List.getElem?_map] at hx
        cases q2 : z.cps.toList[i - xs.length]? with
        | none => rw [q2] at hx; cases hx
        | some c =>
          rw [q2] at hx; cases hx
          have hl2 : i - xs.length < z.cps.toList.length := (List.getElem?_eq_some_iff.mp q2).1
          have i4 : z.cps.toList.length = z.cps.size := Array.length_toList
          rw [i4] at hl2
          have hi2 : i < acc'.size := by rw [it.1, List.size_toArray]; omega
          have e3 : acc'[i]? = some acc'[i] := Array.getElem?_eq_getElem hi2
          have p : if i < its.toArray.size then its.toArray[i]? = some acc'[i] else SignAt z (i - its.toArray.size) acc'[i] := it.2 i _ e3
          have hi3 : ¬ i < its.toArray.size := by rw [List.size_toArray]; omega
          rw [if_neg hi3] at p
          obtain ⟨c', u, e5, e6⟩ := p
          rw [List.size_toArray, ← hl] at e5
          rw [Array.getElem?_toList] at q2
          rw [q2] at e5; cases e5
          exact ⟨acc'[i], by rw [Array.getElem?_toList]; exact e3, u, e6⟩
  have I2 : Inv X pins σ (upd H l (.lst (xs ++ z.cps.toList.map fun c => V.str ⟨#[c]⟩))) { s with heap := h', toks := tk } := by
    refine I.write (x := l) (e := l) (by rw [hH]; exact trivial) (.inl rfl) (fun b u hb hu => k b u hb hu) ⟨_, e'⟩ ?_
    refine ⟨by rw [List.length_append, List.length_map, Array.length_toList]; omega, acc'.toList, c', rv', ?_⟩
    rw [Array.toArray_toList]; exact e'
  exact ⟨.non, _, I2, rfl, q⟩

/-! ### methods that change a list -/
structure MuS (X : Cx) (id : String) (m : List D → List D → (List D → D → Prop) → Prop) : Prop where
  ex : ∃ r, MtR X id r ∧ ∀ {F H : Hp} {a : Addr} {us vs : List V} {l ds : List D} {T : List D → D → Prop} {Q : VK}, Same F H → H a = some (.lst us) → RL X.K F us l → RL X.K F vs ds → m l ds T →
    (∀ l' e v us', T l' e → RL X.K F us' l' → RD X.K F v e → Q v (upd H a (.lst us'))) → r (.ref a) vs H Q
theorem MuS.of {id : String} {m : List D → List D → (List D → D → Prop) → Prop} {r : V → List V → Hp → VK → Prop} (h : MtR X id r) (k : ∀ {F H : Hp} {a : Addr} {us vs : List V} {l ds : List D} {T : List D → D → Prop} {Q : VK}, Same F H → H a = some (.lst us) → RL X.K F us l → RL X.K F vs ds → m l ds T →
    (∀ l' e v us', T l' e → RL X.K F us' l' → RD X.K F v e → Q v (upd H a (.lst us'))) → r (.ref a) vs H Q) : MuS X id m := ⟨⟨r, h, k⟩⟩
theorem MtR.or {id : String} {r r' : V → List V → Hp → VK → Prop} (h : MtR X id r) (h' : MtR X id r') : MtR X id (fun x xs H Q => r x xs H Q ∨ r' x xs H Q) := by
  intro pins s σ H x xs v us Q I rx rxs q
  rcases q with q | q
  · exact h pins s σ H x xs v us Q I rx rxs q
  · exact h' pins s σ H x xs v us Q I rx rxs q
/-- the list that a slot holds as one's own -/
def ownL (ρ : List Sl) (r : Rv) (k : Nat → Bool → List D → Prop) : Prop := match r with
  | .at i => match ρ[i]? with
    | some (.sl true p (.lst l)) => k i p l
    | _ => False
  | _ => False
theorem ownL_of {ρ : List Sl} {r : Rv} {k : Nat → Bool → List D → Prop} (h : ownL ρ r k) : ∃ i p l, r = .at i ∧ ρ[i]? = some (.sl true p (.lst l)) ∧ k i p l := by
  unfold ownL at h
  split at h
  · split at h
    · exact ⟨_, _, _, rfl, ‹_›, h⟩
    · exact h.elim
  · exact h.elim
def uMu (m : List D → List D → (List D → D → Prop) → Prop) (ue : UE) (ua : UA) : UE := fun ρ R => ue ρ fun r ρ1 => ownL ρ1 r fun _ _ _ => ua ρ1 fun ds ρ2 => ownL ρ2 r fun i p l => m l ds fun l' e => R (.val e) (ρ2.set i (.sl true p (.lst l')))
section
variable {o e : Expr} {es : List Expr} {name : Str} {apos cpos : Pos} {id : String} {m : List D → List D → (List D → D → Prop) → Prop} {ue : UE} {ua : UA} {F H : Hp} {σ0 σ : L2.St} {ρ : List Sl} {B : Addr → Prop}
theorem mu_go (k : ∃ r, MtR X id r ∧ ∀ {F H : Hp} {a : Addr} {us vs : List V} {l ds : List D} {T : List D → D → Prop} {Q : VK}, Same F H → H a = some (.lst us) → RL X.K F us l → RL X.K F vs ds → m l ds T →
    (∀ l' e v us', T l' e → RL X.K F us' l' → RD X.K F v e → Q v (upd H a (.lst us'))) → r (.ref a) vs H Q) (ho : FE X o ue) (ha : FA X es ua) {R : Rv → List Sl → Prop} {Q : VK} (q : uMu m ue ua ρ R) (E : ER X.K F H σ0 ρ σ B)
    (g : ∀ r ρ' v F' H', R r ρ' → Gt X.K F H F' H' σ0 ρ' σ B r v → Q v H') : ∃ r, MtR X id r ∧ tS X o σ H fun x H1 => tyV X.K "list" x H1 ∧ tA X es σ H1 fun xs H2 => r x xs H2 Q := by
  obtain ⟨r, hr, k⟩ := k
  refine ⟨r, hr, ho ρ _ q F H σ0 σ B _ E fun r1 ρ1 x F1 H1 z G => ?_⟩
  obtain ⟨i, p, l, rfl, e1, z⟩ := ownL_of z
  have si : σ[i]? = some (some x) := G.rr
  obtain ⟨a, e2, ro, _⟩ := G.er.ow i p _ e1
  rw [si] at e2; cases e2
  cases ro with
  | @lst _ us _ h1 l1 =>
    refine ⟨.inl ⟨rfl, us, .of h1⟩, ha ρ1 _ z F1 H1 σ0 σ B _ G.er fun ds ρ2 vs F2 H2 z G2 l2 => ?_⟩
    obtain ⟨j, p2, l', e3, e4, z⟩ := ownL_of z
    cases e3
    obtain ⟨a', e5, ro2, _⟩ := G2.er.ow _ _ _ e4
    rw [si] at e5; cases e5
    cases ro2 with
    | @lst _ us2 _ h3 l3 =>
      refine k G2.er.sub h3 l3 l2 z fun l'' e v us' t rl rd => ?_
      obtain ⟨E3, n3⟩ := G2.er.wrote e4 si (o := .lst us') (e := .lst l'') (.lst upd_same rl)
      exact g _ _ _ _ _ t ⟨G.nx.trans (G2.nx.trans n3), E3, rd⟩
theorem fe_mu (mu : MuS X id m) (slot : Slot "list" name id) (hty : typeOf (.builtin id) = pure (.type "method_descriptor")) (ho : FE X o ue) (ha : FA X (e :: es) ua)
    (hbase : attributeBase o name X.env (eval o X.env) = eval o X.env := by rfl)
    (hfew : ((backTo cpos (starEach (e :: es) X.env)).all (fun x => !x.1) && (backToKw cpos (keywordEach [] X.env)).all (fun x => x.1.isSome)
      && decide ((e :: es).length + ([] : List Keyword).length + (if ([] : List Keyword).isEmpty then 0 else 1) < 30)) = true := by rfl)
    (hline : (apos.endLine == cpos.line) = true := by rfl) (hs : starEach (e :: es) X.env = (false, eval e X.env) :: starEach es X.env := by rfl) (hplain : (backTo cpos (starEach es X.env)).any (·.1) = false := by rfl) :
    FE X (.Call (.Attribute o name apos) (e :: es) [] cpos) (uMu m ue ua) := ⟨fun ρ R q F H σ0 σ B Q E g => by
  obtain ⟨r, hr, t⟩ := mu_go mu.ex ho ha q E g
  exact to_S (pe_bm PySem.F.plainAttrs_list slot hty hr pe_S pa_S hbase hfew hline hs hplain) t⟩
theorem fe_mu0 (mu : MuS X id m) (slot : Slot "list" name id) (hty : typeOf (.builtin id) = pure (.type "method_descriptor")) (ho : FE X o ue)
    (hbase : attributeBase o name X.env (eval o X.env) = eval o X.env := by rfl) (hline : (apos.endLine == cpos.line) = true := by rfl) :
    FE X (.Call (.Attribute o name apos) [] [] cpos) (uMu m ue uNil) := ⟨fun ρ R q F H σ0 σ B Q E g => by
  obtain ⟨r, hr, k⟩ := mu.ex
  refine to_S (pe_bm0 PySem.F.plainAttrs_list slot hty hr pe_S hbase hline) (ho ρ _ q F H σ0 σ B _ E fun r1 ρ1 x F1 H1 z G => ?_)
  obtain ⟨i, p, l, rfl, e1, z⟩ := ownL_of z
  have si : σ[i]? = some (some x) := G.rr
  obtain ⟨a, e2, ro, _⟩ := G.er.ow i p _ e1
  rw [si] at e2; cases e2
  cases ro with
  | @lst _ us _ h1 l1 =>
    refine ⟨.inl ⟨rfl, us, .of h1⟩, ?_⟩
    obtain ⟨j, p2, l', e3, e4, z⟩ := ownL_of (show ownL ρ1 (.at i) (fun i p l => m l [] fun l' e => R (.val e) (ρ1.set i (Sl.sl true p (D.lst l')))) from z)
    cases e3
    rw [e1] at e4; cases e4
    refine k G.er.sub h1 l1 .nil z fun l'' e v us' t rl rd => ?_
    obtain ⟨E3, n3⟩ := G.er.wrote e1 si (o := .lst us') (e := .lst l'') (.lst upd_same rl)
    exact g _ _ _ _ _ t ⟨G.nx.trans n3, E3, rd⟩⟩
end
def mAppend (l ds : List D) (T : List D → D → Prop) : Prop := match ds with
  | [d] => l.length < sizeLine ∧ T (l ++ [d]) .non
  | _ => False
theorem mu_append : MuS X "list.append" mAppend := .of mt_append fun {F H a us vs l ds T Q} s h rl rv t g => by
  unfold mAppend at t
  split at t
  · cases rv with
    | cons r1 r2 =>
      cases r2
      exact ⟨a, us, _, rfl, rfl, h, by rw [rl.len]; exact t.1, g _ _ _ _ t.2 (rl.snoc r1) .non⟩
  · exact t.elim
def mExtend (l ds : List D) (T : List D → D → Prop) : Prop := match ds with
  | [.lst k] => l.length + k.length ≤ sizeLine ∧ T (l ++ k) .non
  | [.tup k] => l.length + k.length ≤ sizeLine ∧ T (l ++ k) .non
  | [.str x] => l.length + x.cps.size ≤ sizeLine ∧ T (l ++ x.cps.toList.map fun c => .str ⟨#[c]⟩) .non
  | _ => False
theorem signs_rl {K : PySem.W.Frag} {F : Hp} : ∀ l : List Nat, RL K F (l.map fun c => V.str ⟨#[c]⟩) (l.map fun c => D.str ⟨#[c]⟩)
  | [] => .nil
  | c :: l => .cons (.str _) (signs_rl l)
theorem mu_extend (hc : X.calm = true) : MuS X "list.extend" mExtend := .of (MtR.or mt_extend (MtR.or mt_extT (mt_extS hc))) fun {F H a us vs l ds T Q} s h rl rv t g => by
  unfold mExtend at t
  split at t
  · cases rv with
    | cons r1 r2 =>
      cases r2
      cases r1 with
      | @lst b zs _ h2 l2 => exact .inl ⟨a, b, us, zs, rfl, rfl, h, s _ _ h2, by rw [rl.len, l2.len]; exact t.1, g _ _ _ _ t.2 (rl.app l2) .non⟩
  · cases rv with
    | cons r1 r2 =>
      cases r2
      cases r1 with
      | @tup b zs _ h2 l2 => exact .inr (.inl ⟨a, b, us, zs, rfl, rfl, h, .of (s _ _ h2), by rw [rl.len, l2.len]; exact t.1, g _ _ _ _ t.2 (rl.app l2) .non⟩)
  · cases rv with
    | cons r1 r2 =>
      cases r2
      cases r1
      exact .inr (.inr ⟨a, us, _, rfl, rfl, h, by rw [rl.len]; exact t.1, g _ _ _ _ t.2 (rl.app (signs_rl _)) .non⟩)
  · exact t.elim
def mPop (l ds : List D) (T : List D → D → Prop) : Prop := ds = [] ∧ ∃ k d, l = k ++ [d] ∧ T k d
theorem mu_pop : MuS X "list.pop" mPop := .of mt_pop fun {F H a us vs l ds T Q} s h rl rv t g => by
  obtain ⟨rfl, k, d, rfl, t⟩ := t
  cases rv
  obtain ⟨us', v, es, d', e1, e2, l1, r1⟩ := rl.last (by simp)
  obtain ⟨e3, e4⟩ := List.append_inj' e2 rfl
  subst e1 e3
  cases e4
  refine ⟨a, _, v, rfl, rfl, h, by simp, ?_⟩
  rw [List.dropLast_concat]
  exact g _ _ _ _ t l1 r1
end
end YP
set_option maxRecDepth 100000
/-! The yard's pure layer, part 9: join, stores to places, dicts with keys of numbers and texts. -/
namespace YP
open PySem PySem.Spec PyProof.Rows L2
section
variable {X : Cx} {o e f : Expr} {uo ue uf : UE} {apos cpos pos : Pos}

/-! ### sep.join(list of texts) -/
def oJoin (d e : D) (T : Rv → Prop) : Prop := match d, e with
  | .str a, .lst l => ∃ ys : List Str, l = ys.map D.str ∧ (ys.map (·.length)).sum + ys.length * a.length ≤ 16777216 ∧ T (.val (.str (Txt.join a ys)))
  | _, _ => False
def uJoin (ua ub : UE) : UE := fun ρ R => ua ρ fun r ρ1 => match r with
  | .val (.str a) => ub ρ1 fun q ρ2 => wv ρ2 q fun e => oJoin (.str a) e fun z => R z ρ2
  | _ => False
theorem fe_join (ho : FE X o uo) (he : FE X e ue) (hs : starEach [e] X.env = [(false, eval e X.env)] := by rfl) (hbase : attributeBase o "join" X.env (eval o X.env) = eval o X.env := by rfl) (hline : (apos.endLine == cpos.line) = true := by rfl) :
    FE X (.Call (.Attribute o "join" apos) [e] [] cpos) (uJoin uo ue) := ⟨fun ρ R q F H σ0 σ B Q E g => by
  refine to_S (pe_join pe_S pe_S hs hbase hline) (ho ρ _ q F H σ0 σ B _ E fun r ρ1 v F1 H1 z G => ?_)
  split at z
  case h_2 => exact z.elim
  rename_i a
  have rr : RD X.K F1 v (.str a) := G.rr
  cases rr
  refine ⟨⟨a, rfl⟩, he ρ1 _ z F1 H1 σ0 σ B _ G.er fun q ρ2 u F2 H2 z G2 => ?_⟩
  obtain ⟨d, w, z⟩ := G2.er.seen G2.rr z
  unfold oJoin at z
  split at z
  · rename_i l e1
    obtain ⟨ys, rfl, hz, t⟩ := z
    cases e1
    obtain ⟨p, us, rfl, h1, l1⟩ := w.lst G2.er.sub
    cases rl_strs l1
    exact ⟨a, p, ys, rfl, rfl, .inl (.of h1), hz, g _ _ _ _ _ t ⟨G.nx.trans G2.nx, G2.er, .str _⟩⟩
  · exact z.elim⟩

/-! ### l[i] = v, the list one's own -/
def uPutL (uv uo ui : UE) : US := fun E ρ => uv ρ fun r ρ1 => wv ρ1 r fun d => uo (frz ρ1 r) fun q ρ2 => ui ρ2 fun s ρ3 => match s with
  | .val (.int k) => ownL ρ3 q fun i p l => ∃ j, ixN l.length k = some j ∧ E.nx (ρ3.set i (.sl true p (.lst (l.set j d))))
  | _ => False
theorem fs_putL {st : Stmt} {v i : Expr} {uv ui : UE} (h : PS X st (tAsg (tS X v) (gSub (tS X o) (tS X i) rSetL))) (hv : FE X v uv) (ho : FE X o uo) (hi : FE X i ui) : FS X st (uPutL uv uo ui) := ⟨fun E ρ q F H σ0 σ B D er f => by
  refine to_SS h (hv ρ _ q F H σ0 σ B _ er fun r ρ1 x F1 H1 z G => ?_)
  obtain ⟨F2, d, n2, E2, rd, z⟩ := G.er.freeze G.rr z
  refine ho _ _ z F2 H1 σ0 σ B _ E2 fun q ρ2 y F3 H3 z G3 => hi ρ2 _ z F3 H3 σ0 σ (hB B q y) _ (G3.er.hold G3.rr) fun s ρ3 w F4 H4 z G4 => ?_
  split at z
  case h_2 => exact z.elim
  rename_i k
  have E4 := G4.er.unhold
  have rq := G3.rr.held G3.er G4.er G4.nx
  have rs : RD X.K F4 w (.int k) := G4.rr
  cases rs
  obtain ⟨i, p, l, rfl, e1, j, ej, z⟩ := ownL_of z
  have si : σ[i]? = some (some y) := rq
  obtain ⟨a, e2, ro, _⟩ := E4.ow i p _ e1
  rw [si] at e2; cases e2
  cases ro with
  | @lst _ us _ h1 l1 =>
    refine ⟨a, us, k, j, rfl, rfl, h1, by rw [l1.len]; exact ej, ?_⟩
    have rd4 := rd.mono (G3.nx.fz.trans G4.nx.fz)
    obtain ⟨E5, n5⟩ := E4.wrote e1 si (o := .lst (us.set j x)) (e := .lst (l.set j d)) (.lst upd_same (l1.set j rd4))
    exact f.nx _ _ F4 _ z ⟨G.nx.trans (n2.trans (G3.nx.trans ((G4.nx.mono hB_sub).trans n5))), E5⟩⟩

/-! ### dicts -/
def keyD : D → Option Key
  | .int i => some (.inl i)
  | .str x => some (.inr x)
  | _ => none
theorem keyD_v {K : PySem.W.Frag} {F H : Hp} {v : V} {d : D} {k : Key} (h : RW K F H v d) (e : keyD d = some k) : v = kV k := by
  cases d with
  | int i => cases e; exact h.int
  | str x => cases e; exact h.str
  | _ => cases e
def kget (l : List (Key × D)) (k : Key) : Option D := (l.find? fun kv => decide (kv.1 = k)).map (·.2)
def kput (l : List (Key × D)) (k : Key) (d : D) : List (Key × D) :=
  if (l.any fun kv => decide (kv.1 = k)) = true then l.map (fun kv => if kv.1 = k then (kv.1, d) else kv) else l ++ [(k, d)]
theorem RK.get {K : PySem.W.Frag} {F : Hp} {k : Key} : ∀ {vs : List (Key × V)} {ds : List (Key × D)}, RK K F vs ds → (valV vs k = none ∧ kget ds k = none) ∨ ∃ v d, valV vs k = some v ∧ kget ds k = some d ∧ RD K F v d
  | _, _, .nil => .inl ⟨rfl, rfl⟩
  | _, _, @RK.cons _ _ k' v vs d ds h t => by
    by_cases e : k' = k
    · refine .inr ⟨v, d, ?_, ?_, h⟩
      · unfold valV; rw [List.find?_cons]; simp [e]
      · unfold kget; rw [List.find?_cons]; simp [e]
    · have e1 : valV ((k', v) :: vs) k = valV vs k := by unfold valV; rw [List.find?_cons]; simp [e]
      have e2 : kget ((k', d) :: ds) k = kget ds k := by unfold kget; rw [List.find?_cons]; simp [e]
      rw [e1, e2]
      exact t.get
theorem RK.any {K : PySem.W.Frag} {F : Hp} {k : Key} : ∀ {vs : List (Key × V)} {ds : List (Key × D)}, RK K F vs ds → (vs.any fun kv => decide (kv.1 = k)) = (ds.any fun kv => decide (kv.1 = k))
  | _, _, .nil => rfl
  | _, _, .cons _ t => by rw [List.any_cons, List.any_cons, t.any]
theorem RK.snoc {K : PySem.W.Frag} {F : Hp} {k : Key} {v : V} {d : D} (r : RD K F v d) : ∀ {vs : List (Key × V)} {ds : List (Key × D)}, RK K F vs ds → RK K F (vs ++ [(k, v)]) (ds ++ [(k, d)])
  | _, _, .nil => .cons r .nil
  | _, _, .cons h t => .cons h (t.snoc r)
theorem RK.mapp {K : PySem.W.Frag} {F : Hp} {k : Key} {v : V} {d : D} (r : RD K F v d) : ∀ {vs : List (Key × V)} {ds : List (Key × D)}, RK K F vs ds → RK K F (vs.map fun kv => if kv.1 = k then (kv.1, v) else kv) (ds.map fun kv => if kv.1 = k then (kv.1, d) else kv)
  | _, _, .nil => .nil
  | _, _, @RK.cons _ _ k' v' vs d' ds h t => by
    rw [List.map_cons, List.map_cons]
    by_cases e : k' = k
    · rw [if_pos e, if_pos e]; exact .cons r (t.mapp r)
    · rw [if_neg e, if_neg e]; exact .cons h (t.mapp r)
theorem RK.put {K : PySem.W.Frag} {F : Hp} {k : Key} {v : V} {d : D} {vs : List (Key × V)} {ds : List (Key × D)} (h : RK K F vs ds) (r : RD K F v d) : RK K F (putK vs k v) (kput ds k d) := by
  unfold putK kput
  rw [h.any]
  split
  · exact h.mapp r
  · exact h.snoc r
def kmerge (l more : List (Key × D)) : List (Key × D) := more.foldl (fun acc kv => kput acc kv.1 kv.2) l
theorem RK.merge {K : PySem.W.Frag} {F : Hp} : ∀ {vs : List (Key × V)} {ds : List (Key × D)} {us : List (Key × V)} {es : List (Key × D)}, RK K F us es → RK K F vs ds → RK K F (mergeK vs us) (kmerge ds es)
  | _, _, _, _, .nil, h => h
  | vs, ds, _, _, @RK.cons _ _ k v us d es r t, h => (show RK K F (mergeK (putK vs k v) us) (kmerge (kput ds k d) es) from RK.merge t (h.put r))

/-- {} -/
def uDNew : UE := fun ρ R => R (.own (.dic [])) ρ
theorem fe_dnew : FE X (.Dict [] [] pos) uDNew := ⟨fun ρ R q F H σ0 σ B Q E g =>
  to_S pe_dnewK (gt_dic (T := fun z => R z ρ) E (fun z v F' H' t G => g z ρ v F' H' t G) q .nil)⟩
/-- the pairs of a display -/
abbrev UP := List Sl → (List (Key × D) → List Sl → Prop) → Prop
def tP (X : Cx) (pos : Pos) (ks : List (Option Expr)) (vs : List Expr) (σ : L2.St) (H : Hp) (Q : List (V × V) → Hp → Prop) : Prop := ∃ trs, PPs X pos ks vs trs ∧ tPairs trs σ H Q
def FP (X : Cx) (pos : Pos) (ks : List (Option Expr)) (vs : List Expr) (u : UP) : Prop := ∃ trs, PPs X pos ks vs trs ∧ ∀ (ρ : List Sl) (R : List (Key × D) → List Sl → Prop), u ρ R → ∀ (F H : Hp) (σ0 σ : L2.St) (B : Addr → Prop) (Q : List (V × V) → Hp → Prop), ER X.K F H σ0 ρ σ B →
  (∀ ds ρ' kvs F' H', R ds ρ' → Gd X.K F H F' H' σ0 ρ' σ B → RK X.K F' kvs ds → Q (kvs.map fun kv => (kV kv.1, kv.2)) H') → tPairs trs σ H Q
def uPNil : UP := fun ρ R => R [] ρ
def uPCons (uk uv : UE) (u : UP) : UP := fun ρ R => uk ρ fun r ρ1 => match r with
  | .val dk => ∃ k, keyD dk = some k ∧ uv ρ1 fun q ρ2 => wv ρ2 q fun d => u (frz ρ2 q) fun l ρ3 => R ((k, d) :: l) ρ3
  | _ => False
theorem fp_nil : FP X pos [] [] uPNil := ⟨[], pps_nil, fun ρ R q F H σ0 σ B Q E g => g [] ρ [] F H q ⟨.refl _ _ _, E⟩ .nil⟩
theorem fp_cons {k v : Expr} {ks : List (Option Expr)} {vs : List Expr} {uk uv : UE} {u : UP} (hk : FE X k uk) (hv : FE X v uv) (hr : FP X pos ks vs u) : FP X pos (some k :: ks) (v :: vs) (uPCons uk uv u) := by
  obtain ⟨trs, h1, h2⟩ := hr
  refine ⟨_, pps_cons pe_S pe_S h1, fun ρ R q F H σ0 σ B Q E g => ?_⟩
  refine hk ρ _ q F H σ0 σ B _ E fun r ρ1 x F1 H1 z G => ?_
  split at z
  case h_2 => exact z.elim
  rename_i dk
  obtain ⟨k, ek, z⟩ := z
  have rr : RD X.K F1 x dk := G.rr
  have ex := keyD_v (H := H1) (.inl rr) ek
  subst ex
  refine hv ρ1 _ z F1 H1 σ0 σ B _ G.er fun q ρ2 y F2 H2 z G2 => ?_
  obtain ⟨F3, d, n3, E3, rd, z⟩ := G2.er.freeze G2.rr z
  refine h2 _ _ z F3 H2 σ0 σ B _ E3 fun ds ρ4 kvs F4 H4 z G4 rk => ?_
  exact g _ _ ((k, y) :: kvs) F4 H4 z ⟨G.nx.trans (G2.nx.trans (n3.trans G4.nx)), G4.er⟩ (.cons (rd.mono G4.nx.fz) rk)
def uDisp (u : UP) : UE := fun ρ R => u ρ fun l ρ1 => l.length ≤ 15 ∧ R (.own (.dic (kmerge [] l))) ρ1
theorem fe_disp {keys : List (Option Expr)} {values : List Expr} {u : UP} (h : FP X pos keys values u) (hall : keys.all (·.isSome) = true := by rfl) (hl : keys.length = values.length := by rfl) (h0 : keys ≠ [] := by exact fun z => nomatch z)
    (h15 : keys.length ≤ 15 := by decide) : FE X (.Dict keys values pos) (uDisp u) := ⟨fun ρ R q F H σ0 σ B Q E g => by
  obtain ⟨trs, h1, h2⟩ := h
  refine to_S (pe_disp h1 hall hl h0 h15) fun p np => ?_
  have rr : RR X.K F (upd H p (.dK [])) ρ σ B (.own (.dic [])) (.ref p) := E.laid_own np (.dic upd_same .nil)
  have E1 : ER X.K F (upd H p (.dK [])) σ0 ρ σ B := E.laid np
  refine h2 ρ _ q F _ σ0 σ (hB B (.own (.dic [])) (.ref p)) _ (E1.hold rr) fun l ρ2 kvs F2 H2 ⟨z1, z2⟩ G2 rk => ?_
  have E2 := G2.er.unhold
  obtain ⟨a, ea, ro, n2, nb, ns⟩ := rr.held E1 G2.er G2.nx
  cases ea
  have hp : H2 p = some (.dK []) := (G2.nx.out p (.inr rfl)).trans upd_same
  refine ⟨hp, kvs, rfl, by rw [rk.len]; exact z1, ?_⟩
  have E3 : ER X.K F2 (upd H2 p (.dK (mergeK [] kvs))) σ0 ρ2 σ B := by
    refine ⟨E2.len, fun b u q => by rw [upd_ne (ne_of_none q n2)]; exact E2.sub b u q, E2.fz, fun i q d h => ?_, E2.inj, E2.par, fun b hb => ⟨?_, (E2.out b hb).2⟩⟩
    · obtain ⟨c, ec, ro', m, mb⟩ := E2.ow i q d h
      have hc : c ≠ p := fun z => by subst z; exact ns i q d h ec
      exact ⟨c, ec, ro'.keep (Same.refl _) (upd_ne hc), m, mb⟩
    · have hb' : b ≠ p := fun z => by subst z; exact nb hb
      rw [upd_ne hb']; exact (E2.out b hb).1
  refine g _ _ _ F2 _ z2 ⟨(nx_new E np).trans ((G2.nx.mono hB_sub).trans ⟨Same.refl _, fun b hb => upd_ne fun z => by subst z; exact nb hb⟩), E3, p, rfl, .dic upd_same (rk.merge .nil), n2, nb, ns⟩⟩

/-! ### d[k], k in d, d.get(k, x), d[k] = v -/
def oDGet (d e : D) (T : Rv → Prop) : Prop := match d with
  | .dic l => ∃ k x, keyD e = some k ∧ kget l k = some x ∧ T (.val x)
  | _ => False
theorem fe_dget (hu : X.A.units + 1 < cLine) (ho : FE X o uo) (hi : FE X e ue) (hs : NoSl e := by exact fun _ _ => rfl) : FE X (.Subscript o e pos) (uBin oDGet uo ue) := ⟨fun ρ R q F H σ0 σ B Q E g => by
  refine to_S (pe_dget hu pe_S pe_S hs) (FE.two ho hi q E (fun x y H2 => _) fun p q ρ2 x y F2 H2 t n2 E2 r1 r2 => ?_)
  obtain ⟨d, w1, t⟩ := E2.seen r1 t
  obtain ⟨e, w2, t⟩ := E2.seen (r2.weak hB_sub) t
  unfold oDGet at t
  split at t
  · obtain ⟨k, x', ek, eg, t⟩ := t
    obtain ⟨a, kvs, rfl, h1, rk⟩ := w1.dic E2.sub
    cases keyD_v w2 ek
    rcases rk.get (k := k) with ⟨_, z⟩ | ⟨v, d', z1, z2, rd⟩
    · rw [z] at eg; cases eg
    · rw [z2] at eg; cases eg
      refine ⟨a, v, rfl, ?_, g _ _ _ _ _ t ⟨n2, E2, rd⟩⟩
      rw [← z1]; exact .k h1
  · exact t.elim⟩
def oDIn (neg : Bool) (e d : D) (T : Rv → Prop) : Prop := match d with
  | .dic l => ∃ k, keyD e = some k ∧ T (.val (.bl (neg ^^ (kget l k).isSome)))
  | _ => False
theorem rk_some {K : PySem.W.Frag} {F : Hp} {k : Key} {vs : List (Key × V)} {ds : List (Key × D)} (h : RK K F vs ds) : (valV vs k).isSome = (kget ds k).isSome := by
  rcases h.get (k := k) with ⟨z1, z2⟩ | ⟨v, d', z1, z2, _⟩ <;> rw [z1, z2] <;> rfl
theorem din_run {neg : Bool} {R : Rv → List Sl → Prop} {Q : VK} {ρ : List Sl} {F H : Hp} {σ0 σ : L2.St} {B : Addr → Prop} (hi : FE X e ue) (ho : FE X o uo) (q : uBin (oDIn neg) ue uo ρ R) (E : ER X.K F H σ0 ρ σ B)
    (g : ∀ r ρ' v F' H', R r ρ' → Gt X.K F H F' H' σ0 ρ' σ B r v → Q v H') : tS X e σ H fun y H1 => tS X o σ H1 fun x H2 => ∃ a ov, x = .ref a ∧ DGet H2 a y ov ∧ Q (.bl (neg ^^ ov.isSome)) H2 :=
  FE.two hi ho q E (fun x y H2 => _) fun p q ρ2 x y F2 H2 t n2 E2 r1 r2 => by
    obtain ⟨d, w1, t⟩ := E2.seen r1 t
    obtain ⟨e, w2, t⟩ := E2.seen (r2.weak hB_sub) t
    unfold oDIn at t
    split at t
    · obtain ⟨k, ek, t⟩ := t
      obtain ⟨a, kvs, rfl, h1, rk⟩ := w2.dic E2.sub
      cases keyD_v w1 ek
      exact ⟨a, _, rfl, .k h1, by rw [rk_some rk]; exact g _ _ _ _ _ t ⟨n2, E2, .bl _⟩⟩
    · exact t.elim
theorem fe_din (hu : X.A.units + 1 < cLine) (hi : FE X e ue) (ho : FE X o uo) (h1 : behindInMarks .In o = false := by rfl) : FE X (.Compare e [.In] [o] pos) (uBin (oDIn false) ue uo) := ⟨fun ρ R q F H σ0 σ B Q E g =>
  to_S (pe_cmp (pc_din hu pe_S pe_S) h1) (fun pins s I => thn (din_run (Q := Q) hi ho q E g pins s I) fun v s1 ⟨y, H1, I1, r1, q1⟩ => ⟨y, H1, I1, r1, fun pins s I => thn (q1 pins s I) fun v s2 ⟨x, H2, I2, r2, a, ov, e1, e2, q2⟩ => ⟨x, H2, I2, r2, a, ov, e1, e2, by rw [Bool.false_xor] at q2; exact q2⟩⟩)⟩
theorem fe_dnotin (hu : X.A.units + 1 < cLine) (hi : FE X e ue) (ho : FE X o uo) (h1 : behindInMarks .NotIn o = false := by rfl) : FE X (.Compare e [.NotIn] [o] pos) (uBin (oDIn true) ue uo) := ⟨fun ρ R q F H σ0 σ B Q E g =>
  to_S (pe_cmp (pc_dnotin hu pe_S pe_S) h1) (fun pins s I => thn (din_run (Q := Q) hi ho q E g pins s I) fun v s1 ⟨y, H1, I1, r1, q1⟩ => ⟨y, H1, I1, r1, fun pins s I => thn (q1 pins s I) fun v s2 ⟨x, H2, I2, r2, a, ov, e1, e2, q2⟩ => ⟨x, H2, I2, r2, a, ov, e1, e2, by rw [Bool.true_xor] at q2; exact q2⟩⟩)⟩
theorem ft_din (hu : X.A.units + 1 < cLine) (hi : FE X e ue) (ho : FE X o uo) (h1 : behindInMarks .In o = false := by rfl) : FT X (.Compare e [.In] [o] pos) (fun ρ R => uBin (oDIn false) ue uo ρ (isB R)) := ⟨fun ρ R q F H σ0 σ B Q E g =>
  to_ST (pt_cmp (pc_din hu pe_S pe_S) h1) (fun pins s I => thn (din_run (Q := fun v H' => ∃ c, v = .bl c ∧ Q c H') hi ho q E (fun r ρ' v F' H' h G => by
    unfold isB at h
    split at h
    · rename_i c
      have rr : RD X.K F' v (.bl c) := G.rr
      cases rr
      exact ⟨c, rfl, g c ρ' F' H' h ⟨G.nx, G.er⟩⟩
    · exact h.elim) pins s I) fun v s1 ⟨y, H1, I1, r1, q1⟩ => ⟨y, H1, I1, r1, fun pins s I => thn (q1 pins s I) fun v s2 ⟨x, H2, I2, r2, a, ov, e1, e2, q2⟩ => ⟨x, H2, I2, r2, a, ov, e1, e2, by rw [Bool.false_xor] at q2; exact q2⟩⟩)⟩
theorem ft_dnotin (hu : X.A.units + 1 < cLine) (hi : FE X e ue) (ho : FE X o uo) (h1 : behindInMarks .NotIn o = false := by rfl) : FT X (.Compare e [.NotIn] [o] pos) (fun ρ R => uBin (oDIn true) ue uo ρ (isB R)) := ⟨fun ρ R q F H σ0 σ B Q E g =>
  to_ST (pt_cmp (pc_dnotin hu pe_S pe_S) h1) (fun pins s I => thn (din_run (Q := fun v H' => ∃ c, v = .bl c ∧ Q c H') hi ho q E (fun r ρ' v F' H' h G => by
    unfold isB at h
    split at h
    · rename_i c
      have rr : RD X.K F' v (.bl c) := G.rr
      cases rr
      exact ⟨c, rfl, g c ρ' F' H' h ⟨G.nx, G.er⟩⟩
    · exact h.elim) pins s I) fun v s1 ⟨y, H1, I1, r1, q1⟩ => ⟨y, H1, I1, r1, fun pins s I => thn (q1 pins s I) fun v s2 ⟨x, H2, I2, r2, a, ov, e1, e2, q2⟩ => ⟨x, H2, I2, r2, a, ov, e1, e2, by rw [Bool.true_xor] at q2; exact q2⟩⟩)⟩
/-- d.get(k, x) -/
def uDGet2 (uo ue uf : UE) : UE := fun ρ R => uo ρ fun r ρ1 => wv ρ1 r fun d => match d with
  | .dic _ => ue ρ1 fun q ρ2 => uf ρ2 fun s ρ3 => wv ρ3 r fun d => wv ρ3 q fun e => wv ρ3 s fun x => match d with
    | .dic l => ∃ k, keyD e = some k ∧ R (.val ((kget l k).getD x)) (frz ρ3 s)
    | _ => False
  | _ => False
theorem fe_dget2 (hu : X.A.units + 1 < cLine) (ho : FE X o uo) (he : FE X e ue) (hf : FE X f uf) (m : M2 X o "get" apos e f cpos := by exact ⟨rfl, rfl, rfl, rfl⟩) : FE X (.Call (.Attribute o "get" apos) [e, f] [] cpos) (uDGet2 uo ue uf) := ⟨fun ρ R q F H σ0 σ B Q E g => by
  refine to_S (pe_dget2 hu pe_S pe_S pe_S m) (ho ρ _ q F H σ0 σ B _ E fun r ρ1 x F1 H1 z G => ?_)
  obtain ⟨d, w, z⟩ := G.er.seen G.rr z
  split at z
  case h_2 => exact z.elim
  obtain ⟨a, kvs, rfl, h1, rk⟩ := w.dic G.er.sub
  refine ⟨a, rfl, .inl ⟨kvs, .inl h1⟩, he ρ1 _ z F1 H1 σ0 σ (hB B r (.ref a)) _ (G.er.hold G.rr) fun q ρ2 y F2 H2 z G2 => hf ρ2 _ z F2 H2 σ0 σ (hB (hB B r (.ref a)) q y) _ (G2.er.hold G2.rr) fun s ρ3 u F3 H3 z G3 => ?_⟩
  have E3' := G3.er.unhold
  have E3 := E3'.unhold
  have rr := G.rr.held G.er E3' (G2.nx.trans (G3.nx.mono hB_sub))
  have rq := (G2.rr.held G2.er G3.er G3.nx).weak hB_sub
  have rs : RR X.K F3 H3 ρ3 σ B s u := (G3.rr.weak hB_sub).weak hB_sub
  obtain ⟨d, w, z⟩ := E3.seen rr z
  obtain ⟨e, w2, z⟩ := E3.seen rq z
  obtain ⟨F4, x', n4, E4, rd4, z⟩ := E3.freeze rs z
  split at z
  case h_2 => exact z.elim
  obtain ⟨k, ek, z⟩ := z
  obtain ⟨a', kvs, ea, h1, rk⟩ := w.dic E3.sub
  cases ea
  cases keyD_v w2 ek
  have nn := G.nx.trans ((G2.nx.mono hB_sub).trans (((G3.nx.mono hB_sub).mono hB_sub).trans n4))
  refine ⟨_, .k h1, ?_⟩
  rcases rk.get (k := k) with ⟨z1, z2⟩ | ⟨v, d', z1, z2, rd⟩
  · rw [z2] at z; rw [z1]
    exact g _ _ _ F4 H3 z ⟨nn, E4, rd4⟩
  · rw [z2] at z; rw [z1]
    exact g _ _ _ F4 H3 z ⟨nn, E4, rd.mono n4.fz⟩⟩
/-- the dict that a slot holds as one's own -/
def ownK (ρ : List Sl) (r : Rv) (k : Nat → Bool → List (Key × D) → Prop) : Prop := match r with
  | .at i => match ρ[i]? with
    | some (.sl true p (.dic l)) => k i p l
    | _ => False
  | _ => False
theorem ownK_of {ρ : List Sl} {r : Rv} {k : Nat → Bool → List (Key × D) → Prop} (h : ownK ρ r k) : ∃ i p l, r = .at i ∧ ρ[i]? = some (.sl true p (.dic l)) ∧ k i p l := by
  unfold ownK at h
  split at h
  · split at h
    · exact ⟨_, _, _, rfl, ‹_›, h⟩
    · exact h.elim
  · exact h.elim
def uPutK (uv uo ui : UE) : US := fun E ρ => uv ρ fun r ρ1 => wv ρ1 r fun d => uo (frz ρ1 r) fun q ρ2 => ui ρ2 fun s ρ3 => wv ρ3 s fun e => ownK ρ3 q fun i p l => ∃ k, keyD e = some k ∧ l.length < sizeLine ∧ E.nx (ρ3.set i (.sl true p (.dic (kput l k d))))
theorem fs_putK {v i : Expr} {uv ui : UE} {pos' : Pos} (hu : X.A.units + 1 < cLine) (hv : FE X v uv) (ho : FE X o uo) (hi : FE X i ui) (hs : swapsWith v (some (.Subscript o i pos')) pos.line X.env = pure false := by rfl) : FS X (.Assign [.Subscript o i pos'] v pos) (uPutK uv uo ui) := ⟨fun E ρ q F H σ0 σ B D er f => by
  refine to_SS (ps_dput hu pe_S pe_S pe_S hs) (hv ρ _ q F H σ0 σ B _ er fun r ρ1 x F1 H1 z G => ?_)
  obtain ⟨F2, d, n2, E2, rd, z⟩ := G.er.freeze G.rr z
  refine ho _ _ z F2 H1 σ0 σ B _ E2 fun q ρ2 y F3 H3 z G3 => hi ρ2 _ z F3 H3 σ0 σ (hB B q y) _ (G3.er.hold G3.rr) fun s ρ3 w F4 H4 z G4 => ?_
  have E4 := G4.er.unhold
  have rq := G3.rr.held G3.er G4.er G4.nx
  obtain ⟨e, we, z⟩ := E4.seen (G4.rr.weak hB_sub) z
  obtain ⟨i, p, l, rfl, e1, k, ek, hl, z⟩ := ownK_of z
  have si : σ[i]? = some (some y) := rq
  obtain ⟨a, e2, ro, _⟩ := E4.ow i p _ e1
  rw [si] at e2; cases e2
  cases ro with
  | @dic _ kvs _ h1 rk =>
    cases keyD_v we ek
    have rd4 := rd.mono (G3.nx.fz.trans G4.nx.fz)
    obtain ⟨E5, n5⟩ := E4.wrote e1 si (o := .dK (putK kvs k x)) (e := .dic (kput l k d)) (.dic upd_same (rk.put rd4))
    exact ⟨a, _, rfl, .k h1 (by rw [rk.len]; exact hl), f.nx _ _ F4 _ z ⟨G.nx.trans (n2.trans (G3.nx.trans ((G4.nx.mono hB_sub).trans n5))), E5⟩⟩⟩
end
end YP
set_option maxRecDepth 100000
set_option maxHeartbeats 1000000
/-! The yard's pure layer, part 10: (i, x) < (j, y); calls without arguments; a pure promise as one over the heap; slices up to. -/
namespace YP
open PySem PySem.Spec PyProof.Rows L2
def oLtIS (d e : D) (T : Rv → Prop) : Prop := match d, e with
  | .tup [.int i, .str u], .tup [.int j, .str v] => T (.val (.bl (if i = j then decide (u.cps.toList < v.cps.toList) else decide (i < j))))
  | _, _ => False
theorem rl_is {K : PySem.W.Frag} {F : Hp} {vs : List V} {i : Int} {u : Str} (h : RL K F vs [.int i, .str u]) : vs = [.int i, .str u] := by
  cases h with
  | cons a r =>
    cases a
    cases r with
    | cons b r =>
      cases b
      cases r
      rfl
theorem os_ltIS {X : Cx} (hu : X.A.units < cLine) : OpS X (compareOp .Lt) oLtIS := .of (Yard.op_ltIS hu) fun {F H σ0 σ ρ B x y d e T Q} E w1 w2 t g => by
  unfold oLtIS at t
  split at t
  · obtain ⟨a, us, rfl, h1, l1⟩ := w1.tup E.sub
    obtain ⟨b, vs, rfl, h2, l2⟩ := w2.tup E.sub
    cases rl_is l1
    cases rl_is l2
    exact ⟨a, b, _, _, _, _, rfl, rfl, h1, h2, gt_val E g t (.bl _)⟩
  · exact t.elim
/-- f(), which tells a constant -/
theorem fe_call0c {X : Cx} {CX : CXT} {k : Nat} {f : Addr} {fd : FuncData} {sp : Sp} {x : Str} {p pos : Pos} {v : V} {d : D} (Fn : FnOk X.prog X.w X.K X.mg X.base CX k f fd [] sp) (hr : Room k X.A) (hg : Gl X x) (hm : X.mg x = some (.ref f)) (hk : PySem.W.keepIn X.K (.ref f) = true) (hb : Binds X.K fd [] [])
    (hx : Passes CX X fun _ _ _ => False) (hsp : ∀ (H : Hp) (Q : VK), Q v H → sp [] H Q (fun _ _ _ => False)) (rd : ∀ F, RD X.K F v d) (hdb : (x == ("__debug__" : Str)) = false := by decide) : FE X (.Call (.Name x p) [] [] pos) (uC d) := ⟨fun ρ R q F H σ0 σ B Q E g =>
  to_S (pe_call0 (E := fun _ _ _ => False) Fn hr hg hm hk hb .nil hx hdb) (hsp H _ (g _ ρ v F H q ⟨.refl _ _ _, E, rd F⟩))⟩
/-! ### a pure promise over the heap -/
def RWv (K : PySem.W.Frag) (F H : Hp) : Rv → V → Prop
  | .val d, v => RD K F v d
  | .own d, v => ∃ a, v = .ref a ∧ RO K F H v d ∧ F a = none
  | .at _, _ => False
def OSp (K : PySem.W.Frag) (n : Nat) (u : UF) : Sp := fun vs H Q _ => ∃ (ds : List D) (R : Rv → List Sl → Prop), vs.length = n ∧ RL K H vs ds ∧ u (ds.map fun d => Sl.sl false false d) R ∧
  ∀ r ss v F' H', R r ss → Same H F' → Same F' H' → RWv K F' H' r v → Q v H'
theorem old_of {P : Program} {w : World} {K : PySem.W.Frag} {mg : Str → Option Value} {base : Heap} {CX : CXT} {k n : Nat} {f : Addr} {fd : FuncData} {ps : List Str} {u : UF} (Fn : FnOk P w K mg base CX k f fd ps (PSp K n u)) : FnOk P w K mg base CX k f fd ps (OSp K n u) := by
  refine Fn.imp fun vs H Q E ⟨ds, R, hl, l, hu, g⟩ => ?_
  refine ⟨ds.map fun d => Sl.sl false false d, H, fun _ => False, R, by rw [List.length_map, ← l.len]; exact hl, hl, ?_, hu, fun r ρ' v F' H' hr nx er rr na => g r ρ' v F' H' hr nx.fz er.sub ?_⟩
  · have at_ : ∀ (i : Nat) o p d, (ds.map fun d => Sl.sl false false d)[i]? = some (Sl.sl o p d) → o = false ∧ p = false ∧ ds[i]? = some d := fun i o p d h => by
      rw [List.getElem?_map] at h
      obtain ⟨e, he, z⟩ := Option.map_eq_some_iff.mp h
      cases z
      exact ⟨rfl, rfl, he⟩
    refine ⟨by rw [List.length_map, List.length_map, l.len], Same.refl _, fun i p d h => ?_, fun i p d h => ?_, fun i j a p q d e h _ _ _ => ?_, fun i o d h => ?_, fun a h => h.elim⟩
    · obtain ⟨v, hv, rd⟩ := l.got (at_ _ _ _ _ h).2.2
      exact ⟨v, by rw [List.getElem?_map, hv]; rfl, rd⟩
    · exact nomatch (at_ _ _ _ _ h).1
    · exact nomatch (at_ _ _ _ _ h).1
    · exact nomatch (at_ _ _ _ _ h).2.1
  · cases r with
    | val d => exact rr
    | own d =>
      obtain ⟨a, e, ro, n, _⟩ := rr
      exact ⟨a, e, ro, n⟩
    | «at» i => exact na i rfl
theorem ycut_to {α : Type} (xs : List α) (k : Nat) : YP.cut xs none (some (k : Int)) = xs.take k := by
  unfold YP.cut
  rw [HT.sIx_nat, HT.sIx_none, List.drop_zero, Nat.sub_zero]
  rcases Nat.le_total k xs.length with h | h
  · rw [Nat.min_eq_left h]
  · rw [Nat.min_eq_right h, List.take_length, List.take_of_length_le h]
end YP
set_option maxRecDepth 100000
set_option maxHeartbeats 1000000
/-! The yard's pure layer, part 11: calls without arguments, insert. -/
namespace YP
open PySem PySem.Spec PyProof.Rows L2
/-- f() -/
theorem fe_call0 {X : Cx} {pf pos : Pos} {x : Str} {u : UF} {k : Nat} {f : Addr} {fd : FuncData} (Fn : FnOk X.prog X.w X.K X.mg X.base CX0 k f fd [] (PSp X.K 0 u)) (hr : Room k X.A) (hg : Gl X x) (hm : X.mg x = some (.ref f)) (hk : PySem.W.keepIn X.K (.ref f) = true) (hb : Binds X.K fd [] [])
    (hdb : (x == ("__debug__" : Str)) = false := by decide) : FE X (.Call (.Name x pf) [] [] pos) (uCall u uRNil) := ⟨fun ρ R q F H σ0 σ B Q E g => by
  obtain ⟨n1, z⟩ := q
  refine to_S (pe_call0 (E := fun _ _ _ => False) Fn hr hg hm hk hb .nil pass0 hdb) ?_
  refine ⟨_, F, bB B ρ σ [], _, rfl, rfl, E.into (rs := []) (vs := []) trivial n1, z, fun r ss v F' H' y nx E' rr na => ?_⟩
  have G' := E.behind (rs := []) (vs := []) trivial n1 nx E' rr na
  exact g r _ v F' H' y ⟨G'.nx, G'.er, G'.rr⟩⟩
/-! ### o.f, of an object that is data -/
theorem RF.lookup {K : PySem.W.Frag} {F : Hp} {f : Str} {d : D} : ∀ {vs : List (Str × V)} {ds : List (Str × D)}, RF K F vs ds → ds.lookup f = some d → ∃ v, vs.lookup f = some v ∧ RD K F v d
  | _, _, .nil, h => nomatch h
  | _, _, .cons (k := x) r t, h => by
    unfold List.lookup at h ⊢
    cases e : f == x with
    | true => rw [e] at h; cases h; exact ⟨_, rfl, r⟩
    | false => rw [e] at h; exact t.lookup h
def uFld (C : Addr) (f : Str) (ue : UE) : UE := fun ρ R => ue ρ fun r ρ1 => wv ρ1 r fun d => ∃ fs x, d = .obj C fs ∧ fs.lookup f = some x ∧ R (.val x) ρ1
theorem fe_fld {X : Cx} {e : Expr} {ue : UE} {C : Addr} {f : Str} {pos : Pos} (hc : Cls X.K C) (hn : NoAttr X.K C f) (he : FE X e ue) (hb : attributeBase e f X.env (eval e X.env) = eval e X.env := by rfl) : FE X (.Attribute e f pos) (uFld C f ue) := ⟨fun ρ R q F H σ0 σ B Q E g => by
  refine to_S (pe_fld pe_S hb) (he ρ _ q F H σ0 σ B _ E fun r ρ1 v F1 H1 z G => ?_)
  obtain ⟨d, w, fs, x, rfl, hl, z⟩ := G.er.seen G.rr z
  obtain ⟨a, dx, fv, rfl, h1, rf⟩ := w.obj G.er.sub
  obtain ⟨y, e, rd⟩ := rf.lookup hl
  exact ⟨a, C, dx, fv, y, rfl, h1, hc, hn, e, g (.val x) ρ1 y F1 H1 z ⟨G.nx, G.er, rd⟩⟩⟩
/-! ### o.m(e, ..) -/
def uMeth (C : Addr) (m : Str) (u : UF) (ue : UE) (ua : UR) : UE := fun ρ R => ue ρ fun r ρ1 => wv ρ1 r fun d => ∃ fs, d = .obj C fs ∧ fs.lookup m = none ∧
  ua ρ1 fun rs ρ2 => (ats (r :: rs)).Nodup ∧ u ((r :: rs).map (slOf ρ2)) fun q ss => R q (wb ρ2 (r :: rs) ss)
theorem RF.no {K : PySem.W.Frag} {F : Hp} {f : Str} : ∀ {vs : List (Str × V)} {ds : List (Str × D)}, RF K F vs ds → ds.lookup f = none → vs.lookup f = none
  | _, _, .nil, _ => rfl
  | _, _, .cons (k := x) r t, h => by
    unfold List.lookup at h ⊢
    cases e : f == x with
    | true => rw [e] at h; cases h
    | false => rw [e] at h; exact t.no h
theorem fe_meth {X : Cx} {o e : Expr} {es : List Expr} {uo : UE} {ua : UR} {u : UF} {C : Addr} {m : Str} {k : Nat} {f : Addr} {fd : FuncData} {ps : List Str} {pos apos : Pos} {pl : Sem Bool} (hc : Cls X.K C) (hm : Meth X.K C m f) (Fn : FnOk X.prog X.w X.K X.mg X.base CX0 k f fd ps (PSp X.K ps.length u)) (hr : Room k X.A) (hb : Binds X.K fd ps [])
    (ho : FE X o uo) (ha : FR X (e :: es) ua) (hn : (e :: es).length + 1 = ps.length := by rfl)
    (hst : starEach (e :: es) X.env = (false, eval e X.env) :: starEach es X.env := by rfl) (hpl : (backTo pos (starEach es X.env)).any (·.1) = false := by rfl)
    (ht : eval (.Call (.Attribute o m apos) (e :: es) [] pos) X.env = (do
      let ov ← eval o X.env
      standAt apos.atName
      let (f, first) ← holding [ov] (getMethod ov m pl)
      callWith pos f first (backTo pos (starEach (e :: es) X.env)) (backToKw pos (keywordEach [] X.env))) := by rfl) :
    FE X (.Call (.Attribute o m apos) (e :: es) [] pos) (uMeth C m u uo ua) := ⟨fun ρ R q F H σ0 σ B Q E g => by
  refine to_S (pe_meth (E := fun _ _ _ => False) pe_S hc hm Fn hr hb .nil pass0 pa_S hst hpl ht) (ho ρ _ q F H σ0 σ B _ E fun r ρ1 v F1 H1 z G => ?_)
  obtain ⟨d, w, fs, rfl, hl, z⟩ := G.er.seen G.rr z
  obtain ⟨a, dx, fv, rfl, h1, rf⟩ := w.obj G.er.sub
  refine ⟨a, dx, fv, rfl, h1, rf.no hl, ha ρ1 _ z F1 H1 σ0 σ (hB B r (.ref a)) _ (G.er.hold G.rr) fun rs ρ2 vs F2 H2 ⟨n1, z2⟩ G2 l ll => ?_⟩
  have E2 := G2.er.unhold
  have L : RRs X.K F2 H2 ρ2 σ B (r :: rs) (V.ref a :: vs) := ⟨G.rr.held G.er G2.er G2.nx, l⟩
  have lv := l.len
  have ln : (r :: rs).length = ps.length := by rw [← hn]; show rs.length + 1 = _; rw [ll]
  refine ⟨_, F2, bB B ρ2 σ (r :: rs), _, by rw [List.length_map]; exact ln, by show (vs ++ []).length + 1 = _; rw [List.append_nil, ← lv, ll]; exact hn, ?_, z2, fun q' ss y F' H' hy nx E' rr na => ?_⟩
  · rw [List.append_nil]; exact E2.into L n1
  · rw [List.append_nil] at E' rr
    have G' := E2.behind L n1 nx E' rr na
    exact g q' _ y F' H' hy ⟨G.nx.trans ((G2.nx.mono hB_sub).trans G'.nx), G'.er, G'.rr⟩⟩
end YP
set_option maxRecDepth 100000
set_option maxHeartbeats 1000000
/-! The yard's pure layer, part 12: what is raised and caught. -/
namespace YP
open PySem PySem.Spec PyProof.Rows L2
/-- the ends, and what is raised: its class, its fields -/
structure EnX where
  en : En
  xc : Addr → List (Str × D) → List Sl → Prop
abbrev USX := EnX → List Sl → Prop
structure FolX (K : PySem.W.Frag) (F H : Hp) (σ0 : L2.St) (B : Addr → Prop) (E : EnX) (D : Ends) (W : WX) : Prop where
  fol : Fol K F H σ0 B E.en D
  xc : ∀ C fs ρ' σ' F' H' dd vfs, E.xc C fs ρ' → Gd K F H F' H' σ0 ρ' σ' B → F' dd = some (.xd vfs) → RF K F' vfs fs → W (.ref C) (some dd) σ' H'
theorem FolX.on {K : PySem.W.Frag} {F H F1 H1 : Hp} {σ0 : L2.St} {B : Addr → Prop} {E : EnX} {D : Ends} {W : WX} (f : FolX K F H σ0 B E D W) (n : Nx F H F1 H1 B) : FolX K F1 H1 σ0 B E D W :=
  ⟨f.fol.on n, fun C fs ρ' σ' F' H' dd vfs e G => f.xc C fs ρ' σ' F' H' dd vfs e ⟨n.trans G.nx, G.er⟩⟩
structure FSX (X : Cx) (st : Stmt) (u : USX) : Prop where
  run : ∀ (W : WX), Takes X W → ∀ (E : EnX) (ρ : List Sl), u E ρ → ∀ (F H : Hp) (σ0 σ : L2.St) (B : Addr → Prop) (D : Ends), ER X.K F H σ0 ρ σ B → FolX X.K F H σ0 B E D W → tSS X st D σ H
structure FBX (X : Cx) (sts : List Stmt) (u : USX) : Prop where
  run : ∀ (W : WX), Takes X W → ∀ (E : EnX) (ρ : List Sl), u E ρ → ∀ (F H : Hp) (σ0 σ : L2.St) (B : Addr → Prop) (D : Ends), ER X.K F H σ0 ρ σ B → FolX X.K F H σ0 B E D W → tBs X sts D σ H
abbrev UEX := List Sl → (Rv → List Sl → Prop) → (Addr → List (Str × D) → List Sl → Prop) → Prop
structure FEX (X : Cx) (e : Expr) (u : UEX) : Prop where
  run : ∀ (W : WX), Takes X W → ∀ (ρ : List Sl) (R : Rv → List Sl → Prop) (RX : Addr → List (Str × D) → List Sl → Prop), u ρ R RX → ∀ (F H : Hp) (σ0 σ : L2.St) (B : Addr → Prop) (Q : VK), ER X.K F H σ0 ρ σ B →
    (∀ r ρ' v F' H', R r ρ' → Gt X.K F H F' H' σ0 ρ' σ B r v → Q v H') →
    (∀ C fs ρ' F' H' dd vfs, RX C fs ρ' → Gd X.K F H F' H' σ0 ρ' σ B → F' dd = some (.xd vfs) → RF X.K F' vfs fs → W (.ref C) (some dd) σ H') → tS X e σ H Q
section
variable {X : Cx} {st : Stmt} {rest body : List Stmt} {t u : USX} {e : Expr} {pos : Pos}
def uLift (u : US) : USX := fun E ρ => u E.en ρ
theorem fx {u : US} (h : FS X st u) : FSX X st (uLift u) := ⟨fun W tk E ρ q F H σ0 σ B D er f => h E.en ρ q F H σ0 σ B D er f.fol⟩
theorem fbx {u : US} (h : FB X rest u) : FBX X rest (uLift u) := ⟨fun W tk E ρ q F H σ0 σ B D er f => h E.en ρ q F H σ0 σ B D er f.fol⟩
def uSeqX (t u : USX) : USX := fun E ρ => t ⟨{ E.en with nx := u E }, E.xc⟩ ρ
theorem fbx_nil : FBX X [] (uLift uNext) := fbx fb_nil
theorem fbx_cons (h1 : FSX X st t) (h2 : FBX X rest u) : FBX X (st :: rest) (uSeqX t u) := ⟨fun W tk E ρ q F H σ0 σ B D er f =>
  to_Bs (pss_cons ps_S pss_S) (h1.run W tk _ ρ q F H σ0 σ B _ er ⟨⟨fun ρ' σ' F' H' z G => h2.run W tk E ρ' z F' H' σ0 σ' B D G.er (f.on G.nx), f.fol.rt, f.fol.bk, f.fol.ct⟩, f.xc⟩)⟩
theorem fbx_one (h1 : FSX X st t) : FBX X [st] t := ⟨fun W tk E ρ q F H σ0 σ B D er f => to_Bs (pss_one ps_S) (h1.run W tk E ρ q F H σ0 σ B D er f)⟩
def uIfX (c : UT) (t u : USX) : USX := fun E ρ => c ρ fun b ρ1 => if b = true then t E ρ1 else u E ρ1
theorem fsx_if {c : Expr} {a b : List Stmt} {tc : UT} (hc : FT X c tc) (ha : FBX X a t) (hb : FBX X b u) : FSX X (.If c a b pos) (uIfX tc t u) := ⟨fun W tk E ρ q F H σ0 σ B D er f => by
  refine to_SS (ps_if pt_S pss_S pss_S) (hc ρ _ q F H σ0 σ B _ er fun c ρ1 F1 H1 z G => ?_)
  cases c with
  | true => exact ha.run W tk E ρ1 z F1 H1 σ0 σ B D G.er (f.on G.nx)
  | false => exact hb.run W tk E ρ1 z F1 H1 σ0 σ B D G.er (f.on G.nx)⟩
def uForX (w : UI) (g : UG) (tb : USX) : USX := fun E ρ => w ρ fun ds ρ1 => ∃ W : Nat → List Sl → Prop, W 0 ρ1 ∧ (∀ i d ρ, ds[i]? = some d → W i ρ →
  g d ρ fun ρ2 => tb ⟨{ E.en with nx := W (i + 1), ct := W (i + 1), bk := E.en.nx }, E.xc⟩ ρ2) ∧ ∀ ρ, W ds.length ρ → E.en.nx ρ
theorem fsx_for {tg iter : Expr} {w : UI} {g : UG} (hp : PassesOwn (model X.prog X.w) X.A X.env X.xe) (hc : X.calm = true) (hi : FI X tg iter w) (hg : FG X none tg g) (hb : FBX X body t)
    (hs : ∀ x, foldedSetIterable iter X.env x = pure x := by intro _; rfl) : FSX X (.For tg iter body [] pos) (uForX w g t) := ⟨fun WX tk E ρ q F H σ0 σ B D er f => by
  refine to_SS (ps_for hp hc pi_S pg_S pss_S hs) (hi ρ _ q F H σ0 σ B _ er fun ds ρ1 J F1 H1 ⟨W, w0, turn, done⟩ G1 wd => ?_)
  refine for_it wd (fun i σ' H' => ∃ ρ' F', W i ρ' ∧ Gd X.K F1 H1 F' H' σ0 ρ' σ' B) ⟨ρ1, F1, w0, .refl _ _ _, G1.er⟩ (fun i σ' H' _ ⟨ρ', F', _, G⟩ => G.nx.fz.trans G.er.sub) ?_ (fun σ' H' ⟨ρ', F', w', G⟩ => f.fol.nx ρ' σ' F' H' (done ρ' w') ⟨G1.nx.trans G.nx, G.er⟩)
  rintro i x σ2 H2 H3 hi ⟨ρ2, F2, w2, G2⟩ y
  obtain ⟨d, F3, e, G3, rd⟩ := yd_er G2.er G2.nx.fz y
  refine hg d ρ2 _ (turn i d ρ2 e w2) F3 H3 σ0 σ2 B x _ G3.er rd fun ρ4 σ4 F4 H4 z G4 _ => ?_
  have n4 := G2.nx.trans (G3.nx.trans G4.nx)
  have f4 := f.on (G1.nx.trans n4)
  exact hb.run WX tk _ ρ4 z F4 H4 σ0 σ4 B _ G4.er ⟨⟨fun ρ' σ' F' H' w' G => ⟨ρ', F', w', n4.trans G.nx, G.er⟩, f4.fol.rt, f4.fol.nx, fun ρ' σ' F' H' w' G => ⟨ρ', F', w', n4.trans G.nx, G.er⟩⟩, f4.xc⟩⟩
def uWhileX (c : UT) (tb : USX) : USX := fun E ρ => ∃ W : Nat → List Sl → Prop, (∃ m, W m ρ) ∧ ∀ m ρ, W m ρ →
  c ρ fun b ρ1 => if b = true then tb ⟨{ E.en with nx := fun ρ2 => ∃ m', m' < m ∧ W m' ρ2, ct := fun ρ2 => ∃ m', m' < m ∧ W m' ρ2, bk := E.en.nx }, E.xc⟩ ρ1 else E.en.nx ρ1
theorem fsx_while {c : Expr} {tc : UT} (hp : PassesOwn (model X.prog X.w) X.A X.env X.xe) (hc : FT X c tc) (hb : FBX X body t) : FSX X (.While c body [] pos) (uWhileX tc t) := ⟨fun WX tk E ρ q F H σ0 σ B D er f => by
  obtain ⟨W, ⟨m0, w0⟩, turn⟩ := q
  refine to_SS (ps_while hp pt_S pss_S) ⟨fun m σ' H' => ∃ ρ' F', W m ρ' ∧ Gd X.K F H F' H' σ0 ρ' σ' B, ⟨m0, ρ, F, w0, .refl _ _ _, er⟩, ?_⟩
  rintro m σ1 H1 ⟨ρ1, F1, w1, G1⟩
  refine hc ρ1 _ (turn m ρ1 w1) F1 H1 σ0 σ1 B _ G1.er fun b ρ2 F2 H2 z G2 => ?_
  cases b with
  | false => exact f.fol.nx ρ2 σ1 F2 H2 z ⟨G1.nx.trans G2.nx, G2.er⟩
  | true =>
    refine ⟨fun σ' H' => ∃ m', m' < m ∧ ∃ ρ' F', W m' ρ' ∧ Gd X.K F H F' H' σ0 ρ' σ' B, fun σ' H' h => h, ?_⟩
    have n2 := G1.nx.trans G2.nx
    have f2 := f.on n2
    exact hb.run WX tk _ ρ2 z F2 H2 σ0 σ1 B _ G2.er ⟨⟨fun ρ' σ' F' H' ⟨m', l, w⟩ G => ⟨m', l, ρ', F', w, n2.trans G.nx, G.er⟩, f2.fol.rt, f2.fol.nx, fun ρ' σ' F' H' ⟨m', l, w⟩ G => ⟨m', l, ρ', F', w, n2.trans G.nx, G.er⟩⟩, f2.xc⟩⟩

/-! ### expressions that may raise -/
def uLE (u : UE) : UEX := fun ρ R _ => u ρ R
theorem fex {u : UE} (h : FE X e u) : FEX X e (uLE u) := ⟨fun W tk ρ R RX q F H σ0 σ B Q E g _ => h ρ R q F H σ0 σ B Q E g⟩
def uSetX (i : Nat) (ue : UEX) : USX := fun E ρ => ue ρ (fun r ρ1 => put ρ1 i r E.en.nx) E.xc
theorem fsx_set {i : Nat} {ue : UEX} (h : PS X st (tAsg (tS X e) (gName i))) (he : FEX X e ue) : FSX X st (uSetX i ue) := ⟨fun W tk E ρ q F H σ0 σ B D er f =>
  to_SS h (he.run W tk ρ _ _ q F H σ0 σ B _ er (fun r ρ1 v F1 H1 z G => by
    obtain ⟨F2, ρ2, n2, er2, z⟩ := G.er.put G.rr z
    exact f.fol.nx ρ2 _ F2 H1 z ⟨G.nx.trans n2, er2⟩) fun C fs ρ' F' H' dd vfs z G => f.xc C fs ρ' σ F' H' dd vfs z G)⟩
def uRetX (ue : UEX) : USX := fun E ρ => ue ρ E.en.rt E.xc
theorem fsx_ret {ue : UEX} (he : FEX X e ue) : FSX X (.Return (some e) pos) (uRetX ue) := ⟨fun W tk E ρ q F H σ0 σ B D er f =>
  to_SS (ps_ret pe_S) (he.run W tk ρ _ _ q F H σ0 σ B _ er (fun r ρ1 v F1 H1 z G => f.fol.rt r ρ1 v σ F1 H1 z G) fun C fs ρ' F' H' dd vfs z G => f.xc C fs ρ' σ F' H' dd vfs z G)⟩
def uDropX (ue : UEX) : USX := fun E ρ => ue ρ (fun _ ρ1 => E.en.nx ρ1) E.xc
theorem fsx_expr {ue : UEX} (he : FEX X e ue) (hs : swapsWith e none pos.line X.env = pure false := by rfl) : FSX X (.Expr e pos) (uDropX ue) := ⟨fun W tk E ρ q F H σ0 σ B D er f =>
  to_SS (ps_expr pe_S hs) (he.run W tk ρ _ _ q F H σ0 σ B _ er (fun r ρ1 v F1 H1 z G => f.fol.nx ρ1 σ F1 H1 z ⟨G.nx, G.er⟩) fun C fs ρ' F' H' dd vfs z G => f.xc C fs ρ' σ F' H' dd vfs z G)⟩
/-- the promise of a def that may raise -/
abbrev UFX := List Sl → (Rv → List Sl → Prop) → (Addr → List (Str × D) → List Sl → Prop) → Prop
def PSpX (K : PySem.W.Frag) (n : Nat) (u : UFX) : Sp := fun vs H Q E => ∃ ρ F B R RX, ρ.length = n ∧ vs.length = n ∧ ER K F H [] ρ (vs.map some) B ∧ u ρ R RX ∧
  (∀ r ρ' v F' H', R r ρ' → Nx F H F' H' B → ER K F' H' [] ρ' (vs.map some) B → RR K F' H' ρ' (vs.map some) B r v → (∀ i, r ≠ .at i) → Q v H') ∧
  ∀ C fs ρ' dd vfs F' H', RX C fs ρ' → Nx F H F' H' B → ER K F' H' [] ρ' (vs.map some) B → F' dd = some (.xd vfs) → RF K F' vfs fs → E (.ref C) (some dd) H'
def uCallX (u : UFX) (ua : UR) : UEX := fun ρ R RX => ua ρ fun rs ρ1 => (ats rs).Nodup ∧ u (rs.map (slOf ρ1)) (fun r ss => R r (wb ρ1 rs ss)) fun C fs ss => RX C fs (wb ρ1 rs ss)
theorem fex_call {ea : Expr} {es : List Expr} {pf pos : Pos} {x : Str} {u : UFX} {ua : UR} {k : Nat} {f : Addr} {fd : FuncData} {ps : List Str} (Fn : FnOk X.prog X.w X.K X.mg X.base (L2.CX X.prog X.w) k f fd ps (PSpX X.K ps.length u)) (hr : Room k X.A) (hg : Gl X x) (hm : X.mg x = some (.ref f)) (hk : PySem.W.keepIn X.K (.ref f) = true) (hb : Binds X.K fd ps [])
    (ha : FR X (ea :: es) ua) (hn : (ea :: es).length = ps.length := by rfl) (hdb : (x == ("__debug__" : Str)) = false := by decide) (he : starEach (ea :: es) X.env = (false, eval ea X.env) :: starEach es X.env := by rfl) (hpl : (backTo pos (starEach es X.env)).any (·.1) = false := by rfl) :
    FEX X (.Call (.Name x pf) (ea :: es) [] pos) (uCallX u ua) := ⟨fun W tk ρ R RX q F H σ0 σ B Q E g gx => by
  refine to_S (pe_callS Fn hr hg hm hk hb (E := WE W) (fun σ => passAt tk σ) pa_S hdb he hpl) (ha ρ _ q F H σ0 σ B _ E fun rs ρ1 vs F1 H1 ⟨n1, z⟩ G l ll => ?_)
  have ln := ll.trans hn
  have lv := l.len
  refine ⟨_, F1, bB B ρ1 σ rs, _, _, by rw [List.length_map]; exact ln, by rw [← lv, ln], G.er.into l n1, z, fun r ss v F' H' y nx E' rr na => ?_, fun C fs ss dd vfs F' H' y nx E' fd rf => ?_⟩
  · have G' := G.er.behind l n1 nx E' rr na
    exact g r _ v F' H' y ⟨G.nx.trans G'.nx, G'.er, G'.rr⟩
  · have G' := G.er.behind (r := .val .non) (v := .non) l n1 nx E' (show RD X.K F' .non .non from .non) (fun _ z => nomatch z)
    exact gx C fs _ F' H' dd vfs y ⟨G.nx.trans G'.nx, G'.er⟩ fd rf⟩
end
/-! ### a def that may raise -/
def enEndX (n : Nat) (R : Rv → List Sl → Prop) (RX : Addr → List (Str × D) → List Sl → Prop) : EnX := ⟨enEnd n R, fun C fs ρe => RX C fs (back n ρe)⟩
section
variable {P : Program} {w : World} {K : PySem.W.Frag} {mg : Str → Option Value} {base : Heap}
theorem fn_mkx {x qual : Str} {st : Stmt} {f : Addr} {fd : FuncData} {N ps : List Str} {k : Nat} {u : UFX} (Fn : Fun K x qual st f fd) (S : FnScope N ps (defScope st)) (hN : ps.length ≤ N.length)
    (body : ∀ (cdv : Value) (A : Around) (outer : List Env) (s : Shared) (H : Hp) (E : XK), Room k (A.deeper (envOfC qual (defScope st) s.heap.objs.size f cdv)) →
      ∃ ub, FBX (cxOf (L2.CX P w) P w K mg base N qual (defScope st) f cdv A outer s H E) (defBody st) ub ∧ ∀ ρ R RX, ρ.length = ps.length → u ρ R RX → ub (enEndX ps.length R RX) (enter N.length ρ)) : FnOk P w K mg base (L2.CX P w) (k + 1) f fd ps (PSpX K ps.length u) := by
  refine Fn.okX S (fun vs H Q E h => ?_) fun cdv A outer s H vs Q E hr h => ?_
  · obtain ⟨ρ, F, B, R, RX, _, l, _⟩ := h; exact l
  · obtain ⟨ρ, F, B, R, RX, l1, l2, er, hu, g, gx⟩ := h
    obtain ⟨ub, hub, go⟩ := body cdv A outer s H E hr
    have hn : ps.length = (vs.map some).length := by rw [List.length_map]; exact l2.symm
    refine ⟨_, pss_S, hub.run (fun cls d _ H => E cls d H) (takes_of rfl rfl rfl rfl) _ _ (go ρ R RX l1 hu) F H (vs.map some) _ B _ er.enter ⟨⟨fun ρ' σ' F' H' e G => ?_, fun r ρ' v σ' F' H' e G => ?_, fun _ _ _ _ e _ => e.elim, fun _ _ _ _ e _ => e.elim⟩, fun C fs ρ' σ' F' H' dd vfs e G fd rf => ?_⟩⟩
    · exact g _ _ _ F' H' e G.nx (G.er.back hn) .non (fun _ z => nomatch z)
    · obtain ⟨F2, r2, ρ2, hk, nx, er2, rr2, na⟩ := fin_ok (k := fun r ρ2 => R r (YP.back ps.length ρ2)) G.er G.rr e hn
      exact g r2 _ v F2 H' hk (G.nx.trans nx) er2 rr2 na
    · exact gx C fs _ dd vfs F' H' e G.nx (G.er.back hn) fd rf
end
/-! ### raise C(e, ..), C with an __init__ that keeps its arguments -/
section
variable {K : PySem.W.Frag} {F : Hp}
theorem RF.app {vs us : List (Str × V)} {ds es : List (Str × D)} (h : RF K F vs ds) (k : RF K F us es) : RF K F (vs ++ us) (ds ++ es) :=
  match h with
  | .nil => k
  | .cons r t => .cons r (t.app k)
theorem RF.rev : ∀ {vs : List (Str × V)} {ds : List (Str × D)}, RF K F vs ds → RF K F vs.reverse ds.reverse
  | _, _, .nil => .nil
  | _, _, .cons r t => by
    rw [List.reverse_cons, List.reverse_cons]
    exact t.rev.app (.cons r .nil)
theorem RL.zipF : ∀ {ns : List Str} {vs : List V} {ds : List D}, RL K F vs ds → RF K F (ns.zip vs) (ns.zip ds)
  | [], _, _, _ => .nil
  | _ :: _, _, _, .nil => .nil
  | _ :: ns, _, _, .cons r t => .cons r (RL.zipF (ns := ns) t)
/-- an __init__ that keeps its arguments by these names -/
def spIni (K : PySem.W.Frag) (C : Addr) (ns : List Str) : Sp := fun vs H Q _ => ∃ (a : Addr) (ws : List V), vs = .ref a :: ws ∧ ws.length = ns.length ∧ H a = some (exo a C none) ∧
  ∀ dx H2, H dx = none → dx ≠ a → H2 a = some (exo a C (some dx)) → H2 dx = some (exd dx (ns.zip ws).reverse) → (∀ b, b ≠ a → b ≠ dx → H2 b = H b) → Q .non H2
end
def uRaise (C : Addr) (ns : List Str) (ua : UA) : USX := fun E ρ => ua ρ fun ds ρ1 => ds.length = ns.length ∧ ds.length ≤ 1000 ∧ E.xc C (ns.zip ds).reverse ρ1
theorem fsx_raise {X : Cx} {CX : CXT} {x : Str} {C fI : Addr} {k : Nat} {fd : FuncData} {ps ns : List Str} {e : Expr} {es : List Expr} {ua : UA} {p pos pos2 : Pos} (hc : X.calm = true) (T : OexC X.K C) (iC : PySem.W.findIn X.K (.ref C) "__init__" = some (some (.ref fI))) (tI : PySem.W.typeIn X.K (.ref fI) = some (.type "function"))
    (F1 : FnOk X.prog X.w X.K X.mg X.base CX k fI fd ps (spIni X.K C ns)) (hr : Room (k + 1) X.A) (hb : Binds X.K fd ps []) (hx : Passes CX X (fun _ _ _ => False)) (hg : Gl X x) (hm : X.mg x = some (.ref C)) (ha : FA X (e :: es) ua)
    (hdb : (x == ("__debug__" : Str)) = false := by decide) (he : starEach (e :: es) X.env = (false, eval e X.env) :: starEach es X.env := by rfl) (hpl : (backTo pos (starEach es X.env)).any (·.1) = false := by rfl) :
    FSX X (.Raise (some (.Call (.Name x p) (e :: es) [] pos)) none pos2) (uRaise C ns ua) := ⟨fun W tk E ρ q F H σ0 σ B D er f =>
  to_SS (ps_raise hc tk (pmk_oex T iC tI F1 hr hb .nil hx hg hm pa_S hdb he hpl)) (ha ρ _ q F H σ0 σ B _ er fun ds ρ1 vs F1 H1 ⟨z1, z2, z⟩ G l => ⟨by rw [l.len]; exact z2, fun a na => by
    refine ⟨a, vs, by rw [List.append_nil], by rw [l.len]; exact z1, upd_same, fun dx H2 hd hda e1 e2 e3 => ⟨rfl, dx, _, e1, e2, ?_, ?_⟩⟩
    · rw [upd_ne hda] at hd; exact hd
    · have hd1 : H1 dx = none := by rw [upd_ne hda] at hd; exact hd
      have eH : upd (L2.del H2 a) dx (.xd (ns.zip vs).reverse) = upd H1 dx (.xd (ns.zip vs).reverse) := by
        funext b
        by_cases hb : b = dx
        · rw [hb, upd_same, upd_same]
        · rw [upd_ne hb, upd_ne hb]
          by_cases hba : b = a
          · rw [hba, del_same, na]
          · rw [del_ne hba, e3 b hba hb, upd_ne hba]
      rw [eH]
      obtain ⟨E2, n2⟩ := G.er.laid_val (o := .xd (ns.zip vs).reverse) hd1
      exact f.xc C _ ρ1 σ _ _ dx _ z ⟨G.nx.trans n2, E2⟩ upd_same ((RL.zipF l).rev.mono n2.fz)⟩)⟩
/-! ### try: .., except x as n: .. -/
def uTryAs (K : PySem.W.Frag) (c : Value) (i : Nat) (PC : Addr → Prop) (tb : USX) (ts : Addr → Addr → Addr → US) : USX := fun E ρ =>
  tb ⟨E.en, fun C fs ρ1 => ∃ b, PySem.W.exmOne K (.ref C) c = some b ∧ (b = true → PC C ∧ ∀ a dd, ts a dd C { nx := fun ρ2 => E.en.nx (ρ2.set i .un), rt := E.en.rt, bk := fun ρ2 => E.en.bk (ρ2.set i .un), ct := fun ρ2 => E.en.ct (ρ2.set i .un) } (ρ1.set i (.sl false false (.exc a dd C fs)))) ∧ (b = false → E.xc C fs ρ1)⟩ ρ
theorem fsx_try {X : Cx} {x n : Str} {c : Value} {i : Nat} {body suite : List Stmt} {b₀ : Stmt} {np pos pos' : Pos} {tb : USX} {ts : Addr → Addr → Addr → US} (PC : Addr → Prop) (hs : X.stack = X.env :: X.outer) (hf : X.env.frame = some X.env.locals) (hN : X.N.Nodup) (hi : X.N[i]? = some n) (hln : X.env.kindOf n = some .local) (hc : Names X x c)
    (hb : ∀ (pn : List (Addr × Obj)) (xe : Value → Shared → Prop), PassesOwn (model X.prog X.w) X.A X.env xe → FBX (X.tr pn xe) body tb)
    (hsu : ∀ (a : Addr) (oe : Obj) (C dd : Addr) (pn : List (Addr × Obj)), PC C → Zc (.ref C) (some dd) oe → (∃ vs, oe.data = .fields vs) → FB (X.suite a ((a, oe) :: pn)) (b₀ :: suite) (ts a dd C)) :
    FSX X (.Try body [.ExceptHandler (some (.Name x np)) (some n) (b₀ :: suite) pos'] [] [] pos) (uTryAs X.K c i PC tb ts) := ⟨fun W tk E ρ q F H σ0 σ B D er f => by
  refine to_SS (ps_try_as (tb := fun W' D σ H => ∀ (pn : List (Addr × Obj)) (xe : Value → Shared → Prop), Takes (X.tr pn xe) W' → PassesOwn (model X.prog X.w) X.A X.env xe → tBs (X.tr pn xe) body D σ H)
    (ts := fun a cls d D σ H => ∃ C dd, cls = .ref C ∧ d = some dd ∧ ∀ (oe : Obj) (pn : List (Addr × Obj)), Zc (.ref C) (some dd) oe → (∃ vs, oe.data = .fields vs) → tBs (X.suite a ((a, oe) :: pn)) (b₀ :: suite) D σ H)
    hs hf hN hi hln hc tk (fun W' pn xe tk' hp => ⟨fun pins s σ H D I h => h pn xe tk' hp pins s I⟩) (fun a oe cls d pn hz hd => ⟨fun pins s σ H D I ⟨C, dd, e1, e2, h⟩ => by
      subst e1 e2
      exact h oe pn hz hd pins s I⟩)) fun pn xe tk' hp => ?_
  refine (hb pn xe hp).run _ tk' _ ρ q F H σ0 σ B D er ⟨f.fol, fun C fs ρ1 σ1 F1 H1 dd vfs ⟨b, z1, z2, z3⟩ G fd rf => ⟨b, z1, fun e a na => ⟨C, dd, rfl, rfl, fun oe pn' hz hd => ?_⟩, fun e => f.xc C fs ρ1 σ1 F1 H1 dd vfs (z3 e) G fd rf⟩⟩
  have f1 := f.fol.on G.nx
  refine hsu a oe C dd pn' (z2 e).1 hz hd _ _ ((z2 e).2 a dd) F1 H1 σ0 _ B _ (G.er.set_val (.exc fd rf)) ⟨fun ρ' σ' F' H' y G' => f1.nx _ _ F' H' y ⟨G'.nx, G'.er.unset⟩, f1.rt, fun ρ' σ' F' H' y G' => f1.bk _ _ F' H' y ⟨G'.nx, G'.er.unset⟩, fun ρ' σ' F' H' y G' => f1.ct _ _ F' H' y ⟨G'.nx, G'.er.unset⟩⟩⟩
/-- a try in a context that lets nothing out -/
theorem fs_never {X : Cx} {st : Stmt} {u : USX} (h : FSX X st u) : FS X st (fun E ρ => u ⟨E, fun _ _ _ => False⟩ ρ) := ⟨fun E ρ q F H σ0 σ B D er f =>
  h.run (fun _ _ _ _ => False) takes0 ⟨E, fun _ _ _ => False⟩ ρ q F H σ0 σ B D er ⟨f, fun _ _ _ _ _ _ _ _ z => z.elim⟩⟩

/-! ### within the suite: e.f, isinstance(e, C) -/
def uXf (a dd C : Addr) (f : Str) (ue : UE) : UE := fun ρ R => ue ρ fun r ρ1 => wv ρ1 r fun d => ∃ fs x, d = .exc a dd C fs ∧ fs.lookup f = some x ∧ R (.val x) ρ1
theorem fe_xf {X : Cx} {a dd C : Addr} {oe : Obj} {pn : List (Addr × Obj)} {e : Expr} {ue : UE} {pos : Pos} {f : Str} (T : XfC X.K C) (hno : PySem.W.findIn X.K (.ref C) f = some none)
    (hz : Zc (.ref C) (some dd) oe) (hf : ∃ vs, oe.data = .fields vs) (he : FE (X.suite a ((a, oe) :: pn)) e ue) (hb : attributeBase e f X.env (eval e X.env) = eval e X.env := by rfl) : FE (X.suite a ((a, oe) :: pn)) (.Attribute e f pos) (uXf a dd C f ue) := ⟨fun ρ R q F H σ0 σ B Q E g => by
  refine to_S (pe_xf T hno hz hf pe_S hb) (he ρ _ q F H σ0 σ B _ E fun r ρ1 v F1 H1 z G => ?_)
  obtain ⟨d, w, fs, x, rfl, hl, z⟩ := G.er.seen G.rr z
  obtain ⟨rfl, vfs, fd, rf⟩ := w.exc
  obtain ⟨y, e, rd⟩ := rf.lookup hl
  exact ⟨rfl, rfl, dd, vfs, y, rfl, G.er.sub _ _ fd, e, g (.val x) ρ1 y F1 H1 z ⟨G.nx, G.er, rd⟩⟩⟩
end YP
namespace PySem.W
open PySem PySem.Spec PySem.Calls PyProof.Rows
section
variable {prog : Program} {w : World} {A : Around} {E : Value → Shared → Prop} {s : Shared} {K : Frag} {x D : Addr} {ox : Obj} {od : Option Obj}
theorem yfindObj_dataN {C : Addr} {name : Str} {a g : Value} (hc : (clsIn K C).isSome = true) (ha : findIn K (.ref C) name = some (some a)) (hg : specialIn K a "__get__" = some (some g)) (ht : takesIn K a = some true) : findObj K C od name = some (.bind g a) := by
  obtain ⟨cd, hc⟩ := Option.isSome_iff_exists.mp hc
  unfold findObj
  rw [hc, Option.bind_some, ha, Option.bind_some]
  simp [hg, ht]
theorem ykin_classE {Q : Option Value → Shared → Prop} (hga : findIn K (.ref D) "__getattribute__" = some (some (.builtin "BaseException.__getattribute__"))) (hgt : findIn K (.ref D) "__getattr__" = some none) (hsub : subIn K (.ref D) (.type "BaseException") = some true)
    (hdct : hasDictIn K D = true) (ha : findIn K (.ref D) "__class__" = some (some (.builtin "object.__class__")))
    (hn : specialIn K (.builtin "object.__class__") "__get__" = some (some (.builtin "getset_descriptor.__get__"))) (htk : takesIn K (.builtin "object.__class__") = some true) (hm : mroIn K D (.type "object") = some true)
    (X : K.In s.heap) (I : InstAt s.heap x ox D od) (h : Q (some (.ref D)) { s with toks := s.toks + 1 }) : wpAny (model prog w) A (getAttr? (.ref x) "__class__") Q E s := by
  have hf : findObj K D od "__class__" = some (.bind (.builtin "getset_descriptor.__get__") (.builtin "object.__class__")) := yfindObj_dataN (by obtain ⟨cd, hc, _⟩ := any_some hdct; rw [hc]; rfl) ha hn htk
  obtain ⟨hp, g, d, t, os⟩ := s
  have L0 := I.type (M := model prog w)
  have L1 := looks_findIn (M := model prog w) X hga
  have L2 := looks_findIn (M := model prog w) X hgt
  have L3 := looks_find (M := model prog w) X I hf
  have sub : Looks (model prog w) hp (isInstance (.ref x) (.type "BaseException")) true := L0.andThen (looks_subIn X hsub)
  have hx0 : (false && onTheHeap (Value.builtin "BaseException.__getattribute__")) = false := rfl
  have hx2 : (Value.builtin "BaseException.__getattribute__" == Value.builtin "object.__getattribute__") = false := by decide +kernel
  have hx1 : (onTheHeap (Value.ref D) && Value.builtin "BaseException.__getattribute__" == Value.builtin "object.__getattribute__") = false := by rw [hx2]; rfl
  unfold getAttr? getAttrBy? getAttrBy
  refine wpAny_bind (wpAny_mkText (wpAny_bind (wpAny_attempt (wpAny_holding (wpAny_bind (L0.at (wpAny_bind (L1.at ?_))))))))
  show wpAny _ _ (if (onTheHeap (Value.ref D) && Value.builtin "BaseException.__getattribute__" == Value.builtin "object.__getattribute__") = true then _ else _) _ _ _
  rw [hx1, if_neg Bool.false_ne_true]
  unfold getAttrByItsOwn hookBefore
  refine wpAny_bind ?_
  rw [if_pos (show onTheHeap (Value.ref D) = true from rfl)]
  refine L2.at ?_
  refine wpAny_bind (wpAny_attempt (wpAny_holding ?_))
  unfold callGetattribute
  rw [hx0, if_neg Bool.false_ne_true]
  unfold boundAndCalled
  rw [PySem.F.excAttr_ValueError.ga.bind (.ref x)]
  refine wpAny_bind (wpAny_pure ?_)
  show wpAny _ _ (call (.builtin "BaseException.__getattribute__") [.ref x, .str "__class__" t]) _ _ _
  refine wpAny_call (codeAny_call_builtin PySem.F.excAttr_ValueError.ga.plain PySem.F.entry_bexc_ga ?_)
  refine @check_slot (model prog w) _ _ ⟨hp, g, d, t + 1, os⟩ "BaseException.__getattribute__" "BaseException" "__getattribute__" (.ref x) [.str "__class__" t] [] _ (by decide +kernel) (by decide +kernel) sub (PySem.F.args_bexc_ga (.ref x) (.str "__class__" t)) ?_
  unfold Builtin.«object.__getattribute__»
  refine wpAny_bind (wpAny_of_eq (a := ((Value.ref x : Value), [Value.str "__class__" t])) (by first | rfl | (simp only [slotArgs]; rfl)) ?_)
  refine wpAny_bind (wpAny_pure (wpAny_bind (L0.at (wpAny_bind (L3.at ?_)))))
  show wpAny _ _ (holding [Value.builtin "object.__class__"] (call (.builtin "getset_descriptor.__get__") [.builtin "object.__class__", .ref x, .ref D]) >>= ret) _ _ _
  refine wpAny_bind (wpAny_holding (wpAny_call (class_get (s := ⟨hp, g, d, t + 1, os⟩) (ox := ox) (od := od) X I hm ?_)))
  refine wpAny_pure ?_
  show wpAny _ _ (handedOut (.ref D)) _ _ _
  rw [handedOut_of (v := .ref D) rfl]
  first
    | exact wpAny_pure (wpAny_pure h)
    | exact wpAny_pure h
    | exact wpAny_pure (wpAny_bind (wpAny_pure (wpAny_pure h)))
theorem ykitx_exc (hga : findIn K (.ref D) "__getattribute__" = some (some (.builtin "BaseException.__getattribute__"))) (hgt : findIn K (.ref D) "__getattr__" = some none) (hsub : subIn K (.ref D) (.type "BaseException") = some true) (hdct : hasDictIn K D = true) (ha : findIn K (.ref D) "__class__" = some (some (.builtin "object.__class__")))
    (hn : specialIn K (.builtin "object.__class__") "__get__" = some (some (.builtin "getset_descriptor.__get__"))) (htk : takesIn K (.builtin "object.__class__") = some true) (hm : mroIn K D (.type "object") = some true) :
    KitX K (.ref x) (.ref D) (fun h => ∃ od, InstAt h x ox D od) where
  ty := fun _ _ _ ⟨_, I⟩ => I.type
  it := fun _ _ X _ => by
    obtain ⟨cdD, hcD, _⟩ := any_some hdct
    unfold clsIn at hcD
    split at hcD
    · rename_i c' d' cd' sl' ho
      intro A' Q' E' s' k q
      unfold isType loadHead
      exact wpAny_bind (wpAny_loadPart (k _ _ (X _ _ ho)) (wpAny_pure q))
    · cases hcD
  ne := fun h tp dd its n sl X htp => by
    obtain ⟨cdD, hcD, _⟩ := any_some hdct
    refine Bool.eq_false_iff.mpr fun q => ?_
    have e : D = tp := Value.ref.inj (beq_iff_eq.mp q)
    subst e
    unfold clsIn at hcD
    split at hcD
    · rename_i c' d' cd' sl' ho
      have z := (X _ _ ho).symm.trans htp
      cases z
    · cases hcD
  ca := fun X ⟨_, I⟩ k => ykin_classE hga hgt hsub hdct ha hn htk hm X I k
end
end PySem.W
namespace YP
open PySem PySem.Spec PyProof.Rows L2
/-- isinstance(e, c), e the exception that the suite holds, at a; its dict stands at dd -/
def rIsX (K : PySem.W.Frag) (C a dd : Addr) : List V → Hp → VK → Prop := fun xs H Q => ∃ (c : V) (cv : Value) (b : Bool) (vfs : List (Str × V)), xs = [.ref a, c] ∧ (∀ u, RelV c u → u = cv) ∧ PySem.W.kitOne K (.ref C) cv = some b ∧ H dd = some (.xd vfs) ∧ Q (.bl b) H
theorem call_isX {X : Cx} {a dd C : Addr} {oe : Obj} {pn : List (Addr × Obj)} (T : ExcC X.K C) (hz : Zc (.ref C) (some dd) oe) (hf : ∃ vs, oe.data = .fields vs) : CallR (X.suite a ((a, oe) :: pn)) (.builtin "isinstance") (rIsX X.K C a dd) := by
  intro pins s σ H xs us Q I r h
  obtain ⟨c, cv, b, vfs, rfl, hcv, e, ed, q⟩ := h
  cases r with
  | cons rx rr =>
    cases rr with
    | cons rt rr =>
      cases rr
      cases rx
      have ec := hcv _ rt
      subst ec
      obtain ⟨hget, _⟩ := I.pin (a, oe) (List.mem_append.mpr (.inl List.mem_cons_self))
      obtain ⟨vs, hv⟩ := hf
      have hx : ObjOk X.prog X.w H s.heap dd (.xd vfs) := I.hok dd _ ed
      obtain ⟨mA, hns, hr⟩ := hx
      obtain ⟨od, ho, hl⟩ := lookIn_ns hns
      have J : PySem.W.InstAt s.heap a oe C (some od) := ⟨hget, hz.1, by unfold PySem.W.notCls; rw [hv] <;> rfl, by rw [hz.2]; exact ho⟩
      exact PySem.W.kia_one (PySem.W.ykitx_exc T.hg T.hk T.hs T.hd T.ha T.hn T.ht T.hm) I.kIn ⟨_, J⟩ e (fun z => nomatch z) fun tk => ⟨.bl b, H, I.kept (t' := tk) fun _ _ z => z, rfl, q⟩
/-- .. as a datum: c is a class's name, cv what stands for it -/
def uIsX (K : PySem.W.Frag) (a dd C : Addr) (cv : Value) (ue : UE) : UE := fun ρ R => ue ρ fun r ρ1 => wv ρ1 r fun d => ∃ fs b, d = .exc a dd C fs ∧ PySem.W.kitOne K (.ref C) cv = some b ∧ R (.val (.bl b)) ρ1
theorem fe_isX {X : Cx} {a dd C : Addr} {oe : Obj} {pn : List (Addr × Obj)} {e t : Expr} {c : V} {cv : Value} {ue : UE} {p pos : Pos} (T : ExcC X.K C) (hz : Zc (.ref C) (some dd) oe) (hf : ∃ vs, oe.data = .fields vs) (hg : Gl (X.suite a ((a, oe) :: pn)) "isinstance") (hm : X.mg "isinstance" = none)
    (he : FE (X.suite a ((a, oe) :: pn)) e ue) (ht : PE (X.suite a ((a, oe) :: pn)) t (tC c)) (hcv : ∀ u, RelV c u → u = cv)
    (hs : starEach [e, t] X.env = (false, eval e X.env) :: starEach [t] X.env := by rfl) (hs2 : starEach [t] X.env = (false, eval t X.env) :: starEach [] X.env := by rfl) (hpl : (backTo pos (starEach [t] X.env)).any (·.1) = false := by rfl) :
    FE (X.suite a ((a, oe) :: pn)) (.Call (.Name "isinstance" p) [e, t] [] pos) (uIsX X.K a dd C cv ue) := ⟨fun ρ R q F H σ0 σ B Q E g => by
  refine to_S (pe_callB (call_isX T hz hf) hg hm (by decide +kernel) (pa_cons pe_S (pa_cons ht pa_nil hs2) hs) (by decide) (by decide) hs hpl) (he ρ _ q F H σ0 σ B _ E fun r ρ1 v F1 H1 z G => ?_)
  obtain ⟨d, w, fs, b, rfl, hk, z⟩ := G.er.seen G.rr z
  obtain ⟨rfl, vfs, fd, rf⟩ := w.exc
  exact ⟨c, cv, b, vfs, rfl, hcv, hk, G.er.sub _ _ fd, g _ _ _ _ _ z ⟨G.nx, G.er, .bl _⟩⟩⟩
end YP
set_option maxRecDepth 100000
set_option maxHeartbeats 1000000
/-! The yard's pure layer, part 13: a < b < c, in a tuple of texts. -/
namespace YP
open PySem PySem.Spec PyProof.Rows L2
section
variable {X : Cx} {a b c e : Expr} {ua ub uc ue : UE} {pos : Pos}
def uChain (o o' : D → D → (Rv → Prop) → Prop) (ua ub uc : UE) : UE := fun ρ R => ua ρ fun r ρ1 => ub ρ1 fun q ρ2 => match q with
  | .val e => wv ρ2 r fun d => o d e fun z => match z with
    | .val (.bl b) => if b = true then uc ρ2 fun s ρ3 => wv ρ3 s fun f => o' e f fun z => R z ρ3 else R (.val (.bl false)) ρ2
    | _ => False
  | _ => False
theorem FE.chain {F H : Hp} {σ0 σ : L2.St} {ρ : List Sl} {B : Addr → Prop} {op op' : CmpOp} {o o' : D → D → (Rv → Prop) → Prop} (ho : OpS X (compareOp op) o) (ho' : OpS X (compareOp op') o') (ha : FE X a ua) (hb : FE X b ub) (hc : FE X c uc) {R : Rv → List Sl → Prop} {Q : VK} (q : uChain o o' ua ub uc ρ R) (E : ER X.K F H σ0 ρ σ B)
    (g : ∀ r ρ' v F' H', R r ρ' → Gt X.K F H F' H' σ0 ρ' σ B r v → Q v H') : ∃ r r' : R2, OpR X (compareOp op) r ∧ OpR X (compareOp op') r' ∧ tChain r r' (tS X a) (tS X b) (tS X c) σ H Q := by
  obtain ⟨r, hr, k⟩ := ho.ex
  obtain ⟨r', hr', k'⟩ := ho'.ex
  refine ⟨r, r', hr, hr', FE.two ha hb q E (fun x y H2 => _) fun p q ρ2 x y F2 H2 t n2 E2 r1 r2 => ?_⟩
  split at t
  case h_2 => exact t.elim
  rename_i e
  obtain ⟨d, w1, t⟩ := E2.seen r1 t
  have rd : RD X.K F2 y e := r2
  refine k E2 w1 (.inl rd) t fun z v F3 H3 t G => ?_
  split at t
  case h_2 => exact t.elim
  rename_i b
  cases b with
  | true =>
    have rz : RD X.K F3 v (.bl true) := G.rr
    cases rz
    refine ⟨true, rfl, ?_⟩
    rw [if_pos rfl]
    rw [if_pos rfl] at t
    refine hc ρ2 _ t F3 H3 σ0 σ B _ G.er fun s ρ3 u F4 H4 t G4 => ?_
    obtain ⟨f, w3, t⟩ := G4.er.seen G4.rr t
    exact k' G4.er (.inl (rd.mono (G.nx.fz.trans G4.nx.fz))) w3 t fun z v F5 H5 t G5 => g z ρ3 v F5 H5 t ⟨n2.trans (G.nx.trans (G4.nx.trans G5.nx)), G5.er, G5.rr⟩
  | false =>
    have rz : RD X.K F3 v (.bl false) := G.rr
    cases rz
    refine ⟨false, rfl, ?_⟩
    rw [if_neg Bool.false_ne_true]
    rw [if_neg Bool.false_ne_true] at t
    exact g _ _ _ F3 H3 t ⟨n2.trans G.nx, G.er, .bl _⟩
theorem fe_chain {op op' : CmpOp} {o o' : D → D → (Rv → Prop) → Prop} (ho : OpS X (compareOp op) o) (ho' : OpS X (compareOp op') o') (ha : FE X a ua) (hb : FE X b ub) (hc : FE X c uc) (hm : lastMarks [op, op'] [b, c] = false := by with_unfolding_all rfl) : FE X (.Compare a [op, op'] [b, c] pos) (uChain o o' ua ub uc) := ⟨fun ρ R q F H σ0 σ B Q E g => by
  obtain ⟨r, r', hr, hr', t⟩ := FE.chain ho ho' ha hb hc q E g
  exact to_S (pe_chain hr hr' pe_S pe_S pe_S hm) t⟩
theorem ft_chain {op op' : CmpOp} {o o' : D → D → (Rv → Prop) → Prop} (ho : OpS X (compareOp op) o) (ho' : OpS X (compareOp op') o') (ha : FE X a ua) (hb : FE X b ub) (hc : FE X c uc) (hm : lastMarks [op, op'] [b, c] = false := by with_unfolding_all rfl) : FT X (.Compare a [op, op'] [b, c] pos) (fun ρ R => uChain o o' ua ub uc ρ (isB R)) := ⟨fun ρ R q F H σ0 σ B Q E g => by
  obtain ⟨r, r', hr, hr', t⟩ := FE.chain (Q := fun v H' => ∃ c, v = .bl c ∧ Q c H') ho ho' ha hb hc q E fun r ρ' v F' H' h G => by
    unfold isB at h
    split at h
    · rename_i c
      have rr : RD X.K F' v (.bl c) := G.rr
      cases rr
      exact ⟨c, rfl, g c ρ' F' H' h ⟨G.nx, G.er⟩⟩
    · exact h.elim
  exact to_ST (pt_chain hr hr' pe_S pe_S pe_S hm) t⟩
/-! ### in a tuple of texts -/
theorem inV_strs (x : Str) : ∀ ys : List Str, inV (.str x) (ys.map V.str) = decide (x ∈ ys)
  | [] => by simp [inV]
  | y :: ys => by
    have ih := inV_strs x ys
    unfold inV at ih ⊢
    rw [List.map_cons, List.any_cons, ih]
    by_cases h : x = y
    · subst h; simp [eqV]
    · have h' : y ≠ x := fun z => h z.symm
      simp [eqV, h, h']
theorem flat_strs (ys : List Str) : (ys.map V.str).all flatV = true := by
  rw [List.all_map, List.all_eq_true]
  intro y _
  rfl
def oInT (neg : Bool) (d e : D) (T : Rv → Prop) : Prop := match d, e with
  | .str x, .tup l => ∃ ys : List Str, l = ys.map D.str ∧ T (.val (.bl (neg ^^ decide (x ∈ ys))))
  | _, _ => False
theorem os_inT : OpS X (compareOp .In) (oInT false) := .of op_in_seq fun {F H σ0 σ ρ B x y d e T Q} E w1 w2 t g => by
  unfold oInT at t
  split at t
  · obtain ⟨ys, rfl, t⟩ := t
    cases w1.str
    obtain ⟨a, us, rfl, h1, l1⟩ := w2.tup E.sub
    cases rl_strs l1
    refine ⟨a, _, rfl, .inr h1, rfl, flat_strs ys, ?_⟩
    rw [inV_strs]
    rw [Bool.false_xor] at t
    exact gt_val E g t (.bl _)
  · exact t.elim
theorem os_notinT : OpS X (compareOp .NotIn) (oInT true) := .of op_notIn_seq fun {F H σ0 σ ρ B x y d e T Q} E w1 w2 t g => by
  unfold oInT at t
  split at t
  · obtain ⟨ys, rfl, t⟩ := t
    cases w1.str
    obtain ⟨a, us, rfl, h1, l1⟩ := w2.tup E.sub
    cases rl_strs l1
    refine ⟨a, _, rfl, .inr h1, rfl, flat_strs ys, ?_⟩
    rw [inV_strs]
    rw [Bool.true_xor] at t
    exact gt_val E g t (.bl _)
  · exact t.elim
/-- in a tuple of texts that the top has written -/
def uInK (neg : Bool) (ys : List Str) (ua : UE) : UE := fun ρ R => ua ρ fun r ρ1 => wv ρ1 r fun d => ∃ x, d = .str x ∧ R (.val (.bl (neg ^^ decide (x ∈ ys)))) ρ1
theorem fe_inK {x : Str} {k : Addr} {ys : List Str} {p : Pos} (ha : FE X a ua) (hg : Gl X x) (hm : X.mg x = some (.ref k)) (hk : ∀ H, SqT X.K H k (ys.map V.str)) (hd : (x == ("__debug__" : Str)) = false := by decide) (h1 : behindInMarks .In (.Name x p) = false := by rfl) : FE X (.Compare a [.In] [.Name x p] pos) (uInK false ys ua) := ⟨fun ρ R q F H σ0 σ B Q E g => by
  refine to_S (pe_cmpR op_in_seq pe_S (pe_glob (v := .ref k) hg hm rfl hd) h1) (ha ρ _ q F H σ0 σ B _ E fun r ρ1 v F1 H1 z G => ?_)
  obtain ⟨d, w, x', rfl, z⟩ := G.er.seen G.rr z
  cases w.str
  refine ⟨k, _, rfl, .inr (hk _), rfl, flat_strs ys, ?_⟩
  rw [inV_strs]
  rw [Bool.false_xor] at z
  exact g _ _ _ _ _ z ⟨G.nx, G.er, .bl _⟩⟩
theorem fe_notinK {x : Str} {k : Addr} {ys : List Str} {p : Pos} (ha : FE X a ua) (hg : Gl X x) (hm : X.mg x = some (.ref k)) (hk : ∀ H, SqT X.K H k (ys.map V.str)) (hd : (x == ("__debug__" : Str)) = false := by decide) (h1 : behindInMarks .NotIn (.Name x p) = false := by rfl) : FE X (.Compare a [.NotIn] [.Name x p] pos) (uInK true ys ua) := ⟨fun ρ R q F H σ0 σ B Q E g => by
  refine to_S (pe_cmpR op_notIn_seq pe_S (pe_glob (v := .ref k) hg hm rfl hd) h1) (ha ρ _ q F H σ0 σ B _ E fun r ρ1 v F1 H1 z G => ?_)
  obtain ⟨d, w, x', rfl, z⟩ := G.er.seen G.rr z
  cases w.str
  refine ⟨k, _, rfl, .inr (hk _), rfl, flat_strs ys, ?_⟩
  rw [inV_strs]
  rw [Bool.true_xor] at z
  exact g _ _ _ _ _ z ⟨G.nx, G.er, .bl _⟩⟩
end
end YP
set_option maxRecDepth 100000
set_option maxHeartbeats 1000000
/-! The yard's pure layer, part 14: small things that every law wants. -/
namespace YP
open PySem PySem.Spec PyProof.Rows L2 Yard
abbrev own (d : D) : Sl := .sl true false d
abbrev dat (d : D) : Sl := .sl false false d
theorem nd1 (n : Nat) : ([n] : List Nat).Nodup := by simp
section
variable {P : Program} {w : World} {K : PySem.W.Frag} {mg : Str → Option Value} {base : Heap}
theorem no_pure {CX : CXT} {k n : Nat} {f : Addr} {fd : FuncData} {ps : List Str} : FnOk P w K mg base CX k f fd ps (PSp K n (fun _ _ => False)) :=
  ⟨fun _ _ _ _ ⟨_, _, _, _, _, _, _, h, _⟩ => h.elim, fun _ _ _ _ _ _ _ _ _ _ _ _ _ ⟨_, _, _, _, _, _, _, h, _⟩ => h.elim⟩
theorem pure_any {CX : CXT} {k m N : Nat} {f : Addr} {fd : FuncData} {ps : List Str} {u : Nat → UF} (F : ∀ n, n ≤ N → FnOk P w K mg base CX k f fd ps (PSp K m (u n))) : FnOk P w K mg base CX k f fd ps (PSp K m (fun ρ R => ∃ n, n ≤ N ∧ u n ρ R)) :=
  ⟨fun vs H Q E ⟨ρ, F', B, R, a, b, c, ⟨n, hn, d⟩, e⟩ => (F n hn).len vs H Q E ⟨ρ, F', B, R, a, b, c, d, e⟩, fun A outer s H args us vs Q E hr e0 hb hv ⟨ρ, F', B, R, a, b, c, ⟨n, hn, d⟩, e⟩ => (F n hn).run A outer s H args us vs Q E hr e0 hb hv ⟨ρ, F', B, R, a, b, c, d, e⟩⟩
end
theorem wb_no {ρ : List Sl} : ∀ {rs : List Rv} (ss : List Sl), ats rs = [] → wb ρ rs ss = ρ
  | [], [], _ => rfl
  | [], _ :: _, _ => rfl
  | .at _ :: _, _, h => nomatch h
  | .val _ :: _, [], _ => rfl
  | .own _ :: _, [], _ => rfl
  | .val _ :: rs, _ :: ss, h => wb_no (rs := rs) ss h
  | .own _ :: rs, _ :: ss, h => wb_no (rs := rs) ss h
def uBefore (u : Nat → UF) : Nat → UF
  | 0 => fun _ _ => False
  | k + 1 => u k
/-- a join of ways ahead of a long rest -/
theorem seq_cut {t u : US} {E : En} {ρ : List Sl} (P : List Sl → Prop) (h2 : ∀ ρ, P ρ → u E ρ) (h1 : (∀ ρ, P ρ → u E ρ) → uSeq t u E ρ) : uSeq t u E ρ := h1 h2
theorem seq_cutX {t u : USX} {E : EnX} {ρ : List Sl} (P : List Sl → Prop) (h2 : ∀ ρ, P ρ → u E ρ) (h1 : (∀ ρ, P ρ → u E ρ) → uSeqX t u E ρ) : uSeqX t u E ρ := h1 h2
/-! ### plain data, not too deep -/
structure OkN (n : Nat) (d : D) : Prop where
  pl : plain d = true
  cl : (toP d).canLay0 = true
  dp : (toP d).depth ≤ n
theorem OkN.ok {n : Nat} {d : D} (h : OkN n d) (k : n ≤ 64 := by decide) : okD d = true := by
  unfold okD SeqAt.shaped
  rw [h.pl, h.cl, decide_eq_true (Nat.le_trans h.dp k)]; rfl
theorem OkN.mono {n m : Nat} {d : D} (h : OkN n d) (k : n ≤ m) : OkN m d := ⟨h.pl, h.cl, Nat.le_trans h.dp k⟩
theorem okN_all {n : Nat} : ∀ {l : List D}, (∀ d ∈ l, OkN n d) → plains l = true ∧ PyData.canLayAll0 (toPs l) = true ∧ PyData.depthAll (toPs l) ≤ n
  | [], _ => ⟨rfl, rfl, Nat.zero_le _⟩
  | d :: l, h => by
    obtain ⟨a, b, c⟩ := okN_all fun x hx => h x (List.mem_cons_of_mem _ hx)
    have k := h d List.mem_cons_self
    refine ⟨?_, ?_, ?_⟩
    · show (plain d && plains l) = true
      rw [k.pl, a]; rfl
    · show ((toP d).canLay0 && PyData.canLayAll0 (toPs l)) = true
      rw [k.cl, b]; rfl
    · show max ((toP d).depth) (PyData.depthAll (toPs l)) ≤ n
      have := k.dp
      omega
theorem okN_tup {n : Nat} {l : List D} (h : ∀ d ∈ l, OkN n d) : OkN (n + 1) (.tup l) :=
  let ⟨a, b, c⟩ := okN_all h; ⟨a, b, Nat.succ_le_succ c⟩
theorem okN_lst {n : Nat} {l : List D} (h : ∀ d ∈ l, OkN n d) : OkN (n + 1) (.lst l) :=
  let ⟨a, b, c⟩ := okN_all h; ⟨a, b, Nat.succ_le_succ c⟩
theorem okN_str {x : Str} (h : PyData.strOk x = true) : OkN 0 (.str x) := ⟨rfl, h, Nat.le_refl _⟩
theorem okN_non : OkN 0 .non := ⟨rfl, rfl, Nat.le_refl _⟩
theorem okN_int {i : Int} : OkN 0 (.int i) := ⟨rfl, rfl, Nat.le_refl _⟩
theorem okN_bl {i : Bool} : OkN 0 (.bl i) := ⟨rfl, rfl, Nat.le_refl _⟩
theorem eqD_refl {n : Nat} {d : D} (h : OkN n d) : eqD d d = true := SeqAt.eqv_refl _ h.cl
theorem eqD_str {x y : Str} : eqD (.str x) (.str y) = decide (x = y) := by
  by_cases e : x = y
  · subst e
    rw [decide_eq_true rfl]
    show (x == x) = true
    exact beq_self_eq_true x
  · rw [decide_eq_false e]
    show (x == y) = false
    exact beq_eq_false_iff_ne.mpr e
theorem eqD_int {x y : Int} : eqD (.int x) (.int y) = decide (x = y) := by
  by_cases e : x = y
  · subst e
    rw [decide_eq_true rfl]
    show (x == x) = true
    exact beq_self_eq_true x
  · rw [decide_eq_false e]
    show (x == y) = false
    exact beq_eq_false_iff_ne.mpr e
theorem any_strs (x : Str) : ∀ ys : List Str, ((ys.map D.str).any fun z => eqD z (.str x)) = decide (x ∈ ys)
  | [] => by simp
  | y :: ys => by
    rw [List.map_cons, List.any_cons, any_strs x ys, eqD_str]
    by_cases e : y = x
    · subst e; simp
    · have e' : x ≠ y := fun z => e z.symm
      simp [e, e']
theorem any_ints (x : Int) : ∀ ys : List Int, ((ys.map D.int).any fun z => eqD z (.int x)) = decide (x ∈ ys)
  | [] => by simp
  | y :: ys => by
    rw [List.map_cons, List.any_cons, any_ints x ys, eqD_int]
    by_cases e : y = x
    · subst e; simp
    · have e' : x ≠ y := fun z => e z.symm
      simp [e, e']
/-! ### texts by their signs -/
def toS (l : List Nat) : Str := ⟨l.toArray⟩
def one (c : Nat) : Str := ⟨#[c]⟩
def sgD (c : Nat) : D := .str ⟨#[c]⟩
theorem toS_len (l : List Nat) : (toS l).length = l.length := by
  show l.toArray.size = _
  simp
theorem toS_cps (l : List Nat) : (toS l).cps.toList = l := rfl
theorem toS_of (x : Str) : toS x.cps.toList = x := by
  obtain ⟨a⟩ := x
  rfl
theorem strOk_toS {l : List Nat} (h : ∀ c ∈ l, c < 1114112) : PyData.strOk (toS l) = true := by
  show l.toArray.all _ = true
  rw [List.all_toArray, List.all_eq_true]
  intro c hc
  exact decide_eq_true (h c hc)
theorem join_ones : ∀ l : List Nat, TL.joinL [] (l.map fun c => [c]) = l
  | [] => rfl
  | [c] => rfl
  | c :: d :: l => by
    show c :: ([] ++ TL.joinL [] ((d :: l).map fun c => [c])) = _
    rw [join_ones (d :: l)]; rfl
theorem joined (l : List Nat) : Txt.join "" (l.map fun c => (⟨#[c]⟩ : Str)) = ⟨l.toArray⟩ := by
  have e := TL.tl_join "" (l.map fun c => (⟨#[c]⟩ : Str))
  rw [List.map_map] at e
  have e2 : TL.tl (Str.join "" (l.map fun c => (⟨#[c]⟩ : Str))) = l := e.trans (join_ones l)
  rw [TL.join_eq]
  refine TL.ext_tl (e2.trans ?_)
  rfl
theorem ones_len (l : List Nat) : ((l.map fun c => (⟨#[c]⟩ : Str)).map (·.length)).sum = l.length := by
  induction l with
  | nil => rfl
  | cons c l ih =>
    rw [List.map_cons, List.map_cons, List.sum_cons, ih, List.length_cons]
    show 1 + l.length = _
    omega
/-! ### slices -/
theorem ycut_from {α : Type} (xs : List α) (k : Nat) : YP.cut xs (some (k : Int)) none = xs.drop k := by
  unfold YP.cut
  rw [HT.sIx_nat, HT.sIx_none]
  rcases Nat.le_total k xs.length with h | h
  · rw [Nat.min_eq_left h]
    exact List.take_of_length_le (by rw [List.length_drop]; omega)
  · rw [Nat.min_eq_right h, List.drop_length, List.drop_of_length_le h]; simp
theorem ycut_le {α : Type} (xs : List α) (lo hi : Option Int) : (YP.cut xs lo hi).length ≤ xs.length := by
  unfold YP.cut
  rw [List.length_take, List.length_drop]
  omega
theorem ycut_mem {α : Type} {xs : List α} {lo hi : Option Int} {x : α} (h : x ∈ YP.cut xs lo hi) : x ∈ xs := by
  unfold YP.cut at h
  exact List.mem_of_mem_drop (List.mem_of_mem_take h)
theorem intsD_len (lo : Int) (n : Nat) : (intsD lo n).length = n := by simp [intsD]
theorem intsD_get {lo : Int} {n i : Nat} {d : D} (h : (intsD lo n)[i]? = some d) : i < n ∧ d = .int (lo + (i : Int)) := by
  have hi : i < (intsD lo n).length := (List.getElem?_eq_some_iff.mp h).1
  rw [intsD_len] at hi
  refine ⟨hi, ?_⟩
  simp [intsD, hi] at h
  exact h.symm
theorem sz2 : 2000000 ≤ sizeLine := by rw [sizeLine_eq]; decide
end YP
namespace YP
open PySem PySem.Spec PyProof.Rows L2 Yard
theorem if_t {c : Bool} {A B : Prop} (h : c = true) (k : A) : if c = true then A else B := by rw [h]; exact k
theorem if_f {c : Bool} {A B : Prop} (h : c = false) (k : B) : if c = true then A else B := by rw [h]; exact k
theorem os_iadd {X : Cx} : OpS X (inplaceOp .Add) (oI0 fun i j => .int (i + j)) := os_I0 iop_add fun _ _ _ => .int _
end YP
set_option maxRecDepth 100000
set_option maxHeartbeats 1000000
/-! The yard's pure layer, part 15: the law's own def over pure promises: a list of numbers that it makes and hands in. -/
namespace YP
open PySem PySem.Spec PyProof.Rows L2 Yard
def OffA (a : Addr) (H H' : Hp) : Prop := ∀ b o, b ≠ a → H b = some o → H' b = some o
/-- a def that is handed one list of numbers, which it may change, and tells True -/
def spOwn (u : UF) : Sp := fun vs H Q _ => ∃ (a : Addr) (ns : List Int), vs = [.ref a] ∧ H a = some (.lst (ns.map V.int)) ∧ u [own (.lst (ns.map D.int))] (fun r _ => r = .val (.bl true)) ∧ ∀ H', OffA a H H' → Q (.bl true) H'
section
variable {P : Program} {w : World} {K : PySem.W.Frag} {mg : Str → Option Value} {base : Heap}
theorem own_true {CX : CXT} {k : Nat} {f : Addr} {fd : FuncData} {ps : List Str} {u : UF} (Fn : FnOk P w K mg base CX k f fd ps (PSp K 1 u)) : FnOk P w K mg base CX k f fd ps (spOwn u) := by
  refine Fn.imp fun vs H Q E ⟨a, ns, e, eh, hu, q⟩ => ?_
  subst e
  refine ⟨[own (.lst (ns.map D.int))], fun b => if b = a then none else H b, fun _ => False, fun r ss => r = .val (.bl true), rfl, rfl, ?_, hu, fun r ρ' v F' H' hr nx er rr na => ?_⟩
  · refine ⟨rfl, fun b o e => ?_, fun i p d h => ?_, fun i p d h => ?_, fun i j b p q d e h1 h2 h3 h4 => ?_, fun i o d h => ?_, fun b hb => hb.elim⟩
    · by_cases k : b = a
      · have e : (if b = a then none else H b) = some o := e
        rw [if_pos k] at e; cases e
      · have e : (if b = a then none else H b) = some o := e
        rwa [if_neg k] at e
    · match i, h with
      | 0, h => cases h
    · match i, h with
      | 0, h => cases h; exact ⟨a, rfl, .lst eh (ints_rl ns), if_pos rfl, fun h => h⟩
    · match i, j, h1, h2 with
      | 0, 0, _, _ => rfl
    · match i, h with
      | 0, h => cases h
  · subst hr
    have rr : RD K F' v (.bl true) := rr
    cases rr
    refine q H' fun b o hb e => ?_
    refine er.sub b o (nx.fz b o ?_)
    show (if b = a then none else H b) = some o
    rw [if_neg hb]; exact e
/-- script[k], or 0 -/
def spCellAt (K : PySem.W.Frag) : Sp := fun vs H Q _ => ∃ (a : Addr) (ns : List Int) (k : Nat), vs = [.ref a, .int (k : Nat)] ∧ SqL K H a (ns.map V.int) ∧ ∀ c, Q (.int c) H
/-- the end's promise -/
def spLaw (K : PySem.W.Frag) : Sp := fun vs H Q _ => ∃ (a : Addr) (ns : List Int), vs = [.ref a] ∧ SqL K H a (ns.map V.int) ∧ ns.length ≤ 63 ∧ ∀ H', Q (.bl true) H'
end
end YP
set_option maxRecDepth 100000
set_option maxHeartbeats 1000000
namespace K49
open PySem PySem.Spec PyProof.Rows L2 Yard YP
/-! ### the text -/
def topS (i : Nat) : Stmt := PySem.Challenge.pw_tongueyard_k49_deeds_done.main.body.getD i (.Pass ⟨0, 0, 0, 0⟩)
abbrev s_is_name : Stmt := topS 7
abbrev s_mended : Stmt := topS 9
abbrev s_is_deed : Stmt := topS 10
abbrev s_fits : Stmt := topS 11
abbrev s__law_cell_at : Stmt := topS 13
abbrev s__law_pot : Stmt := topS 14
abbrev s__law_pick : Stmt := topS 15
abbrev s__law_names : Stmt := topS 16
abbrev s__law_good_name : Stmt := topS 17
abbrev s__law_want : Stmt := topS 18
abbrev s__law_deeds : Stmt := topS 19
abbrev s__law_bad : Stmt := topS 20
abbrev s__law_told : Stmt := topS 21
abbrev s__law_right : Stmt := topS 22
abbrev s_law : Stmt := topS 23
abbrev s_NoDeeds___init__ : Stmt := inClass (topS 2) 0
/-- a method of a class, as the top has left it -/
structure Dm (K : PySem.W.Frag) (C : Addr) (x q : Str) (st : Stmt) (ps : List Str) (f : Addr) (fd : FuncData) : Prop where
  fn : Fun K x q st f fd
  bd : Binds K fd ps []
  mt : Meth K C x f
/-- an own exception class -/
structure Xc (K : PySem.W.Frag) (mg : Str → Option Value) (x : Str) (C : Addr) : Prop where
  g : mg x = some (.ref C)
  ox : OexC K C
  xf : XfC K C
  is : ExcC K C
/-- what the top has left -/
structure Tx (K : PySem.W.Frag) (w : World) (mg : Str → Option Value) where
  (a_is_name : Addr) (f_is_name : FuncData) (d_is_name : Df K mg "is_name" s_is_name ["thing"] a_is_name f_is_name)
  (a_mended : Addr) (f_mended : FuncData) (d_mended : Df K mg "mended" s_mended ["row", "deeds"] a_mended f_mended)
  (a_is_deed : Addr) (f_is_deed : FuncData) (d_is_deed : Df K mg "is_deed" s_is_deed ["thing"] a_is_deed f_is_deed)
  (a_fits : Addr) (f_fits : FuncData) (d_fits : Df K mg "fits" s_fits ["row", "at", "deed"] a_fits f_fits)
  (a__law_cell_at : Addr) (f__law_cell_at : FuncData) (d__law_cell_at : Df K mg "_law_cell_at" s__law_cell_at ["script", "k"] a__law_cell_at f__law_cell_at)
  (a__law_pot : Addr) (f__law_pot : FuncData) (d__law_pot : Df K mg "_law_pot" s__law_pot ["cell"] a__law_pot f__law_pot)
  (a__law_pick : Addr) (f__law_pick : FuncData) (d__law_pick : Df K mg "_law_pick" s__law_pick ["pot", "many"] a__law_pick f__law_pick)
  (a__law_names : Addr) (f__law_names : FuncData) (d__law_names : Df K mg "_law_names" s__law_names ["pot", "many"] a__law_names f__law_names)
  (a__law_good_name : Addr) (f__law_good_name : FuncData) (d__law_good_name : Df K mg "_law_good_name" s__law_good_name ["kind"] a__law_good_name f__law_good_name)
  (a__law_want : Addr) (f__law_want : FuncData) (d__law_want : Df K mg "_law_want" s__law_want ["row", "deeds"] a__law_want f__law_want)
  (a__law_deeds : Addr) (f__law_deeds : FuncData) (d__law_deeds : Df K mg "_law_deeds" s__law_deeds ["pot", "row", "tokens"] a__law_deeds f__law_deeds)
  (a__law_bad : Addr) (f__law_bad : FuncData) (d__law_bad : Df K mg "_law_bad" s__law_bad ["pot", "row", "deeds"] a__law_bad f__law_bad)
  (a__law_told : Addr) (f__law_told : FuncData) (d__law_told : Df K mg "_law_told" s__law_told ["row", "deeds"] a__law_told f__law_told)
  (a__law_right : Addr) (f__law_right : FuncData) (d__law_right : Df K mg "_law_right" s__law_right ["pot"] a__law_right f__law_right)
  (a_law : Addr) (f_law : FuncData) (d_law : Df K mg "law" s_law ["script"] a_law f_law)
  (c_YardError : Addr) (g_YardError : mg "YardError" = some (.ref c_YardError))
  (c_NoDeeds : Addr) (g_NoDeeds : mg "NoDeeds" = some (.ref c_NoDeeds))
  (x_NoDeeds : Xc K mg "NoDeeds" c_NoDeeds)
  (s_NoDeeds : PySem.W.exmOne K (.ref c_NoDeeds) (.ref c_YardError) = some true) (v_NoDeeds : PySem.W.kitOne K (.ref c_NoDeeds) (.type "ValueError") = some true)
  (n_NoDeeds_at : PySem.W.findIn K (.ref c_NoDeeds) "at" = some none)
  (a_NoDeeds___init__ : Addr) (f_NoDeeds___init__ : FuncData)
  (d_NoDeeds___init__ : Fun K "__init__" "NoDeeds.__init__" s_NoDeeds___init__ a_NoDeeds___init__ f_NoDeeds___init__) (b_NoDeeds___init__ : Binds K f_NoDeeds___init__ ["self", "at"] []) (k_NoDeeds___init__ : PySem.W.findIn K (.ref c_NoDeeds) "__init__" = some (some (.ref a_NoDeeds___init__))) (t_NoDeeds___init__ : PySem.W.typeIn K (.ref a_NoDeeds___init__) = some (.type "function"))
  (t_LETTERS : Tok) (g_LETTERS : mg "LETTERS" = some (.str "abcdefghijklmnopqrstuvwxyz" t_LETTERS))
  (t_LONGEST : Tok) (g_LONGEST : mg "LONGEST" = some (.int 8 t_LONGEST))
  (a_KEPT_WORDS : Addr) (g_KEPT_WORDS : mg "KEPT_WORDS" = some (.ref a_KEPT_WORDS)) (k_KEPT_WORDS : ∀ H, SqT K H a_KEPT_WORDS ((["word", "skip", "rule", "top", "bar"] : List Str).map V.str))
  (z_ValueError : mg "ValueError" = none)
  (z_all : mg "all" = none)
  (z_bool : mg "bool" = none)
  (z_enumerate : mg "enumerate" = none)
  (z_int : mg "int" = none)
  (z_isinstance : mg "isinstance" = none)
  (z_len : mg "len" = none)
  (z_list : mg "list" = none)
  (z_max : mg "max" = none)
  (z_min : mg "min" = none)
  (z_range : mg "range" = none)
  (z_str : mg "str" = none)
  (z_tuple : mg "tuple" = none)
theorem sc_NoDeeds___init__ : FnScope ["self", "at"] ["self", "at"] (defScope s_NoDeeds___init__) := ⟨rfl, rfl, rfl, by decide +kernel, rfl, by decide +kernel, by decide +kernel⟩
theorem ok_NoDeeds___init__ {P : Program} {w : World} {K : PySem.W.Frag} {mg : Str → Option Value} {base : Heap} (T : Tx K w mg) : FnOk P w K mg base CX0 1 T.a_NoDeeds___init__ T.f_NoDeeds___init__ ["self", "at"] (spIni K T.c_NoDeeds ["at"]) := by
  refine T.d_NoDeeds___init__.ok sc_NoDeeds___init__ (fun vs H Q E h => ?_) fun cdv A outer s H vs Q E hr h => ?_
  · obtain ⟨a, ws, rfl, l, _⟩ := h; show ws.length + 1 = _; rw [l]; rfl
  · obtain ⟨a, ws, rfl, l, e, g⟩ := h
    match ws, l with
    | [y], _ =>
      refine ⟨_, pss_one (ps_ost (pv 0) (pv 1)), ?_⟩
      refine ⟨_, rfl, _, rfl, a, _, rfl, T.x_NoDeeds.ox, T.n_NoDeeds_at, .inl ⟨e, fun dx nd hd => ?_⟩⟩
      exact g dx _ nd hd upd_same (by rw [upd_ne hd]; exact upd_same) fun b h1 h2 => by rw [upd_ne h1, upd_ne h2]
end K49
set_option maxRecDepth 100000
set_option maxHeartbeats 1000000
namespace K49
open PySem PySem.Spec PyProof.Rows L2 Yard YP
section
variable {P : Program} {w : World} {K : PySem.W.Frag} {mg : Str → Option Value} {base : Heap}
/-! ### the pot -/
def JarOk (c : Nat) (d : D) : Prop := ∃ x y z : Int, d = .lst [.int x, .int y, .int z] ∧ 0 ≤ x ∧ 0 ≤ y ∧ y < 2 ^ 128 ∧ 0 ≤ z ∧ z ≤ c
theorem JarOk.mono {c c' : Nat} {d : D} (h : JarOk c d) (n : c ≤ c') : JarOk c' d := by
  obtain ⟨x, y, z, e, a1, a2, a3, a4, a5⟩ := h
  exact ⟨x, y, z, e, a1, a2, a3, a4, by omega⟩
def uPot : UF := fun ρ R => ∃ i : Int, ρ = [dat (.int i)] ∧ ∀ d s, JarOk 0 d → R (.own d) [s]
theorem sc__law_pot : FnScope ["cell"] ["cell"] (defScope s__law_pot) := ⟨rfl, rfl, rfl, by decide +kernel, rfl, by decide +kernel, by decide +kernel⟩
theorem ok__law_pot (T : Tx K w mg) : FnOk P w K mg base CX0 1 T.a__law_pot T.f__law_pot ["cell"] (PSp K 1 uPot) := by
  refine fn_mk T.d__law_pot.fn sc__law_pot (by decide) fun cdv A outer s H E hr => ?_
  refine ⟨_, (fb_one (fs_ret (fe_lst (fa_cons (fe_b (cb_max rfl) (by rfl) T.z_max (by decide +kernel) (fr_ref fe_int (fr_ref (fe_op os_sub (fv 0) (fe_op os_pow fe_int fe_int)) fr_nil))) (fa_cons (fe_op os_mod (fv 0) fe_int) (fa_cons fe_int fa_nil)))))), fun ρ R hl h => ?_⟩
  -- slots: 0 cell
  obtain ⟨i, rfl, q⟩ := h
  have sz := sz2
  refine ⟨⟨by decide, 4, by decide, by decide, by decide⟩, (by decide : (0 : Int) < 170141183460469231731687303715884105727), by show 3 ≤ _; omega, ?_⟩
  refine q _ _ ⟨_, _, _, rfl, ?_, Int.emod_nonneg _ (by decide), ?_, by decide, by decide⟩
  · split <;> omega
  · exact Int.lt_trans (Int.emod_lt_of_pos _ (by decide)) (by decide)
def uPick : UF := fun ρ R => ∃ (c : Nat) (d : D) (m : Int), ρ = [own d, dat (.int m)] ∧ JarOk c d ∧ 0 < m ∧ m < 1073741824 ∧ c < 1000000 ∧ ∀ (r : Int) d2 s1, 0 ≤ r → r < m → JarOk (c + 1) d2 → R (.val (.int r)) [own d2, s1]
theorem sc__law_pick : FnScope ["pot", "many", "found", "mixed"] ["pot", "many"] (defScope s__law_pick) := ⟨rfl, rfl, rfl, by decide +kernel, rfl, by decide +kernel, by decide +kernel⟩
theorem ok__law_pick (T : Tx K w mg) : FnOk P w K mg base CX0 1 T.a__law_pick T.f__law_pick ["pot", "many"] (PSp K 2 uPick) := by
  refine fn_mk T.d__law_pick.fn sc__law_pick (by decide) fun cdv A outer s H E hr => ?_
  refine ⟨_, (fb_cons (fs_if (ft_cmp os_gt (fe_ix (fv 0) fe_int) fe_int)
      (fb_cons (fs_set (ps_set (i := 2) sc__law_pick.nd rfl (.inl rfl) pe_S) (fe_op os_mod (fe_ix (fv 0) fe_int) (fv 1)))
      (fb_cons (fs_putL (ps_asg pe_S (pg_sub pe_S pe_S set_list)) (fe_op os_div (fe_ix (fv 0) fe_int) (fv 1)) (fv 0) fe_int)
      (fb_one (fs_ret (fv 2)))))
      fb_nil)
      (fb_cons (fs_putL (ps_asg pe_S (pg_sub pe_S pe_S set_list)) (fe_op os_add (fe_ix (fv 0) fe_int) fe_int) (fv 0) fe_int)
      (fb_cons (fs_set (ps_set (i := 3) sc__law_pick.nd rfl (.inl rfl) pe_S) (fe_op os_mod (fe_op os_pow (fe_op os_add (fe_op os_add (fe_ix (fv 0) fe_int) (fe_op os_mul fe_int (fe_ix (fv 0) fe_int))) fe_int) fe_int) fe_int))
      (fb_cons (fs_set (ps_set (i := 3) sc__law_pick.nd rfl (.inl rfl) pe_S) (fe_op os_mod (fe_op os_pow (fe_op os_add (fv 3) (fe_op os_mul fe_int (fe_ix (fv 0) fe_int))) fe_int) fe_int))
      (fb_one (fs_ret (fe_op os_mod (fe_op os_div (fv 3) fe_int) (fv 1)))))))), fun ρ R hl h => ?_⟩
  -- slots: 0 pot, 1 many, 2 found, 3 mixed
  obtain ⟨c, d, m, rfl, ⟨x, y, z, rfl, hx, hy, hy2, hz, hzc⟩, h0, h1, hc, q⟩ := h
  refine ⟨.int x, rfl, ?_⟩
  show (if decide ((1 : Int) < x) = true then _ else _)
  by_cases hx1 : (1 : Int) < x
  · rw [decide_eq_true hx1]
    refine ⟨.int x, rfl, h0, .int x, rfl, ⟨h0, h1⟩, 0, rfl, ?_⟩
    exact q _ _ _ (Int.emod_nonneg _ (by omega)) (Int.emod_lt_of_pos _ h0) ⟨_, _, _, rfl, Int.ediv_nonneg hx (by omega), hy, hy2, hz, by omega⟩
  · rw [decide_eq_false hx1]
    refine ⟨.int z, rfl, 2, rfl, .int y, rfl, .int (z + 1), rfl, .inl (by decide), ?_⟩
    refine ⟨⟨by decide, 130, ?_, by decide, by decide⟩, (by decide : (0 : Int) < 162259276829213363391578010288127), ?_⟩
    · show (y + 7368787 * (z + 1) + 71).natAbs < 2 ^ 130
      have e1 : (2 : Int) ^ 128 = 340282366920938463463374607431768211456 := by decide
      have e2 : (2 : Nat) ^ 130 = 1361129467683753853853498429727072845824 := by decide
      omega
    refine ⟨.int (z + 1), rfl, .inl (by decide), ⟨by decide, 110, ?_, by decide, by decide⟩, (by decide : (0 : Int) < 618970019642690137449562111), ?_⟩
    · have m1 := Int.emod_nonneg ((y + 7368787 * (z + 1) + 71) ^ (3 : Int).toNat) (b := 162259276829213363391578010288127) (by decide)
      have m2 := Int.emod_lt_of_pos ((y + 7368787 * (z + 1) + 71) ^ (3 : Int).toNat) (b := 162259276829213363391578010288127) (by decide)
      generalize (y + 7368787 * (z + 1) + 71) ^ (3 : Int).toNat % 162259276829213363391578010288127 = u at m1 m2 ⊢
      have e2 : (2 : Nat) ^ 110 = 1298074214633706907132624082305024 := by decide
      show (u + 32452843 * (z + 1)).natAbs < _
      omega
    refine ⟨⟨by decide, by decide⟩, h0, ?_⟩
    exact q _ _ _ (Int.emod_nonneg _ (by omega)) (Int.emod_lt_of_pos _ h0) ⟨_, _, _, rfl, hx, hy, hy2, by omega, by omega⟩
end
end K49
set_option maxRecDepth 100000
set_option maxHeartbeats 1000000
namespace K49
open PySem PySem.Spec PyProof.Rows L2 Yard YP
section
variable {P : Program} {w : World} {K : PySem.W.Frag} {mg : Str → Option Value} {base : Heap}
/-- a short text -/
structure Tk (s : Str) : Prop where
  ok : PyData.strOk s = true
  few : s.length ≤ 10
theorem Tk.sz {s : Str} (h : Tk s) : s.length ≤ sizeLine := Nat.le_trans h.few (Nat.le_trans (by decide) sz2)
theorem okTk {s : Str} (h : Tk s) : OkN 0 (.str s) := okN_str h.ok
theorem okTks {ss : List Str} (h : ∀ s ∈ ss, Tk s) : OkN 1 (.lst (ss.map D.str)) := okN_lst fun d hd => by
  obtain ⟨s, hs, rfl⟩ := List.mem_map.mp hd
  exact okTk (h s hs)
abbrev ltr : Str := "abcdefghijklmnopqrstuvwxyz"
theorem ltr_len : ltr.length = 26 := by decide +kernel
theorem ltr_lenL : ltr.cps.toList.length = 26 := by decide +kernel
theorem ltr_low : ∀ c ∈ ltr.cps.toList, c < 128 := by decide +kernel
theorem tk_toS {l : List Nat} (h : ∀ c ∈ l, c < 128) (k : l.length ≤ 10) : Tk (toS l) := ⟨strOk_toS fun c hc => Nat.lt_trans (h c hc) (by decide), by rw [toS_len]; exact k⟩
def uNames : UF := fun ρ R => ∃ (c : Nat) (d : D), ρ = [own d, dat (.int 4)] ∧ JarOk c d ∧ c + 36 < 1000000 ∧ ∀ (ns : List Str) (d2 : D) (s1 : Sl), JarOk (c + 36) d2 → ns.length = 4 → (∀ n ∈ ns, Tk n) → R (.own (.lst (ns.map D.str))) [own d2, s1]
theorem sc__law_names : FnScope ["pot", "many", "letters", "found", "k", "size", "one", "j"] ["pot", "many"] (defScope s__law_names) := ⟨rfl, rfl, rfl, by decide +kernel, rfl, by decide +kernel, by decide +kernel⟩
theorem ok__law_names (T : Tx K w mg) : FnOk P w K mg base CX0 2 T.a__law_names T.f__law_names ["pot", "many"] (PSp K 2 uNames) := by
  refine fn_mk T.d__law_names.fn sc__law_names (by decide) fun cdv A outer s H E hr => ?_
  refine ⟨_, (fb_cons (fs_set (ps_set (i := 2) sc__law_names.nd rfl (.inr rfl) pe_S) fe_str)
      (fb_cons (fs_set (ps_set (i := 3) sc__law_names.nd rfl (.inl rfl) pe_S) (fe_lst fa_nil))
      (fb_cons (fs_for PassesOwn.never rfl (fi_range1 (by rfl) T.z_range (fa_cons (fv 1) fa_nil)) (fg_name (pg_name (i := 4) sc__law_names.nd rfl (.inl rfl)))
      (fb_cons (fs_set (ps_set (i := 5) sc__law_names.nd rfl (.inl rfl) pe_S) (fe_ix (fe_lst (fa_cons fe_int (fa_cons fe_int (fa_cons fe_int (fa_cons fe_int fa_nil))))) (fe_call (ok__law_pick T) (hr.mono (by omega)) (by rfl) T.d__law_pick.at_ T.d__law_pick.kp T.d__law_pick.bd (fr_ref (fv 0) (fr_val fe_int fr_nil)))))
      (fb_cons (fs_set (ps_set (i := 6) sc__law_names.nd rfl (.inl rfl) pe_S) (fe_join fe_str (fe_lc rfl sc__law_names.nd (fi_range1 (by rfl) T.z_range (fa_cons (fv 5) fa_nil)) (blkOk_by (own := [("j", 7)]) (N := ["pot", "many", "letters", "found", "k", "size", "one", "j"]) (sc := defScope s__law_names) (by decide +kernel)) (fun _ _ _ _ _ => (fg_name (pg_name (i := 7) sc__law_names.nd rfl (.inl rfl)) (by intro l e; cases e; decide +kernel))) (fun _ _ _ _ _ => fts_nil) (fun _ _ _ _ _ => (fe_ix (fv 2) (fe_call (ok__law_pick T) (hr.mono (by omega)) (by rfl) T.d__law_pick.at_ T.d__law_pick.kp T.d__law_pick.bd (fr_ref (fv 0) (fr_val fe_int fr_nil))))))))
      (fb_cons (fs_if (ft_cmp (os_in (rv hr)) (fv 6) (fv 3))
      (fb_one (fs_set (ps_set (i := 6) sc__law_names.nd rfl (.inl rfl) pe_S) (fe_op os_add (fe_op os_add fe_str (fe_ix (fv 2) (fv 4))) fe_str)))
      fb_nil)
      (fb_one (fs_expr (fe_mu mu_append PySem.F.slot_list_append PySem.F.type_list_append (fv 3) (fa_cons (fv 6) fa_nil))))))))
      (fb_one (fs_ret (fv 3)))))), fun ρ R hl h => ?_⟩
  -- slots: 0 pot, 1 many, 2 letters, 3 found, 4 k, 5 size, 6 one, 7 j
  obtain ⟨c, d, rfl, hj, hc, q⟩ := h
  have sz := sz2
  refine ⟨Nat.zero_le _, by decide, by decide, ?_⟩
  refine ⟨fun i ρ => ∃ (d2 : D) (ns : List Str) (s4 s5 s6 : Sl), JarOk (c + 9 * i) d2 ∧ ns.length = i ∧ (∀ n ∈ ns, Tk n) ∧ ρ = [.sl true true d2, .sl false true (.int 4), dat (.str ltr), own (.lst (ns.map D.str)), s4, s5, s6, .un], ⟨d, [], .un, .un, .un, hj, rfl, (fun _ h => nomatch h), rfl⟩, ?_, ?_⟩
  · rintro i y ρ hi ⟨d2, ns, s4, s5, s6, j2, ln, hns, rfl⟩
    obtain ⟨li, rfl⟩ := intsD_get hi
    have li4 : i < 4 := li
    refine ⟨by show 4 ≤ _; omega, nd1 _, c + 9 * i, d2, 4, rfl, j2, by decide, by decide, by omega, fun r d3 s3 r0 r1 j3 => ?_⟩
    obtain ⟨n, en, n1, n8⟩ : ∃ n : Nat, L2.atI [D.int 1, D.int 1, D.int 2, D.int 8] r = some (.int (n : Int)) ∧ 1 ≤ n ∧ n ≤ 8 := by
      have r4 : r = 0 ∨ r = 1 ∨ r = 2 ∨ r = 3 := by omega
      rcases r4 with rfl | rfl | rfl | rfl
      · exact ⟨1, rfl, by decide, by decide⟩
      · exact ⟨1, rfl, by decide, by decide⟩
      · exact ⟨2, rfl, by decide, by decide⟩
      · exact ⟨8, rfl, by decide, by decide⟩
    refine ⟨_, en, ?_⟩
    refine ⟨by show -2 ^ 62 ≤ (n : Int); omega, by show (n : Int) < 2 ^ 62; omega, ?_⟩
    refine ⟨fun t acc ρ => ∃ (d4 : D) (ts : List Nat), JarOk (c + 9 * i + 1 + t) d4 ∧ acc = List.map sgD ts ∧ ts.length = t ∧ (∀ z ∈ ts, z < 128) ∧ ρ = [.sl true true d4, .sl false true (.int 4), dat (.str ltr), own (.lst (ns.map D.str)), dat (.int (0 + (i : Int))), dat (.int n), s6, .un], ⟨d3, [], j3, rfl, rfl, (fun _ h => nomatch h), rfl⟩, ?_, ?_, ?_⟩
    · rintro t y acc ρ ht ⟨d4, ts, j4, rfl, lt, hts, rfl⟩
      obtain ⟨lt2, rfl⟩ := intsD_get ht
      have lt3 : t < n := by omega
      refine ⟨nd1 _, c + 9 * i + 1 + t, d4, 26, rfl, j4, by decide, by decide, by omega, fun r2 d5 s5' r20 r21 j5 => ?_⟩
      have hlt : r2.toNat < ltr.cps.toList.length := by rw [ltr_lenL]; omega
      refine ⟨by show ltr.length ≤ _; rw [ltr_len]; omega, _, atI_at r20 hlt, ?_⟩
      refine ⟨by rw [List.length_map]; omega, d5, ts ++ [ltr.cps.toList[r2.toNat]'hlt], j5, ?_, by rw [List.length_append, lt]; rfl, fun z hz => ?_, rfl⟩
      · rw [List.map_append]; rfl
      · rcases List.mem_append.mp hz with q1 | q1
        · exact hts z q1
        · rw [List.mem_singleton.mp q1]
          exact ltr_low _ (List.getElem_mem hlt)
    · rintro t acc ρ ⟨d4, ts, _, _, _, _, rfl⟩
      exact ⟨_, (rfl : _ = YP.wipeS [.sl true true d4, .sl false true (.int 4), dat (.str ltr), own (.lst (ns.map D.str)), dat (.int (0 + (i : Int))), dat (.int n), s6, .un] [7])⟩
    rintro acc ρ ⟨d4, ts, j4, rfl, lt, hts, rfl⟩
    rw [intsD_len] at lt j4
    have lt8 : ts.length ≤ 8 := by omega
    refine ⟨ts.map one, by rw [List.map_map]; rfl, ?_, ?_⟩
    · rw [show ((ts.map one).map (·.length)).sum = ts.length from ones_len ts]
      have e0 : (("" : Str).length) = 0 := rfl
      rw [e0, Nat.mul_zero]
      omega
    rw [show Txt.join "" (ts.map one) = toS ts from joined ts]
    have tk := tk_toS hts (by omega)
    have j5 : JarOk (c + 9 * (i + 1)) d4 := j4.mono (by omega)
    dsimp only [YP.put, List.set]
    refine seq_cut (fun ρ => ∃ x, Tk x ∧ ρ = [.sl true true d4, .sl false true (.int 4), dat (.str ltr), own (.lst (ns.map D.str)), dat (.int (0 + (i : Int))), dat (.int n), dat (.str x), .un]) ?_ fun rest => ?_
    · rintro ρ ⟨x, tx, rfl⟩
      refine ⟨by rw [List.length_map]; omega, ?_⟩
      refine ⟨d4, ns ++ [x], dat (.int (0 + (i : Int))), dat (.int n), dat (.str x), j5, by rw [List.length_append, ln]; rfl, fun z hz => ?_, ?_⟩
      · rcases List.mem_append.mp hz with q1 | q1
        · exact hns z q1
        · rw [List.mem_singleton.mp q1]; exact tx
      · show [_, _, _, Sl.sl true false (.lst (ns.map D.str ++ [.str x])), _, _, _, _] = _
        rw [List.map_append]; rfl
    · refine ⟨(okTk tk).ok, (okTks hns).ok, ?_⟩
      rw [any_strs]
      by_cases hx : toS ts ∈ ns
      · rw [decide_eq_true hx]
        have hlt : (0 + (i : Int)).toNat < ltr.cps.toList.length := by rw [ltr_lenL]; omega
        refine ⟨by show ltr.length ≤ _; rw [ltr_len]; omega, _, atI_at (by omega) hlt, by show 3 ≤ _; omega, by show 5 ≤ _; omega, ?_⟩
        refine rest _ ⟨_, ?_, rfl⟩
        refine tk_toS (l := [122, 122, ltr.cps.toList[(0 + (i : Int)).toNat]'hlt, 122, 122]) (fun z hz => ?_) (by show 5 ≤ 10; decide)
        have := ltr_low _ (List.getElem_mem hlt)
        simp only [List.mem_cons, List.not_mem_nil, or_false] at hz
        rcases hz with rfl | rfl | rfl | rfl | rfl <;> omega
      · rw [decide_eq_false hx]
        exact rest _ ⟨_, tk, rfl⟩
  · rintro ρ ⟨d2, ns, s4, s5, s6, j2, ln, hns, rfl⟩
    exact q ns d2 _ j2 ln hns
end
end K49
set_option maxRecDepth 100000
set_option maxHeartbeats 1000000
namespace K49
open PySem PySem.Spec PyProof.Rows L2 Yard YP
/-! ### names -/
abbrev kept : List Str := ["word", "skip", "rule", "top", "bar"]
def gn (s : Str) : Bool := decide (1 ≤ s.length ∧ s.length ≤ 8) && (!decide (s ∈ kept) && s.cps.toList.all fun c => decide (c ∈ ltr.cps.toList))
def gnD : D → Bool
  | .str s => gn s
  | _ => false
/-- what stands in tuples -/
inductive At : D → Prop
  | non : At .non
  | int (i : Int) : At (.int i)
  | str (s : Str) : Tk s → At (.str s)
theorem At.ok {d : D} (h : At d) : OkN 0 d := by
  cases h with
  | non => exact okN_non
  | int i => exact okN_int
  | str s h => exact okTk h
theorem okKept : okD (.lst (kept.map D.str)) = true := by decide +kernel
theorem all_map {l : List Nat} {p : Nat → Bool} : (l.map p).all id = l.all p := by
  rw [List.all_map]; rfl
section
variable {P : Program} {w : World} {K : PySem.W.Frag} {mg : Str → Option Value} {base : Heap}
def uGn : UF := fun ρ R => ∃ d : D, ρ = [dat d] ∧ At d ∧ ∀ s, R (.val (.bl (gnD d))) [s]
theorem sc__law_good_name : FnScope ["kind", "sign"] ["kind"] (defScope s__law_good_name) := ⟨rfl, rfl, rfl, by decide +kernel, rfl, by decide +kernel, by decide +kernel⟩
theorem ok__law_good_name (T : Tx K w mg) : FnOk P w K mg base CX0 1 T.a__law_good_name T.f__law_good_name ["kind"] (PSp K 1 uGn) := by
  refine fn_mk T.d__law_good_name.fn sc__law_good_name (by decide) fun cdv A outer s H E hr => ?_
  refine ⟨_, (fb_cons (fs_if (FW.ft (fw_or (ft_not (ft_tru (fe_b cb_isi (by rfl) T.z_isinstance (by decide +kernel) (fr_ref (fv 0) (fr_ref (fe_ty (n := "str") (by rfl) T.z_str (by decide +kernel)) fr_nil))))) (fw_or (ft_cmp (os_in (rv hr)) (fv 0) (fe_lst (fa_cons fe_str (fa_cons fe_str (fa_cons fe_str (fa_cons fe_str (fa_cons fe_str fa_nil))))))) (fw_or1 (ft_not (ft_chain os_lt os_lt fe_int (fe_b cb_len (by rfl) T.z_len (by decide +kernel) (fr_ref (fv 0) fr_nil)) fe_int))))))
      (fb_one (fs_ret fe_bl))
      fb_nil)
      (fb_one (fs_ret (fe_b (cb_all rfl) (by rfl) T.z_all (by decide +kernel) (fr_ref (fe_lc rfl sc__law_good_name.nd (fi_str (fv 0)) (blkOk_by (own := [("sign", 1)]) (N := ["kind", "sign"]) (sc := defScope s__law_good_name) (by decide +kernel)) (fun _ _ _ _ _ => (fg_name (pg_name (i := 1) sc__law_good_name.nd rfl (.inl rfl)) (by intro l e; cases e; decide +kernel))) (fun _ _ _ _ _ => fts_nil) (fun _ _ _ _ _ => (fe_cmp (os_in (rv hr)) (fv 1) fe_str))) fr_nil))))), fun ρ R hl h => ?_⟩
  -- slots: 0 kind, 1 sign
  obtain ⟨d, rfl, ha, q⟩ := h
  have sz := sz2
  cases ha with
  | non => exact ⟨"NoneType", false, rfl, rfl, q _⟩
  | int i => exact ⟨"int", false, rfl, rfl, q _⟩
  | str x hx =>
    refine ⟨"str", true, rfl, rfl, ?_⟩
    refine ⟨by show 5 ≤ _; omega, (okTk hx).ok, okKept, ?_⟩
    have e0 : ([D.str "word", D.str "skip", D.str "rule", D.str "top", D.str "bar"].any fun z => eqD z (.str x)) = decide (x ∈ kept) := any_strs x kept
    rw [e0]
    have gnx : gnD (.str x) = gn x := rfl
    by_cases hk : x ∈ kept
    · rw [decide_eq_true hk]
      have : gn x = false := by unfold gn; rw [decide_eq_true hk]; simp
      rw [gnx, this] at q
      exact q _
    rw [decide_eq_false hk]
    refine ⟨hx.sz, ?_⟩
    show (if decide ((0 : Int) < ((x.length : Nat) : Int)) = true then _ else _)
    by_cases h0 : (0 : Int) < ((x.length : Nat) : Int)
    · rw [decide_eq_true h0]
      show (if (!decide (((x.length : Nat) : Int) < 9)) = true then _ else _)
      by_cases h9 : ((x.length : Nat) : Int) < 9
      · rw [decide_eq_true h9]
        refine ⟨fun i acc ρ => acc = ((x.cps.toList.take i).map fun c => D.bl (decide (c ∈ ltr.cps.toList))) ∧ ρ = [.sl false true (.str x), .un], ⟨rfl, rfl⟩, ?_, ?_, ?_⟩
        · rintro i y acc ρ hi ⟨rfl, rfl⟩
          rw [List.getElem?_map] at hi
          obtain ⟨z, hz, rfl⟩ := Option.map_eq_some_iff.mp hi
          have lx : x.cps.toList.length = x.length := Array.length_toList
          have := hx.few
          refine ⟨z, rfl, by rw [List.length_map, List.length_take]; omega, ?_, rfl⟩
          rw [List.take_succ, hz, List.map_append, Bool.false_xor]; rfl
        · rintro i acc ρ ⟨_, rfl⟩
          exact ⟨_, (rfl : _ = YP.wipeS [.sl false true (.str x), .un] [1])⟩
        · rintro acc ρ ⟨rfl, rfl⟩
          rw [List.length_map, List.take_length]
          refine ⟨x.cps.toList.map fun c => decide (c ∈ ltr.cps.toList), by rw [List.map_map]; rfl, ?_⟩
          rw [all_map]
          have : gn x = x.cps.toList.all fun c => decide (c ∈ ltr.cps.toList) := by
            unfold gn
            rw [decide_eq_false hk, decide_eq_true (by omega : 1 ≤ x.length ∧ x.length ≤ 8)]
            rfl
          rw [gnx, this] at q
          exact q _
      · rw [decide_eq_false h9]
        have : gn x = false := by unfold gn; rw [decide_eq_false (by omega : ¬ (1 ≤ x.length ∧ x.length ≤ 8))]; rfl
        rw [gnx, this] at q
        exact q _
    · rw [decide_eq_false h0]
      have : gn x = false := by unfold gn; rw [decide_eq_false (by omega : ¬ (1 ≤ x.length ∧ x.length ≤ 8))]; rfl
      rw [gnx, this] at q
      exact q _
theorem sc_is_name : FnScope ["thing", "letter"] ["thing"] (defScope s_is_name) := ⟨rfl, rfl, rfl, by decide +kernel, rfl, by decide +kernel, by decide +kernel⟩
theorem ok_is_name (T : Tx K w mg) : FnOk P w K mg base CX0 1 T.a_is_name T.f_is_name ["thing"] (PSp K 1 uGn) := by
  refine fn_mk T.d_is_name.fn sc_is_name (by decide) fun cdv A outer s H E hr => ?_
  refine ⟨_, (fb_cons (fs_if (FW.ft (fw_or (ft_not (ft_tru (fe_b cb_isi (by rfl) T.z_isinstance (by decide +kernel) (fr_ref (fv 0) (fr_ref (fe_ty (n := "str") (by rfl) T.z_str (by decide +kernel)) fr_nil))))) (fw_or1 (ft_not (ft_chain os_le os_le fe_int (fe_b cb_len (by rfl) T.z_len (by decide +kernel) (fr_ref (fv 0) fr_nil)) (fe_glob (v := .int 8) (d := .int 8) (by rfl) T.g_LONGEST ⟨_, rfl⟩ (fun _ => .int _)))))))
      (fb_one (fs_ret fe_bl))
      fb_nil)
      (fb_one (fs_ret (fe_and (fe_notinK (fv 0) (by rfl) T.g_KEPT_WORDS T.k_KEPT_WORDS) (fe_one (fe_b (cb_all rfl) (by rfl) T.z_all (by decide +kernel) (fr_ref (fe_lc rfl sc_is_name.nd (fi_str (fv 0)) (blkOk_by (own := [("letter", 1)]) (N := ["thing", "letter"]) (sc := defScope s_is_name) (by decide +kernel)) (fun _ _ _ _ _ => (fg_name (pg_name (i := 1) sc_is_name.nd rfl (.inl rfl)) (by intro l e; cases e; decide +kernel))) (fun _ _ _ _ _ => fts_nil) (fun _ _ _ _ _ => (fe_cmp (os_in (rv hr)) (fv 1) (fe_glob (v := .str ltr) (d := .str ltr) (by rfl) T.g_LETTERS ⟨_, rfl⟩ (fun _ => .str _))))) fr_nil))))))), fun ρ R hl h => ?_⟩
  -- slots: 0 thing, 1 letter
  obtain ⟨d, rfl, ha, q⟩ := h
  have sz := sz2
  cases ha with
  | non => exact ⟨"NoneType", false, rfl, rfl, q _⟩
  | int i => exact ⟨"int", false, rfl, rfl, q _⟩
  | str x hx =>
    refine ⟨"str", true, rfl, rfl, ?_⟩
    have gnx : gnD (.str x) = gn x := rfl
    refine ⟨hx.sz, ?_⟩
    show (if decide ((1 : Int) ≤ ((x.length : Nat) : Int)) = true then _ else _)
    by_cases h0 : (1 : Int) ≤ ((x.length : Nat) : Int)
    · rw [decide_eq_true h0]
      show (if (!decide (((x.length : Nat) : Int) ≤ 8)) = true then _ else _)
      by_cases h8 : ((x.length : Nat) : Int) ≤ 8
      case neg =>
        rw [decide_eq_false h8]
        have : gn x = false := by unfold gn; rw [decide_eq_false (by omega : ¬ (1 ≤ x.length ∧ x.length ≤ 8))]; rfl
        rw [gnx, this] at q
        exact q _
      rw [decide_eq_true h8]
      refine ⟨x, rfl, ?_⟩
      show (if (true ^^ decide (x ∈ kept)) = true then _ else _)
      by_cases hk : x ∈ kept
      · rw [decide_eq_true hk]
        have : gn x = false := by unfold gn; rw [decide_eq_true hk]; simp
        rw [gnx, this] at q
        exact q _
      · rw [decide_eq_false hk]
        refine ⟨fun i acc ρ => acc = ((x.cps.toList.take i).map fun c => D.bl (decide (c ∈ ltr.cps.toList))) ∧ ρ = [.sl false true (.str x), .un], ⟨rfl, rfl⟩, ?_, ?_, ?_⟩
        · rintro i y acc ρ hi ⟨rfl, rfl⟩
          rw [List.getElem?_map] at hi
          obtain ⟨z, hz, rfl⟩ := Option.map_eq_some_iff.mp hi
          have lx : x.cps.toList.length = x.length := Array.length_toList
          have := hx.few
          refine ⟨z, rfl, by rw [List.length_map, List.length_take]; omega, ?_, rfl⟩
          rw [List.take_succ, hz, List.map_append, Bool.false_xor]; rfl
        · rintro i acc ρ ⟨_, rfl⟩
          exact ⟨_, (rfl : _ = YP.wipeS [.sl false true (.str x), .un] [1])⟩
        · rintro acc ρ ⟨rfl, rfl⟩
          rw [List.length_map, List.take_length]
          refine ⟨x.cps.toList.map fun c => decide (c ∈ ltr.cps.toList), by rw [List.map_map]; rfl, ?_⟩
          rw [all_map]
          have : gn x = x.cps.toList.all fun c => decide (c ∈ ltr.cps.toList) := by
            unfold gn
            rw [decide_eq_false hk, decide_eq_true (by omega : 1 ≤ x.length ∧ x.length ≤ 8)]
            rfl
          rw [gnx, this] at q
          exact q _
    · rw [decide_eq_false h0]
      have : gn x = false := by unfold gn; rw [decide_eq_false (by omega : ¬ (1 ≤ x.length ∧ x.length ≤ 8))]; rfl
      rw [gnx, this] at q
      exact q _
end
end K49
set_option maxRecDepth 100000
set_option maxHeartbeats 1000000
namespace K49
open PySem PySem.Spec PyProof.Rows L2 Yard YP
/-! ### deeds -/
inductive Dd : D → Prop
  | at_ (d : D) : At d → Dd d
  | lst (l : List D) : l.length ≤ 3 → (∀ x ∈ l, At x) → Dd (.lst l)
  | tup (l : List D) : l.length ≤ 3 → (∀ x ∈ l, At x) → Dd (.tup l)
theorem Dd.ok {d : D} (h : Dd d) : OkN 1 d := by
  cases h with
  | at_ _ h => exact h.ok.mono (by decide)
  | lst l h k => exact okN_lst fun x hx => (k x hx).ok
  | tup l h k => exact okN_tup fun x hx => (k x hx).ok
def isDeed : D → Bool
  | .tup [.str x] => decide (x ∈ (["keep", "drop"] : List Str))
  | .tup [.str x, e] => decide (x ∈ (["put", "turn"] : List Str)) && gnD e
  | _ => false
def fitsB (row : List Str) (p : Nat) : D → Bool
  | .tup [.str x] => decide (p < row.length)
  | .tup [.str x, .str n] => decide (x = "put") || (decide (p < row.length) && !decide (row[p]? = some n))
  | _ => false
def adv : D → Nat
  | .tup [.str x, .str n] => if x = "put" then 0 else 1
  | _ => 1
def out (row : List Str) (p : Nat) : D → List Str
  | .tup [.str x] => if x = "keep" then row[p]?.toList else []
  | .tup [.str x, .str n] => [n]
  | _ => []
inductive Sh : D → Prop
  | keep : Sh (.tup [.str "keep"])
  | drop : Sh (.tup [.str "drop"])
  | put (n : Str) : Tk n → gn n = true → Sh (.tup [.str "put", .str n])
  | turn (n : Str) : Tk n → gn n = true → Sh (.tup [.str "turn", .str n])
theorem sh_of {d : D} (h : Dd d) (k : isDeed d = true) : Sh d := by
  cases h with
  | at_ _ h => cases h <;> cases k
  | lst l h q => cases k
  | tup l h q =>
    match l, h, q, k with
    | [], _, _, k => cases k
    | [a], h, q, k =>
      cases q a List.mem_cons_self with
      | non => cases k
      | int i => cases k
      | str s hs =>
        have k : decide (s ∈ (["keep", "drop"] : List Str)) = true := k
        have k := of_decide_eq_true k
        simp only [List.mem_cons, List.not_mem_nil, or_false] at k
        rcases k with rfl | rfl
        · exact .keep
        · exact .drop
    | [a, b], h, q, k =>
      cases q a List.mem_cons_self with
      | non => cases k
      | int i => cases k
      | str s hs =>
        have k : (decide (s ∈ (["put", "turn"] : List Str)) && gnD b) = true := k
        obtain ⟨k1, k2⟩ := Bool.and_eq_true_iff.mp k
        have k1 := of_decide_eq_true k1
        simp only [List.mem_cons, List.not_mem_nil, or_false] at k1
        cases q b (List.mem_cons_of_mem _ List.mem_cons_self) with
        | non => cases k2
        | int i => cases k2
        | str n hn =>
          rcases k1 with rfl | rfl
          · exact .put n hn k2
          · exact .turn n hn k2
    | [a, b, c], h, q, k =>
      cases q a List.mem_cons_self <;> cases k
    | _ :: _ :: _ :: _ :: _, h, _, _ => simp at h
def wantF (row : List Str) : Nat → Nat → List Str → List D → D
  | k, p, f, [] => if p = row.length then .lst (f.map D.str) else .int (k : Nat)
  | k, p, f, d :: ds => if (isDeed d && fitsB row p d) = true then wantF row (k + 1) (p + adv d) (f ++ out row p d) ds else .int (k : Nat)
theorem out_keep {row : List Str} {p : Nat} : out row p (.tup [.str "keep"]) = row[p]?.toList := by unfold out; exact if_pos rfl
theorem out_drop {row : List Str} {p : Nat} : out row p (.tup [.str "drop"]) = [] := by unfold out; exact if_neg (by decide +kernel)
/-- behind a good deed -/
theorem fits_le {row : List Str} {p : Nat} {d : D} (h : Sh d) (hp : p ≤ row.length) (k : fitsB row p d = true) : p + adv d ≤ row.length ∧ (out row p d).length ≤ 1 := by
  cases h with
  | keep =>
    have := of_decide_eq_true (show decide (p < row.length) = true from k)
    exact ⟨this, by rw [out_keep]; cases row[p]? <;> simp⟩
  | drop =>
    have := of_decide_eq_true (show decide (p < row.length) = true from k)
    exact ⟨this, by rw [out_drop]; simp⟩
  | put n hn hg =>
    refine ⟨?_, Nat.le_refl _⟩
    show p + (if (("put" : Str) = "put") then 0 else 1) ≤ _
    rw [if_pos rfl]; exact hp
  | turn n hn hg =>
    have k : (decide (("turn" : Str) = "put") || (decide (p < row.length) && !decide (row[p]? = some n))) = true := k
    rw [decide_eq_false (by decide +kernel), Bool.false_or, Bool.and_eq_true] at k
    have := of_decide_eq_true k.1
    refine ⟨?_, Nat.le_refl _⟩
    show p + (if (("turn" : Str) = "put") then 0 else 1) ≤ _
    rw [if_neg (by decide +kernel)]; exact this
theorem out_tk {row : List Str} {p : Nat} {d : D} (h : Sh d) (hr : ∀ s ∈ row, Tk s) : ∀ s ∈ out row p d, Tk s := by
  cases h with
  | keep =>
    intro s hs
    rw [out_keep] at hs
    cases e : row[p]? with
    | none => rw [e] at hs; cases hs
    | some z =>
      rw [e] at hs
      rw [List.mem_singleton.mp hs]
      exact hr z (List.mem_of_getElem? e)
  | drop =>
    intro s hs
    rw [out_drop] at hs
    cases hs
  | put n hn hg => intro s hs; rw [List.mem_singleton.mp hs]; exact hn
  | turn n hn hg => intro s hs; rw [List.mem_singleton.mp hs]; exact hn
section
variable {P : Program} {w : World} {K : PySem.W.Frag} {mg : Str → Option Value} {base : Heap}
def uIsDeed : UF := fun ρ R => ∃ d : D, ρ = [dat d] ∧ Dd d ∧ ∀ s, R (.val (.bl (isDeed d))) [s]
theorem sc_is_deed : FnScope ["thing"] ["thing"] (defScope s_is_deed) := ⟨rfl, rfl, rfl, by decide +kernel, rfl, by decide +kernel, by decide +kernel⟩
theorem ok_is_deed (T : Tx K w mg) : FnOk P w K mg base CX0 2 T.a_is_deed T.f_is_deed ["thing"] (PSp K 1 uIsDeed) := by
  refine fn_mk T.d_is_deed.fn sc_is_deed (by decide) fun cdv A outer s H E hr => ?_
  refine ⟨_, (fb_cons (fs_if (FW.ft (fw_or (ft_not (ft_tru (fe_b cb_isi (by rfl) T.z_isinstance (by decide +kernel) (fr_ref (fv 0) (fr_ref (fe_ty (n := "tuple") (by rfl) T.z_tuple (by decide +kernel)) fr_nil))))) (fw_or (ft_cmp (os_eq (ru hr)) (fe_b cb_len (by rfl) T.z_len (by decide +kernel) (fr_ref (fv 0) fr_nil)) fe_int) (fw_or1 (ft_not (ft_tru (fe_b cb_isi (by rfl) T.z_isinstance (by decide +kernel) (fr_ref (fe_ix (fv 0) fe_int) (fr_ref (fe_ty (n := "str") (by rfl) T.z_str (by decide +kernel)) fr_nil)))))))))
      (fb_one (fs_ret fe_bl))
      fb_nil)
      (fb_cons (fs_if (ft_cmp os_inT (fe_ix (fv 0) fe_int) (fe_tup (fa_cons fe_str (fa_cons fe_str fa_nil))))
      (fb_one (fs_ret (fe_cmp (os_eq (ru hr)) (fe_b cb_len (by rfl) T.z_len (by decide +kernel) (fr_ref (fv 0) fr_nil)) fe_int)))
      fb_nil)
      (fb_one (fs_ret (fe_and (fe_cmp os_inT (fe_ix (fv 0) fe_int) (fe_tup (fa_cons fe_str (fa_cons fe_str fa_nil)))) (fe_and (fe_cmp (os_eq (ru hr)) (fe_b cb_len (by rfl) T.z_len (by decide +kernel) (fr_ref (fv 0) fr_nil)) fe_int) (fe_one (fe_call (ok_is_name T) (hr.mono (by omega)) (by rfl) T.d_is_name.at_ T.d_is_name.kp T.d_is_name.bd (fr_val (fe_ix (fv 0) fe_int) fr_nil))))))))), fun ρ R hl h => ?_⟩
  -- slots: 0 thing
  obtain ⟨d, rfl, hd, q⟩ := h
  have sz := sz2
  cases hd with
  | at_ _ ha =>
    cases ha with
    | non => exact ⟨"NoneType", false, rfl, rfl, q _⟩
    | int i => exact ⟨"int", false, rfl, rfl, q _⟩
    | str x hx => exact ⟨"str", false, rfl, rfl, q _⟩
  | lst l h k => exact ⟨"list", false, rfl, rfl, q _⟩
  | tup l h k =>
    refine ⟨"tuple", true, rfl, rfl, ?_⟩
    match l, h, k, q with
    | [], h, k, q => exact ⟨rfl, rfl, q _⟩
    | a :: r, h, k, q =>
      refine ⟨rfl, rfl, ?_⟩
      refine ⟨a, atI_nat (j := 0) rfl, ?_⟩
      cases k a List.mem_cons_self with
      | non => exact ⟨"NoneType", false, rfl, rfl, by cases r <;> exact q _⟩
      | int i => exact ⟨"int", false, rfl, rfl, by cases r <;> exact q _⟩
      | str x hx =>
        refine ⟨"str", true, rfl, rfl, ?_⟩
        refine ⟨.str x, atI_nat (j := 0) rfl, by show 2 ≤ _; omega, ["keep", "drop"], rfl, ?_⟩
        rw [Bool.false_xor]
        by_cases h1 : x ∈ (["keep", "drop"] : List Str)
        · rw [decide_eq_true h1]
          refine ⟨rfl, rfl, ?_⟩
          have e : isDeed (.tup (.str x :: r)) = eqD (.int (((D.str x :: r).length : Nat) : Int)) (.int 1) := by
            rw [eqD_int]
            match r with
            | [] => exact decide_eq_true h1
            | [b] =>
              show (decide (x ∈ (["put", "turn"] : List Str)) && gnD b) = _
              have h2 : ¬ x ∈ (["put", "turn"] : List Str) := by
                simp only [List.mem_cons, List.not_mem_nil, or_false] at h1 ⊢
                rcases h1 with rfl | rfl <;> decide +kernel
              rw [decide_eq_false h2, Bool.false_and]
              exact (decide_eq_false (by simp)).symm
            | b :: c :: r => exact (decide_eq_false (by simp only [List.length_cons]; omega)).symm
          rw [e] at q
          exact q _
        · rw [decide_eq_false h1]
          refine ⟨.str x, atI_nat (j := 0) rfl, by show 2 ≤ _; omega, ["put", "turn"], rfl, ?_⟩
          rw [Bool.false_xor]
          by_cases h2 : x ∈ (["put", "turn"] : List Str)
          · rw [decide_eq_true h2]
            refine ⟨rfl, rfl, ?_⟩
            show (if eqD (.int (((D.str x :: r).length : Nat) : Int)) (.int 2) = true then _ else _)
            rw [eqD_int]
            match r, k, q with
            | [], k, q =>
              have e : isDeed (.tup [.str x]) = false := decide_eq_false h1
              rw [e] at q
              exact q _
            | [b], k, q =>
              have e : isDeed (.tup [.str x, b]) = gnD b := by
                show (decide (x ∈ (["put", "turn"] : List Str)) && gnD b) = _
                rw [decide_eq_true h2, Bool.true_and]
              rw [e] at q
              refine ⟨b, atI_nat (j := 1) rfl, List.nodup_nil, b, rfl, k b (List.mem_cons_of_mem _ List.mem_cons_self), fun s => q _⟩
            | b :: c :: r, k, q =>
              have e : isDeed (.tup (.str x :: b :: c :: r)) = false := rfl
              rw [e] at q
              rw [decide_eq_false (by simp only [List.length_cons]; omega)]
              exact q _
          · rw [decide_eq_false h2]
            have e : isDeed (.tup (.str x :: r)) = false := by
              match r with
              | [] => exact decide_eq_false h1
              | [b] =>
                show (decide (x ∈ (["put", "turn"] : List Str)) && gnD b) = _
                rw [decide_eq_false h2, Bool.false_and]
              | b :: c :: r => rfl
            rw [e] at q
            exact q _
end
end K49
set_option maxRecDepth 100000
set_option maxHeartbeats 1000000
namespace K49
open PySem PySem.Spec PyProof.Rows L2 Yard YP
theorem kd1 : decide (("keep" : Str) = "put") = false := by decide +kernel
theorem kd2 : decide (("drop" : Str) = "put") = false := by decide +kernel
theorem kd3 : decide (("turn" : Str) = "put") = false := by decide +kernel
theorem kd4 : decide (("keep" : Str) = "turn") = false := by decide +kernel
theorem kd5 : decide (("drop" : Str) = "turn") = false := by decide +kernel
theorem ok1 : okD (.str "keep") = true := by decide +kernel
theorem ok2 : okD (.str "drop") = true := by decide +kernel
theorem ok3 : okD (.str "put") = true := by decide +kernel
theorem ok4 : okD (.str "turn") = true := by decide +kernel
theorem atI_tk {row : List Str} {p : Nat} (h : p < row.length) : L2.atI (row.map D.str) (p : Int) = some (.str row[p]) := atI_nat (by rw [List.getElem?_map, List.getElem?_eq_getElem h]; rfl)
theorem fitsB_put {row : List Str} {p : Nat} {n : Str} : fitsB row p (.tup [.str "put", .str n]) = true := (show (decide (("put" : Str) = "put") || (decide (p < row.length) && !decide (row[p]? = some n))) = true from by rw [decide_eq_true rfl]; rfl)
theorem fitsB_turn {row : List Str} {p : Nat} {n : Str} : fitsB row p (.tup [.str "turn", .str n]) = (decide (p < row.length) && !decide (row[p]? = some n)) := (show (decide (("turn" : Str) = "put") || (decide (p < row.length) && !decide (row[p]? = some n))) = _ from by rw [kd3]; rfl)
/-- a row and deeds -/
structure RowOk (row : List Str) : Prop where
  tk : ∀ s ∈ row, Tk s
  few : row.length ≤ 1000
structure DeOk (ds : List D) : Prop where
  dd : ∀ d ∈ ds, Dd d
  few : ds.length ≤ 1000
abbrev rowD (row : List Str) : D := .lst (row.map D.str)
section
variable {P : Program} {w : World} {K : PySem.W.Frag} {mg : Str → Option Value} {base : Heap}
def uFits : UF := fun ρ R => ∃ (row : List Str) (p : Nat) (d : D), ρ = [dat (rowD row), dat (.int (p : Nat)), dat d] ∧ RowOk row ∧ Sh d ∧ ∀ s1 s2 s3, R (.val (.bl (fitsB row p d))) [s1, s2, s3]
theorem sc_fits : FnScope ["row", "at", "deed"] ["row", "at", "deed"] (defScope s_fits) := ⟨rfl, rfl, rfl, by decide +kernel, rfl, by decide +kernel, by decide +kernel⟩
theorem ok_fits (T : Tx K w mg) : FnOk P w K mg base CX0 2 T.a_fits T.f_fits ["row", "at", "deed"] (PSp K 3 uFits) := by
  refine fn_mk T.d_fits.fn sc_fits (by decide) fun cdv A outer s H E hr => ?_
  refine ⟨_, (fb_cons (fs_if (ft_cmp (os_eq (ru hr)) (fe_ix (fv 2) fe_int) fe_str)
      (fb_one (fs_ret fe_bl))
      fb_nil)
      (fb_one (fs_ret (fe_and (fe_cmp os_lt (fv 1) (fe_b cb_len (by rfl) T.z_len (by decide +kernel) (fr_ref (fv 0) fr_nil))) (fe_one (fe_or (fe_cmp (os_ne (ru hr)) (fe_ix (fv 2) fe_int) fe_str) (fe_one (fe_cmp (os_ne (ru hr)) (fe_ix (fv 2) fe_int) (fe_ix (fv 0) (fv 1)))))))))), fun ρ R hl h => ?_⟩
  -- slots: 0 row, 1 at, 2 deed
  obtain ⟨row, p, d, rfl, hrow, hd, q⟩ := h
  have lm : (row.map D.str).length = row.length := List.length_map _
  cases hd with
  | keep =>
    refine ⟨.str "keep", rfl, ok1, ok3, ?_⟩
    have e : fitsB row p (.tup [.str "keep"]) = decide (p < row.length) := rfl
    rw [e] at q
    show (if decide ((p : Int) < (((row.map D.str).length : Nat) : Int)) = true then _ else _)
    rw [lm]
    by_cases h : p < row.length
    · rw [decide_eq_true (by omega : (p : Int) < ((row.length : Nat) : Int))]
      rw [decide_eq_true h] at q
      refine ⟨.str "keep", rfl, ok1, ok4, ?_⟩
      exact q _ _ _
    · rw [decide_eq_false (by omega : ¬ (p : Int) < ((row.length : Nat) : Int))]
      rw [decide_eq_false h] at q
      exact q _ _ _
  | drop =>
    refine ⟨.str "drop", rfl, ok2, ok3, ?_⟩
    have e : fitsB row p (.tup [.str "drop"]) = decide (p < row.length) := rfl
    rw [e] at q
    show (if decide ((p : Int) < (((row.map D.str).length : Nat) : Int)) = true then _ else _)
    rw [lm]
    by_cases h : p < row.length
    · rw [decide_eq_true (by omega : (p : Int) < ((row.length : Nat) : Int))]
      rw [decide_eq_true h] at q
      refine ⟨.str "drop", rfl, ok2, ok4, ?_⟩
      exact q _ _ _
    · rw [decide_eq_false (by omega : ¬ (p : Int) < ((row.length : Nat) : Int))]
      rw [decide_eq_false h] at q
      exact q _ _ _
  | put n hn hg =>
    refine ⟨.str "put", rfl, ok3, ok3, ?_⟩
    have e : fitsB row p (.tup [.str "put", .str n]) = true := fitsB_put
    rw [e] at q
    exact q _ _ _
  | turn n hn hg =>
    refine ⟨.str "turn", rfl, ok4, ok3, ?_⟩
    have e : fitsB row p (.tup [.str "turn", .str n]) = (decide (p < row.length) && !decide (row[p]? = some n)) := fitsB_turn
    rw [e] at q
    show (if decide ((p : Int) < (((row.map D.str).length : Nat) : Int)) = true then _ else _)
    rw [lm]
    by_cases h : p < row.length
    · rw [decide_eq_true (by omega : (p : Int) < ((row.length : Nat) : Int))]
      rw [decide_eq_true h, Bool.true_and] at q
      refine ⟨.str "turn", rfl, ok4, ok4, ?_⟩
      refine ⟨.str n, rfl, _, atI_tk h, (okTk hn).ok, (okTk (hrow.tk _ (List.getElem_mem h))).ok, ?_⟩
      rw [eqD_str]
      have e2 : decide (row[p]? = some n) = decide (n = row[p]) := by
        rw [List.getElem?_eq_getElem h]
        by_cases z : n = row[p]
        · rw [decide_eq_true z, decide_eq_true (by rw [← z])]
        · rw [decide_eq_false z, decide_eq_false fun y => z (Option.some.inj y).symm]
      rw [e2] at q
      exact q _ _ _
    · rw [decide_eq_false (by omega : ¬ (p : Int) < ((row.length : Nat) : Int))]
      rw [decide_eq_false h] at q
      exact q _ _ _
/-! ### mended -/
def uMended (C : Addr) : UFX := fun ρ R RX => ∃ (row : List Str) (ds : List D), ρ = [dat (rowD row), dat (.lst ds)] ∧ RowOk row ∧ DeOk ds ∧
  (∀ (f : List Str) s1 s2, wantF row 0 0 [] ds = .lst (f.map D.str) → R (.own (.lst (f.map D.str))) [s1, s2]) ∧ ∀ (k : Nat) s1 s2, wantF row 0 0 [] ds = .int (k : Nat) → RX C [("at", .int (k : Nat))] [s1, s2]
theorem drop_at {ds : List D} {i : Nat} {d : D} (h : ds[i]? = some d) : ds.drop i = d :: ds.drop (i + 1) := by
  have hi := (List.getElem?_eq_some_iff.mp h).1
  have e := (List.getElem?_eq_some_iff.mp h).2
  rw [List.drop_eq_getElem_cons hi, e]
theorem nums_get {ds : List D} {i : Nat} {y : D} (h : (nums ds)[i]? = some y) : ∃ d, ds[i]? = some d ∧ y = .tup [.int (i : Int), d] := by
  have hi : i < (nums ds).length := (List.getElem?_eq_some_iff.mp h).1
  have hl : (nums ds).length = ds.length := by simp [nums]
  rw [hl] at hi
  refine ⟨ds[i], List.getElem?_eq_getElem hi, ?_⟩
  simp [nums, hi] at h
  exact h.symm
theorem nums_len {ds : List D} : (nums ds).length = ds.length := by simp [nums]
theorem sc_mended : FnScope ["row", "deeds", "made", "at", "number", "deed"] ["row", "deeds"] (defScope s_mended) := ⟨rfl, rfl, rfl, by decide +kernel, rfl, by decide +kernel, by decide +kernel⟩
theorem ok_mended (T : Tx K w mg) : FnOk P w K mg base (L2.CX P w) 4 T.a_mended T.f_mended ["row", "deeds"] (PSpX K 2 (uMended T.c_NoDeeds)) := by
  refine fn_mkx T.d_mended.fn sc_mended (by decide) fun cdv A outer s H E hr => ?_
  refine ⟨_, (fbx_cons (fx (fs_set (ps_set (i := 2) sc_mended.nd rfl (.inl rfl) pe_S) (fe_lst fa_nil)))
      (fbx_cons (fx (fs_set (ps_set (i := 3) sc_mended.nd rfl (.inl rfl) pe_S) fe_int))
      (fbx_cons (fsx_for (passes_of rfl) rfl (fi_enum (by rfl) T.z_enumerate (fa_cons (fv 1) fa_nil)) (fg_tup (n := 2) rfl (fgs_cons (fg_name (pg_name (i := 4) sc_mended.nd rfl (.inl rfl))) (fgs_cons (fg_name (pg_name (i := 5) sc_mended.nd rfl (.inl rfl))) fgs_nil)))
      (fbx_cons (fsx_if (FW.ft (fw_or (ft_not (ft_tru (fe_call (ok_is_deed T) (hr.mono (by omega)) (by rfl) T.d_is_deed.at_ T.d_is_deed.kp T.d_is_deed.bd (fr_val (fv 5) fr_nil)))) (fw_or1 (ft_not (ft_tru (fe_call (ok_fits T) (hr.mono (by omega)) (by rfl) T.d_fits.at_ T.d_fits.kp T.d_fits.bd (fr_val (fv 0) (fr_val (fv 3) (fr_val (fv 5) fr_nil)))))))))
      (fbx_one (fsx_raise rfl T.x_NoDeeds.ox T.k_NoDeeds___init__ T.t_NoDeeds___init__ (ok_NoDeeds___init__ T) (hr.mono (by omega)) T.b_NoDeeds___init__ pass0 (by rfl) T.g_NoDeeds (fa_cons (fv 4) fa_nil)))
      fbx_nil)
      (fbx (fb_cons (fs_if (ft_cmp (os_eq (ru hr)) (fe_ix (fv 5) fe_int) fe_str)
      (fb_one (fs_expr (fe_mu mu_append PySem.F.slot_list_append PySem.F.type_list_append (fv 2) (fa_cons (fe_ix (fv 0) (fv 3)) fa_nil))))
      (fb_one (fs_if (ft_cmp (os_ne (ru hr)) (fe_ix (fv 5) fe_int) fe_str)
      (fb_one (fs_expr (fe_mu mu_append PySem.F.slot_list_append PySem.F.type_list_append (fv 2) (fa_cons (fe_ix (fv 5) fe_int) fa_nil))))
      fb_nil)))
      (fb_one (fs_aug os_iadd (fun ti h => ps_aug (i := 3) sc_mended.nd rfl (.inl rfl) pe_S h) (fe_if (ft_cmp (os_eq (ru hr)) (fe_ix (fv 5) fe_int) fe_str) fe_int fe_int)))))))
      (fbx_cons (fsx_if (ft_cmp os_lt (fv 3) (fe_b cb_len (by rfl) T.z_len (by decide +kernel) (fr_ref (fv 0) fr_nil)))
      (fbx_one (fsx_raise rfl T.x_NoDeeds.ox T.k_NoDeeds___init__ T.t_NoDeeds___init__ (ok_NoDeeds___init__ T) (hr.mono (by omega)) T.b_NoDeeds___init__ pass0 (by rfl) T.g_NoDeeds (fa_cons (fe_b cb_len (by rfl) T.z_len (by decide +kernel) (fr_ref (fv 1) fr_nil)) fa_nil)))
      fbx_nil)
      (fbx (fb_one (fs_ret (fv 2)))))))), fun ρ R RX hl h => ?_⟩
  -- slots: 0 row, 1 deeds, 2 made, 3 at, 4 number, 5 deed
  obtain ⟨row, ds, rfl, hrow, hds, q, qx⟩ := h
  have sz := sz2
  have lr := hrow.few
  have ld := hds.few
  refine ⟨Nat.zero_le _, ?_⟩
  refine ⟨fun i ρ => ∃ (p : Nat) (f : List Str) (s4 s5 : Sl), p ≤ row.length ∧ f.length ≤ i ∧ (∀ s ∈ f, Tk s) ∧ wantF row 0 0 [] ds = wantF row i p f (ds.drop i) ∧ ρ = [.sl false true (rowD row), .sl false true (.lst ds), own (rowD f), dat (.int (p : Nat)), s4, s5], ⟨0, [], .un, .un, Nat.zero_le _, Nat.le_refl _, (fun _ h => nomatch h), rfl, rfl⟩, ?_, ?_⟩
  · rintro i y ρ hi ⟨p, f, s4, s5, hp, hf, htk, hw, rfl⟩
    obtain ⟨d, hd, rfl⟩ := nums_get hi
    have dd := hds.dd d (List.mem_of_getElem? hd)
    have hil : i < ds.length := (List.getElem?_eq_some_iff.mp hd).1
    rw [drop_at hd] at hw
    refine ⟨rfl, List.nodup_nil, d, rfl, dd, fun s => ?_⟩
    have bad : (isDeed d && fitsB row p d) = false → wantF row 0 0 [] ds = .int (i : Nat) := fun e => by
      rw [hw]; unfold wantF; rw [if_neg (by rw [e]; decide)]
    show (if (!isDeed d) = true then _ else _)
    cases h1 : isDeed d with
    | false =>
      exact ⟨rfl, (by show 1 ≤ 1000; decide), qx i _ _ (bad (by rw [h1]; rfl))⟩
    | true =>
      have sh := sh_of dd h1
      refine ⟨List.nodup_nil, row, p, d, rfl, hrow, sh, fun s1 s2 s3 => ?_⟩
      show (if (!fitsB row p d) = true then _ else _)
      cases h2 : fitsB row p d with
      | false => exact ⟨rfl, (by show 1 ≤ 1000; decide), qx i _ _ (bad (by rw [h1, h2]; rfl))⟩
      | true =>
        obtain ⟨k1, k2⟩ := fits_le sh hp h2
        have k3 := out_tk sh hrow.tk (p := p)
        have good : wantF row 0 0 [] ds = wantF row (i + 1) (p + adv d) (f ++ out row p d) (ds.drop (i + 1)) := by
          rw [hw]; conv => lhs; unfold wantF
          rw [if_pos (by rw [h1, h2]; rfl)]
        have next : ∀ (o : List Str) (n : Nat) (s4 s5 : Sl), out row p d = o → adv d = n → ∃ (p' : Nat) (f' : List Str) (s4' s5' : Sl), p' ≤ row.length ∧ f'.length ≤ i + 1 ∧ (∀ s ∈ f', Tk s) ∧ wantF row 0 0 [] ds = wantF row (i + 1) p' f' (ds.drop (i + 1)) ∧ [Sl.sl false true (rowD row), .sl false true (.lst ds), own (.lst (f.map D.str ++ o.map D.str)), dat (.int ((p : Int) + (n : Int))), s4, s5] = [.sl false true (rowD row), .sl false true (.lst ds), own (rowD f'), dat (.int (p' : Nat)), s4', s5'] := fun o n s4 s5 eo en => by
          subst eo en
          exact ⟨p + adv d, f ++ out row p d, s4, s5, k1, by rw [List.length_append]; omega, fun s hs => (List.mem_append.mp hs).elim (htk s) (k3 s), good, by rw [← List.map_append]; rfl⟩
        have ft : (f.map D.str).length < sizeLine := by rw [List.length_map]; omega
        cases sh with
        | keep =>
          have hl := of_decide_eq_true (show decide (p < row.length) = true from h2)
          refine ⟨.str "keep", rfl, ok1, ok1, ?_⟩
          refine ⟨_, atI_tk hl, ft, .str "keep", rfl, ok1, ok3, ?_⟩
          exact next [row[p]] 1 _ _ (by rw [out_keep, List.getElem?_eq_getElem hl]; rfl) rfl
        | drop =>
          refine ⟨.str "drop", rfl, ok2, ok1, ?_⟩
          refine ⟨.str "drop", rfl, ok2, ok2, ?_⟩
          refine ⟨.str "drop", rfl, ok2, ok3, ?_⟩
          have := next [] 1 (dat (.int (i : Int))) (dat (.tup [.str "drop"])) out_drop rfl
          rw [List.map_nil, List.append_nil] at this
          exact this
        | put n hn hg =>
          refine ⟨.str "put", rfl, ok3, ok1, ?_⟩
          refine ⟨.str "put", rfl, ok3, ok2, ?_⟩
          refine ⟨.str n, rfl, ft, .str "put", rfl, ok3, ok3, ?_⟩
          exact next [n] 0 _ _ rfl (by unfold adv; exact if_pos rfl)
        | turn n hn hg =>
          refine ⟨.str "turn", rfl, ok4, ok1, ?_⟩
          refine ⟨.str "turn", rfl, ok4, ok2, ?_⟩
          refine ⟨.str n, rfl, ft, .str "turn", rfl, ok4, ok3, ?_⟩
          exact next [n] 1 _ _ rfl (by unfold adv; exact if_neg (by decide +kernel))
  · rintro ρ ⟨p, f, s4, s5, hp, hf, htk, hw, rfl⟩
    rw [nums_len, List.drop_length] at hw
    show (if decide ((p : Int) < (((row.map D.str).length : Nat) : Int)) = true then _ else _)
    rw [List.length_map]
    by_cases h : p < row.length
    · rw [decide_eq_true (by omega : (p : Int) < ((row.length : Nat) : Int))]
      refine ⟨rfl, (by show 1 ≤ 1000; decide), qx ds.length _ _ ?_⟩
      rw [hw]; unfold wantF; rw [if_neg (by omega)]
    · rw [decide_eq_false (by omega : ¬ (p : Int) < ((row.length : Nat) : Int))]
      refine q f _ _ ?_
      rw [hw]; unfold wantF; rw [if_pos (by omega)]
end
end K49
set_option maxRecDepth 100000
set_option maxHeartbeats 1000000
namespace K49
open PySem PySem.Spec PyProof.Rows L2 Yard YP
theorem okFour : okD (.lst [.str "keep", .str "drop", .str "put", .str "turn"]) = true := by decide +kernel
theorem okTwo : okD (.lst [.str "put", .str "turn"]) = true := by decide +kernel
theorem ycut1 {α : Type} (x : α) (xs : List α) : YP.cut (x :: xs) (some 1) none = xs := ycut_from (x :: xs) 1
theorem isD_no {x : Str} {r : List D} (h : ¬ x ∈ (["keep", "drop", "put", "turn"] : List Str)) : isDeed (.tup (.str x :: r)) = false := by
  simp only [List.mem_cons, List.not_mem_nil, or_false, not_or] at h
  match r with
  | [] => exact decide_eq_false (by simp only [List.mem_cons, List.not_mem_nil, or_false, not_or]; exact ⟨h.1, h.2.1⟩)
  | [b] =>
    show (decide (x ∈ (["put", "turn"] : List Str)) && gnD b) = _
    rw [decide_eq_false (by simp only [List.mem_cons, List.not_mem_nil, or_false, not_or]; exact ⟨h.2.2.1, h.2.2.2⟩), Bool.false_and]
  | b :: c :: r => rfl
theorem isD_1 {x : Str} {b : D} (h : decide (x ∈ (["put", "turn"] : List Str)) = false) : isDeed (.tup [.str x, b]) = false := by
  show (decide (x ∈ (["put", "turn"] : List Str)) && gnD b) = _
  rw [h, Bool.false_and]
theorem isD_2 {x : Str} {b : D} (h : decide (x ∈ (["put", "turn"] : List Str)) = true) : isDeed (.tup [.str x, b]) = gnD b := by
  show (decide (x ∈ (["put", "turn"] : List Str)) && gnD b) = _
  rw [h, Bool.true_and]
section
variable {P : Program} {w : World} {K : PySem.W.Frag} {mg : Str → Option Value} {base : Heap}
def uWant : UF := fun ρ R => ∃ (row : List Str) (ds : List D), ρ = [dat (rowD row), dat (.lst ds)] ∧ RowOk row ∧ DeOk ds ∧
  (∀ (f : List Str) s1 s2, wantF row 0 0 [] ds = .lst (f.map D.str) → R (.own (.lst (f.map D.str))) [s1, s2]) ∧ ∀ (k : Nat) s1 s2, wantF row 0 0 [] ds = .int (k : Nat) → R (.val (.int (k : Nat))) [s1, s2]
theorem sc__law_want : FnScope ["row", "deeds", "found", "place", "k", "deed"] ["row", "deeds"] (defScope s__law_want) := ⟨rfl, rfl, rfl, by decide +kernel, rfl, by decide +kernel, by decide +kernel⟩
theorem ok__law_want (T : Tx K w mg) : FnOk P w K mg base CX0 3 T.a__law_want T.f__law_want ["row", "deeds"] (PSp K 2 uWant) := by
  refine fn_mk T.d__law_want.fn sc__law_want (by decide) fun cdv A outer s H E hr => ?_
  refine ⟨_, (fb_cons (fs_set (ps_set (i := 2) sc__law_want.nd rfl (.inl rfl) pe_S) (fe_lst fa_nil))
      (fb_cons (fs_set (ps_set (i := 3) sc__law_want.nd rfl (.inl rfl) pe_S) fe_int)
      (fb_cons (fs_for PassesOwn.never rfl (fi_range1 (by rfl) T.z_range (fa_cons (fe_b cb_len (by rfl) T.z_len (by decide +kernel) (fr_ref (fv 1) fr_nil)) fa_nil)) (fg_name (pg_name (i := 4) sc__law_want.nd rfl (.inl rfl)))
      (fb_cons (fs_set (ps_set (i := 5) sc__law_want.nd rfl (.inl rfl) pe_S) (fe_ix (fv 1) (fv 4)))
      (fb_cons (fs_if (FW.ft (fw_or (ft_not (ft_tru (fe_b cb_isi (by rfl) T.z_isinstance (by decide +kernel) (fr_ref (fv 5) (fr_ref (fe_ty (n := "tuple") (by rfl) T.z_tuple (by decide +kernel)) fr_nil))))) (fw_or (ft_cmp (os_eq (ru hr)) (fe_b cb_len (by rfl) T.z_len (by decide +kernel) (fr_ref (fv 5) fr_nil)) fe_int) (fw_or1 (ft_not (ft_tru (fe_b cb_isi (by rfl) T.z_isinstance (by decide +kernel) (fr_ref (fe_ix (fv 5) fe_int) (fr_ref (fe_ty (n := "str") (by rfl) T.z_str (by decide +kernel)) fr_nil)))))))))
      (fb_one (fs_ret (fv 4)))
      fb_nil)
      (fb_cons (fs_if (FW.ft (fw_or (ft_cmp (os_notin (rv hr)) (fe_ix (fv 5) fe_int) (fe_lst (fa_cons fe_str (fa_cons fe_str (fa_cons fe_str (fa_cons fe_str fa_nil)))))) (fw_or1 (ft_cmp (os_ne (ru hr)) (fe_b cb_len (by rfl) T.z_len (by decide +kernel) (fr_ref (fv 5) fr_nil)) (fe_op os_add fe_int (fe_bt cb_int (by rfl) T.z_int (by decide +kernel) (fr_ref (fe_cmp (os_in (rv hr)) (fe_ix (fv 5) fe_int) (fe_lst (fa_cons fe_str (fa_cons fe_str fa_nil)))) fr_nil)))))))
      (fb_one (fs_ret (fv 4)))
      fb_nil)
      (fb_cons (fs_if (FW.ft (fw_or (FW.ft (fw_and (ft_cmp (os_eq (ru hr)) (fe_b cb_len (by rfl) T.z_len (by decide +kernel) (fr_ref (fv 5) fr_nil)) fe_int) (fw_and1 (ft_not (ft_tru (fe_call (ok__law_good_name T) (hr.mono (by omega)) (by rfl) T.d__law_good_name.at_ T.d__law_good_name.kp T.d__law_good_name.bd (fr_val (fe_ix (fv 5) fe_int) fr_nil))))))) (fw_or1 (FW.ft (fw_and (ft_cmp (os_ne (ru hr)) (fe_ix (fv 5) fe_int) fe_str) (fw_and1 (ft_cmp (os_eq (ru hr)) (fv 3) (fe_b cb_len (by rfl) T.z_len (by decide +kernel) (fr_ref (fv 0) fr_nil)))))))))
      (fb_one (fs_ret (fv 4)))
      fb_nil)
      (fb_cons (fs_if (FW.ft (fw_and (ft_cmp (os_eq (ru hr)) (fe_ix (fv 5) fe_int) fe_str) (fw_and1 (ft_cmp (os_eq (ru hr)) (fe_ix (fv 5) fe_int) (fe_ix (fv 0) (fv 3))))))
      (fb_one (fs_ret (fv 4)))
      fb_nil)
      (fb_cons (fs_if (ft_cmp (os_eq (ru hr)) (fe_ix (fv 5) fe_int) fe_str)
      (fb_one (fs_expr (fe_mu mu_append PySem.F.slot_list_append PySem.F.type_list_append (fv 2) (fa_cons (fe_ix (fv 0) (fv 3)) fa_nil))))
      fb_nil)
      (fb_cons (fs_set (ps_set (i := 2) sc__law_want.nd rfl (.inl rfl) pe_S) (fe_op os_add (fv 2) (fe_bt cb_list (by rfl) T.z_list (by decide +kernel) (fr_ref (fe_sl (fv 5) (fo_int fe_int) fo_no) fr_nil))))
      (fb_one (fs_set (ps_set (i := 3) sc__law_want.nd rfl (.inl rfl) pe_S) (fe_op os_add (fv 3) (fe_bt cb_int (by rfl) T.z_int (by decide +kernel) (fr_ref (fe_cmp (os_ne (ru hr)) (fe_ix (fv 5) fe_int) fe_str) fr_nil)))))))))))))
      (fb_one (fs_ret (fe_if (ft_cmp (os_eq (ru hr)) (fv 3) (fe_b cb_len (by rfl) T.z_len (by decide +kernel) (fr_ref (fv 0) fr_nil))) (fv 2) (fe_b cb_len (by rfl) T.z_len (by decide +kernel) (fr_ref (fv 1) fr_nil)))))))), fun ρ R hl h => ?_⟩
  -- slots: 0 row, 1 deeds, 2 found, 3 place, 4 k, 5 deed
  obtain ⟨row, ds, rfl, hrow, hds, q, qx⟩ := h
  have sz := sz2
  have lr := hrow.few
  have ld := hds.few
  refine ⟨Nat.zero_le _, by show -2 ^ 62 ≤ ((ds.length : Nat) : Int); omega, by show ((ds.length : Nat) : Int) < 2 ^ 62; omega, ?_⟩
  refine ⟨fun i ρ => ∃ (p : Nat) (f : List Str) (s4 s5 : Sl), p ≤ row.length ∧ f.length ≤ i ∧ (∀ s ∈ f, Tk s) ∧ wantF row 0 0 [] ds = wantF row i p f (ds.drop i) ∧ ρ = [.sl false true (rowD row), .sl false true (.lst ds), own (rowD f), dat (.int (p : Nat)), s4, s5], ⟨0, [], .un, .un, Nat.zero_le _, Nat.le_refl _, (fun _ h => nomatch h), rfl, rfl⟩, ?_, ?_⟩
  · rintro i y ρ hi ⟨p, f, s4, s5, hp, hf, htk, hw, rfl⟩
    obtain ⟨li, rfl⟩ := intsD_get hi
    have hil : i < ds.length := li
    rw [Int.zero_add]
    have hd : ds[i]? = some ds[i] := List.getElem?_eq_getElem hil
    generalize ds[i] = d at hd
    have dd := hds.dd d (List.mem_of_getElem? hd)
    rw [drop_at hd] at hw
    have bad : (isDeed d && fitsB row p d) = false → wantF row 0 0 [] ds = .int (i : Nat) := fun e => by
      rw [hw]; unfold wantF; rw [if_neg (by rw [e]; decide)]
    have bd : isDeed d = false → wantF row 0 0 [] ds = .int (i : Nat) := fun e => bad (by rw [e]; rfl)
    refine ⟨d, atI_nat hd, ?_⟩
    cases dd with
    | at_ _ ha =>
      cases ha with
      | non => exact ⟨"NoneType", false, rfl, rfl, qx i _ _ (bd rfl)⟩
      | int z => exact ⟨"int", false, rfl, rfl, qx i _ _ (bd rfl)⟩
      | str x hx => exact ⟨"str", false, rfl, rfl, qx i _ _ (bd rfl)⟩
    | lst l h k => exact ⟨"list", false, rfl, rfl, qx i _ _ (bd rfl)⟩
    | tup l h k =>
      refine ⟨"tuple", true, rfl, rfl, ?_⟩
      match l, h, k, bad, bd, hw with
      | [], h, k, bad, bd, hw => exact ⟨rfl, rfl, qx i _ _ (bd rfl)⟩
      | a :: r, h, k, bad, bd, hw =>
        refine ⟨rfl, rfl, ?_⟩
        refine ⟨a, atI_nat (j := 0) rfl, ?_⟩
        cases k a List.mem_cons_self with
        | non => exact ⟨"NoneType", false, rfl, rfl, qx i _ _ (bd (by cases r <;> rfl))⟩
        | int z => exact ⟨"int", false, rfl, rfl, qx i _ _ (bd (by cases r <;> rfl))⟩
        | str x hx =>
          refine ⟨"str", true, rfl, rfl, ?_⟩
          refine ⟨.str x, atI_nat (j := 0) rfl, by show 4 ≤ _; omega, (okTk hx).ok, okFour, ?_⟩
          have e4 : ([D.str "keep", D.str "drop", D.str "put", D.str "turn"].any fun z => eqD z (.str x)) = decide (x ∈ (["keep", "drop", "put", "turn"] : List Str)) := any_strs x ["keep", "drop", "put", "turn"]
          rw [e4]
          by_cases h4 : x ∈ (["keep", "drop", "put", "turn"] : List Str)
          case neg =>
            rw [decide_eq_false h4]
            exact qx i _ _ (bd (isD_no h4))
          rw [decide_eq_true h4]
          have next : ∀ (L : List D) (z : Int) (s4 s5 : Sl), isDeed (.tup (.str x :: r)) = true → fitsB row p (.tup (.str x :: r)) = true → Sh (.tup (.str x :: r)) → L = (f ++ out row p (.tup (.str x :: r))).map D.str → z = ((p + adv (.tup (.str x :: r)) : Nat) : Int) → ∃ (p' : Nat) (f' : List Str) (s4' s5' : Sl), p' ≤ row.length ∧ f'.length ≤ i + 1 ∧ (∀ s ∈ f', Tk s) ∧ wantF row 0 0 [] ds = wantF row (i + 1) p' f' (ds.drop (i + 1)) ∧ [Sl.sl false true (rowD row), .sl false true (.lst ds), own (.lst L), dat (.int z), s4, s5] = [.sl false true (rowD row), .sl false true (.lst ds), own (rowD f'), dat (.int (p' : Nat)), s4', s5'] := fun L z s4 s5 h1 h2 sh eL ez => by
            subst eL ez
            obtain ⟨k1, k2⟩ := fits_le sh hp h2
            have k3 := out_tk sh hrow.tk (p := p)
            refine ⟨p + adv _, f ++ out row p _, s4, s5, k1, by rw [List.length_append]; omega, fun s hs => (List.mem_append.mp hs).elim (htk s) (k3 s), ?_, rfl⟩
            rw [hw]; conv => lhs; unfold wantF
            rw [if_pos (by rw [h1, h2]; rfl)]
          have ft : (f.map D.str).length < sizeLine := by rw [List.length_map]; omega
          simp only [List.mem_cons, List.not_mem_nil, or_false] at h4
          rcases h4 with rfl | rfl | rfl | rfl
          · match r, h, k, bad, bd, hw with
            | [], h, k, bad, bd, hw =>
              refine ⟨.str "keep", atI_nat (j := 0) rfl, by show 2 ≤ _; omega, ok1, okTwo, rfl, rfl, ?_⟩
              refine ⟨rfl, rfl, ?_⟩
              refine ⟨.str "keep", atI_nat (j := 0) rfl, ok1, ok3, rfl, rfl, ?_⟩
              rw [List.length_map, eqD_int]
              by_cases hpr : (p : Int) = ((row.length : Nat) : Int)
              case pos =>
                rw [decide_eq_true hpr]
                exact qx i _ _ (bad (show (true && decide (p < row.length)) = false from by rw [decide_eq_false (by omega)]; rfl))
              rw [decide_eq_false hpr]
              have hl : p < row.length := by omega
              refine ⟨.str "keep", atI_nat (j := 0) rfl, ok1, ok4, ?_⟩
              refine ⟨.str "keep", atI_nat (j := 0) rfl, ok1, ok1, ?_⟩
              refine ⟨_, atI_tk hl, ft, ?_⟩
              refine ⟨by rw [List.length_append, List.length_map]; show f.length + 1 + 0 ≤ _; omega, ?_⟩
              refine ⟨.str "keep", atI_nat (j := 0) rfl, ok1, ok3, ?_⟩
              exact next _ _ _ _ rfl (decide_eq_true hl) .keep (by rw [out_keep, List.getElem?_eq_getElem hl, List.map_append]; exact List.append_nil _) rfl
            | [b], h, k, bad, bd, hw =>
              refine ⟨.str "keep", atI_nat (j := 0) rfl, by show 2 ≤ _; omega, ok1, okTwo, rfl, rfl, ?_⟩
              exact qx i _ _ (bd (isD_1 (by decide +kernel)))
            | [b, c], h, k, bad, bd, hw =>
              refine ⟨.str "keep", atI_nat (j := 0) rfl, by show 2 ≤ _; omega, ok1, okTwo, rfl, rfl, ?_⟩
              exact qx i _ _ (bd rfl)
            | b :: c :: e :: r, h, k, bad, bd, hw => exact absurd h (by simp)
          · match r, h, k, bad, bd, hw with
            | [], h, k, bad, bd, hw =>
              refine ⟨.str "drop", atI_nat (j := 0) rfl, by show 2 ≤ _; omega, ok2, okTwo, rfl, rfl, ?_⟩
              refine ⟨rfl, rfl, ?_⟩
              refine ⟨.str "drop", atI_nat (j := 0) rfl, ok2, ok3, rfl, rfl, ?_⟩
              rw [List.length_map, eqD_int]
              by_cases hpr : (p : Int) = ((row.length : Nat) : Int)
              case pos =>
                rw [decide_eq_true hpr]
                exact qx i _ _ (bad (show (true && decide (p < row.length)) = false from by rw [decide_eq_false (by omega)]; rfl))
              rw [decide_eq_false hpr]
              have hl : p < row.length := by omega
              refine ⟨.str "drop", atI_nat (j := 0) rfl, ok2, ok4, ?_⟩
              refine ⟨.str "drop", atI_nat (j := 0) rfl, ok2, ok1, ?_⟩
              refine ⟨by rw [List.length_map]; show f.length + 0 ≤ _; omega, ?_⟩
              refine ⟨.str "drop", atI_nat (j := 0) rfl, ok2, ok3, ?_⟩
              exact next _ _ _ _ rfl (decide_eq_true hl) .drop (by rw [out_drop, List.append_nil]; exact List.append_nil _) rfl
            | [b], h, k, bad, bd, hw =>
              refine ⟨.str "drop", atI_nat (j := 0) rfl, by show 2 ≤ _; omega, ok2, okTwo, rfl, rfl, ?_⟩
              exact qx i _ _ (bd (isD_1 (by decide +kernel)))
            | [b, c], h, k, bad, bd, hw =>
              refine ⟨.str "drop", atI_nat (j := 0) rfl, by show 2 ≤ _; omega, ok2, okTwo, rfl, rfl, ?_⟩
              exact qx i _ _ (bd rfl)
            | b :: c :: e :: r, h, k, bad, bd, hw => exact absurd h (by simp)
          · match r, h, k, bad, bd, hw with
            | [], h, k, bad, bd, hw =>
              refine ⟨.str "put", atI_nat (j := 0) rfl, by show 2 ≤ _; omega, ok3, okTwo, rfl, rfl, ?_⟩
              exact qx i _ _ (bd (by decide +kernel))
            | [b, c], h, k, bad, bd, hw =>
              refine ⟨.str "put", atI_nat (j := 0) rfl, by show 2 ≤ _; omega, ok3, okTwo, rfl, rfl, ?_⟩
              exact qx i _ _ (bd rfl)
            | b :: c :: e :: r, h, k, bad, bd, hw => exact absurd h (by simp)
            | [b], h, k, bad, bd, hw =>
              have e2 : isDeed (.tup [.str "put", b]) = gnD b := isD_2 (by decide +kernel)
              have hb := k b (List.mem_cons_of_mem _ List.mem_cons_self)
              refine ⟨.str "put", atI_nat (j := 0) rfl, by show 2 ≤ _; omega, ok3, okTwo, rfl, rfl, ?_⟩
              refine ⟨rfl, rfl, ?_⟩
              refine ⟨b, atI_nat (j := 1) rfl, List.nodup_nil, b, rfl, hb, fun s => ?_⟩
              show (if (!gnD b) = true then _ else _)
              cases hg : gnD b with
              | false => exact qx i _ _ (bd (e2.trans hg))
              | true =>
                cases hb with
                | non => cases hg
                | int z => cases hg
                | str n hn =>
                  refine ⟨.str "put", atI_nat (j := 0) rfl, ok3, ok3, ?_⟩
                  refine ⟨.str "put", atI_nat (j := 0) rfl, ok3, ok4, ?_⟩
                  refine ⟨.str "put", atI_nat (j := 0) rfl, ok3, ok1, ?_⟩
                  refine ⟨by rw [List.length_map]; show f.length + 1 ≤ _; omega, ?_⟩
                  refine ⟨.str "put", atI_nat (j := 0) rfl, ok3, ok3, ?_⟩
                  exact next _ _ _ _ (e2.trans hg) fitsB_put (.put n hn hg) (by rw [List.map_append]; rfl) (by rw [show adv (.tup [.str "put", .str n]) = 0 from by unfold adv; exact if_pos rfl]; rfl)
          · match r, h, k, bad, bd, hw with
            | [], h, k, bad, bd, hw =>
              refine ⟨.str "turn", atI_nat (j := 0) rfl, by show 2 ≤ _; omega, ok4, okTwo, rfl, rfl, ?_⟩
              exact qx i _ _ (bd (by decide +kernel))
            | [b, c], h, k, bad, bd, hw =>
              refine ⟨.str "turn", atI_nat (j := 0) rfl, by show 2 ≤ _; omega, ok4, okTwo, rfl, rfl, ?_⟩
              exact qx i _ _ (bd rfl)
            | b :: c :: e :: r, h, k, bad, bd, hw => exact absurd h (by simp)
            | [b], h, k, bad, bd, hw =>
              have e2 : isDeed (.tup [.str "turn", b]) = gnD b := isD_2 (by decide +kernel)
              have hb := k b (List.mem_cons_of_mem _ List.mem_cons_self)
              refine ⟨.str "turn", atI_nat (j := 0) rfl, by show 2 ≤ _; omega, ok4, okTwo, rfl, rfl, ?_⟩
              refine ⟨rfl, rfl, ?_⟩
              refine ⟨b, atI_nat (j := 1) rfl, List.nodup_nil, b, rfl, hb, fun s => ?_⟩
              show (if (!gnD b) = true then _ else _)
              cases hg : gnD b with
              | false => exact qx i _ _ (bd (e2.trans hg))
              | true =>
                cases hb with
                | non => cases hg
                | int z => cases hg
                | str n hn =>
                  refine ⟨.str "turn", atI_nat (j := 0) rfl, ok4, ok3, rfl, rfl, ?_⟩
                  rw [List.length_map, eqD_int]
                  by_cases hpr : (p : Int) = ((row.length : Nat) : Int)
                  case pos =>
                    rw [decide_eq_true hpr]
                    exact qx i _ _ (bad (by rw [fitsB_turn, decide_eq_false (by omega : ¬ p < row.length), Bool.false_and, Bool.and_false]))
                  rw [decide_eq_false hpr]
                  have hl : p < row.length := by omega
                  refine ⟨.str "turn", atI_nat (j := 0) rfl, ok4, ok4, ?_⟩
                  refine ⟨.str n, atI_nat (j := 1) rfl, _, atI_tk hl, (okTk hn).ok, (okTk (hrow.tk _ (List.getElem_mem hl))).ok, ?_⟩
                  rw [eqD_str]
                  by_cases hz : n = row[p]
                  case pos =>
                    rw [decide_eq_true hz]
                    exact qx i _ _ (bad (by rw [fitsB_turn, decide_eq_true (by rw [List.getElem?_eq_getElem hl, hz] : row[p]? = some n), Bool.not_true, Bool.and_false, Bool.and_false]))
                  rw [decide_eq_false hz]
                  refine ⟨.str "turn", atI_nat (j := 0) rfl, ok4, ok1, ?_⟩
                  refine ⟨by rw [List.length_map]; show f.length + 1 ≤ _; omega, ?_⟩
                  refine ⟨.str "turn", atI_nat (j := 0) rfl, ok4, ok3, ?_⟩
                  exact next _ _ _ _ (e2.trans hg) (by rw [fitsB_turn, decide_eq_true hl, decide_eq_false (by rw [List.getElem?_eq_getElem hl]; exact fun z => hz (Option.some.inj z).symm)]; rfl) (.turn n hn hg) (by rw [List.map_append]; rfl) (by rw [show adv (.tup [.str "turn", .str n]) = 1 from by unfold adv; exact if_neg (by decide +kernel)]; rfl)
  · rintro ρ ⟨p, f, s4, s5, hp, hf, htk, hw, rfl⟩
    rw [intsD_len] at hw
    have hw : wantF row 0 0 [] ds = wantF row ds.length p f (ds.drop ds.length) := hw
    rw [List.drop_length] at hw
    refine ⟨rfl, rfl, ?_⟩
    rw [List.length_map, eqD_int]
    by_cases h : (p : Int) = ((row.length : Nat) : Int)
    · rw [decide_eq_true h]
      refine q f _ _ ?_
      rw [hw]; unfold wantF; rw [if_pos (by omega)]
    · rw [decide_eq_false h]
      refine qx ds.length _ _ ?_
      rw [hw]; unfold wantF; rw [if_neg (by omega)]
end
end K49
set_option maxRecDepth 100000
set_option maxHeartbeats 1000000
namespace K49
open PySem PySem.Spec PyProof.Rows L2 Yard YP
theorem want_is (row : List Str) : ∀ (ds : List D) (k p : Nat) (f : List Str), (∃ g : List Str, wantF row k p f ds = .lst (g.map D.str)) ∨ ∃ n : Nat, wantF row k p f ds = .int (n : Nat)
  | [], k, p, f => by
    unfold wantF
    by_cases h : p = row.length
    · rw [if_pos h]; exact .inl ⟨f, rfl⟩
    · rw [if_neg h]; exact .inr ⟨k, rfl⟩
  | d :: ds, k, p, f => by
    unfold wantF
    by_cases h : (isDeed d && fitsB row p d) = true
    · rw [if_pos h]; exact want_is row ds _ _ _
    · rw [if_neg h]; exact .inr ⟨k, rfl⟩
section
variable {P : Program} {w : World} {K : PySem.W.Frag} {mg : Str → Option Value} {base : Heap}
theorem sc__law_told : FnScope ["row", "deeds", "found", "e"] ["row", "deeds"] (defScope s__law_told) := ⟨rfl, rfl, rfl, by decide +kernel, rfl, by decide +kernel, by decide +kernel⟩
theorem ok__law_told (T : Tx K w mg) : FnOk P w K mg base CX0 5 T.a__law_told T.f__law_told ["row", "deeds"] (PSp K 2 uWant) := by
  refine fn_mk T.d__law_told.fn sc__law_told (by decide) fun cdv A outer s H E hr => ?_
  refine ⟨_, (fb_cons (fs_set (ps_set (i := 2) sc__law_told.nd rfl (.inl rfl) pe_S) fe_non)
      (fb_cons (fs_never (fsx_try (i := 3) (c := .ref T.c_YardError) (ts := fun a dd C => uIfS (uAnd (uTru (uIsX K a dd C (.ref T.c_NoDeeds) (uVar 3))) (uTru (uIsX K a dd C (.type "ValueError") (uVar 3)))) (uSet 2 (uXf a dd C "at" (uVar 3))) uNext) (fun C => C = T.c_NoDeeds) rfl rfl sc__law_told.nd rfl rfl ⟨by rfl, by decide, .inl T.g_YardError⟩
        (fun pn xe hp => fbx_one (fsx_set (i := 2) (ps_set (i := 2) sc__law_told.nd rfl (.inl rfl) pe_S) (fex_call (ok_mended T) (hr.mono (by omega)) (by rfl) T.d_mended.at_ T.d_mended.kp T.d_mended.bd (fr_val (fv 0) (fr_val (fv 1) fr_nil)))))
        (fun a oe C dd pn hC hz hf => by
          subst hC
          exact fb_one (fs_if (FW.ft (fw_and (ft_tru (fe_isX (c := .ref T.c_NoDeeds) T.x_NoDeeds.is hz hf (by rfl) T.z_isinstance (fv 3) (pe_glob (by rfl) T.g_NoDeeds rfl) (fun u r => r))) (fw_and1 (ft_tru (fe_isX (c := .ty "ValueError") T.x_NoDeeds.is hz hf (by rfl) T.z_isinstance (fv 3) (pe_bltn (v := .ty "ValueError") (by rfl) T.z_ValueError (by decide +kernel) rfl (by decide)) (fun u r => r))))))
            (fb_one (fs_set (ps_set (i := 2) sc__law_told.nd rfl (.inl rfl) pe_S) (fe_xf T.x_NoDeeds.xf T.n_NoDeeds_at hz hf (fv 3)))) fb_nil)))
      )
      (fb_one (fs_ret (fv 2))))), fun ρ R hl h => ?_⟩
  -- slots: 0 row, 1 deeds, 2 found, 3 e
  obtain ⟨row, ds, rfl, hrow, hds, q, qx⟩ := h
  refine ⟨List.nodup_nil, row, ds, rfl, hrow, hds, fun f s1 s2 hw => q f _ _ hw, fun k s1 s2 hw => ?_⟩
  refine ⟨true, T.s_NoDeeds, fun _ => ⟨rfl, fun a dd => ?_⟩, fun z => nomatch z⟩
  refine ⟨[("at", .int (k : Nat))], true, rfl, ?_, ?_⟩
  · show (if (Value.ref T.c_NoDeeds == Value.ref T.c_NoDeeds) = true then _ else _) = _
    rw [if_pos (beq_self_eq_true _)]
  · refine ⟨[("at", .int (k : Nat))], true, rfl, T.v_NoDeeds, ?_⟩
    refine ⟨[("at", .int (k : Nat))], .int (k : Nat), rfl, ?_, ?_⟩
    · simp [List.lookup]
    · exact qx k _ _ hw
end
end K49
set_option maxRecDepth 100000
set_option maxHeartbeats 1000000
namespace K49
open PySem PySem.Spec PyProof.Rows L2 Yard YP
theorem ok_codes {s : Str} : PyData.strOk s = true ↔ ∀ c ∈ s.cps.toList, c < 1114112 := by
  obtain ⟨a⟩ := s
  show a.all (fun c => decide (c < 0x110000)) = true ↔ _
  rw [← Array.all_toList, List.all_eq_true]
  constructor
  · intro h c hc; exact of_decide_eq_true (h c hc)
  · intro h c hc; exact decide_eq_true (h c hc)
theorem app_cps (x y : Str) : (x ++ y).cps.toList = x.cps.toList ++ y.cps.toList := by
  obtain ⟨a⟩ := x
  obtain ⟨b⟩ := y
  show (a ++ b).toList = _
  exact Array.toList_append
theorem tk_q {x : Str} (h : Tk x) : (cutS x none (some 6)).length ≤ 6 ∧ Tk (cutS x none (some 6) ++ "qq") := by
  have e : (cutS x none (some 6)).cps.toList = x.cps.toList.take (HT.sIx x.length x.length (some 6)) := by
    show (x.cps.toList.drop (HT.sIx x.length 0 none)).take _ = _
    rw [HT.sIx_none]; rfl
  have l6 : HT.sIx x.length x.length (some 6) ≤ 6 := by
    rw [show (some (6 : Int)) = some ((6 : Nat) : Int) from rfl, HT.sIx_nat]
    omega
  have len : (cutS x none (some 6)).length ≤ 6 := by
    have : (cutS x none (some 6)).length = (cutS x none (some 6)).cps.toList.length := Array.length_toList.symm
    rw [this, e, List.length_take]
    omega
  refine ⟨len, ?_, ?_⟩
  · rw [ok_codes, app_cps, e]
    intro c hc
    rcases List.mem_append.mp hc with z | z
    · exact (ok_codes.mp h.ok) c (List.mem_of_mem_take z)
    · have : c ∈ [113, 113] := z
      simp only [List.mem_cons, List.not_mem_nil, or_false] at this
      omega
  · have : (cutS x none (some 6) ++ ("qq" : Str)).length = (cutS x none (some 6) ++ ("qq" : Str)).cps.toList.length := Array.length_toList.symm
    rw [this, app_cps, List.length_append]
    have e1 : (cutS x none (some 6)).cps.toList.length = (cutS x none (some 6)).length := Array.length_toList
    have e2 : ("qq" : Str).cps.toList.length = 2 := by decide +kernel
    omega
theorem tkW (s : Str) (h : PyData.strOk s = true := by decide +kernel) (k : s.length ≤ 10 := by decide +kernel) : Tk s := ⟨h, k⟩
structure TokOk (ts : List Str) : Prop where
  tk : ∀ s ∈ ts, Tk s
  five : ts.length = 5
theorem rowD_get {ts : List Str} {r : Int} (h0 : 0 ≤ r) (h : r.toNat < ts.length) : L2.atI (ts.map D.str) r = some (.str ts[r.toNat]) :=
  (atI_at h0 (by rw [List.length_map]; exact h)).trans (congrArg some (List.getElem_map _))
theorem dd1 {x : Str} (h : Tk x) : Dd (.tup [.str x]) := .tup _ (by show 1 ≤ 3; decide) fun d hd => by rw [List.mem_singleton.mp hd]; exact .str _ h
theorem dd2 {x y : Str} (h : Tk x) (k : Tk y) : Dd (.tup [.str x, .str y]) := .tup _ (by show 2 ≤ 3; decide) fun d hd => by
  simp only [List.mem_cons, List.not_mem_nil, or_false] at hd
  rcases hd with rfl | rfl
  · exact .str _ h
  · exact .str _ k
section
variable {P : Program} {w : World} {K : PySem.W.Frag} {mg : Str → Option Value} {base : Heap}
def uDeeds : UF := fun ρ R => ∃ (c : Nat) (d : D) (row ts : List Str), ρ = [own d, dat (rowD row), dat (rowD ts)] ∧ JarOk c d ∧ c + 50 < 900000 ∧ RowOk row ∧ row.length ≤ 8 ∧ TokOk ts ∧
  ∀ (ds : List D) (d2 : D) (s1 s2 : Sl), JarOk (c + 50) d2 → ds.length ≤ 27 → (∀ x ∈ ds, Dd x) → R (.own (.lst ds)) [own d2, s1, s2]
theorem sc__law_deeds : FnScope ["pot", "row", "tokens", "found", "kind", "k", "other"] ["pot", "row", "tokens"] (defScope s__law_deeds) := ⟨rfl, rfl, rfl, by decide +kernel, rfl, by decide +kernel, by decide +kernel⟩
theorem ok__law_deeds (T : Tx K w mg) : FnOk P w K mg base CX0 2 T.a__law_deeds T.f__law_deeds ["pot", "row", "tokens"] (PSp K 3 uDeeds) := by
  refine fn_mk T.d__law_deeds.fn sc__law_deeds (by decide) fun cdv A outer s H E hr => ?_
  refine ⟨_, (fb_cons (fs_set (ps_set (i := 3) sc__law_deeds.nd rfl (.inl rfl) pe_S) (fe_lst fa_nil))
      (fb_cons (fs_for PassesOwn.never rfl (fi_list (fe_op os_add (fv 1) (fe_lst (fa_cons fe_str fa_nil)))) (fg_name (pg_name (i := 4) sc__law_deeds.nd rfl (.inl rfl)))
      (fb_cons (fs_for PassesOwn.never rfl (fi_range1 (by rfl) T.z_range (fa_cons (fe_ix (fe_lst (fa_cons fe_int (fa_cons fe_int (fa_cons fe_int (fa_cons fe_int (fa_cons fe_int fa_nil)))))) (fe_call (ok__law_pick T) (hr.mono (by omega)) (by rfl) T.d__law_pick.at_ T.d__law_pick.kp T.d__law_pick.bd (fr_ref (fv 0) (fr_val fe_int fr_nil)))) fa_nil)) (fg_name (pg_name (i := 5) sc__law_deeds.nd rfl (.inl rfl)))
      (fb_one (fs_expr (fe_mu mu_append PySem.F.slot_list_append PySem.F.type_list_append (fv 3) (fa_cons (fe_tup (fa_cons fe_str (fa_cons (fe_ix (fv 2) (fe_call (ok__law_pick T) (hr.mono (by omega)) (by rfl) T.d__law_pick.at_ T.d__law_pick.kp T.d__law_pick.bd (fr_ref (fv 0) (fr_val (fe_b cb_len (by rfl) T.z_len (by decide +kernel) (fr_ref (fv 2) fr_nil)) fr_nil)))) fa_nil))) fa_nil)))))
      (fb_cons (fs_set (ps_set (i := 6) sc__law_deeds.nd rfl (.inl rfl) pe_S) (fe_ix (fv 2) (fe_call (ok__law_pick T) (hr.mono (by omega)) (by rfl) T.d__law_pick.at_ T.d__law_pick.kp T.d__law_pick.bd (fr_ref (fv 0) (fr_val (fe_b cb_len (by rfl) T.z_len (by decide +kernel) (fr_ref (fv 2) fr_nil)) fr_nil)))))
      (fb_cons (fs_if (ft_cmp (os_eq (ru hr)) (fv 6) (fv 4))
      (fb_one (fs_set (ps_set (i := 6) sc__law_deeds.nd rfl (.inl rfl) pe_S) (fe_op os_add (fe_sl (fv 4) fo_no (fo_int fe_int)) fe_str)))
      fb_nil)
      (fb_one (fs_expr (fe_mu mu_append PySem.F.slot_list_append PySem.F.type_list_append (fv 3) (fa_cons (fe_ix (fe_lst (fa_cons (fe_tup (fa_cons fe_str fa_nil)) (fa_cons (fe_tup (fa_cons fe_str fa_nil)) (fa_cons (fe_tup (fa_cons fe_str fa_nil)) (fa_cons (fe_tup (fa_cons fe_str (fa_cons (fv 6) fa_nil))) fa_nil))))) (fe_call (ok__law_pick T) (hr.mono (by omega)) (by rfl) T.d__law_pick.at_ T.d__law_pick.kp T.d__law_pick.bd (fr_ref (fv 0) (fr_val fe_int fr_nil)))) fa_nil))))))))
      (fb_one (fs_ret (fe_sl (fv 3) fo_no (fo_int (fe_neg fe_int))))))), fun ρ R hl h => ?_⟩
  -- slots: 0 pot, 1 row, 2 tokens, 3 found, 4 kind, 5 k, 6 other
  obtain ⟨c, d, row, ts, rfl, hj, hc, hrow, hr8, hts, q⟩ := h
  have sz := sz2
  have t5 := hts.five
  have lts : (ts.map D.str).length = 5 := by rw [List.length_map, t5]
  refine ⟨Nat.zero_le _, by show 1 ≤ _; omega, by rw [List.length_map]; show row.length + 1 ≤ _; omega, ?_⟩
  refine ⟨fun i ρ => ∃ (d2 : D) (ds : List D) (s4 s5 s6 : Sl), JarOk (c + 5 * i) d2 ∧ ds.length ≤ 3 * i ∧ (∀ x ∈ ds, Dd x) ∧ ρ = [.sl true true d2, .sl false true (rowD row), .sl false true (rowD ts), own (.lst ds), s4, s5, s6], ⟨d, [], .un, .un, .un, hj, Nat.le_refl _, (fun _ h => nomatch h), rfl⟩, ?_, ?_⟩
  · rintro i y ρ hi ⟨d2, ds, s4, s5, s6, j2, ln, hds, rfl⟩
    have hy : y ∈ row.map D.str ++ [.str "end"] := List.mem_of_getElem? hi
    have li : i < row.length + 1 := by
      have := (List.getElem?_eq_some_iff.mp hi).1
      rw [List.length_append, List.length_map] at this
      exact this
    obtain ⟨kind, hkd, rfl⟩ : ∃ kind : Str, Tk kind ∧ y = .str kind := by
      rcases List.mem_append.mp hy with z | z
      · obtain ⟨s, hs, rfl⟩ := List.mem_map.mp z
        exact ⟨s, hrow.tk s hs, rfl⟩
      · rw [List.mem_singleton.mp z]; exact ⟨"end", tkW _, rfl⟩
    refine ⟨by show 5 ≤ _; omega, nd1 _, c + 5 * i, d2, 5, rfl, j2, by decide, by decide, by omega, fun r d3 s3 r0 r1 j3 => ?_⟩
    obtain ⟨n, en, n2⟩ : ∃ n : Nat, L2.atI [D.int 0, D.int 0, D.int 0, D.int 1, D.int 2] r = some (.int (n : Int)) ∧ n ≤ 2 := by
      have r4 : r = 0 ∨ r = 1 ∨ r = 2 ∨ r = 3 ∨ r = 4 := by omega
      rcases r4 with rfl | rfl | rfl | rfl | rfl
      · exact ⟨0, rfl, by decide⟩
      · exact ⟨0, rfl, by decide⟩
      · exact ⟨0, rfl, by decide⟩
      · exact ⟨1, rfl, by decide⟩
      · exact ⟨2, rfl, by decide⟩
    refine ⟨_, en, ?_⟩
    refine ⟨by show -2 ^ 62 ≤ (n : Int); omega, by show (n : Int) < 2 ^ 62; omega, ?_⟩
    refine ⟨fun t ρ => ∃ (d4 : D) (ds4 : List D) (s5 : Sl), JarOk (c + 5 * i + 1 + t) d4 ∧ ds4.length ≤ 3 * i + t ∧ (∀ x ∈ ds4, Dd x) ∧ ρ = [.sl true true d4, .sl false true (rowD row), .sl false true (rowD ts), own (.lst ds4), dat (.str kind), s5, s6], ⟨d3, ds, s5, j3, ln, hds, rfl⟩, ?_, ?_⟩
    · rintro t y ρ ht ⟨d4, ds4, s5', j4, ln4, hds4, rfl⟩
      obtain ⟨lt, rfl⟩ := intsD_get ht
      have lt2 : t < n := by omega
      refine ⟨nd1 _, c + 5 * i + 1 + t, d4, (((ts.map D.str).length : Nat) : Int), rfl, j4, by rw [lts]; decide, by rw [lts]; decide, by omega, fun r2 d5 s5'' r20 r21 j5 => ?_⟩
      rw [lts] at r21
      have hlt : r2.toNat < ts.length := by omega
      refine ⟨_, rowD_get r20 hlt, by show 2 ≤ _; omega, by omega, d5, ds4 ++ [.tup [.str "put", .str ts[r2.toNat]]], dat (.int (0 + (t : Int))), j5, by rw [List.length_append]; show ds4.length + 1 ≤ _; omega, fun x hx => ?_, rfl⟩
      rcases List.mem_append.mp hx with z | z
      · exact hds4 x z
      · rw [List.mem_singleton.mp z]; exact dd2 (tkW _) (hts.tk _ (List.getElem_mem hlt))
    · rintro ρ ⟨d4, ds4, s5', j4, ln4, hds4, rfl⟩
      rw [intsD_len] at j4 ln4
      have nn : ((n : Int)).toNat = n := rfl
      rw [nn] at j4 ln4
      refine ⟨nd1 _, c + 5 * i + 1 + n, d4, (((ts.map D.str).length : Nat) : Int), rfl, j4, by rw [lts]; decide, by rw [lts]; decide, by omega, fun r2 d5 s5'' r20 r21 j5 => ?_⟩
      rw [lts] at r21
      have hlt : r2.toNat < ts.length := by omega
      refine ⟨_, rowD_get r20 hlt, ?_⟩
      have tko := hts.tk _ (List.getElem_mem hlt)
      generalize ts[r2.toNat] = oth at tko
      dsimp only [YP.put, List.set]
      refine seq_cut (fun ρ => ∃ x, Tk x ∧ ρ = [.sl true true d5, .sl false true (rowD row), .sl false true (rowD ts), own (.lst ds4), dat (.str kind), s5', dat (.str x)]) ?_ fun rest => ?_
      · rintro ρ ⟨x, tx, rfl⟩
        refine ⟨by show 1 ≤ _; omega, by show 1 ≤ _; omega, by show 1 ≤ _; omega, by show 2 ≤ _; omega, by show 4 ≤ _; omega, nd1 _, c + 5 * i + 1 + n + 1, d5, 4, rfl, j5, by decide, by decide, by omega, fun r3 d6 s6' r30 r31 j6 => ?_⟩
        have fin : ∀ y : D, Dd y → ∃ (d2 : D) (ds : List D) (s4 s5 s6 : Sl), JarOk (c + 5 * (i + 1)) d2 ∧ ds.length ≤ 3 * (i + 1) ∧ (∀ x ∈ ds, Dd x) ∧ [Sl.sl true true d6, .sl false true (rowD row), .sl false true (rowD ts), own (.lst (ds4 ++ [y])), dat (.str kind), s5', dat (.str x)] = [.sl true true d2, .sl false true (rowD row), .sl false true (rowD ts), own (.lst ds), s4, s5, s6] := fun y hy =>
          ⟨d6, ds4 ++ [y], _, _, _, j6.mono (by omega), by rw [List.length_append]; show ds4.length + 1 ≤ _; omega, fun x hx => (List.mem_append.mp hx).elim (hds4 x) fun z => by rw [List.mem_singleton.mp z]; exact hy, rfl⟩
        have r4 : r3 = 0 ∨ r3 = 1 ∨ r3 = 2 ∨ r3 = 3 := by omega
        rcases r4 with rfl | rfl | rfl | rfl
        · exact ⟨_, rfl, by omega, fin _ (dd1 (tkW _))⟩
        · exact ⟨_, rfl, by omega, fin _ (dd1 (tkW _))⟩
        · exact ⟨_, rfl, by omega, fin _ (dd1 (tkW _))⟩
        · exact ⟨_, rfl, by omega, fin _ (dd2 (tkW _) tx)⟩
      · refine ⟨(okTk tko).ok, (okTk hkd).ok, ?_⟩
        rw [eqD_str]
        by_cases hx : oth = kind
        · rw [decide_eq_true hx]
          have k := tk_q hkd
          refine ⟨hkd.sz, ?_, rest _ ⟨_, k.2, rfl⟩⟩
          show (cutS kind none (some 6)).length + 2 ≤ _
          omega
        · rw [decide_eq_false hx]
          exact rest _ ⟨_, tko, rfl⟩
  · rintro ρ ⟨d2, ds, s4, s5, s6, j2, ln, hds, rfl⟩
    have lr : (row.map D.str ++ [D.str "end"]).length = row.length + 1 := by rw [List.length_append, List.length_map]; rfl
    rw [lr] at j2 ln
    have := ycut_le ds none (some (-1))
    exact q _ d2 _ _ (j2.mono (by omega)) (by omega) fun x hx => hds x (ycut_mem hx)
end
end K49
set_option maxRecDepth 100000
set_option maxHeartbeats 1000000
namespace K49
open PySem PySem.Spec PyProof.Rows L2 Yard YP
theorem mem_at {l : List D} {r : Int} (h0 : 0 ≤ r) (h : r < ((l.length : Nat) : Int)) : ∃ x, L2.atI l r = some x ∧ x ∈ l :=
  have hl : r.toNat < l.length := by omega
  ⟨_, atI_at h0 hl, List.getElem_mem hl⟩
section
variable {P : Program} {w : World} {K : PySem.W.Frag} {mg : Str → Option Value} {base : Heap}
def uBad : UF := fun ρ R => ∃ (c : Nat) (d : D) (row : List Str) (ds : List D), ρ = [own d, dat (rowD row), dat (.lst ds)] ∧ JarOk c d ∧ c + 3 < 900000 ∧ RowOk row ∧ ds.length ≤ 200 ∧ (∀ x ∈ ds, Dd x) ∧
  ∀ (es : List D) (d2 : D) (s1 s2 : Sl), JarOk (c + 3) d2 → es.length ≤ 2 * ds.length + 1 → (∀ x ∈ es, Dd x) → R (.own (.lst es)) [own d2, s1, s2]
theorem sc__law_bad : FnScope ["pot", "row", "deeds", "kept", "odd", "at", "way", "one", "kind"] ["pot", "row", "deeds"] (defScope s__law_bad) := ⟨rfl, rfl, rfl, by decide +kernel, rfl, by decide +kernel, by decide +kernel⟩
theorem ok__law_bad (T : Tx K w mg) : FnOk P w K mg base CX0 2 T.a__law_bad T.f__law_bad ["pot", "row", "deeds"] (PSp K 3 uBad) := by
  refine fn_mk T.d__law_bad.fn sc__law_bad (by decide) fun cdv A outer s H E hr => ?_
  refine ⟨_, (fb_cons (fs_set (ps_set (i := 3) sc__law_bad.nd rfl (.inl rfl) pe_S) (fe_ix (fe_lst (fa_cons fe_str (fa_cons fe_str (fa_cons fe_str (fa_cons fe_str fa_nil))))) (fe_op os_mod (fe_b cb_len (by rfl) T.z_len (by decide +kernel) (fr_ref (fv 1) fr_nil)) fe_int)))
      (fb_cons (fs_set (ps_set (i := 4) sc__law_bad.nd rfl (.inl rfl) pe_S) (fe_lst (fa_cons (fe_tup (fa_cons fe_str (fa_cons fe_str fa_nil))) (fa_cons (fe_tup (fa_cons fe_str (fa_cons fe_str fa_nil))) (fa_cons (fe_tup (fa_cons fe_str fa_nil)) (fa_cons (fe_tup (fa_cons fe_str fa_nil)) (fa_cons (fe_tup (fa_cons fe_str (fa_cons fe_str fa_nil))) (fa_cons (fe_tup (fa_cons fe_str (fa_cons fe_str fa_nil))) (fa_cons (fe_tup (fa_cons fe_str (fa_cons fe_str fa_nil))) (fa_cons (fe_tup fa_nil) fa_nil))))))))))
      (fb_cons (fs_set (ps_set (i := 4) sc__law_bad.nd rfl (.inl rfl) pe_S) (fe_op os_add (fv 4) (fe_lst (fa_cons fe_non (fa_cons fe_str (fa_cons (fe_lst (fa_cons fe_str fa_nil)) (fa_cons (fe_tup (fa_cons fe_str (fa_cons (fv 3) fa_nil))) (fa_cons (fe_tup (fa_cons fe_str (fa_cons fe_str (fa_cons fe_str fa_nil)))) (fa_cons (fe_tup (fa_cons fe_str fa_nil)) (fa_cons (fe_tup (fa_cons fe_non fa_nil)) (fa_cons (fe_tup (fa_cons fe_str (fa_cons fe_int fa_nil))) fa_nil)))))))))))
      (fb_cons (fs_set (ps_set (i := 4) sc__law_bad.nd rfl (.inl rfl) pe_S) (fe_op os_add (fe_op os_add (fv 4) (fe_lc rfl sc__law_bad.nd (fi_list (fe_sl (fv 1) fo_no (fo_int fe_int))) (blkOk_by (own := [("kind", 8)]) (N := ["pot", "row", "deeds", "kept", "odd", "at", "way", "one", "kind"]) (sc := defScope s__law_bad) (by decide +kernel)) (fun _ _ _ _ _ => (fg_name (pg_name (i := 8) sc__law_bad.nd rfl (.inl rfl)) (by intro l e; cases e; decide +kernel))) (fun _ _ _ _ _ => fts_nil) (fun _ _ _ _ _ => (fe_tup (fa_cons fe_str (fa_cons (fv 8) fa_nil)))))) (fe_lst (fa_cons (fe_tup (fa_cons fe_str fa_nil)) (fa_cons (fe_tup (fa_cons fe_str fa_nil)) (fa_cons (fe_tup (fa_cons fe_str (fa_cons fe_str fa_nil))) (fa_cons (fe_tup (fa_cons fe_str (fa_cons fe_str fa_nil))) fa_nil)))))))
      (fb_cons (fs_set (ps_set (i := 5) sc__law_bad.nd rfl (.inl rfl) pe_S) (fe_call (ok__law_pick T) (hr.mono (by omega)) (by rfl) T.d__law_pick.at_ T.d__law_pick.kp T.d__law_pick.bd (fr_ref (fv 0) (fr_val (fe_op os_add (fe_b cb_len (by rfl) T.z_len (by decide +kernel) (fr_ref (fv 2) fr_nil)) fe_int) fr_nil))))
      (fb_cons (fs_set (ps_set (i := 6) sc__law_bad.nd rfl (.inl rfl) pe_S) (fe_call (ok__law_pick T) (hr.mono (by omega)) (by rfl) T.d__law_pick.at_ T.d__law_pick.kp T.d__law_pick.bd (fr_ref (fv 0) (fr_val fe_int fr_nil))))
      (fb_cons (fs_set (ps_set (i := 7) sc__law_bad.nd rfl (.inl rfl) pe_S) (fe_ix (fv 4) (fe_call (ok__law_pick T) (hr.mono (by omega)) (by rfl) T.d__law_pick.at_ T.d__law_pick.kp T.d__law_pick.bd (fr_ref (fv 0) (fr_val (fe_b cb_len (by rfl) T.z_len (by decide +kernel) (fr_ref (fv 4) fr_nil)) fr_nil)))))
      (fb_cons (fs_if (ft_cmp (os_eq (ru hr)) (fv 6) fe_int)
      (fb_one (fs_ret (fe_op os_add (fe_sl (fv 2) fo_no (fo_int (fv 5))) (fe_sl (fv 2) (fo_int (fe_op os_add (fv 5) fe_int)) fo_no))))
      fb_nil)
      (fb_cons (fs_if (ft_cmp (os_eq (ru hr)) (fv 6) fe_int)
      (fb_one (fs_ret (fe_op os_add (fe_sl (fv 2) fo_no (fo_int (fe_op os_add (fv 5) fe_int))) (fe_sl (fv 2) (fo_int (fv 5)) fo_no))))
      fb_nil)
      (fb_one (fs_ret (fe_op os_add (fe_op os_add (fe_sl (fv 2) fo_no (fo_int (fv 5))) (fe_lst (fa_cons (fv 7) fa_nil))) (fe_sl (fv 2) (fo_int (fe_op os_sub (fe_op os_add (fv 5) (fv 6)) fe_int)) fo_no))))))))))))), fun ρ R hl h => ?_⟩
  -- slots: 0 pot, 1 row, 2 deeds, 3 kept, 4 odd, 5 at, 6 way, 7 one, 8 kind
  obtain ⟨c, d, row, ds, rfl, hj, hc, hrow, hl2, hds, q⟩ := h
  have sz := sz2
  -- kept
  have m0 := Int.emod_nonneg (((row.map D.str).length : Nat) : Int) (b := 4) (by decide)
  have m1 := Int.emod_lt_of_pos (((row.map D.str).length : Nat) : Int) (b := 4) (by decide)
  obtain ⟨kp, ek, tkp⟩ : ∃ kp : Str, L2.atI [D.str "top", D.str "skip", D.str "rule", D.str "word"] ((((row.map D.str).length : Nat) : Int) % 4) = some (.str kp) ∧ Tk kp := by
    generalize (((row.map D.str).length : Nat) : Int) % 4 = m at m0 m1
    have r4 : m = 0 ∨ m = 1 ∨ m = 2 ∨ m = 3 := by omega
    rcases r4 with rfl | rfl | rfl | rfl
    · exact ⟨"top", rfl, tkW _⟩
    · exact ⟨"skip", rfl, tkW _⟩
    · exact ⟨"rule", rfl, tkW _⟩
    · exact ⟨"word", rfl, tkW _⟩
  refine ⟨by show 4 ≤ _; omega, (by decide : (0 : Int) < 4), _, ek, ?_⟩
  -- odd
  have two : 2 ≤ sizeLine := by omega
  have onE : 1 ≤ sizeLine := by omega
  refine ⟨two, two, onE, onE, two, two, two, Nat.zero_le _, by show 8 ≤ _; omega, ?_⟩
  have d8 : ∀ x ∈ ([.tup [.str "keep", .str "a"], .tup [.str "drop", .str "a"], .tup [.str "put"], .tup [.str "turn"], .tup [.str "put", .str "A"], .tup [.str "put", .str "abcdefghi"], .tup [.str "put", .str ""], .tup []] ++ [.non, .str "keep", .lst [.str "keep"], .tup [.str "turn", .str kp], .tup [.str "put", .str "a", .str "b"], .tup [.str "take"], .tup [.non], .tup [.str "put", .int 5]] : List D), Dd x := by
    intro x hx
    simp only [List.mem_append, List.mem_cons, List.not_mem_nil, or_false] at hx
    rcases hx with (rfl | rfl | rfl | rfl | rfl | rfl | rfl | rfl) | (rfl | rfl | rfl | rfl | rfl | rfl | rfl | rfl)
    · exact dd2 (tkW _) (tkW _)
    · exact dd2 (tkW _) (tkW _)
    · exact dd1 (tkW _)
    · exact dd1 (tkW _)
    · exact dd2 (tkW _) (tkW _)
    · exact dd2 (tkW _) (tkW _)
    · exact dd2 (tkW _) (tkW _)
    · exact .tup _ (by decide) (fun _ h => nomatch h)
    · exact .at_ _ .non
    · exact .at_ _ (.str _ (tkW _))
    · exact .lst _ (by decide) fun y hy => by rw [List.mem_singleton.mp hy]; exact .str _ (tkW _)
    · exact dd2 (tkW _) tkp
    · refine .tup _ (by decide) fun y hy => ?_
      simp only [List.mem_cons, List.not_mem_nil, or_false] at hy
      rcases hy with rfl | rfl | rfl <;> exact .str _ (tkW _)
    · exact dd1 (tkW _)
    · exact .tup _ (by decide) fun y hy => by rw [List.mem_singleton.mp hy]; exact .non
    · refine .tup _ (by decide) fun y hy => ?_
      simp only [List.mem_cons, List.not_mem_nil, or_false] at hy
      rcases hy with rfl | rfl
      · exact .str _ (tkW _)
      · exact .int _
  have l16 : ([.tup [.str "keep", .str "a"], .tup [.str "drop", .str "a"], .tup [.str "put"], .tup [.str "turn"], .tup [.str "put", .str "A"], .tup [.str "put", .str "abcdefghi"], .tup [.str "put", .str ""], .tup []] ++ [.non, .str "keep", .lst [.str "keep"], .tup [.str "turn", .str kp], .tup [.str "put", .str "a", .str "b"], .tup [.str "take"], .tup [.non], .tup [.str "put", .int 5]] : List D).length = 16 := rfl
  dsimp only [YP.put, List.set]
  refine seq_cut (fun ρ => ∃ O : List D, (∀ x ∈ O, Dd x) ∧ O.length = 16 ∧ ρ = [.sl true true d, .sl false true (rowD row), .sl false true (.lst ds), dat (.str kp), own (.lst O), .un, .un, .un, .un]) ?_ fun rest => ⟨onE, two, by show 3 ≤ _; omega, onE, onE, two, by show 8 ≤ _; omega, by show 16 ≤ _; omega, rest _ ⟨_, d8, l16, rfl⟩⟩
  clear d8 l16
  rintro ρ ⟨O, d8, l16, rfl⟩
  -- .. and the turns to what stands there
  have cl := ycut_le (row.map D.str) none (some 1)
  rw [List.length_map] at cl
  have lr := hrow.few
  refine seq_cut (fun ρ => ∃ Q : List D, (∀ x ∈ Q, Dd x) ∧ (Q.length ≤ 1020 ∧ 0 < Q.length) ∧ ρ = [.sl true true d, .sl false true (rowD row), .sl false true (.lst ds), dat (.str kp), own (.lst Q), .un, .un, .un, .un]) ?_ fun rest => ?_
  case refine_2 =>
    refine ⟨fun i acc ρ => acc.length = i ∧ (∀ x ∈ acc, Dd x) ∧ ρ = [.sl true true d, .sl false true (rowD row), .sl false true (.lst ds), dat (.str kp), own (.lst O), .un, .un, .un, .un], ⟨rfl, (fun _ h => nomatch h), rfl⟩, ?_, ?_, ?_⟩
    · rintro i y acc ρ hi ⟨la, hacc, rfl⟩
      have hm := ycut_mem (List.mem_of_getElem? hi)
      have li := (List.getElem?_eq_some_iff.mp hi).1
      obtain ⟨s, hs, rfl⟩ := List.mem_map.mp hm
      refine ⟨two, by omega, by rw [List.length_append, la]; rfl, fun x hx => ?_, rfl⟩
      rcases List.mem_append.mp hx with z | z
      · exact hacc x z
      · rw [List.mem_singleton.mp z]; exact dd2 (tkW _) (hrow.tk s hs)
    · rintro i acc ρ ⟨_, _, rfl⟩
      exact ⟨_, (rfl : _ = YP.wipeS [.sl true true d, .sl false true (rowD row), .sl false true (.lst ds), dat (.str kp), own (.lst O), .un, .un, .un, .un] [8])⟩
    rintro acc ρ ⟨la, hacc, rfl⟩
    have la2 : acc.length ≤ 1000 := by omega
    have lO : (O ++ acc).length ≤ 1016 := by rw [List.length_append]; omega
    refine ⟨by omega, onE, onE, two, two, by show 4 ≤ _; omega, by show (O ++ acc).length + 4 ≤ _; omega, ?_⟩
    have dO : ∀ x ∈ (O ++ acc ++ [.tup [.str "keep"], .tup [.str "drop"], .tup [.str "put", .str "bar"], .tup [.str "put", .str "zz"]] : List D), Dd x := by
      intro x hx
      rcases List.mem_append.mp hx with z | z
      · rcases List.mem_append.mp z with z | z
        · exact d8 x z
        · exact hacc x z
      · simp only [List.mem_cons, List.not_mem_nil, or_false] at z
        rcases z with rfl | rfl | rfl | rfl
        · exact dd1 (tkW _)
        · exact dd1 (tkW _)
        · exact dd2 (tkW _) (tkW _)
        · exact dd2 (tkW _) (tkW _)
    have lO2 : (O ++ acc ++ [.tup [.str "keep"], .tup [.str "drop"], .tup [.str "put", .str "bar"], .tup [.str "put", .str "zz"]] : List D).length ≤ 1020 ∧ 0 < (O ++ acc ++ [.tup [.str "keep"], .tup [.str "drop"], .tup [.str "put", .str "bar"], .tup [.str "put", .str "zz"]] : List D).length := by
      rw [List.length_append]
      show (O ++ acc).length + 4 ≤ _ ∧ 0 < (O ++ acc).length + 4
      omega
    exact rest _ ⟨_, dO, lO2, rfl⟩
  rintro ρ ⟨Q, dO, lO2, rfl⟩
  refine ⟨nd1 _, c, d, ((ds.length : Nat) : Int) + 1, rfl, hj, by omega, by omega, by omega, fun at_ d1 s1 a0 a1 j1 => ?_⟩
  refine ⟨nd1 _, c + 1, d1, 4, rfl, j1, by decide, by decide, by omega, fun way d2 s2 w0 w1 j2 => ?_⟩
  refine ⟨nd1 _, c + 2, d2, ((Q.length : Nat) : Int), rfl, j2, by omega, by omega, by omega, fun r d3 s3 r0 r1 j3 => ?_⟩
  obtain ⟨one, eo, ho⟩ := mem_at (l := Q) r0 r1
  refine ⟨one, eo, ?_⟩
  have fin : ∀ (es : List D) (s1 s2 : Sl), es.length ≤ 2 * ds.length + 1 → (∀ x ∈ es, Dd x) → R (.own (.lst es)) [own d3, s1, s2] := fun es s1 s2 h1 h2 => q es d3 s1 s2 j3 h1 h2
  have cm : ∀ {lo hi : Option Int} {x : D}, x ∈ YP.cut ds lo hi → Dd x := fun h => hds _ (ycut_mem h)
  have c1 := fun lo hi => ycut_le ds lo hi
  refine ⟨rfl, rfl, ?_⟩
  rw [eqD_int]
  by_cases hw0 : way = 0
  · rw [decide_eq_true hw0]
    refine ⟨?_, fin _ _ _ ?_ ?_⟩
    · have := c1 none (some at_)
      have := c1 (some (at_ + 1)) none
      omega
    · rw [List.length_append]
      have := c1 none (some at_)
      have := c1 (some (at_ + 1)) none
      omega
    · exact fun x hx => (List.mem_append.mp hx).elim cm cm
  rw [decide_eq_false hw0]
  refine ⟨rfl, rfl, ?_⟩
  rw [eqD_int]
  by_cases hw1 : way = 1
  · rw [decide_eq_true hw1]
    refine ⟨?_, fin _ _ _ ?_ ?_⟩
    · have := c1 none (some (at_ + 1))
      have := c1 (some at_) none
      omega
    · rw [List.length_append]
      have := c1 none (some (at_ + 1))
      have := c1 (some at_) none
      omega
    · exact fun x hx => (List.mem_append.mp hx).elim cm cm
  rw [decide_eq_false hw1]
  have k1 := c1 none (some at_)
  have k2 := c1 (some (at_ + way - 2)) none
  refine ⟨onE, by show _ + 1 ≤ _; omega, ?_, fin _ _ _ ?_ ?_⟩
  · rw [List.length_append]
    show (YP.cut ds none (some at_)).length + 1 + _ ≤ _
    omega
  · rw [List.length_append, List.length_append]
    show (YP.cut ds none (some at_)).length + 1 + _ ≤ _
    omega
  · intro x hx
    rcases List.mem_append.mp hx with z | z
    · rcases List.mem_append.mp z with z | z
      · exact cm z
      · rw [List.mem_singleton.mp z]; exact dO _ ho
    · exact cm z
end
end K49
set_option maxRecDepth 100000
set_option maxHeartbeats 1000000
namespace K49
open PySem PySem.Spec PyProof.Rows L2 Yard YP
theorem want_tk {row : List Str} (hr : ∀ s ∈ row, Tk s) : ∀ (ds : List D) (k p : Nat) (f : List Str), (∀ d ∈ ds, Dd d) → (∀ s ∈ f, Tk s) → p ≤ row.length → (∃ g : List Str, wantF row k p f ds = .lst (g.map D.str) ∧ (∀ s ∈ g, Tk s) ∧ g.length ≤ f.length + ds.length) ∨ ∃ n : Nat, wantF row k p f ds = .int (n : Nat)
  | [], k, p, f, _, hf, _ => by
    unfold wantF
    by_cases h : p = row.length
    · rw [if_pos h]; exact .inl ⟨f, rfl, hf, Nat.le_refl _⟩
    · rw [if_neg h]; exact .inr ⟨k, rfl⟩
  | d :: ds, k, p, f, hd, hf, hp => by
    unfold wantF
    by_cases h : (isDeed d && fitsB row p d) = true
    · rw [if_pos h]
      obtain ⟨h1, h2⟩ := Bool.and_eq_true_iff.mp h
      have sh := sh_of (hd d List.mem_cons_self) h1
      obtain ⟨k1, k2⟩ := fits_le sh hp h2
      rcases want_tk hr ds (k + 1) (p + adv d) (f ++ out row p d) (fun x hx => hd x (List.mem_cons_of_mem _ hx)) (fun s hs => (List.mem_append.mp hs).elim (hf s) (out_tk sh hr s)) k1 with ⟨g, e, t, l⟩ | h
      · refine .inl ⟨g, e, t, ?_⟩
        rw [List.length_append] at l
        rw [List.length_cons]
        omega
      · exact .inr h
    · rw [if_neg h]; exact .inr ⟨k, rfl⟩
section
variable {P : Program} {w : World} {K : PySem.W.Frag} {mg : Str → Option Value} {base : Heap}
def uRight : UF := fun ρ R => ∃ d : D, ρ = [own d] ∧ JarOk 0 d ∧ ∀ s, R (.val (.bl true)) [s]
theorem sc__law_right : FnScope ["pot", "tokens", "row", "deeds", "some", "handed", "want", "told", "k"] ["pot"] (defScope s__law_right) := ⟨rfl, rfl, rfl, by decide +kernel, rfl, by decide +kernel, by decide +kernel⟩
theorem ok__law_right (T : Tx K w mg) : FnOk P w K mg base CX0 6 T.a__law_right T.f__law_right ["pot"] (PSp K 1 uRight) := by
  refine fn_mk T.d__law_right.fn sc__law_right (by decide) fun cdv A outer s H E hr => ?_
  refine ⟨_, (fb_cons (fs_set (ps_set (i := 1) sc__law_right.nd rfl (.inr rfl) pe_S) (fe_op os_add (fe_call (ok__law_names T) (hr.mono (by omega)) (by rfl) T.d__law_names.at_ T.d__law_names.kp T.d__law_names.bd (fr_ref (fv 0) (fr_val fe_int fr_nil))) (fe_lst (fa_cons fe_str fa_nil))))
      (fb_cons (fs_setLc (i := 2) rfl sc__law_right.nd rfl rfl (sw_true rfl rfl rfl (by decide +kernel)) (fi_range1 (by rfl) T.z_range (fa_cons (fe_call (ok__law_pick T) (hr.mono (by omega)) (by rfl) T.d__law_pick.at_ T.d__law_pick.kp T.d__law_pick.bd (fr_ref (fv 0) (fr_val fe_int fr_nil))) fa_nil)) (blkOk_by (own := [("k", 8)]) (N := ["pot", "tokens", "row", "deeds", "some", "handed", "want", "told", "k"]) (sc := defScope s__law_right) (by decide +kernel)) (fun _ _ _ _ _ => (fg_name (pg_name (i := 8) sc__law_right.nd rfl (.inl rfl)) (by intro l e; cases e; decide +kernel))) (fun _ _ _ _ _ => fts_nil) (fun _ _ _ _ _ => (fe_ix (fe_op os_add (fv 1) (fe_lst (fa_cons fe_str fa_nil))) (fe_call (ok__law_pick T) (hr.mono (by omega)) (by rfl) T.d__law_pick.at_ T.d__law_pick.kp T.d__law_pick.bd (fr_ref (fv 0) (fr_val fe_int fr_nil))))))
      (fb_cons (fs_set (ps_set (i := 3) sc__law_right.nd rfl (.inl rfl) pe_S) (fe_call (ok__law_deeds T) (hr.mono (by omega)) (by rfl) T.d__law_deeds.at_ T.d__law_deeds.kp T.d__law_deeds.bd (fr_ref (fv 0) (fr_val (fv 2) (fr_val (fv 1) fr_nil)))))
      (fb_cons (fs_for PassesOwn.never rfl (fi_list (fe_lst (fa_cons (fv 3) (fa_cons (fe_call (ok__law_bad T) (hr.mono (by omega)) (by rfl) T.d__law_bad.at_ T.d__law_bad.kp T.d__law_bad.bd (fr_ref (fv 0) (fr_val (fv 2) (fr_val (fv 3) fr_nil)))) (fa_cons (fe_call (ok__law_bad T) (hr.mono (by omega)) (by rfl) T.d__law_bad.at_ T.d__law_bad.kp T.d__law_bad.bd (fr_ref (fv 0) (fr_val (fv 2) (fr_val (fe_call (ok__law_bad T) (hr.mono (by omega)) (by rfl) T.d__law_bad.at_ T.d__law_bad.kp T.d__law_bad.bd (fr_ref (fv 0) (fr_val (fv 2) (fr_val (fv 3) fr_nil)))) fr_nil)))) (fa_cons (fe_lst fa_nil) fa_nil)))))) (fg_name (pg_name (i := 4) sc__law_right.nd rfl (.inl rfl)))
      (fb_cons (fs_set (ps_set (i := 5) sc__law_right.nd rfl (.inl rfl) pe_S) (fe_lst (fa_cons (fe_bt cb_list (by rfl) T.z_list (by decide +kernel) (fr_ref (fv 2) fr_nil)) (fa_cons (fe_bt cb_list (by rfl) T.z_list (by decide +kernel) (fr_ref (fv 4) fr_nil)) fa_nil))))
      (fb_cons (fs_set (ps_set (i := 6) sc__law_right.nd rfl (.inl rfl) pe_S) (fe_call (ok__law_want T) (hr.mono (by omega)) (by rfl) T.d__law_want.at_ T.d__law_want.kp T.d__law_want.bd (fr_val (fv 2) (fr_val (fv 4) fr_nil))))
      (fb_cons (fs_set (ps_set (i := 7) sc__law_right.nd rfl (.inl rfl) pe_S) (fe_call (ok__law_told T) (hr.mono (by omega)) (by rfl) T.d__law_told.at_ T.d__law_told.kp T.d__law_told.bd (fr_val (fe_ix (fv 5) fe_int) (fr_val (fe_ix (fv 5) fe_int) fr_nil))))
      (fb_cons (fs_if (FW.ft (fw_or (ft_tru (fe_b cb_isi (by rfl) T.z_isinstance (by decide +kernel) (fr_ref (fv 7) (fr_ref (fe_ty (n := "bool") (by rfl) T.z_bool (by decide +kernel)) fr_nil)))) (fw_or (ft_cmp (os_ne (ru hr)) (fe_b cb_isi (by rfl) T.z_isinstance (by decide +kernel) (fr_ref (fv 7) (fr_ref (fe_ty (n := "list") (by rfl) T.z_list (by decide +kernel)) fr_nil))) (fe_b cb_isi (by rfl) T.z_isinstance (by decide +kernel) (fr_ref (fv 6) (fr_ref (fe_ty (n := "list") (by rfl) T.z_list (by decide +kernel)) fr_nil)))) (fw_or1 (ft_cmp (os_ne (ru hr)) (fv 7) (fv 6))))))
      (fb_one (fs_ret fe_bl))
      fb_nil)
      (fb_cons (fs_if (ft_cmp (os_ne (ru hr)) (fv 5) (fe_lst (fa_cons (fv 2) (fa_cons (fv 4) fa_nil))))
      (fb_one (fs_ret fe_bl))
      fb_nil)
      (fb_one (fs_if (ft_tru (fe_b cb_isi (by rfl) T.z_isinstance (by decide +kernel) (fr_ref (fv 7) (fr_ref (fe_ty (n := "list") (by rfl) T.z_list (by decide +kernel)) fr_nil))))
      (fb_cons (fs_expr (fe_mu mu_append PySem.F.slot_list_append PySem.F.type_list_append (fv 7) (fa_cons fe_str fa_nil)))
      (fb_one (fs_if (ft_cmp (os_ne (ru hr)) (fe_call (ok__law_told T) (hr.mono (by omega)) (by rfl) T.d__law_told.at_ T.d__law_told.kp T.d__law_told.bd (fr_val (fe_ix (fv 5) fe_int) (fr_val (fe_ix (fv 5) fe_int) fr_nil))) (fv 6))
      (fb_one (fs_ret fe_bl))
      fb_nil)))
      fb_nil))))))))
      (fb_one (fs_ret fe_bl)))))), fun ρ R hl h => ?_⟩
  -- slots: 0 pot, 1 tokens, 2 row, 3 deeds, 4 some, 5 handed, 6 want, 7 told, 8 k
  obtain ⟨d, rfl, hj, q⟩ := h
  have sz := sz2
  have onE : 1 ≤ sizeLine := by omega
  refine ⟨nd1 _, 0, d, rfl, hj, by decide, fun ns d2 s1 j2 ln hns => ?_⟩
  refine ⟨onE, by rw [List.length_map]; show ns.length + 1 ≤ _; omega, ?_⟩
  dsimp only [YP.put, List.set]
  refine seq_cut (fun ρ => ∃ (d3 : D) (ts row : List Str), JarOk 46 d3 ∧ TokOk ts ∧ RowOk row ∧ row.length ≤ 8 ∧ ρ = [.sl true true d3, own (rowD ts), own (rowD row), .un, .un, .un, .un, .un, .un]) ?_ fun rest => ?_
  case refine_2 =>
    have hts : TokOk (ns ++ (["zz"] : List Str)) := ⟨fun s hs => (List.mem_append.mp hs).elim (hns s) fun z => by rw [List.mem_singleton.mp z]; exact tkW _, by rw [List.length_append, ln]; rfl⟩
    have ets : ns.map D.str ++ [D.str "zz"] = (ns ++ (["zz"] : List Str)).map D.str := by rw [List.map_append]; rfl
    have e6 : (ns ++ (["zz"] : List Str)).map D.str ++ [D.str ""] = (ns ++ (["zz", ""] : List Str)).map D.str := by rw [List.map_append, List.map_append, List.append_assoc]; rfl
    have l6 : ((ns ++ (["zz", ""] : List Str))).length = 6 := by rw [List.length_append, ln]; rfl
    have t6 : ∀ s ∈ (ns ++ (["zz", ""] : List Str)), Tk s := fun s hs => by
      rcases List.mem_append.mp hs with z | z
      · exact hns s z
      · simp only [List.mem_cons, List.not_mem_nil, or_false] at z
        rcases z with rfl | rfl <;> exact tkW _
    refine ⟨nd1 _, 36, d2, 9, rfl, j2, by decide, by decide, by decide, fun r d3 s3 r0 r1 j3 => ?_⟩
    refine ⟨by show -2 ^ 62 ≤ r; omega, by show r < 2 ^ 62; omega, ?_⟩
    refine ⟨fun i acc ρ => ∃ (d4 : D) (ss : List Str), JarOk (37 + i) d4 ∧ acc = ss.map D.str ∧ ss.length = i ∧ (∀ s ∈ ss, Tk s) ∧ ρ = [.sl true true d4, own (.lst (ns.map D.str ++ [D.str "zz"])), .un, .un, .un, .un, .un, .un, .un], ⟨d3, [], j3, rfl, rfl, (fun _ h => nomatch h), rfl⟩, ?_, ?_, ?_⟩
    · rintro i y acc ρ hi ⟨d4, ss, j4, rfl, ls, hss, rfl⟩
      have li := (List.getElem?_eq_some_iff.mp hi).1
      rw [intsD_len] at li
      refine ⟨onE, by rw [List.length_append, List.length_map]; show ns.length + 1 + 1 ≤ _; omega, nd1 _, 37 + i, d4, 6, rfl, j4, by decide, by decide, by omega, fun r2 d5 s r20 r21 j5 => ?_⟩
      have hlt : r2.toNat < (ns ++ (["zz", ""] : List Str)).length := by rw [l6]; omega
      refine ⟨.str ((ns ++ (["zz", ""] : List Str))[r2.toNat]'hlt), ?_, ?_⟩
      · rw [ets, e6]
        exact rowD_get r20 hlt
      · refine ⟨by rw [List.length_map]; omega, d5, ss ++ [(ns ++ (["zz", ""] : List Str))[r2.toNat]'hlt], j5, by rw [List.map_append]; rfl, by rw [List.length_append, ls]; rfl, fun s hs => ?_, rfl⟩
        rcases List.mem_append.mp hs with z | z
        · exact hss s z
        · rw [List.mem_singleton.mp z]; exact t6 _ (List.getElem_mem hlt)
    · rintro i acc ρ ⟨d4, ss, _, _, _, _, rfl⟩
      exact ⟨_, (rfl : _ = YP.wipeS [.sl true true d4, own (.lst (ns.map D.str ++ [D.str "zz"])), .un, .un, .un, .un, .un, .un, .un] [8])⟩
    rintro acc ρ ⟨d4, ss, j4, rfl, ls, hss, rfl⟩
    rw [intsD_len] at ls j4
    refine rest [.sl true true d4, own (.lst (ns.map D.str ++ [D.str "zz"])), own (rowD ss), .un, .un, .un, .un, .un, .un] ⟨d4, ns ++ (["zz"] : List Str), ss, j4.mono (by omega), hts, ⟨hss, by omega⟩, by omega, ?_⟩
    rw [ets]
  rintro ρ ⟨d3, ts, row, j3, hts, hrow, hr8, rfl⟩
  refine ⟨nd1 _, 46, d3, row, ts, rfl, j3, by decide, hrow, hr8, hts, fun ds d4 s1 s2 j4 lds hds => ?_⟩
  refine ⟨nd1 _, 96, d4, row, ds, rfl, j4, by decide, hrow, by omega, hds, fun e1 d5 s1 s2 j5 l1 he1 => ?_⟩
  refine ⟨nd1 _, 99, d5, row, ds, rfl, j5, by decide, hrow, by omega, hds, fun e0 d6 s1 s2 j6 l0 he0 => ?_⟩
  refine ⟨nd1 _, 102, d6, row, e0, rfl, j6, by decide, hrow, by omega, he0, fun e2 d7 s1 s2 j7 l2 he2 => ?_⟩
  refine ⟨Nat.zero_le _, by show 4 ≤ _; omega, ?_⟩
  have items : ∀ y : D, y ∈ [D.lst ds, D.lst e1, D.lst e2, D.lst []] → ∃ es : List D, y = .lst es ∧ DeOk es := fun y hy => by
    simp only [List.mem_cons, List.not_mem_nil, or_false] at hy
    rcases hy with rfl | rfl | rfl | rfl
    · exact ⟨ds, rfl, hds, by omega⟩
    · exact ⟨e1, rfl, he1, by omega⟩
    · exact ⟨e2, rfl, he2, by omega⟩
    · exact ⟨[], rfl, (fun _ h => nomatch h), Nat.zero_le _⟩
  refine ⟨fun i ρ => ∃ s4 s5 s6 s7 : Sl, ρ = [.sl true true d7, dat (rowD ts), dat (rowD row), dat (.lst ds), s4, s5, s6, s7, .un], ⟨.un, .un, .un, .un, rfl⟩, ?_, ?_⟩
  · rintro i y ρ hi ⟨s4, s5, s6, s7, rfl⟩
    obtain ⟨es, rfl, hes⟩ := items y (List.mem_of_getElem? hi)
    have les := hes.few
    have okE : OkN 3 (.lst [rowD row, .lst es]) := okN_lst fun x hx => by
      simp only [List.mem_cons, List.not_mem_nil, or_false] at hx
      rcases hx with rfl | rfl
      · exact (okTks hrow.tk).mono (by decide)
      · exact okN_lst fun x hx => (hes.dd x hx).ok
    refine ⟨by show 2 ≤ _; omega, ?_⟩
    rcases want_tk hrow.tk es 0 0 [] hes.dd (fun _ h => nomatch h) (Nat.zero_le _) with ⟨g, hg, tg, lg⟩ | ⟨n, hn⟩
    · have lg2 : g.length ≤ 1000 := by
        have : ([] : List Str).length = 0 := rfl
        omega
      have okG : OkN 1 (rowD g) := okTks tg
      have inj : ∀ f : List Str, wantF row 0 0 [] es = .lst (f.map D.str) → f.map D.str = g.map D.str := fun f hf => by
        rw [hg] at hf; exact (D.lst.inj hf).symm
      have no : ∀ {k : Nat} {A : Prop}, wantF row 0 0 [] es = .int (k : Nat) → A := fun hk => by rw [hg] at hk; cases hk
      refine ⟨List.nodup_nil, row, es, rfl, hrow, hes, fun f s1 s2 hf => ?_, fun k s1 s2 hk => no hk⟩
      rw [inj f hf]
      refine ⟨rowD row, rfl, .lst es, rfl, List.nodup_nil, row, es, rfl, hrow, hes, fun f2 s1 s2 hf2 => ?_, fun k s1 s2 hk => no hk⟩
      rw [inj f2 hf2]
      refine ⟨"list", false, rfl, rfl, ?_⟩
      refine ⟨"list", true, rfl, rfl, "list", true, rfl, rfl, rfl, rfl, ?_⟩
      refine ⟨okG.ok, okG.ok, ?_⟩
      refine if_f (by rw [eqD_refl okG]; rfl) ?_
      refine ⟨by show 2 ≤ _; omega, okE.ok, okE.ok, ?_⟩
      refine if_f (by rw [eqD_refl okE]; rfl) ?_
      refine ⟨"list", true, rfl, rfl, ?_⟩
      refine ⟨by rw [List.length_map]; omega, ?_⟩
      refine ⟨rowD row, rfl, .lst es, rfl, List.nodup_nil, row, es, rfl, hrow, hes, fun f3 s1 s2 hf3 => ?_, fun k s1 s2 hk => no hk⟩
      rw [inj f3 hf3]
      refine ⟨okG.ok, okG.ok, ?_⟩
      exact if_f (by rw [eqD_refl okG]; rfl) ⟨_, _, _, _, rfl⟩
    · have inj : ∀ k : Nat, wantF row 0 0 [] es = .int (k : Nat) → (k : Int) = (n : Int) := fun k hk => by
        rw [hn] at hk; exact (D.int.inj hk).symm
      have no : ∀ {f : List Str} {A : Prop}, wantF row 0 0 [] es = .lst (f.map D.str) → A := fun hk => by rw [hn] at hk; cases hk
      refine ⟨List.nodup_nil, row, es, rfl, hrow, hes, fun f s1 s2 hf => no hf, fun k s1 s2 hk => ?_⟩
      rw [inj k hk]
      refine ⟨rowD row, rfl, .lst es, rfl, List.nodup_nil, row, es, rfl, hrow, hes, fun f2 s1 s2 hf2 => no hf2, fun k2 s1 s2 hk2 => ?_⟩
      rw [inj k2 hk2]
      refine ⟨"int", false, rfl, rfl, ?_⟩
      refine ⟨"int", false, rfl, rfl, "int", false, rfl, rfl, rfl, rfl, ?_⟩
      refine ⟨rfl, rfl, ?_⟩
      refine if_f (by rw [eqD_int, decide_eq_true rfl]; rfl) ?_
      refine ⟨by show 2 ≤ _; omega, okE.ok, okE.ok, ?_⟩
      refine if_f (by rw [eqD_refl okE]; rfl) ?_
      exact ⟨"int", false, rfl, rfl, ⟨_, _, _, _, rfl⟩⟩
  · rintro ρ ⟨s4, s5, s6, s7, rfl⟩
    exact q _
end
end K49
set_option maxRecDepth 100000
set_option maxHeartbeats 1000000
namespace K49
open PySem PySem.Spec PyProof.Rows L2 Yard YP
section
variable {P : Program} {w : World} {K : PySem.W.Frag} {mg : Str → Option Value} {base : Heap}
theorem sc__law_cell_at : FnScope ["script", "k"] ["script", "k"] (defScope s__law_cell_at) := ⟨rfl, rfl, rfl, by decide +kernel, rfl, by decide +kernel, by decide +kernel⟩
theorem ok__law_cell_at (T : Tx K w mg) : FnOk P w K mg base CX0 1 T.a__law_cell_at T.f__law_cell_at ["script", "k"] (spCellAt K) := by
  refine T.d__law_cell_at.fn.ok sc__law_cell_at (fun vs H Q E h => ?_) (fun cdv A outer s H vs Q E hr h => ?_)
  · obtain ⟨a, ns, k, rfl, _⟩ := h
    rfl
  · obtain ⟨a, ns, k, rfl, hS, q⟩ := h
    refine ⟨_, (pss_cons (ps_if (pt_cmpR op_lt (pv 1) (pe_callB call_len_seq (by rfl) T.z_len PySem.boot_len (pa_cons (pv 0) pa_nil)) (nomark _))
        (pss_one (ps_ret (pe_ix ix_list (pv 0) (pv 1) (fun _ _ => rfl)))) pss_nil)
      (pss_one (ps_ret pe_int))), ?_⟩
    refine ⟨_, rfl, _, rfl, a, _, rfl, .inl hS, _, _, rfl, rfl, _, rfl, ?_⟩
    by_cases hk : (k : Int) < (((ns.map V.int).length : Nat) : Int)
    · refine if_t (decide_eq_true hk) ?_
      rw [List.length_map] at hk
      have hl : k < ns.length := by omega
      refine ⟨_, rfl, _, rfl, a, _, _, _, rfl, rfl, hS, atI_nat (v := .int ns[k]) (by rw [List.getElem?_map, List.getElem?_eq_getElem hl]; rfl), ?_⟩
      exact q _
    · refine if_f (decide_eq_false hk) ?_
      exact q 0
theorem sc_law : FnScope ["script", "k"] ["script"] (defScope s_law) := ⟨rfl, rfl, rfl, by decide +kernel, rfl, by decide +kernel, by decide +kernel⟩
theorem ok_law {F : FuncData} {f : Addr} (L : Fun K "law" "law" s_law f F) (T : Tx K w mg) : FnOk P w K mg base CX0 51 f F ["script"] (spLaw K) := by
  refine L.ok sc_law (fun vs H Q E h => ?_) (fun cdv A outer s H vs Q E hr h => ?_)
  · obtain ⟨a, ns, rfl, _⟩ := h
    rfl
  · obtain ⟨sa, ns, rfl, hS, hlen, q⟩ := h
    have hr1 : Room 1 _ := hr.mono (by omega)
    have hr6 : Room 6 _ := hr.mono (by omega)
    refine ⟨_, (pss_cons (ps_for PassesOwn.never rfl (pi_range1 rfl T.z_range (pa_cons (pe_callB (call_max2 rfl) (by rfl) T.z_max (by decide +kernel) (pa_cons pe_int (pa_cons (pe_callB (call_min2 rfl) (by rfl) T.z_min (by decide +kernel) (pa_cons pe_int (pa_cons (pe_callB call_len_seq (by rfl) T.z_len PySem.boot_len (pa_cons (pv 0) pa_nil)) pa_nil))) pa_nil))) pa_nil)) (pg_name (i := 1) sc_law.nd rfl (.inl rfl))
        (pss_one (ps_if (pt_not (pt_val (pe_call (own_true (ok__law_right T)) hr6 (by rfl) T.d__law_right.at_ T.d__law_right.kp T.d__law_right.bd .nil pass0 (pa_cons (pe_call (old_of (ok__law_pot T)) hr1 (by rfl) T.d__law_pot.at_ T.d__law_pot.kp T.d__law_pot.bd .nil pass0 (pa_cons (pe_call (ok__law_cell_at T) hr1 (by rfl) T.d__law_cell_at.at_ T.d__law_cell_at.kp T.d__law_cell_at.bd .nil pass0 (pa_cons (pv 0) (pa_cons (pv 1) pa_nil))) pa_nil)) pa_nil))))
          (pss_one (ps_ret pe_bl)) pss_nil)))
      (pss_one (ps_ret pe_bl))), ?_⟩
    refine ⟨_, rfl, sa, _, rfl, .inl hS, 6, _, rfl, 1, _, rfl, _, rfl, ?_, ?_, ?_⟩
    · rw [List.length_map]; split <;> split <;> omega
    · rw [List.length_map]; split <;> split <;> omega
    generalize hm : (if (if (((ns.map V.int).length : Nat) : Int) < 6 then (((ns.map V.int).length : Nat) : Int) else 6) > 1 then (if (((ns.map V.int).length : Nat) : Int) < 6 then (((ns.map V.int).length : Nat) : Int) else 6) else 1) = m
    refine for_it (walk_range (lo := 0) (n := m.toNat)) (fun _ σ H => (∃ x1, σ = [some (.ref sa), x1]) ∧ SqL K H sa (ns.map V.int)) ⟨⟨_, rfl⟩, hS⟩ (fun _ _ _ _ _ => trivial) ?_ ?_
    · rintro i y σ H0 H1 hi ⟨⟨x1, rfl⟩, hS⟩ ⟨rfl, rfl⟩
      refine ⟨_, rfl, _, rfl, sa, ns, i, ?_, hS, fun c => ?_⟩
      · exact congrArg (fun z => [V.ref sa, V.int z]) (Int.zero_add _)
      refine ⟨[.int c], fun r ss => ∃ d, JarOk 0 d ∧ r = .own d, rfl, .cons (.int c) .nil, ⟨c, rfl, fun d s jd => ⟨d, jd, rfl⟩⟩, fun r ss v F' H' ⟨d, ⟨x, y, z, ed, hh⟩, er⟩ s1 s2 rw' => ?_⟩
      subst er ed
      obtain ⟨a, ev, ro, na⟩ := rw'
      subst ev
      have eh : H' a = some (.lst ([x, y, z].map V.int)) := by
        cases ro with
        | lst h t => rw [h, rl_ints (ns := [x, y, z]) t]
      refine ⟨a, [x, y, z], rfl, eh, ⟨_, rfl, ⟨x, y, z, rfl, hh⟩, fun _ => rfl⟩, fun H3 of => ?_⟩
      have s3 : Same _ H3 := fun b u e => of b u (fun z => by rw [z] at e; rw [s1 _ _ e] at na; cases na) (s2 b u (s1 b u e))
      exact ⟨true, rfl, if_f rfl ⟨⟨_, rfl⟩, s3.seq hS⟩⟩
    · rintro σ H3 _
      exact q _
end
end K49
set_option maxRecDepth 100000
set_option maxHeartbeats 1000000
namespace K49
open PySem PySem.Spec PyProof.Rows L2 Yard YP
/-- a def of the text, as the top has left it -/
theorem df_mk {K : PySem.W.Frag} {h : Heap} {mg : Str → Option Value} {x : Str} {st : Stmt} {ps : List Str} {f : Addr} {od an : Option Addr} {sl : Array (Option Value)} {oc kV dc pm cd ct : Value} (X : K.In h) (G : h.Ns mainGlobals mg)
    (a : PySem.W.nsIn K mainGlobals x = some (some (.ref f))) (l : K.lookup f = some ⟨oc, od, .func (PySem.W.fnOf x x (defArgs st) (defBody st) (defScope st) .none kV dc pm an cd ct), sl⟩) (c : PySem.W.codeIn K cd x = true) (k : PySem.W.keepIn K (.ref f) = true)
    (b : ∀ (kV doc pm : Value) (an : Option Addr) (cdv ct : Value) (us : List Value), us.length = ps.length → bindArgs (PySem.W.fnOf x x (defArgs st) (defBody st) (defScope st) .none kV doc pm an cdv ct) ⟨us, []⟩ = pure (ps.zip us)) :
    Df K mg x st ps f (PySem.W.fnOf x x (defArgs st) (defBody st) (defScope st) .none kV dc pm an cd ct) :=
  have F := fun_mk (st := st) l c k
  ⟨F, F.binds b, PySem.W.mg_of X G a⟩
theorem exm_sub {K : PySem.W.Frag} {cls : Value} {S : Addr} {b : Bool} (h1 : PySem.W.subIn K (.ref S) (.type "BaseException") = some true) (h2 : PySem.W.isClsIn K S = true) (h3 : PySem.W.typeIn K (.ref S) = some (.type "type")) (h4 : PySem.W.subIn K cls (.ref S) = some b) :
    PySem.W.exmOne K cls (.ref S) = some b := by
  have e1 : (PySem.W.subIn K (.ref S) (.type "BaseException") == some true) = true := by rw [h1] <;> rfl
  have e2 : ((PySem.W.clsIn K S).isSome && PySem.W.typeIn K (.ref S) == some (.type "type")) = true := by
    have h2' : (PySem.W.clsIn K S).isSome = true := h2
    rw [h2', h3] <;> rfl
  show (if (PySem.W.subIn K (.ref S) (.type "BaseException") == some true) = true then (if ((PySem.W.clsIn K S).isSome && PySem.W.typeIn K (.ref S) == some (.type "type")) = true then PySem.W.subIn K cls (.ref S) else none) else none) = some b
  rw [if_pos e1, if_pos e2]
  exact h4
theorem kit_ve {K : PySem.W.Frag} {C : Addr} (h : PySem.W.subIn K (.ref C) (.type "ValueError") = some true) : PySem.W.kitOne K (.ref C) (.type "ValueError") = some true := by
  show (if (Value.ref C == Value.type "ValueError") = true then some true else (if PySem.W.kitMeta "ValueError" = true then PySem.W.subIn K (.ref C) (.type "ValueError") else none)) = some true
  rw [if_neg (by intro z; cases z), if_pos (by decide +kernel), h]
theorem all_mk {l : PySem.W.OpenLaw} {w : World} {K : PySem.W.Frag} {h : Heap} {mg : Str → Option Value} {fa : Addr} (X : K.In h) (G : h.Ns mainGlobals mg) (hfa : mg "law" = some (.ref fa))
    {f0 : Addr} {od0 an0 : Option Addr} {sl0 : Array (Option Value)} {oc0 kV0 dc0 pm0 cd0 ct0 : Value}
    {f1 : Addr} {od1 an1 : Option Addr} {sl1 : Array (Option Value)} {oc1 kV1 dc1 pm1 cd1 ct1 : Value}
    {f2 : Addr} {od2 an2 : Option Addr} {sl2 : Array (Option Value)} {oc2 kV2 dc2 pm2 cd2 ct2 : Value}
    {f3 : Addr} {od3 an3 : Option Addr} {sl3 : Array (Option Value)} {oc3 kV3 dc3 pm3 cd3 ct3 : Value}
    {f4 : Addr} {od4 an4 : Option Addr} {sl4 : Array (Option Value)} {oc4 kV4 dc4 pm4 cd4 ct4 : Value}
    {f5 : Addr} {od5 an5 : Option Addr} {sl5 : Array (Option Value)} {oc5 kV5 dc5 pm5 cd5 ct5 : Value}
    {f6 : Addr} {od6 an6 : Option Addr} {sl6 : Array (Option Value)} {oc6 kV6 dc6 pm6 cd6 ct6 : Value}
    {f7 : Addr} {od7 an7 : Option Addr} {sl7 : Array (Option Value)} {oc7 kV7 dc7 pm7 cd7 ct7 : Value}
    {f8 : Addr} {od8 an8 : Option Addr} {sl8 : Array (Option Value)} {oc8 kV8 dc8 pm8 cd8 ct8 : Value}
    {f9 : Addr} {od9 an9 : Option Addr} {sl9 : Array (Option Value)} {oc9 kV9 dc9 pm9 cd9 ct9 : Value}
    {f10 : Addr} {od10 an10 : Option Addr} {sl10 : Array (Option Value)} {oc10 kV10 dc10 pm10 cd10 ct10 : Value}
    {f11 : Addr} {od11 an11 : Option Addr} {sl11 : Array (Option Value)} {oc11 kV11 dc11 pm11 cd11 ct11 : Value}
    {f12 : Addr} {od12 an12 : Option Addr} {sl12 : Array (Option Value)} {oc12 kV12 dc12 pm12 cd12 ct12 : Value}
    {f13 : Addr} {od13 an13 : Option Addr} {sl13 : Array (Option Value)} {oc13 kV13 dc13 pm13 cd13 ct13 : Value}
    {f14 : Addr} {od14 an14 : Option Addr} {sl14 : Array (Option Value)} {oc14 kV14 dc14 pm14 cd14 ct14 : Value}
    {c_YardError : Addr}
    {c_NoDeeds : Addr}
    {nm_NoDeeds qn_NoDeeds : Str} {N_NoDeeds : Addr} {bs_NoDeeds : List Value} {sn_NoDeeds : List Str} {su_NoDeeds : List Value} {ab_NoDeeds : Bool} {co_NoDeeds : Option Bool} {dd_NoDeeds : Option Addr} {m0_NoDeeds m1_NoDeeds m2_NoDeeds m3_NoDeeds m5_NoDeeds : Option Value}
    {fm0 : Addr} {odm0 anm0 : Option Addr} {slm0 : Array (Option Value)} {ocm0 kVm0 dcm0 pmm0 cdm0 ctm0 : Value}
    {t_LETTERS : Tok}
    {t_LONGEST : Tok}
    {a_KEPT_WORDS : Addr} {n_KEPT_WORDS : Nat} {t_KEPT_WORDS_0 t_KEPT_WORDS_1 t_KEPT_WORDS_2 t_KEPT_WORDS_3 t_KEPT_WORDS_4 : Tok} {sl_KEPT_WORDS : Array (Option Value)} {od_KEPT_WORDS : Option Addr}
    (a0 : PySem.W.nsIn K mainGlobals "is_name" = some (some (.ref f0))) (l0 : K.lookup f0 = some ⟨oc0, od0, .func (PySem.W.fnOf "is_name" "is_name" (defArgs s_is_name) (defBody s_is_name) (defScope s_is_name) .none kV0 dc0 pm0 an0 cd0 ct0), sl0⟩) (c0 : PySem.W.codeIn K cd0 "is_name" = true) (k0 : PySem.W.keepIn K (.ref f0) = true)
    (a1 : PySem.W.nsIn K mainGlobals "mended" = some (some (.ref f1))) (l1 : K.lookup f1 = some ⟨oc1, od1, .func (PySem.W.fnOf "mended" "mended" (defArgs s_mended) (defBody s_mended) (defScope s_mended) .none kV1 dc1 pm1 an1 cd1 ct1), sl1⟩) (c1 : PySem.W.codeIn K cd1 "mended" = true) (k1 : PySem.W.keepIn K (.ref f1) = true)
    (a2 : PySem.W.nsIn K mainGlobals "is_deed" = some (some (.ref f2))) (l2 : K.lookup f2 = some ⟨oc2, od2, .func (PySem.W.fnOf "is_deed" "is_deed" (defArgs s_is_deed) (defBody s_is_deed) (defScope s_is_deed) .none kV2 dc2 pm2 an2 cd2 ct2), sl2⟩) (c2 : PySem.W.codeIn K cd2 "is_deed" = true) (k2 : PySem.W.keepIn K (.ref f2) = true)
    (a3 : PySem.W.nsIn K mainGlobals "fits" = some (some (.ref f3))) (l3 : K.lookup f3 = some ⟨oc3, od3, .func (PySem.W.fnOf "fits" "fits" (defArgs s_fits) (defBody s_fits) (defScope s_fits) .none kV3 dc3 pm3 an3 cd3 ct3), sl3⟩) (c3 : PySem.W.codeIn K cd3 "fits" = true) (k3 : PySem.W.keepIn K (.ref f3) = true)
    (a4 : PySem.W.nsIn K mainGlobals "_law_cell_at" = some (some (.ref f4))) (l4 : K.lookup f4 = some ⟨oc4, od4, .func (PySem.W.fnOf "_law_cell_at" "_law_cell_at" (defArgs s__law_cell_at) (defBody s__law_cell_at) (defScope s__law_cell_at) .none kV4 dc4 pm4 an4 cd4 ct4), sl4⟩) (c4 : PySem.W.codeIn K cd4 "_law_cell_at" = true) (k4 : PySem.W.keepIn K (.ref f4) = true)
    (a5 : PySem.W.nsIn K mainGlobals "_law_pot" = some (some (.ref f5))) (l5 : K.lookup f5 = some ⟨oc5, od5, .func (PySem.W.fnOf "_law_pot" "_law_pot" (defArgs s__law_pot) (defBody s__law_pot) (defScope s__law_pot) .none kV5 dc5 pm5 an5 cd5 ct5), sl5⟩) (c5 : PySem.W.codeIn K cd5 "_law_pot" = true) (k5 : PySem.W.keepIn K (.ref f5) = true)
    (a6 : PySem.W.nsIn K mainGlobals "_law_pick" = some (some (.ref f6))) (l6 : K.lookup f6 = some ⟨oc6, od6, .func (PySem.W.fnOf "_law_pick" "_law_pick" (defArgs s__law_pick) (defBody s__law_pick) (defScope s__law_pick) .none kV6 dc6 pm6 an6 cd6 ct6), sl6⟩) (c6 : PySem.W.codeIn K cd6 "_law_pick" = true) (k6 : PySem.W.keepIn K (.ref f6) = true)
    (a7 : PySem.W.nsIn K mainGlobals "_law_names" = some (some (.ref f7))) (l7 : K.lookup f7 = some ⟨oc7, od7, .func (PySem.W.fnOf "_law_names" "_law_names" (defArgs s__law_names) (defBody s__law_names) (defScope s__law_names) .none kV7 dc7 pm7 an7 cd7 ct7), sl7⟩) (c7 : PySem.W.codeIn K cd7 "_law_names" = true) (k7 : PySem.W.keepIn K (.ref f7) = true)
    (a8 : PySem.W.nsIn K mainGlobals "_law_good_name" = some (some (.ref f8))) (l8 : K.lookup f8 = some ⟨oc8, od8, .func (PySem.W.fnOf "_law_good_name" "_law_good_name" (defArgs s__law_good_name) (defBody s__law_good_name) (defScope s__law_good_name) .none kV8 dc8 pm8 an8 cd8 ct8), sl8⟩) (c8 : PySem.W.codeIn K cd8 "_law_good_name" = true) (k8 : PySem.W.keepIn K (.ref f8) = true)
    (a9 : PySem.W.nsIn K mainGlobals "_law_want" = some (some (.ref f9))) (l9 : K.lookup f9 = some ⟨oc9, od9, .func (PySem.W.fnOf "_law_want" "_law_want" (defArgs s__law_want) (defBody s__law_want) (defScope s__law_want) .none kV9 dc9 pm9 an9 cd9 ct9), sl9⟩) (c9 : PySem.W.codeIn K cd9 "_law_want" = true) (k9 : PySem.W.keepIn K (.ref f9) = true)
    (a10 : PySem.W.nsIn K mainGlobals "_law_deeds" = some (some (.ref f10))) (l10 : K.lookup f10 = some ⟨oc10, od10, .func (PySem.W.fnOf "_law_deeds" "_law_deeds" (defArgs s__law_deeds) (defBody s__law_deeds) (defScope s__law_deeds) .none kV10 dc10 pm10 an10 cd10 ct10), sl10⟩) (c10 : PySem.W.codeIn K cd10 "_law_deeds" = true) (k10 : PySem.W.keepIn K (.ref f10) = true)
    (a11 : PySem.W.nsIn K mainGlobals "_law_bad" = some (some (.ref f11))) (l11 : K.lookup f11 = some ⟨oc11, od11, .func (PySem.W.fnOf "_law_bad" "_law_bad" (defArgs s__law_bad) (defBody s__law_bad) (defScope s__law_bad) .none kV11 dc11 pm11 an11 cd11 ct11), sl11⟩) (c11 : PySem.W.codeIn K cd11 "_law_bad" = true) (k11 : PySem.W.keepIn K (.ref f11) = true)
    (a12 : PySem.W.nsIn K mainGlobals "_law_told" = some (some (.ref f12))) (l12 : K.lookup f12 = some ⟨oc12, od12, .func (PySem.W.fnOf "_law_told" "_law_told" (defArgs s__law_told) (defBody s__law_told) (defScope s__law_told) .none kV12 dc12 pm12 an12 cd12 ct12), sl12⟩) (c12 : PySem.W.codeIn K cd12 "_law_told" = true) (k12 : PySem.W.keepIn K (.ref f12) = true)
    (a13 : PySem.W.nsIn K mainGlobals "_law_right" = some (some (.ref f13))) (l13 : K.lookup f13 = some ⟨oc13, od13, .func (PySem.W.fnOf "_law_right" "_law_right" (defArgs s__law_right) (defBody s__law_right) (defScope s__law_right) .none kV13 dc13 pm13 an13 cd13 ct13), sl13⟩) (c13 : PySem.W.codeIn K cd13 "_law_right" = true) (k13 : PySem.W.keepIn K (.ref f13) = true)
    (a14 : PySem.W.nsIn K mainGlobals "law" = some (some (.ref f14))) (l14 : K.lookup f14 = some ⟨oc14, od14, .func (PySem.W.fnOf "law" "law" (defArgs s_law) (defBody s_law) (defScope s_law) .none kV14 dc14 pm14 an14 cd14 ct14), sl14⟩) (c14 : PySem.W.codeIn K cd14 "law" = true) (k14 : PySem.W.keepIn K (.ref f14) = true)
    (aC_YardError : PySem.W.nsIn K mainGlobals "YardError" = some (some (.ref c_YardError)))
    (aC_NoDeeds : PySem.W.nsIn K mainGlobals "NoDeeds" = some (some (.ref c_NoDeeds)))
    (ye_YardError : PySem.W.subIn K (.ref c_YardError) (.type "BaseException") = some true) (yc_YardError : PySem.W.isClsIn K c_YardError = true) (yt_YardError : PySem.W.typeIn K (.ref c_YardError) = some (.type "type"))
    (hn0 : PySem.W.specialIn K (.builtin "object.__class__") "__get__" = some (some (.builtin "getset_descriptor.__get__"))) (ht0 : PySem.W.takesIn K (.builtin "object.__class__") = some true)
    (xL_NoDeeds : K.lookup c_NoDeeds = some (excClassObj nm_NoDeeds qn_NoDeeds c_NoDeeds N_NoDeeds bs_NoDeeds [.ref c_YardError, .type "ValueError", .type "Exception", .type "BaseException", .type "object"] true sn_NoDeeds su_NoDeeds ab_NoDeeds co_NoDeeds dd_NoDeeds m0_NoDeeds m1_NoDeeds m2_NoDeeds m3_NoDeeds m5_NoDeeds "ValueError.__new__"))
    (sa_NoDeeds : PySem.W.findIn K (.ref c_NoDeeds) "__setattr__" = some (some (.builtin "object.__setattr__")))
    (ga_NoDeeds : PySem.W.findIn K (.ref c_NoDeeds) "__getattribute__" = some (some (.builtin "BaseException.__getattribute__")))
    (gg_NoDeeds : PySem.W.findIn K (.ref c_NoDeeds) "__getattr__" = some none)
    (xe_NoDeeds : PySem.W.subIn K (.ref c_NoDeeds) (.type "BaseException") = some true)
    (xt_NoDeeds : PySem.W.typeIn K (.ref c_NoDeeds) = some (.type "type"))
    (kC_NoDeeds : PySem.W.keepIn K (.ref c_NoDeeds) = true)
    (hd_NoDeeds : PySem.W.hasDictIn K c_NoDeeds = true)
    (cc_NoDeeds : PySem.W.findIn K (.ref c_NoDeeds) "__class__" = some (some (.builtin "object.__class__")))
    (mo_NoDeeds : PySem.W.mroIn K c_NoDeeds (.type "object") = some true)
    (sv_NoDeeds : PySem.W.subIn K (.ref c_NoDeeds) (.type "ValueError") = some true)
    (ss_NoDeeds : PySem.W.subIn K (.ref c_NoDeeds) (.ref c_YardError) = some true)
    (n_NoDeeds_at : PySem.W.findIn K (.ref c_NoDeeds) "at" = some none)
    (am0 : PySem.W.findIn K (.ref c_NoDeeds) "__init__" = some (some (.ref fm0))) (lm0 : K.lookup fm0 = some ⟨ocm0, odm0, .func (PySem.W.fnOf "__init__" "NoDeeds.__init__" (defArgs s_NoDeeds___init__) (defBody s_NoDeeds___init__) (defScope s_NoDeeds___init__) .none kVm0 dcm0 pmm0 anm0 cdm0 ctm0), slm0⟩) (cm0 : PySem.W.codeIn K cdm0 "NoDeeds.__init__" = true) (km0 : PySem.W.keepIn K (.ref fm0) = true)
    (im0 : PySem.W.typeIn K (.ref fm0) = some (.type "function"))
    (g_LETTERS : PySem.W.nsIn K mainGlobals "LETTERS" = some (some (.str "abcdefghijklmnopqrstuvwxyz" t_LETTERS)))
    (g_LONGEST : PySem.W.nsIn K mainGlobals "LONGEST" = some (some (.int 8 t_LONGEST)))
    (g_KEPT_WORDS : PySem.W.nsIn K mainGlobals "KEPT_WORDS" = some (some (.ref a_KEPT_WORDS))) (lt_KEPT_WORDS : K.lookup a_KEPT_WORDS = some ⟨.type "tuple", od_KEPT_WORDS, .seq #[.str "word" t_KEPT_WORDS_0, .str "skip" t_KEPT_WORDS_1, .str "rule" t_KEPT_WORDS_2, .str "top" t_KEPT_WORDS_3, .str "bar" t_KEPT_WORDS_4] n_KEPT_WORDS, sl_KEPT_WORDS⟩)
    (z_ValueError : PySem.W.nsIn K mainGlobals "ValueError" = some none)
    (z_all : PySem.W.nsIn K mainGlobals "all" = some none)
    (z_bool : PySem.W.nsIn K mainGlobals "bool" = some none)
    (z_enumerate : PySem.W.nsIn K mainGlobals "enumerate" = some none)
    (z_int : PySem.W.nsIn K mainGlobals "int" = some none)
    (z_isinstance : PySem.W.nsIn K mainGlobals "isinstance" = some none)
    (z_len : PySem.W.nsIn K mainGlobals "len" = some none)
    (z_list : PySem.W.nsIn K mainGlobals "list" = some none)
    (z_max : PySem.W.nsIn K mainGlobals "max" = some none)
    (z_min : PySem.W.nsIn K mainGlobals "min" = some none)
    (z_range : PySem.W.nsIn K mainGlobals "range" = some none)
    (z_str : PySem.W.nsIn K mainGlobals "str" = some none)
    (z_tuple : PySem.W.nsIn K mainGlobals "tuple" = some none) :
    ∃ fd : FuncData, (∀ (s : Shared) (v : Value), BindsTo s fd ⟨[v], []⟩ [("script", v)]) ∧ ∀ base : Heap, K.In base → base.Ns mainGlobals mg → FnOk l.prog w K mg base CX0 51 fa fd ["script"] (spLaw K) := by
  have e := hfa.symm.trans (PySem.W.mg_of X G a14)
  cases e
  have F := fun_mk (st := s_law) l14 c14 k14
  have D0 := df_mk (st := s_is_name) (ps := ["thing"]) X G a0 l0 c0 k0 fun _ _ _ _ _ _ us hl => match us, hl with | [_], _ => rfl
  have D1 := df_mk (st := s_mended) (ps := ["row", "deeds"]) X G a1 l1 c1 k1 fun _ _ _ _ _ _ us hl => match us, hl with | [_, _], _ => rfl
  have D2 := df_mk (st := s_is_deed) (ps := ["thing"]) X G a2 l2 c2 k2 fun _ _ _ _ _ _ us hl => match us, hl with | [_], _ => rfl
  have D3 := df_mk (st := s_fits) (ps := ["row", "at", "deed"]) X G a3 l3 c3 k3 fun _ _ _ _ _ _ us hl => match us, hl with | [_, _, _], _ => rfl
  have D4 := df_mk (st := s__law_cell_at) (ps := ["script", "k"]) X G a4 l4 c4 k4 fun _ _ _ _ _ _ us hl => match us, hl with | [_, _], _ => rfl
  have D5 := df_mk (st := s__law_pot) (ps := ["cell"]) X G a5 l5 c5 k5 fun _ _ _ _ _ _ us hl => match us, hl with | [_], _ => rfl
  have D6 := df_mk (st := s__law_pick) (ps := ["pot", "many"]) X G a6 l6 c6 k6 fun _ _ _ _ _ _ us hl => match us, hl with | [_, _], _ => rfl
  have D7 := df_mk (st := s__law_names) (ps := ["pot", "many"]) X G a7 l7 c7 k7 fun _ _ _ _ _ _ us hl => match us, hl with | [_, _], _ => rfl
  have D8 := df_mk (st := s__law_good_name) (ps := ["kind"]) X G a8 l8 c8 k8 fun _ _ _ _ _ _ us hl => match us, hl with | [_], _ => rfl
  have D9 := df_mk (st := s__law_want) (ps := ["row", "deeds"]) X G a9 l9 c9 k9 fun _ _ _ _ _ _ us hl => match us, hl with | [_, _], _ => rfl
  have D10 := df_mk (st := s__law_deeds) (ps := ["pot", "row", "tokens"]) X G a10 l10 c10 k10 fun _ _ _ _ _ _ us hl => match us, hl with | [_, _, _], _ => rfl
  have D11 := df_mk (st := s__law_bad) (ps := ["pot", "row", "deeds"]) X G a11 l11 c11 k11 fun _ _ _ _ _ _ us hl => match us, hl with | [_, _, _], _ => rfl
  have D12 := df_mk (st := s__law_told) (ps := ["row", "deeds"]) X G a12 l12 c12 k12 fun _ _ _ _ _ _ us hl => match us, hl with | [_, _], _ => rfl
  have D13 := df_mk (st := s__law_right) (ps := ["pot"]) X G a13 l13 c13 k13 fun _ _ _ _ _ _ us hl => match us, hl with | [_], _ => rfl
  have D14 := df_mk (st := s_law) (ps := ["script"]) X G a14 l14 c14 k14 fun _ _ _ _ _ _ us hl => match us, hl with | [_], _ => rfl
  have FM0 := fun_mk (st := s_NoDeeds___init__) lm0 cm0 km0
  have BM0 := FM0.binds (ps := ["self", "at"]) fun _ _ _ _ _ _ us hl => match us, hl with | [_, _], _ => rfl
  have T : Tx K w mg := {
    a_is_name := f0,
    f_is_name := _,
    d_is_name := D0,
    a_mended := f1,
    f_mended := _,
    d_mended := D1,
    a_is_deed := f2,
    f_is_deed := _,
    d_is_deed := D2,
    a_fits := f3,
    f_fits := _,
    d_fits := D3,
    a__law_cell_at := f4,
    f__law_cell_at := _,
    d__law_cell_at := D4,
    a__law_pot := f5,
    f__law_pot := _,
    d__law_pot := D5,
    a__law_pick := f6,
    f__law_pick := _,
    d__law_pick := D6,
    a__law_names := f7,
    f__law_names := _,
    d__law_names := D7,
    a__law_good_name := f8,
    f__law_good_name := _,
    d__law_good_name := D8,
    a__law_want := f9,
    f__law_want := _,
    d__law_want := D9,
    a__law_deeds := f10,
    f__law_deeds := _,
    d__law_deeds := D10,
    a__law_bad := f11,
    f__law_bad := _,
    d__law_bad := D11,
    a__law_told := f12,
    f__law_told := _,
    d__law_told := D12,
    a__law_right := f13,
    f__law_right := _,
    d__law_right := D13,
    a_law := fa,
    f_law := _,
    d_law := D14,
    c_YardError := c_YardError,
    g_YardError := PySem.W.mg_of X G aC_YardError,
    c_NoDeeds := c_NoDeeds,
    g_NoDeeds := PySem.W.mg_of X G aC_NoDeeds,
    x_NoDeeds := ⟨PySem.W.mg_of X G aC_NoDeeds, ⟨⟨nm_NoDeeds, qn_NoDeeds, N_NoDeeds, bs_NoDeeds, _, sn_NoDeeds, su_NoDeeds, ab_NoDeeds, co_NoDeeds, dd_NoDeeds, m0_NoDeeds, m1_NoDeeds, m2_NoDeeds, m3_NoDeeds, m5_NoDeeds, xL_NoDeeds, rfl⟩, sa_NoDeeds, xe_NoDeeds, xt_NoDeeds, kC_NoDeeds⟩, ⟨ga_NoDeeds, gg_NoDeeds, xe_NoDeeds, hd_NoDeeds⟩, ⟨ga_NoDeeds, gg_NoDeeds, xe_NoDeeds, hd_NoDeeds, cc_NoDeeds, hn0, ht0, mo_NoDeeds⟩⟩,
    s_NoDeeds := exm_sub ye_YardError yc_YardError yt_YardError ss_NoDeeds,
    v_NoDeeds := kit_ve sv_NoDeeds,
    n_NoDeeds_at := n_NoDeeds_at,
    a_NoDeeds___init__ := fm0,
    f_NoDeeds___init__ := _,
    d_NoDeeds___init__ := FM0,
    b_NoDeeds___init__ := BM0,
    k_NoDeeds___init__ := am0,
    t_NoDeeds___init__ := im0,
    t_LETTERS := t_LETTERS,
    g_LETTERS := PySem.W.mg_of X G g_LETTERS,
    t_LONGEST := t_LONGEST,
    g_LONGEST := PySem.W.mg_of X G g_LONGEST,
    a_KEPT_WORDS := a_KEPT_WORDS,
    g_KEPT_WORDS := PySem.W.mg_of X G g_KEPT_WORDS,
    k_KEPT_WORDS := fun H => .inr ⟨_, _, _, lt_KEPT_WORDS, rfl, rfl, by show 5 ≤ sizeLine; decide, (.cons ⟨_, rfl⟩ (.cons ⟨_, rfl⟩ (.cons ⟨_, rfl⟩ (.cons ⟨_, rfl⟩ (.cons ⟨_, rfl⟩ .nil)))))⟩,
    z_ValueError := PySem.W.mg_none_of X G z_ValueError,
    z_all := PySem.W.mg_none_of X G z_all,
    z_bool := PySem.W.mg_none_of X G z_bool,
    z_enumerate := PySem.W.mg_none_of X G z_enumerate,
    z_int := PySem.W.mg_none_of X G z_int,
    z_isinstance := PySem.W.mg_none_of X G z_isinstance,
    z_len := PySem.W.mg_none_of X G z_len,
    z_list := PySem.W.mg_none_of X G z_list,
    z_max := PySem.W.mg_none_of X G z_max,
    z_min := PySem.W.mg_none_of X G z_min,
    z_range := PySem.W.mg_none_of X G z_range,
    z_str := PySem.W.mg_none_of X G z_str,
    z_tuple := PySem.W.mg_none_of X G z_tuple }
  exact ⟨_, fun s v => .of_eq rfl, fun base _ _ => ok_law F T⟩
theorem walk {l : PySem.W.OpenLaw} {q : Program} {loose : List Str} {XP : (Str → Option Value) → Heap → Prop} {YP : World → Heap → Prop} {d : DefRec} {K : Params → PySem.W.Frag} (hn : l.most = some 63) (hdf : d.params.defaults = [])
    (hY : ∀ (w : World) (h : Heap), YP w h → (K w.params).In h)
    (F : ∀ (w : World) (mg : Str → Option Value) (fa : Addr) (h : Heap), (K w.params).In h → h.Ns mainGlobals mg → mg d.name = some (.ref fa) →
      ∃ fd : FuncData, (∀ (s : Shared) (u : Value), BindsTo s fd ⟨[u], []⟩ [("script", u)]) ∧ ∀ base : Heap, (K w.params).In base → base.Ns mainGlobals mg → FnOk l.prog w (K w.params) mg base CX0 51 fa fd ["script"] (spLaw (K w.params))) :
    PySem.W.WalkO q loose XP YP l.row.toRowW d [] (fun f vs => PySem.call f vs) :=
  L2.walk_of (n := 63) (k := 51) (x := "script") (CX := fun _ => CX0) (sp := fun w => spLaw (K w.params)) hn (by decide) hdf ⟨rfl, by decide, by decide⟩ hY F (fun _ _ a ns hl _ hS => ⟨a, ns, rfl, hS, hl, fun _ => rfl⟩) fun _ _ _ _ _ z => z
end K49
open PySem PySem.W PyProof.Rows
set_option maxHeartbeats 0 in
theorem PySem.Challenge.cw_tongueyard_k49_deeds_done_holds : PySem.Challenge.rw_tongueyard_k49_deeds_done.Holds := by
  w_on; o_law; k_head; (case hw => w_witness2)
  k_fill
  refine K49.walk (l := PySem.Challenge.rw_tongueyard_k49_deeds_done) rfl rfl (fun w h Y => PySem.W.kIn_of Y) ?F
  case F =>
    intro w mg fa h KX G hmg
    refine' K49.all_mk KX G hmg ?a0 ?l0 ?c0 ?k0 ?a1 ?l1 ?c1 ?k1 ?a2 ?l2 ?c2 ?k2 ?a3 ?l3 ?c3 ?k3 ?a4 ?l4 ?c4 ?k4 ?a5 ?l5 ?c5 ?k5 ?a6 ?l6 ?c6 ?k6 ?a7 ?l7 ?c7 ?k7 ?a8 ?l8 ?c8 ?k8 ?a9 ?l9 ?c9 ?k9 ?a10 ?l10 ?c10 ?k10 ?a11 ?l11 ?c11 ?k11 ?a12 ?l12 ?c12 ?k12 ?a13 ?l13 ?c13 ?k13 ?a14 ?l14 ?c14 ?k14 ?aC_YardError ?aC_NoDeeds ?ye_YardError ?yc_YardError ?yt_YardError ?hn0 ?ht0 ?xL_NoDeeds ?sa_NoDeeds ?ga_NoDeeds ?gg_NoDeeds ?xe_NoDeeds ?xt_NoDeeds ?kC_NoDeeds ?hd_NoDeeds ?cc_NoDeeds ?mo_NoDeeds ?sv_NoDeeds ?ss_NoDeeds ?n_NoDeeds_at ?am0 ?lm0 ?cm0 ?km0 ?im0 ?g_LETTERS ?g_LONGEST ?g_KEPT_WORDS ?lt_KEPT_WORDS ?z_ValueError ?z_all ?z_bool ?z_enumerate ?z_int ?z_isinstance ?z_len ?z_list ?z_max ?z_min ?z_range ?z_str ?z_tuple
    (case a0 => first | k_is | rfl)
    (case l0 => first | k_is | rfl)
    (case c0 => first | k_is | rfl)
    (case k0 => first | k_is | rfl)
    (case a1 => first | k_is | rfl)
    (case l1 => first | k_is | rfl)
    (case c1 => first | k_is | rfl)
    (case k1 => first | k_is | rfl)
    (case a2 => first | k_is | rfl)
    (case l2 => first | k_is | rfl)
    (case c2 => first | k_is | rfl)
    (case k2 => first | k_is | rfl)
    (case a3 => first | k_is | rfl)
    (case l3 => first | k_is | rfl)
    (case c3 => first | k_is | rfl)
    (case k3 => first | k_is | rfl)
    (case a4 => first | k_is | rfl)
    (case l4 => first | k_is | rfl)
    (case c4 => first | k_is | rfl)
    (case k4 => first | k_is | rfl)
    (case a5 => first | k_is | rfl)
    (case l5 => first | k_is | rfl)
    (case c5 => first | k_is | rfl)
    (case k5 => first | k_is | rfl)
    (case a6 => first | k_is | rfl)
    (case l6 => first | k_is | rfl)
    (case c6 => first | k_is | rfl)
    (case k6 => first | k_is | rfl)
    (case a7 => first | k_is | rfl)
    (case l7 => first | k_is | rfl)
    (case c7 => first | k_is | rfl)
    (case k7 => first | k_is | rfl)
    (case a8 => first | k_is | rfl)
    (case l8 => first | k_is | rfl)
    (case c8 => first | k_is | rfl)
    (case k8 => first | k_is | rfl)
    (case a9 => first | k_is | rfl)
    (case l9 => first | k_is | rfl)
    (case c9 => first | k_is | rfl)
    (case k9 => first | k_is | rfl)
    (case a10 => first | k_is | rfl)
    (case l10 => first | k_is | rfl)
    (case c10 => first | k_is | rfl)
    (case k10 => first | k_is | rfl)
    (case a11 => first | k_is | rfl)
    (case l11 => first | k_is | rfl)
    (case c11 => first | k_is | rfl)
    (case k11 => first | k_is | rfl)
    (case a12 => first | k_is | rfl)
    (case l12 => first | k_is | rfl)
    (case c12 => first | k_is | rfl)
    (case k12 => first | k_is | rfl)
    (case a13 => first | k_is | rfl)
    (case l13 => first | k_is | rfl)
    (case c13 => first | k_is | rfl)
    (case k13 => first | k_is | rfl)
    (case a14 => first | k_is | rfl)
    (case l14 => first | k_is | rfl)
    (case c14 => first | k_is | rfl)
    (case k14 => first | k_is | rfl)
    (case aC_YardError => first | k_is | rfl)
    (case aC_NoDeeds => first | k_is | rfl)
    (case ye_YardError => first | k_is | rfl)
    (case yc_YardError => first | k_is | rfl)
    (case yt_YardError => first | k_is | rfl)
    (case hn0 => first | k_is | rfl)
    (case ht0 => first | k_is | rfl)
    (case xL_NoDeeds => first | k_is | rfl)
    (case sa_NoDeeds => first | k_is | rfl)
    (case ga_NoDeeds => first | k_is | rfl)
    (case gg_NoDeeds => first | k_is | rfl)
    (case xe_NoDeeds => first | k_is | rfl)
    (case xt_NoDeeds => first | k_is | rfl)
    (case kC_NoDeeds => first | k_is | rfl)
    (case hd_NoDeeds => first | k_is | rfl)
    (case cc_NoDeeds => first | k_is | rfl)
    (case mo_NoDeeds => first | k_is | rfl)
    (case sv_NoDeeds => first | k_is | rfl)
    (case ss_NoDeeds => first | k_is | rfl)
    (case n_NoDeeds_at => first | k_is | rfl)
    (case am0 => first | k_is | rfl)
    (case lm0 => first | k_is | rfl)
    (case cm0 => first | k_is | rfl)
    (case km0 => first | k_is | rfl)
    (case im0 => first | k_is | rfl)
    (case g_LETTERS => first | k_is | rfl)
    (case g_LONGEST => first | k_is | rfl)
    (case g_KEPT_WORDS => first | k_is | rfl)
    (case lt_KEPT_WORDS => first | k_is | rfl)
    (case z_ValueError => first | k_is | rfl)
    (case z_all => first | k_is | rfl)
    (case z_bool => first | k_is | rfl)
    (case z_enumerate => first | k_is | rfl)
    (case z_int => first | k_is | rfl)
    (case z_isinstance => first | k_is | rfl)
    (case z_len => first | k_is | rfl)
    (case z_list => first | k_is | rfl)
    (case z_max => first | k_is | rfl)
    (case z_min => first | k_is | rfl)
    (case z_range => first | k_is | rfl)
    (case z_str => first | k_is | rfl)
    (case z_tuple => first | k_is | rfl)
