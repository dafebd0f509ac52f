import PyProof.Rows.All
import Wide.All
import OpenK.AllK
import Wide.FinOn
import HandS.Base
import HandS.Call
import HandS.List
import HandS.Ends
import HandS.Words
import PyProof.ReprRoads
import PyProof.EqAt
import PyProof.EqKinds
import HandS.OwnEq
import KE.KCallOwn
import HandS.Comp
import HandS.Codes
import HandS.Lambda
import HandS.Nested
import HandS.Iter
import HandS.ExcInit
import HandS.ExcField
import HandS.Exc
import HandS.IsInst
import HandS.Text
import HandS.StrMore
import HandS.ExcOwn
import HandS.TryOnly
import HandS.Walk
import PyProof.P3In
import HandS.WordsExc
import HandS.Defaults
import HandS.FStr
import HandS.FStrTup
import PyProof.NeKinds
import HandS.Conv
import KE.RegKIsAll
import HandS.Set
import HandS.SetFor
import HandS.Zip
import HandS.Strs
import HandS.SortInts
import HandS.SortOrd
import HandS.ExcValue
import HandS.WordsList
import KE.GoesEnum
import KE.GoesMore
import HandS.Deep
import HandS.ClsMeth
import HandS.TupAny
import HandS.Star
import HandS.Property
import HandS.Small
import HandS.Flow
import HandS.More
import HandS.TupLe
import KE.KNestM
import HandS.EndTab
import HandS.ExcIs
import PySem.Challenge.RW_lineturns_k65_rounds_and_changes_taken_b
set_option Elab.async false
set_option linter.all false
set_option maxRecDepth 100000
set_option maxHeartbeats 4000000
namespace L2
open PySem PySem.Spec PyProof.Rows
/-- a def's promise where nothing that repr looks for is under way -/
def FnG (P : Program) (w : World) (K : PySem.W.Frag) (mg : Str → Option Value) (base : Heap) (CX : CXT) (k : Nat) (f : Addr) (fd : FuncData) (ps : List Str) (sp : Sp) : Prop :=
  ∀ (A : Around) (outer : List Env) (s : Shared) (H : Hp) (args : Args) (us : List Value) (vs : List V) (Q : VK) (E : XK), A.guards = some [] → Room k A → Env0 P w K mg base A outer s H →
    BindsTo s fd args (ps.zip us) → Vals vs us → sp vs H Q E → codeAny (model P w) A (.call (.ref f) args) (CR CX outer P w H s Q E) s
section
variable {P : Program} {w : World} {K : PySem.W.Frag} {mg : Str → Option Value} {base : Heap}
theorem Fun.okG {x qual : Str} {st : Stmt} {f : Addr} {fd : FuncData} {N ps : List Str} {k : Nat} {sp : Sp} (F : Fun K x qual st f fd) (S : FnScope N ps (defScope st)) (len : ∀ vs H Q E, sp vs H Q E → vs.length = ps.length)
    (body : ∀ (cdv : Value) (A : Around) (outer : List Env) (s : Shared) (H : Hp) (vs : List V) (Q : VK) (E : XK), (A.deeper (envOfC qual (defScope st) s.heap.objs.size f cdv)).guards = some [] →
      Room k (A.deeper (envOfC qual (defScope st) s.heap.objs.size f cdv)) → sp vs H Q E →
      ∃ t, PSs (cxOf CX0 P w K mg base N qual (defScope st) f cdv A outer s H E).nox (defBody st) t ∧ t { nx := fun _ J => Q .non J, rt := Q } (start N vs) H) : FnG P w K mg base CX0 (k + 1) f fd ps sp := by
  obtain ⟨oc, od, kV, doc, pm, an, cdv, ct, osl, rfl, lk, code⟩ := F.ex
  intro A outer s H args us vs Q E hg hr env bind rel hsp
  have n := len _ _ _ _ hsp
  have inK : K.In s.heap := env.mod.kin.keeps fun b o e => (env.bs b o e).1
  have free : s.heap.NoLimit := env.mod.nolimit.keeps fun b o e => (env.bs b o e).1
  have names : ∀ y ∈ ps.zip us, (defScope st).names.lookup y.1 = some .local ∨
      ((defScope st).names.lookup y.1 = some .cell ∧ ((cellsFrom (s.heap.objs.size + 1) (defScope st).names []).lookup y.1).isSome = true) := by
    rintro ⟨z, v⟩ hz
    rcases S.par z (List.of_mem_zip hz).1 with e | e
    · exact .inl e
    · exact .inr ⟨e, PySem.W.cellsFrom_some _ _ _ (.inl e)⟩
  refine codeAny_call_function hr.depth (inK _ _ lk) rfl S.co S.gen rfl (PySem.W.codeRec_of inK code)
    (bind _ _ _ _ (wpAny_newFunctionEnv_cells S.kind names fun env' he s1 x => ?_))
  subst he
  refine ⟨free.keeps x.toInCall.keep, codeAny_func ?_⟩
  obtain ⟨t, ht, q⟩ := body cdv A outer s H vs Q E hg (hr.deeper _) hsp
  have I0 : Inv (cxOf CX0 P w K mg base N qual (defScope st) f cdv A outer s H E) [] (start N vs) H s1 :=
    inv_start S hr.hd env n rel x
  have done : ∀ {τ : St} {J : Hp} {v : V} {u : Value} {s' : Shared}, Inv (cxOf CX0 P w K mg base N qual (defScope st) f cdv A outer s H E) [] τ J s' → RelV v u → Q v J → CE outer P w H s Q u s' :=
    fun {τ J v u s'} I r z => ⟨v, J, I.os, I.bare, I.base, I.hok, r, z⟩
  refine wpAny_mono (ht.nox.run [] s1 (start N vs) H _ I0 q) (fun fl s' h => ?_) fun e s' h => h
  cases fl with
  | ret u =>
    obtain ⟨v, τ, J, I, r, z⟩ := h
    exact done I r z
  | next =>
    obtain ⟨τ, J, I, z⟩ := h
    exact done (v := V.non) (u := Value.none) I rfl z
  | brk =>
    obtain ⟨_, _, _, z⟩ := h
    exact False.elim z
  | cont =>
    obtain ⟨_, _, _, z⟩ := h
    exact False.elim z
end
/-- the law's own call, nothing being under way -/
theorem law_runG {P : Program} {w : World} {K : PySem.W.Frag} {mg mb : Str → Option Value} {k : Nat} {fa a : Addr} {fd : FuncData} {x : Str} {sp : Sp} {s0 : Shared} {us : List Value} {ns : List Int}
    (inK : K.In s0.heap) (hmg : s0.heap.Ns mainGlobals mg) (hmb : s0.heap.Ns builtinsNs mb) (boot : ∀ x : Str, x ≠ "__name__" → mb x = bootBuiltins x) (free : s0.heap.NoLimit) (hgens : s0.gens = #[])
    (obj : s0.heap.get? a = some { cls := .type "list", data := .seq us.toArray }) (isI : IntsAre us ns) (short : ns.length ≤ sizeLine) (room : Room k callerA)
    (F : ∀ base : Heap, K.In base → base.Ns mainGlobals mg → FnG P w K mg base CX0 k fa fd [x] sp) (bind : ∀ (s : Shared) (u : Value), BindsTo s fd ⟨[u], []⟩ [(x, u)])
    (hsp : ∀ H : Hp, SqL K H a (ns.map V.int) → sp [.ref a] H (fun v _ => v = .bl true) E0) :
    codeAny (model P w) callerA (.call (.ref fa) ⟨[.ref a], []⟩) (fun r s' => r = .ok (.ret (.bool true)) ∧ OldK s0.heap s'.heap ∧ s'.os = s0.os ∧ AllBare s'.gens) s0 := by
  have rel := vals_ints isI
  have nlen := isI.length
  have main : ∀ H : Hp, (∀ b, H b = none ∨ ∃ o xs, H b = some (.frz o (.lst xs))) → SqL K H a (ns.map V.int) → HOk P w H s0.heap → (∀ b u, H b = some u → b = a) → (∀ u, H a = some u → K.lookup a = none) →
      codeAny (model P w) callerA (.call (.ref fa) ⟨[.ref a], []⟩) (fun r s' => r = .ok (.ret (.bool true)) ∧ OldK s0.heap s'.heap ∧ s'.os = s0.os ∧ AllBare s'.gens) s0 := by
    intro H only hS ok atA notK
    have dictNo : ∀ {b : Addr} {o : Obj} {es : Array DictEntry} {ep : Nat}, s0.heap.get? b = some o → o.data = .dict es ep → H b = none := by
      intro b o es ep e d
      cases q : H b with
      | none => rfl
      | some u =>
        cases atA b u q
        rw [obj] at e
        cases e
        exact nomatch d
    have nsAt : ∀ {b : Addr} {m : Str → Option Value}, s0.heap.Ns b m → (hidT s0.heap H).Ns b m := by
      rintro b m ⟨o, es, ep, e, d, rest⟩
      exact ⟨o, es, ep, hidT_get e (dictNo e d), d, rest⟩
    have inB : K.In (hidT s0.heap H) := fun b o e => by
      refine hidT_get (inK b o e) ?_
      cases q : H b with
      | none => rfl
      | some u =>
        cases atA b u q
        rw [notK u q] at e
        cases e
    obtain ⟨mc, lim1, lim2⟩ := free
    have modB : Mod K mg (hidT s0.heap H) := ⟨inB, nsAt hmg, ⟨mb, nsAt hmb, boot⟩, mc, nsAt lim1, lim2⟩
    have env : Env0 P w K mg (hidT s0.heap H) callerA [] s0 H :=
      ⟨rfl, modB, fun b o => of_hidT, Nat.le_of_eq (hidT_size _ _), trivial, (fun b hb => by cases hb), ok, .of_eq hgens⟩
    refine codeAny_mono (F _ inB (nsAt hmg) callerA [] s0 H ⟨[.ref a], []⟩ [.ref a] [.ref a] _ _ rfl room env (bind s0 (.ref a)) (.cons rfl .nil) (hsp H hS)) fun r s' h => ?_
    cases r with
    | error e => exact h.elim
    | ok fl =>
      cases fl with
      | next => exact h.elim
      | brk => exact h.elim
      | cont => exact h.elim
      | ret u =>
        obtain ⟨v, J, os, bare, un, ok', rv, ev⟩ := h
        have ev' : v = .bl true := ev
        subst ev'
        obtain rfl : u = Value.bool true := rv
        refine ⟨rfl, OldK.of_keep fun b o e => ?_, os, bare⟩
        rcases only b with z | ⟨ob, xs, z⟩
        · exact un.keep b o e z (fun m => by cases m) (fun m => by cases m)
        · obtain ⟨e1, _⟩ := ok b _ z
          obtain ⟨e2, _⟩ := ok' b _ (un.frzs b ob _ z)
          rw [e] at e1
          cases e1
          exact e2
  cases inMod : K.lookup a with
  | some o =>
    have e := inK a o inMod
    rw [obj] at e
    cases e
    have sz : us.toArray.size ≤ sizeLine := by
      rw [List.size_toArray, nlen]
      exact short
    have no : ∀ (b : Addr) (u : HO), (fun _ : Addr => (none : Option HO)) b = some u → False := fun b u z => nomatch z
    exact main (fun _ => none) (fun _ => .inl rfl) (.inr ⟨_, us.toArray, _, inMod, rfl, rfl, rfl, sz, by simpa using rel⟩) (fun b u z => (no b u z).elim) (fun b u z => (no b u z).elim) fun u z => (no a u z).elim
  | none =>
    have hit : ∀ (b : Addr) (u : HO), (fun c : Addr => if c = a then some (HO.frz { cls := .type "list", data := .seq us.toArray } (.lst (ns.map V.int))) else none) b = some u →
        b = a ∧ u = .frz { cls := .type "list", data := .seq us.toArray } (.lst (ns.map V.int)) := by
      intro b u z
      by_cases hb : b = a
      · exact ⟨hb, (Option.some.inj ((if_pos hb).symm.trans z)).symm⟩
      · exact nomatch ((if_neg hb).symm.trans z)
    refine main (fun c => if c = a then some (.frz { cls := .type "list", data := .seq us.toArray } (.lst (ns.map V.int))) else none) (fun b => ?_) (.inl (.inr ⟨_, if_pos rfl⟩)) (fun b u z => ?_) (fun b u z => (hit b u z).1) fun _ _ => inMod
    · by_cases hb : b = a
      · exact .inr ⟨_, _, if_pos hb⟩
      · exact .inl (if_neg hb)
    · obtain ⟨rfl, rfl⟩ := hit b u z
      exact ⟨obj, by rw [List.length_map]; exact short, us, _, rel, obj⟩
theorem walk_ofG {l : PySem.W.OpenLaw} {n k : Nat} {q : Program} {loose : List Str} {XP : (Str → Option Value) → Heap → Prop} {YP : World → Heap → Prop} {d : DefRec} {K : Params → PySem.W.Frag} {sp : World → Sp} {x : Str}
    (hn : l.most = some n) (hn2 : n ≤ sizeLine) (hdf : d.params.defaults = []) (hr : Room k callerA) (hY : ∀ (w : World) (h : Heap), YP w h → (K w.params).In h)
    (F : ∀ (w : World) (mg : Str → Option Value) (fa : Addr) (h : Heap), (K w.params).In h → h.Ns mainGlobals mg → mg d.name = some (.ref fa) →
      ∃ fd : FuncData, (∀ (s : Shared) (u : Value), BindsTo s fd ⟨[u], []⟩ [(x, u)]) ∧
        ∀ base : Heap, (K w.params).In base → base.Ns mainGlobals mg → FnG l.prog w (K w.params) mg base CX0 k fa fd [x] (sp w))
    (hsp : ∀ (w : World) (H : Hp) (a : Addr) (ns : List Int), ns.length ≤ n → SqL (K w.params) H a (ns.map V.int) → sp w [.ref a] H (fun v _ => v = .bl true) E0) :
    PySem.W.WalkO q loose XP YP l.row.toRowW d [] (fun f vs => PySem.call f vs) := by
  refine Att.attach_call hn hdf fun w s₀ s₁ mg mb fa o pm cd doc a vs ns G Y ho hd hcd hmg hobj hints hlen hg => ?_
  obtain ⟨fd, hb, hF⟩ := F w mg fa _ (hY w _ Y) G.T.g hmg
  exact law_runG (hY w _ Y) G.T.g G.T.b G.T.builtins G.T.nolimit hg hobj hints (Nat.le_trans hlen hn2) hr hF hb fun H hS => hsp w H a ns hlen hS
/-! ### repr of data, nothing being under way -/
def rRepr (K : PySem.W.Frag) : List V → Hp → VK → Prop := fun xs H Q => ∃ (v : V) (d : PyData), xs = [v] ∧ Dp K H v d ∧ d.showable = true ∧ d.hasDict = false ∧ d.depth ≤ 50 ∧ d.shown.length ≤ sizeLine ∧ Q (.str d.shown) H
theorem call_reprD {X : Cx} {k : Nat} (hg : X.A.guards = some []) (hr : Room k X.A) : CallR X (.builtin "repr") (rRepr X.K) := by
  intro pins s σ H xs us Q I r h
  obtain ⟨v, d, rfl, hd, hs, hn, hdep, hsz, q⟩ := h
  obtain ⟨u, rfl, rv⟩ := vals1 r
  obtain ⟨as, rd⟩ := Dp.reads I d v u hd rv
  have hun := hr.un
  have key : ∀ a, u = .ref a → wpAny (model X.prog X.w) X.A (call (.builtin "repr") [u]) (EP X pins σ Q) X.xe s := by
    intro a e
    subst e
    exact PySem.repr_of_reads' rd hs (PyData.noDict_hsm hn) hg (by omega) (fun _ _ e => e) (fun h' t tk hk => ⟨.str _, H, I.kept hk, ⟨t, rfl⟩, q⟩) hsz
  cases hd with
  | non =>
    cases rv
    exact PySem.P.repr_of_none ⟨.str _, H, I.tok _, ⟨_, rfl⟩, q⟩
  | bl b =>
    cases rv
    exact PySem.P.repr_of_bool ⟨.str _, H, I.tok _, ⟨_, rfl⟩, q⟩
  | int i =>
    obtain ⟨t, rfl⟩ := rv
    exact PySem.P.repr_of_int (by simpa [PyData.showable] using hs) ⟨.str _, H, I.tok _, ⟨_, rfl⟩, q⟩
  | str x =>
    obtain ⟨t, rfl⟩ := rv
    exact PySem.P.repr_of_str ⟨.str _, H, I.tok _, ⟨_, rfl⟩, q⟩ hsz
  | lst _ _ =>
    cases rv
    exact key _ rfl
  | tup _ _ =>
    cases rv
    exact key _ rfl
end L2
namespace LT
open PySem PySem.SeqAt
section
variable {prog : Program} {w : World} {A : Around} {E : Value → Shared → Prop} {s : Shared}
theorem str_no_own (b : Str) (u : Tok) (l C dx : Addr) :
    Meets (Builtin.«str.__eq__» ⟨[.str b u, .ref l], []⟩) (fun _ R s => s.heap.get? l = some (W.instObj C dx) ∧ R (.ok (.ret .notImplemented)) s) :=
  .of_wp fun prog w A R s h => by
    obtain ⟨hp, g, d, tk, os⟩ := s
    obtain ⟨hl, h⟩ := h
    wp_walk using AutoSeq1.wpAny_loadPart' hl, wpAny_load hl
    exact ⟨_, rfl, h⟩
/-- a text == an instance with an own ==: the text declines, the own one is asked -/
theorem rc_str_own {K : W.Frag} {b : Str} {u : Tok} {x C dx f : Addr} {Q : Value → Shared → Prop} (hu : A.units < cLine) (X : K.In s.heap) (ho : s.heap.get? x = some (W.instObj C dx)) {od : Option Obj} (I : W.InstAt s.heap x (W.instObj C dx) C od)
    (hb : W.subIn K (.ref C) (.type "str") = some false) (hs : W.findIn K (.ref C) "__eq__" = some (some (.ref f))) (hf : W.isFn K (.ref f) = true)
    (h : wpAny (model prog w) A (call (.ref f) [.ref x, .str b u]) (W.CmpBack Q) E s) : wpAny (model prog w) A (richCompare .Eq (.str b u) (.ref x)) Q E s := by
  have hT := typeIs_str s b u
  unfold richCompare
  simp only [hT.oneThing_none]
  refine wpAny_holding (wpAny_bind (wpAny_cRoomFor hu ?_))
  refine wpAny_bind (wpAny_typeOf hT (wpAny_bind (I.type.here ?_)))
  have hne : (Value.type "str" != Value.ref C) = true := rfl
  simp only [hne, if_true]
  refine wpAny_bind ((W.looks_subIn X hb).here ?_)
  simp only [Bool.false_eq_true, if_false, Bool.not_false, if_true]
  refine wpAny_bind (m := tryCompare (.str b u) _ (.ref x)) (wpAny_tryCompare_declines hT F.slot_str_eq (call_meets F.slot_str_eq hT F.entry_str_eq (F.args_str_eq_2 _ _) (str_no_own b u x C dx) ⟨ho, rfl, ?_⟩))
  refine wpAny_bind (m := tryCompare (.ref x) _ (.str b u)) ?_
  unfold tryCompare
  refine wpAny_bind (W.ifBound_K X I hs hf (wpAny_mono h (fun v s' hv => ?_) fun _ _ e => e))
  cases v <;> first | exact hv.elim | exact wpAny_pure (wpAny_pure hv)
/-- == of an item and an own instance within a tuple's own search -/
theorem eqBool_str_own {K : W.Frag} {b : Str} {u : Tok} {x C dx f : Addr} {Q : Bool → Shared → Prop} (hu : A.units < cLine) (X : K.In s.heap) (ho : s.heap.get? x = some (W.instObj C dx)) {od : Option Obj} (I : W.InstAt s.heap x (W.instObj C dx) C od)
    (hb : W.subIn K (.ref C) (.type "str") = some false) (hs : W.findIn K (.ref C) "__eq__" = some (some (.ref f))) (hf : W.isFn K (.ref f) = true)
    (h : wpAny (model prog w) A (call (.ref f) [.ref x, .str b u]) (fun v s' => ∃ r, v = .bool r ∧ Q r s') E s) : wpAny (model prog w) A (eqBool (.str b u) (.ref x)) Q E s := by
  unfold eqBool
  refine wpAny_holding ?_
  refine wpAny_ite_split (fun hab => absurd hab (by intro z; exact nomatch eq_of_beq z)) (fun _ => ?_)
  refine wpAny_bind (wpAny_mono (rc_str_own (Q := fun v s' => ∃ r, v = .bool r ∧ Q r s') hu X ho I hb hs hf (wpAny_mono h (fun v s' hv => ?_) fun _ _ z => z)) (fun v s' hv => ?_) fun _ _ z => z)
  · obtain ⟨r, rfl, q⟩ := hv
    exact ⟨r, rfl, q⟩
  · obtain ⟨r, rfl, q⟩ := hv
    exact wpAny_truthy_bool q
/-- a tuple is searched for x; I is kept by each comparison, none finds it -/
theorem tup_has_no {l : Addr} {items : Array Value} {n : Nat} {dd : Option Addr} {sl : Array (Option Value)} {x : Value} (J : Shared → Prop) (R : Result → Shared → Prop)
    (turn : ∀ y ∈ items, ∀ s, J s → wpAny (model prog w) A.in1 (eqBool y x) (fun r s' => r = false ∧ J s') (fun e s' => R (.error e) s') s)
    (fin : ∀ s, J s → R (.ok (.ret (.bool false))) s) (hl : s.heap.get? l = some { cls := .type "tuple", dict := dd, data := .seq items n, slots := sl }) (h : J s) :
    wpAny (model prog w) A.in1 (Builtin.«tuple.__contains__» ⟨[.ref l, x], []⟩) (GQ.FinOf prog w A R) (fun e s' => R (.error e) s') s := by
  have h0 := h
  obtain ⟨hp, g, d, tk, os⟩ := s
  wp_walk using AutoSeq1.wpAny_loadPart' hl, MeetsSeq2.wpAny_forIn_array _ (fun rest b s' => b.1 = none ∧ (∀ y, y ∈ rest → y ∈ items) ∧ J s') _
  case turn =>
    rintro y rest b s' ⟨hb, hmem, hJ⟩
    refine wpAny_bind (wpAny_mono (turn y (hmem y (List.mem_cons_self ..)) s' hJ) (fun r s2 hr => ?_) fun _ _ z => z)
    obtain ⟨rfl, hJ2⟩ := hr
    wp_walk
    exact ⟨rfl, fun z hz => hmem z (List.mem_cons_of_mem _ hz), hJ2⟩
  case fin =>
    rintro ⟨b1, b2⟩ s' ⟨hb, -, hJ⟩
    simp only at hb
    subst hb
    have hR : R (.ok (.ret (.bool false))) s' := fin s' hJ
    wp_walk
    exact hR
  case h =>
    exact ⟨rfl, fun y hy => by simpa using hy, h0⟩
theorem notIn_tup_no {l : Addr} {items : Array Value} {x : Value} {Q : Value → Shared → Prop} (J : Shared → Prop) (hl : s.heap.IsTuple l items)
    (turn : ∀ y ∈ items, ∀ s, J s → wpAny (model prog w) A.in1 (eqBool y x) (fun r s' => r = false ∧ J s') E s)
    (fin : ∀ s, J s → Q (.bool true) s) (h : J s) : wpAny (model prog w) A (compareOp .NotIn x (.ref l)) Q E s := by
  obtain ⟨⟨cls, dd, data, sl⟩, ho, hc, n, hd⟩ := id hl
  simp only at hc hd
  subst hc hd
  show wpAny _ A (do return .bool (!(← contains (.ref l) x))) Q E s
  have hT : s.TypeIs (.ref l) "tuple" := ⟨_, ho, rfl⟩
  refine wpAny_bind (wpAny_contains_slot hT F.slot_tuple_contains (wpAny_mono (GQ.call_here (Q := fun v s' => v = .bool false ∧ Q (.bool true) s') F.slot_tuple_contains hT F.entry_tuple_contains (F.args_tuple_contains_2 _ _)
    (tup_has_no J _ turn (fun s' hJ => ⟨rfl, fin s' hJ⟩) ho h)) (fun v s' hv => ?_) fun _ _ z => z))
  obtain ⟨rfl, q⟩ := hv
  exact wpAny_truthy_bool (wpAny_pure q)
end
end LT
namespace L2
open PySem PySem.Spec PyProof.Rows
section
variable {X : Cx}
/-- x not in a tuple of texts, x an instance of the class at C whose == says False of every text (and only makes objects) -/
def spEqT (C : Addr) : Sp := fun vs H Q _ => ∃ (a dx : Addr) (fs : List (Str × V)) (z : Str), vs = [.ref a, .str z] ∧ H a = some (.ins C dx fs) ∧ Q (.bl false) H
theorem op_notIn_own {CX : CXT} {C f : Addr} {fd : FuncData} {ps : List Str} {E : XK} {k : Nat} (F : FnOk X.prog X.w X.K X.mg X.base CX k f fd ps (spEqT C)) (hr : Room (k + 1) X.A)
    (hb : PySem.W.subIn X.K (.ref C) (.type "str") = some false) (hs : PySem.W.findIn X.K (.ref C) "__eq__" = some (some (.ref f))) (hf : PySem.W.isFn X.K (.ref f) = true) (bn : Binds X.K fd ps []) (hx : Passes CX X E) :
    OpR X (compareOp .NotIn) (fun x y H Q => ∃ (a dx p : Addr) (fs : List (Str × V)) (xs : List Str), x = .ref a ∧ H a = some (.ins C dx fs) ∧ y = .ref p ∧ SqT X.K H p (xs.map V.str) ∧ Q (.bl true) H) := by
  intro pins s σ H x y v u Q I rx ry h
  obtain ⟨a, dx, p, fs, xs, rfl, ha, rfl, hp, q⟩ := h
  cases rx
  cases ry
  obtain ⟨its, r, pl, hz⟩ := I.tuple hp
  refine LT.notIn_tup_no (fun s' => Inv X pins σ H s') pl (fun y hy s' J => ?_) (fun s' J => ⟨.bl true, H, J, rfl, q⟩) I
  obtain ⟨z, hzm⟩ : ∃ (z : Str), RelV (.str z) y := by
    have hy' : y ∈ its := by simpa using hy
    obtain ⟨i, hi⟩ := List.getElem?_of_mem hy'
    cases e : (xs.map V.str)[i]? with
    | none =>
      rw [r.none_of e] at hi
      cases hi
    | some v =>
      obtain ⟨w, ew, rw'⟩ := r.get e
      rw [hi] at ew
      cases ew
      rw [List.getElem?_map] at e
      cases e2 : xs[i]? with
      | none =>
        rw [e2] at e
        cases e
      | some z =>
        rw [e2] at e
        cases e
        exact ⟨z, rw'⟩
  obtain ⟨t, rfl⟩ := hzm
  obtain ⟨mA, O, _⟩ := ins_get J.hok ha
  obtain ⟨od, K1, _⟩ := O.look
  obtain ⟨_, _, _, hobj, _⟩ := (show ObjOk X.prog X.w H s'.heap a (.ins C dx fs) from J.hok a _ ha)
  refine LT.eqBool_str_own hr.in1.units0 J.kIn hobj K1 hb hs hf ?_
  have sp : spEqT C [.ref a, .str z] H (fun v H' => v = .bl false ∧ H' = H) E := ⟨a, dx, fs, z, rfl, ha, rfl, rfl⟩
  have e0 : Env0 X.prog X.w X.K X.mg X.base X.A.in1 X.stack s' H := J.env0.in1
  have hl := F.len _ _ _ _ sp
  have r2 : Vals [V.ref a, V.str z] [Value.ref a, Value.str z t] := .cons rfl (.cons ⟨t, rfl⟩ .nil)
  refine wpAny_call (codeAny_mono (F.run X.A.in1 X.stack s' H ⟨[.ref a, .str z t], []⟩ [.ref a, .str z t] [.ref a, .str z] _ E hr.in1 e0 (by
    have := bn s' [.ref a, .str z t] J.kIn (by simpa using hl)
    simpa using this) r2 sp) fun rr s2 hq => ?_)
  cases rr with
  | error e => exact hx pins σ H s' e s2 J hq
  | ok fl =>
    cases fl with
    | ret w =>
      obtain ⟨z2, H', J', rz, ez, eH⟩ := J.after hq
      subst ez eH
      cases rz
      exact ⟨false, rfl, rfl, J'⟩
    | next => exact False.elim hq
    | brk => exact False.elim hq
    | cont => exact False.elim hq
end
end L2
namespace LT
open PySem PySem.SeqAt PySem.Calls
section
variable {prog : Program} {w : World} {A : Around} {E : Value → Shared → Prop} {s : Shared}
/-- a value of a built-in class == an instance with an own ==: the first declines, the own one is asked -/
theorem rc_decl_own {T id : String} {B : Builtin} {v : Value} {K : W.Frag} {x C f : Addr} {ox : Obj} {Q : Value → Shared → Prop} (hu : A.units < cLine) (X : K.In s.heap) (hT : s.TypeIs v T) (slot : Slot T (cmpInfo .Eq).2.1 id)
    (entry : entryFor table id = some B) (args : argsOk id ⟨[v, .ref x], []⟩) {od : Option Obj} (I : W.InstAt s.heap x ox C od)
    (hb : W.subIn K (.ref C) (.type T) = some false) (hs : W.findIn K (.ref C) "__eq__" = some (some (.ref f))) (hf : W.isFn K (.ref f) = true)
    (dc : ∀ {A' : Around} (R : Result → Shared → Prop), R (.ok (.ret .notImplemented)) s → wpAny (model prog w) A' (B ⟨[v, .ref x], []⟩) (GQ.FinOf prog w A R) (fun e s' => R (.error e) s') s)
    (h : wpAny (model prog w) A (call (.ref f) [.ref x, v]) (W.CmpBack Q) E s) : wpAny (model prog w) A (richCompare .Eq v (.ref x)) Q E s := by
  unfold richCompare
  simp only [hT.oneThing_none]
  refine wpAny_holding (wpAny_bind (wpAny_cRoomFor hu ?_))
  refine wpAny_bind (wpAny_typeOf hT (wpAny_bind (I.type.here ?_)))
  have hne : (Value.type T != Value.ref C) = true := rfl
  simp only [hne, if_true]
  refine wpAny_bind ((W.looks_subIn X hb).here ?_)
  simp only [Bool.false_eq_true, if_false, Bool.not_false, if_true]
  refine wpAny_bind (m := tryCompare v _ (.ref x)) (wpAny_tryCompare_declines hT slot (GQ.call_here slot hT entry args (dc _ ⟨rfl, ?_⟩)))
  refine wpAny_bind (m := tryCompare (.ref x) _ v) ?_
  unfold tryCompare
  refine wpAny_bind (W.ifBound_K X I hs hf (wpAny_mono h (fun v s' hv => ?_) fun _ _ e => e))
  cases v <;> first | exact hv.elim | exact wpAny_pure (wpAny_pure hv)
theorem none_declines {x : Addr} {A' : Around} (R : Result → Shared → Prop) (h : R (.ok (.ret .notImplemented)) s) :
    wpAny (model prog w) A' (Builtin.«NoneType.__eq__» ⟨[.none, .ref x], []⟩) (GQ.FinOf prog w A R) (fun e s' => R (.error e) s') s := by
  obtain ⟨hp, g, d, tk, os⟩ := s
  wp_walk
  exact h
theorem inst_no {K : W.Frag} {x C : Addr} {ox : Obj} {od : Option Obj} {T : String} (X : K.In s.heap) (I : W.InstAt s.heap x ox C od) (hb : W.subIn K (.ref C) (.type T) = some false) :
    W.Looks (model prog w) s.heap (isInstance (.ref x) (.type T)) false := I.type.andThen (W.looks_subIn X hb)
theorem tuple_declines {K : W.Frag} {l x C : Addr} {ox : Obj} {od : Option Obj} {A' : Around} (X : K.In s.heap) (I : W.InstAt s.heap x ox C od) (hb : W.subIn K (.ref C) (.type "tuple") = some false)
    (R : Result → Shared → Prop) (h : R (.ok (.ret .notImplemented)) s) :
    wpAny (model prog w) A' (Builtin.«tuple.__eq__» ⟨[.ref l, .ref x], []⟩) (GQ.FinOf prog w A R) (fun e s' => R (.error e) s') s := by
  refine wpAny_bind (m := slotArgs "__eq__" 1 _) (wpAny_pure ?_)
  refine wpAny_bind ((inst_no X I hb).here ?_)
  exact wpAny_pure h
theorem list_declines {K : W.Frag} {l x C : Addr} {ox : Obj} {od : Option Obj} {A' : Around} (X : K.In s.heap) (I : W.InstAt s.heap x ox C od) (hb : W.subIn K (.ref C) (.type "list") = some false)
    (R : Result → Shared → Prop) (h : R (.ok (.ret .notImplemented)) s) :
    wpAny (model prog w) A' (Builtin.«list.__eq__» ⟨[.ref l, .ref x], []⟩) (GQ.FinOf prog w A R) (fun e s' => R (.error e) s') s := by
  refine wpAny_bind (m := slotArgs "__eq__" 1 _) (wpAny_pure ?_)
  refine wpAny_bind ((inst_no X I hb).here ?_)
  exact wpAny_pure h
/-- x != y, both of a class with an own == and the != of object -/
theorem rc_ne_own {K : W.Frag} {x y C f : Addr} {ox oy : Obj} {od oe : Option Obj} {Q : Value → Shared → Prop} (hu : A.units + 1 < cLine) (X : K.In s.heap) (I : W.InstAt s.heap x ox C od) (J : W.InstAt s.heap y oy C oe)
    (hn : W.findIn K (.ref C) "__ne__" = some (some (.builtin "object.__ne__"))) (hm : W.mroIn K C (.type "object") = some true)
    (hs : W.findIn K (.ref C) "__eq__" = some (some (.ref f))) (hf : W.isFn K (.ref f) = true)
    (h : wpAny (model prog w) A.in1 (call (.ref f) [.ref x, .ref y]) (fun v s' => ∃ b, v = .bool b ∧ Q (.bool (!b)) s') E s) : wpAny (model prog w) A (richCompare .NotEq (.ref x) (.ref y)) Q E s := by
  unfold richCompare
  simp only [oneThing_ref]
  refine wpAny_holding (wpAny_bind (wpAny_cRoomFor (Nat.lt_of_succ_lt hu) ?_))
  rw [cmpInfo_NotEq]
  dsimp only
  refine wpAny_bind (I.type.here (wpAny_bind (J.type.here ?_)))
  rw [show (Value.ref C != Value.ref C) = false from by simp]
  simp only [Bool.false_eq_true, if_false]
  refine wpAny_bind (wpAny_pure ?_)
  simp only [Bool.false_eq_true, if_false]
  refine wpAny_bind (m := tryCompare _ _ _) ?_
  unfold tryCompare
  have one : wpAny (model prog w) A (callSpecialIfBound? (.ref x) "__ne__" [.ref y]) (fun r s' => ∃ b, r = some (.bool (!b)) ∧ Q (.bool (!b)) s') E s := by
    simp only [callSpecialIfBound?, bindSpecialIfBound?]
    refine wpAny_holding (wpAny_bind (wpAny_bind (wpAny_bind (I.type.here ((W.looks_findIn X hn).here ?_)))))
    refine wpAny_bind (wpAny_askSetting (wpAny_ite ?_))
    have fin : wpAny (model prog w) A (call (.builtin "object.__ne__") ([.ref x] ++ [.ref y]) >>= fun v => pure (some v)) (fun r s' => ∃ b, r = some (.bool (!b)) ∧ Q (.bool (!b)) s') E s := by
      refine wpAny_bind (wpAny_call (codeAny_call_builtin (by decide +kernel) F.cmpEntry_ne (W.check_slot (owner := "object") (n := "__ne__") F.cmpKind_ne F.cmpSplit_ne (I.type.andThen (W.looks_mroIn X hm)) (F.cmpArgs_ne _ _) ?_)))
      unfold Builtin.«object.__ne__»
      refine wpAny_bind (m := slotArgs "__ne__" 1 _) (wpAny_pure ?_)
      refine wpAny_bind (m := cRoomFor _ _) (wpAny_cRoomFor (by show A.units + 1 < cLine; exact hu) ?_)
      refine wpAny_bind (m := callSpecialIfBound? (.ref x) (Str.ofString "__eq__") _) (W.ifBound_K X I hs hf (wpAny_mono h (fun v s' hv => ?_) fun _ _ e => e))
      obtain ⟨b, rfl, q⟩ := hv
      exact wpAny_bind (wpAny_truthy_bool (wpAny_pure (wpAny_pure ⟨b, rfl, q⟩)))
    split
    · exact wpAny_bind ((W.Looks.of_pure (F.slot_tuple_iterator_ne.bind _)).here (wpAny_pure (by exact fin)))
    · exact wpAny_tryCatch (wpAny_bind ((W.Looks.of_pure (F.slot_tuple_iterator_ne.bind _)).here (wpAny_pure (by exact fin))))
  refine wpAny_bind (wpAny_mono one (fun r s' hv => ?_) fun _ _ e => e)
  obtain ⟨b, rfl, q⟩ := hv
  exact wpAny_pure (wpAny_pure q)
end
end LT
namespace LT
open PySem PySem.SeqAt PySem.Calls
section
variable {prog : Program} {w : World} {A : Around} {E : Value → Shared → Prop} {s : Shared}
theorem in_tup_no {l : Addr} {items : Array Value} {x : Value} {Q : Value → Shared → Prop} (J : Shared → Prop) (hl : s.heap.IsTuple l items)
    (turn : ∀ y ∈ items, ∀ s, J s → wpAny (model prog w) A.in1 (eqBool y x) (fun r s' => r = false ∧ J s') E s)
    (fin : ∀ s, J s → Q (.bool false) s) (h : J s) : wpAny (model prog w) A (compareOp .In x (.ref l)) Q E s := by
  obtain ⟨⟨cls, dd, data, sl⟩, ho, hc, n, hd⟩ := id hl
  simp only at hc hd
  subst hc hd
  show wpAny _ A (do return .bool (← contains (.ref l) x)) Q E s
  have hT : s.TypeIs (.ref l) "tuple" := ⟨_, ho, rfl⟩
  refine wpAny_bind (wpAny_contains_slot hT F.slot_tuple_contains (wpAny_mono (GQ.call_here (Q := fun v s' => v = .bool false ∧ Q (.bool false) s') F.slot_tuple_contains hT F.entry_tuple_contains (F.args_tuple_contains_2 _ _)
    (tup_has_no J _ turn (fun s' hJ => ⟨rfl, fin s' hJ⟩) ho h)) (fun v s' hv => ?_) fun _ _ z => z))
  obtain ⟨rfl, q⟩ := hv
  exact wpAny_truthy_bool (wpAny_pure q)
/-- from a rich comparison to == inside a builtin, where the two are no one thing -/
theorem eqBool_rc {u : Value} {x : Addr} {Q : Bool → Shared → Prop} (hne : (u == .ref x) = false) (h : wpAny (model prog w) A (richCompare .Eq u (.ref x)) (fun r s' => ∃ b, r = .bool b ∧ Q b s') E s) : wpAny (model prog w) A (eqBool u (.ref x)) Q E s := by
  unfold eqBool
  refine wpAny_holding ?_
  refine wpAny_ite_split (fun hab => absurd hab (by simp [hne])) (fun _ => ?_)
  have one : wpAny (model prog w) A (richCompare .Eq u (.ref x) >>= fun r => truthOfDropped r) Q E s := by
    refine wpAny_bind (wpAny_mono h (fun r s' hv => ?_) fun _ _ x => x)
    obtain ⟨r, rfl, q⟩ := hv
    exact wpAny_truthy_bool q
  cases u <;> exact one
end
end LT
namespace L2
open PySem PySem.Spec PyProof.Rows
section
variable {X : Cx} {CX : CXT} {C f : Addr} {fd : FuncData} {ps : List Str} {E : XK} {k : Nat} {sp : Sp}
/-- an own function called with the values xs below the running body -/
theorem run_own {A : Around} {pins : List (Addr × Obj)} {s : Shared} {σ : St} {H : Hp} {us : List Value} {vs : List V} {Q : VK} {Q' : Value → Shared → Prop} (F : FnOk X.prog X.w X.K X.mg X.base CX k f fd ps sp) (sb : Sub X k A) (bn : Binds X.K fd ps []) (hx : Passes CX X E)
    (I : Inv X pins σ H s) (r : Vals vs us) (h : sp vs H Q E) (hq : ∀ u s' v J, RelV v u → Inv X pins σ J s' → Q v J → Q' u s') : wpAny (model X.prog X.w) A (call (.ref f) us) Q' X.xe s := by
  have e0 : Env0 X.prog X.w X.K X.mg X.base A X.stack s H := by
    have e := I.env0
    exact ⟨by rw [sb.fr]; exact e.frames, e.mod, e.bs, e.bsz, e.funs, e.frf, e.hok, e.bare⟩
  have hl := F.len _ _ _ _ h
  refine wpAny_call (codeAny_mono (F.run A X.stack s H ⟨us, []⟩ us vs Q E sb.room e0 (by
    have := bn s us I.kIn (by rw [← hl, r.length]; simp)
    simpa using this) r h) fun rr s2 z => ?_)
  cases rr with
  | error e => exact hx pins σ H s e s2 I z
  | ok fl =>
    cases fl with
    | ret u =>
      obtain ⟨v, H', J', rz, q⟩ := I.after z
      exact hq u s2 v H' rz J' q
    | next => exact False.elim z
    | brk => exact False.elim z
    | cont => exact False.elim z
theorem ins_look {pins : List (Addr × Obj)} {s : Shared} {σ : St} {H : Hp} {a C dx : Addr} {fs : List (Str × V)} (I : Inv X pins σ H s) (ha : H a = some (.ins C dx fs)) :
    ∃ od, PySem.W.InstAt s.heap a (PySem.W.instObj C dx) C (some od) := by
  obtain ⟨mA, O, _⟩ := ins_get I.hok ha
  obtain ⟨od, K1, _⟩ := O.look
  exact ⟨od, K1⟩
/-- str(x), x an instance of the class at C with an own __str__ -/
def rStrOwn (C : Addr) (sp : Sp) (E : XK) : List V → Hp → VK → Prop := fun xs H Q => ∃ (a dx : Addr) (fs : List (Str × V)), xs = [.ref a] ∧ H a = some (.ins C dx fs) ∧ sp [.ref a] H (fun v J => ∃ z, v = .str z ∧ Q v J) E
theorem call_strOwn (F : FnOk X.prog X.w X.K X.mg X.base CX k f fd ps sp) (hr : Room (k + 2) X.A) (hs : PySem.W.findIn X.K (.ref C) "__str__" = some (some (.ref f))) (hf : PySem.W.isFn X.K (.ref f) = true)
    (bn : Binds X.K fd ps []) (hx : Passes CX X E) : CallR X (.type "str") (rStrOwn C sp E) := by
  intro pins s σ H xs us Q I r h
  obtain ⟨a, dx, fs, rfl, ha, q⟩ := h
  obtain ⟨u, rfl, ru⟩ := vals1 r
  cases ru
  obtain ⟨od, K1⟩ := ins_look I ha
  refine PySem.W.kso_call hr.in1.in1.units0 I.kIn K1 hs hf (run_own F ⟨hr.in1.in1, rfl⟩ bn hx I (show Vals [V.ref a] [Value.ref a] from .cons rfl .nil) q fun u s' v J rv I' z => ?_)
  obtain ⟨z, rfl, q⟩ := z
  obtain ⟨t, rfl⟩ := rv
  exact ⟨.str z, J, I', ⟨t, rfl⟩, q⟩
/-- x == y, both of the class at C with an own __eq__ -/
def rEqOwn (C : Addr) (sp : Sp) (E : XK) : R2 := fun x y H Q => ∃ (a b dx dy : Addr) (fs gs : List (Str × V)), x = .ref a ∧ y = .ref b ∧ H a = some (.ins C dx fs) ∧ H b = some (.ins C dy gs) ∧ sp [x, y] H (fun v J => ∃ r, v = .bl r ∧ Q v J) E
def rNeOwn (C : Addr) (sp : Sp) (E : XK) : R2 := fun x y H Q => ∃ (a b dx dy : Addr) (fs gs : List (Str × V)), x = .ref a ∧ y = .ref b ∧ H a = some (.ins C dx fs) ∧ H b = some (.ins C dy gs) ∧ sp [x, y] H (fun v J => ∃ r, v = .bl r ∧ Q (.bl (!r)) J) E
theorem op_eqOwn (F : FnOk X.prog X.w X.K X.mg X.base CX k f fd ps sp) (hr : Room k X.A) (hs : PySem.W.findIn X.K (.ref C) "__eq__" = some (some (.ref f))) (hf : PySem.W.isFn X.K (.ref f) = true)
    (bn : Binds X.K fd ps []) (hx : Passes CX X E) : OpR X (compareOp .Eq) (rEqOwn C sp E) := by
  intro pins s σ H x y v u Q I rx ry h
  obtain ⟨a, b, dx, dy, fs, gs, rfl, rfl, ha, hb, q⟩ := h
  cases rx
  cases ry
  obtain ⟨od, K1⟩ := ins_look I ha
  obtain ⟨oe, K2⟩ := ins_look I hb
  obtain ⟨m, hF⟩ := I.fr
  show wpAny (model X.prog X.w) X.A (richCompare .Eq _ _) (EP X pins σ Q) X.xe s
  refine PySem.W.cmp_K (op := .Eq) (tb := .ref C) hr.units0 hF I.ok.mod.kin K1 K2.type (by simp [PySem.W.notFirst]) hs hf (run_own F ⟨hr, rfl⟩ bn hx I (show Vals [V.ref a, V.ref b] [Value.ref a, Value.ref b] from .cons rfl (.cons rfl .nil)) q fun u s' v J rv I' z => ?_)
  obtain ⟨z, rfl, q⟩ := z
  cases rv
  exact ⟨.bl z, J, I', rfl, q⟩
theorem op_neOwn (F : FnOk X.prog X.w X.K X.mg X.base CX k f fd ps sp) (hr : Room (k + 1) X.A) (hs : PySem.W.findIn X.K (.ref C) "__eq__" = some (some (.ref f))) (hf : PySem.W.isFn X.K (.ref f) = true)
    (hn : PySem.W.findIn X.K (.ref C) "__ne__" = some (some (.builtin "object.__ne__"))) (hm : PySem.W.mroIn X.K C (.type "object") = some true)
    (bn : Binds X.K fd ps []) (hx : Passes CX X E) : OpR X (compareOp .NotEq) (rNeOwn C sp E) := by
  intro pins s σ H x y v u Q I rx ry h
  obtain ⟨a, b, dx, dy, fs, gs, rfl, rfl, ha, hb, q⟩ := h
  cases rx
  cases ry
  obtain ⟨od, K1⟩ := ins_look I ha
  obtain ⟨oe, K2⟩ := ins_look I hb
  show wpAny (model X.prog X.w) X.A (richCompare .NotEq _ _) (EP X pins σ Q) X.xe s
  refine LT.rc_ne_own hr.in1.units0 I.kIn K1 K2 hn hm hs hf (run_own F ⟨hr.in1, rfl⟩ bn hx I (show Vals [V.ref a, V.ref b] [Value.ref a, Value.ref b] from .cons rfl (.cons rfl .nil)) q fun u s' v J rv I' z => ?_)
  obtain ⟨z, rfl, q⟩ := z
  cases rv
  exact ⟨_, rfl, .bl (!z), J, I', rfl, q⟩
/-- what is no instance of a written class: a text, None, a tuple, a list -/
def Oth (K : PySem.W.Frag) (H : Hp) (y : V) : Prop := (∃ z, y = .str z) ∨ y = .non ∨ (∃ a xs, y = .ref a ∧ SqT K H a xs) ∨ ∃ a xs, y = .ref a ∧ SqL K H a xs
structure NoSub (K : PySem.W.Frag) (C : Addr) : Prop where
  s : PySem.W.subIn K (.ref C) (.type "str") = some false
  n : PySem.W.subIn K (.ref C) (.type "NoneType") = some false
  t : PySem.W.subIn K (.ref C) (.type "tuple") = some false
  l : PySem.W.subIn K (.ref C) (.type "list") = some false
/-- x in a tuple, x an instance of the class at C, its own == says False of each thing there -/
def rInOwn (K : PySem.W.Frag) (C : Addr) (sp : Sp) (E : XK) : R2 := fun x y H Q => ∃ (a dx p : Addr) (fs : List (Str × V)) (xs : List V), x = .ref a ∧ H a = some (.ins C dx fs) ∧ y = .ref p ∧ SqT K H p xs ∧ (∀ v ∈ xs, Oth K H v ∧ sp [.ref a, v] H (fun r J => r = .bl false ∧ J = H) E) ∧ Q (.bl false) H
theorem op_inOwn (F : FnOk X.prog X.w X.K X.mg X.base CX k f fd ps sp) (hr : Room (k + 1) X.A) (hs : PySem.W.findIn X.K (.ref C) "__eq__" = some (some (.ref f))) (hf : PySem.W.isFn X.K (.ref f) = true)
    (N : NoSub X.K C) (bn : Binds X.K fd ps []) (hx : Passes CX X E) : OpR X (compareOp .In) (rInOwn X.K C sp E) := by
  intro pins s σ H x y v u Q I rx ry h
  obtain ⟨a, dx, p, fs, xs, rfl, ha, rfl, hp, all, q⟩ := h
  cases rx
  cases ry
  obtain ⟨its, r, pl, hz⟩ := I.tuple hp
  refine LT.in_tup_no (fun s' => Inv X pins σ H s') pl (fun y hy s' J => ?_) (fun s' J => ⟨.bl false, H, J, rfl, q⟩) I
  obtain ⟨z, hzm, rz⟩ : ∃ z ∈ xs, RelV z y := by
    have hy' : y ∈ its := by simpa using hy
    obtain ⟨i, hi⟩ := List.getElem?_of_mem hy'
    cases e : xs[i]? with
    | none =>
      rw [r.none_of e] at hi
      cases hi
    | some v =>
      obtain ⟨w, ew, rw'⟩ := r.get e
      rw [hi] at ew
      cases ew
      exact ⟨v, List.mem_of_getElem? e, rw'⟩
  obtain ⟨ot, sp0⟩ := all z hzm
  obtain ⟨od, K1⟩ := ins_look J ha
  obtain ⟨_, _, _, hobj, _⟩ := (show ObjOk X.prog X.w H s'.heap a (.ins C dx fs) from J.hok a _ ha)
  have go : wpAny (model X.prog X.w) X.A.in1 (call (.ref f) [.ref a, y]) (PySem.W.CmpBack fun v s2 => ∃ b, v = .bool b ∧ b = false ∧ Inv X pins σ H s2) X.xe s' :=
    run_own F ⟨hr.in1, rfl⟩ bn hx J (show Vals [V.ref a, z] [Value.ref a, y] from .cons rfl (.cons rz .nil)) sp0 fun u s2 v H' rv I' z => by
      obtain ⟨rfl, rfl⟩ := z
      cases rv
      exact ⟨_, rfl, rfl, I'⟩
  rcases ot with ⟨t, rfl⟩ | rfl | ⟨b, ys, rfl, hb⟩ | ⟨b, ys, rfl, hb⟩
  · obtain ⟨t, rfl⟩ := rz
    exact LT.eqBool_rc rfl (LT.rc_str_own hr.in1.units0 J.kIn hobj K1 N.s hs hf go)
  · cases rz
    exact LT.eqBool_rc rfl (LT.rc_decl_own hr.in1.units0 J.kIn (typeIs_none _) PySem.F.slot_NoneType_eq PySem.F.entry_NoneType_eq (PySem.F.args_NoneType_eq_2 _ _) K1 N.n hs hf (fun R h => LT.none_declines R h) go)
  · cases rz
    obtain ⟨_, _, ⟨o, ho, hc, n, hd⟩, _⟩ := J.tuple hb
    refine LT.eqBool_rc ?_ (LT.rc_decl_own hr.in1.units0 J.kIn ⟨_, ho, hc⟩ PySem.F.slot_tuple_eq PySem.F.entry_tuple_eq (PySem.F.args_tuple_eq_2 _ _) K1 N.t hs hf (fun R h => LT.tuple_declines J.kIn K1 N.t R h) go)
    refine beq_eq_false_iff_ne.mpr fun e => ?_
    cases e
    rw [hobj] at ho
    cases ho
    cases hc
  · cases rz
    obtain ⟨_, _, ⟨o, n, ho, hc, _, hd⟩, _⟩ := J.list hb
    refine LT.eqBool_rc ?_ (LT.rc_decl_own hr.in1.units0 J.kIn ⟨_, ho, hc⟩ PySem.F.slot_list_eq PySem.F.entry_list_eq (PySem.F.args_list_eq_2 _ _) K1 N.l hs hf (fun R h => LT.list_declines J.kIn K1 N.l R h) go)
    refine beq_eq_false_iff_ne.mpr fun e => ?_
    cases e
    rw [hobj] at ho
    cases ho
    cases hc
end
end L2
namespace L3
open PySem PySem.Spec PyProof.Rows
open L2 LamX NdefX
abbrev TabL := List (Addr × Str)
def notTbl : HO → Bool
  | .tbl _ => false
  | _ => true
theorem notTbl_ne {o : HO} (h : notTbl o = true) (ps : Array Value) : o ≠ .tbl ps := fun z => by
  rw [z] at h
  cases h
/-- what was known is known still, but for tables of code objects -/
structure Ex (H J : Hp) : Prop where
  ext : ∀ b o, H b = some o → notTbl o = true → J b = some o
theorem Ex.at {H J : Hp} (s : Ex H J) (b : Addr) (o : HO) (e : H b = some o) (n : notTbl o = true := by rfl) : J b = some o := s.ext b o e n
instance {H J : Hp} : CoeFun (Ex H J) (fun _ => ∀ b o, H b = some o → (n : notTbl o = true := by rfl) → J b = some o) := ⟨fun e => @Ex.at H J e⟩
theorem exOf {H J : Hp} (s : Same H J) : Ex H J := ⟨fun b o e _ => s b o e⟩
instance {H J : Hp} : Coe (Same H J) (Ex H J) := ⟨exOf⟩
theorem Ex.refl (H : Hp) : Ex H H := ⟨fun _ _ e _ => e⟩
theorem Ex.trans {H J M : Hp} (a : Ex H J) (b : Ex J M) : Ex H M := ⟨fun c o e n => b.ext c o (a.ext c o e n) n⟩
theorem Ex.seq {K : PySem.W.Frag} {H J : Hp} {a : Addr} {xs : List V} (s : Ex H J) (h : SqL K H a xs) : SqL K J a xs := by
  rcases h with (h | ⟨o, h⟩) | h
  · exact .inl (.inl (s _ _ h))
  · exact .inl (.inr ⟨o, s _ _ h⟩)
  · exact .inr h
theorem Ex.seqT {K : PySem.W.Frag} {H J : Hp} {a : Addr} {xs : List V} (s : Ex H J) (h : SqT K H a xs) : SqT K J a xs := by
  rcases h with (h | ⟨o, h⟩) | h
  · exact .inl (.inl (s _ _ h))
  · exact .inl (.inr ⟨o, s _ _ h⟩)
  · exact .inr h
/-- .. and nothing that was known is unknown, and the tables T are as they should be -/
structure SameN (T : TabL) (H J : Hp) : Prop where
  ex : Ex H J
  back : ∀ b, J b = Option.none → H b = Option.none
  tabs : Tabs T J
instance {T : TabL} {H J : Hp} : CoeFun (SameN T H J) (fun _ => ∀ b o, H b = some o → (n : notTbl o = true := by rfl) → J b = some o) := ⟨fun e => @Ex.at H J e.ex⟩
instance {T : TabL} {H J : Hp} : CoeOut (SameN T H J) (Ex H J) := ⟨fun s => s.ex⟩
theorem toN {T : TabL} {H J : Hp} (t : Tabs T H) (s : Same H J) : SameN T H J := ⟨s, fun _ e => s.free e, t.ext s⟩
theorem SameN.refl {T : TabL} {H : Hp} (t : Tabs T H) : SameN T H H := ⟨.refl H, fun _ e => e, t⟩
theorem SameN.trans {T : TabL} {H J M : Hp} (a : SameN T H J) (b : SameN T J M) : SameN T H M := ⟨a.ex.trans b.ex, fun c e => a.back c (b.back c e), b.tabs⟩
/-- .. and then the same -/
theorem SameN.on {T : TabL} {H J M : Hp} (a : SameN T H J) (s : Same J M) : SameN T H M := a.trans (toN a.tabs s)
theorem SameN.free {T : TabL} {H J : Hp} (a : SameN T H J) {b : Addr} (e : J b = Option.none) : H b = Option.none := a.back b e
theorem SameN.seq {T : TabL} {K : PySem.W.Frag} {H J : Hp} {a : Addr} {xs : List V} (s : SameN T H J) (h : SqL K H a xs) : SqL K J a xs := s.ex.seq h
theorem SameN.seqT {T : TabL} {K : PySem.W.Frag} {H J : Hp} {a : Addr} {xs : List V} (s : SameN T H J) (h : SqT K H a xs) : SqT K J a xs := s.ex.seqT h
theorem exN {H J : Hp} (e : ExtN H J) : Ex H J := ⟨fun b o q n => e b o q (notTbl_ne n)⟩
/-- a table written on, or anything else but a known thing -/
theorem tabs_but {T : TabL} {H J : Hp} (t : Tabs T H) (k : ∀ b o, H b = some o → (∀ p ∈ T, p.1 = b → J b = some o) ∧ (∀ q, o = CodeO b q → J b = some o)) : Tabs T J := fun p mp => by
  obtain ⟨ps, h1, h2, h3⟩ := t p mp
  refine ⟨ps, (k _ _ h1).1 p mp rfl, h2, fun pos cv hc => ?_⟩
  obtain ⟨c, e1, e2⟩ := h3 pos cv hc
  exact ⟨c, e1, (k _ _ e2).2 _ rfl⟩
/-- a list that is not of H is written on -/
theorem SameN.put {T : TabL} {H J : Hp} {b : Addr} {xs ys : List V} (h : SameN T H J) (hb : H b = Option.none) (e : J b = some (.lst xs)) : SameN T H (upd J b (.lst ys)) := by
  refine ⟨⟨fun c o q n => ?_⟩, fun c q => ?_, tabs_but h.tabs fun c o q => ⟨fun p mp z => ?_, fun w z => ?_⟩⟩
  · rw [upd_ne (ne_of_none q hb)]
    exact h.ex.ext c o q n
  · by_cases z : c = b
    · rw [z]
      exact hb
    · rw [upd_ne z] at q
      exact h.back c q
  · have nb : c ≠ b := fun w => by
      obtain ⟨ps, e1, _⟩ := h.tabs p mp
      rw [z, w, e] at e1
      cases e1
    rw [upd_ne nb]
    exact q
  · have nb : c ≠ b := fun v => by
      rw [v, e, z] at q
      cases q
    rw [upd_ne nb]
    exact q
section
variable {X : Cx} {pins : List (Addr × Obj)} {σ : L2.St} {H : Hp} {s : Shared}
/-- a lambda made: nothing that was known is unknown then -/
theorem lam_new {T : TabL} {c P : Addr} {params : Arguments} {body : Expr} {scope : Scope} {pos : Pos} {E Q : Value → Shared → Prop} (I : Inv X pins σ H s) (TB : TabB X.base X.mg c P)
    (hcd : X.env.code = .ref c) (hm : (P, X.env.qual ++ "<lambda>") ∈ T) (hu : ∀ p ∈ T, p.1 = P → p.2 = X.env.qual ++ "<lambda>") (tT : Tabs T H)
    (hdf : defaultsOf params X.env = ([], [])) (hfr : ∀ y ∈ scope.names, y.2 = .free → ∃ c, X.env.cells.lookup y.1 = some c)
    (go : ∀ (f c' : Addr) (pm ctv : Value) (J : Hp) (u : Shared), Inv X pins σ J u → SameN T H J →
      u.heap.get? f = some (PySem.W.kla_obj "<lambda>" (X.env.qual ++ "<lambda>") params body scope (cloFrom X.env.cells scope.names []) pm c' ctv) → J f = none → f ∉ frs X.stack →
      J c' = some (CodeO c' (X.env.qual ++ "<lambda>")) → Q (.ref f) u) :
    wpAny (model X.prog X.w) X.A (eval (.Lambda params body scope pos) X.env) Q E s := by
  obtain ⟨ps, eP, trip, among⟩ := tT _ hm
  apply PySem.W.kla_eval hdf
  have bltP := TB.bm.keeps I.bk
  have getP : s.heap.get? P = some { cls := .none, data := .fields ps } := I.hok P _ eP
  have frameless : ∀ f, s.heap.objs.size ≤ f → f ∉ frs X.stack := fun f le m => by
    rcases List.mem_cons.mp (I.stkSub _ m) with z | z
    · have lt := I.lt
      rw [← z] at lt
      exact absurd (Nat.lt_of_lt_of_le lt le) (Nat.lt_irrefl _)
    · exact I.nofs le z
  cases ec : codeAmong pos ps.toList with
  | some cv =>
    obtain ⟨c', rfl, known⟩ := among pos cv ec
    refine PySem.W.kla_makeFunctionHit (mg := X.mg) (c := c) (P := P) (ps := ps) (closure_ok hfr) I.ok.glob (I.mod.glob.keeps I.bk) hcd (TB.code.keeps I.bk) getP trip ec bltP fun ctv g tk kp sz => ?_
    refine go g.objs.size c' ((X.mg "__name__").getD .none) ctv H _ (I.kept fun b o e => Heap.get?_push_of_some _ (kp b o e)) (SameN.refl tT) (Heap.get?_push_size _ rfl) (I.hok.fresh sz) (frameless _ sz) known
  | none =>
    refine PySem.W.kla_makeFunction (mg := X.mg) (c := c) (P := P) (ps := ps) (closure_ok hfr) I.ok.glob (I.mod.glob.keeps I.bk) hcd (TB.code.keeps I.bk) getP trip ec TB.gP bltP fun c' ctv g tk kp ge lt ⟨c2, oc, vs, t, ez, goc, gd, gv⟩ gtab => ?_
    obtain rfl : c' = c2 := by
      cases ez
      rfl
    have sz : s.heap.objs.size ≤ g.objs.size := by omega
    have fresh : H c' = none := I.hok.fresh ge
    generalize eh : g.push (PySem.W.kla_obj "<lambda>" (X.env.qual ++ "<lambda>") params body scope (cloFrom X.env.cells scope.names []) ((X.mg "__name__").getD .none) c' ctv) = g2
    have up : ∀ b o, g.get? b = some o → g2.get? b = some o := fun b o e => by
      rw [← eh]
      exact Heap.get?_push_of_some _ e
    have I2 := inv_table (t' := tk) (more := #[rawInt pos.line, rawInt pos.col, .ref c']) (h' := g2) I eP (fun b o n e => up b o (kp b o n e)) (up _ _ gtab) ge ⟨oc, vs, t, up _ _ goc, gd, gv⟩
    have nPc : P ≠ c' := fun z => by
      rw [z, fresh] at eP
      cases eP
    have grow : ExtN H (upd (upd H P (.tbl (ps ++ #[rawInt pos.line, rawInt pos.col, .ref c']))) c' (CodeO c' (X.env.qual ++ "<lambda>"))) := fun b o e n => by
      have n1 : b ≠ c' := fun z => by
        rw [z, fresh] at e
        cases e
      have n2 : b ≠ P := fun z => by
        rw [z, eP] at e
        exact n ps (Option.some.inj e).symm
      rw [upd_ne n1, upd_ne n2]
      exact e
    have gone : ∀ b, (upd (upd H P (.tbl (ps ++ #[rawInt pos.line, rawInt pos.col, .ref c']))) c' (CodeO c' (X.env.qual ++ "<lambda>"))) b = none → H b = none := fun b e => upd_none (upd_none e)
    have apart : (ps ++ #[rawInt pos.line, rawInt pos.col, .ref c']).toList = ps.toList ++ [rawInt pos.line, rawInt pos.col, .ref c'] := by simp
    have T2 : Tabs T (upd (upd H P (.tbl (ps ++ #[rawInt pos.line, rawInt pos.col, .ref c']))) c' (CodeO c' (X.env.qual ++ "<lambda>"))) := fun p mp => by
      by_cases w : p.1 = P
      · rw [hu p mp w, w]
        refine ⟨ps ++ #[rawInt pos.line, rawInt pos.col, .ref c'], by rw [upd_ne nPc, upd_same], ?_, fun pos2 cv2 e2 => ?_⟩
        · rw [apart]
          exact PySem.TriplesOk_snoc _ _ _ _ trip
        · rw [apart] at e2
          rcases among_app _ trip e2 with z | z
          · obtain ⟨c0, z1, z2⟩ := among pos2 cv2 z
            exact ⟨c0, z1, grow _ _ z2 codeO_ne⟩
          · exact ⟨c', z, upd_same⟩
      · obtain ⟨qs, q1, q2, q3⟩ := tT p mp
        have n1 : p.1 ≠ c' := fun z => by
          rw [z, fresh] at q1
          cases q1
        refine ⟨qs, by rw [upd_ne n1, upd_ne w]; exact q1, q2, fun pos2 cv2 e2 => ?_⟩
        obtain ⟨c0, z1, z2⟩ := q3 pos2 cv2 e2
        exact ⟨c0, z1, grow _ _ z2 codeO_ne⟩
    have at2 : g2.get? g.objs.size = some (PySem.W.kla_obj "<lambda>" (X.env.qual ++ "<lambda>") params body scope (cloFrom X.env.cells scope.names []) ((X.mg "__name__").getD .none) c' ctv) := by
      rw [← eh]
      exact Heap.get?_push_size _ rfl
    refine go g.objs.size c' ((X.mg "__name__").getD .none) ctv _ _ I2 ⟨exN grow, gone, T2⟩ at2 ?_ (frameless _ sz) upd_same
    have nP : g.objs.size ≠ P := Nat.ne_of_gt (Nat.lt_of_lt_of_le (Heap.lt_size getP) sz)
    rw [upd_ne (Nat.ne_of_gt lt), upd_ne nP]
    exact I.hok.fresh sz
end
/-! ### a lambda's promise -/
/-- of the lambda's words F and its body, called with us; sp tells of what its captured names hold, of the arguments and the heap -/
structure LamFn (P : Program) (w : World) (K : PySem.W.Frag) (mg : Str → Option Value) (base : Heap) (CX : CXT) (k : Nat) (F : NF) (body : Expr) (ps fr : List Str) (sp : List (Option V) → Sp) : Prop where
  len : ∀ ws vs H Q E, sp ws vs H Q E → vs.length = ps.length
  run : ∀ (A : Around) (outer : List Env) (s : Shared) (H : Hp) (f : Addr) (pm ctv : Value) (us : List Value) (vs : List V) (ws : List (Option V)) (Q : VK) (E : XK), Room k A → Env0 P w K mg base A outer s H →
    s.heap.get? f = some (PySem.W.kla_obj "<lambda>" F.qual F.params body F.scope F.cl pm F.c ctv) → H F.c = some (CodeO F.c F.qual) → CellsAt F.cl fr ws s.heap H → Vals vs us → sp ws vs H Q E →
    codeAny (model P w) A (.call (.ref f) ⟨us, []⟩) (CR CX outer P w H s Q E) s
theorem lamfn_of {CX : CXT} {P : Program} {w : World} {K : PySem.W.Frag} {mg : Str → Option Value} {base : Heap} {N ps fr : List Str} {F : NF} {body : Expr} {k : Nat} {sp : List (Option V) → Sp} (S : NScope N ps fr F.scope)
    (hb : ∀ (pm ctv : Value) (us : List Value), us.length = ps.length → bindArgs (PySem.W.kla_fn "<lambda>" F.qual F.params body F.scope F.cl pm (.ref F.c) ctv) ⟨us, []⟩ = pure (ps.zip us))
    (len : ∀ ws vs H Q E, sp ws vs H Q E → vs.length = ps.length)
    (hbody : ∀ (A : Around) (outer : List Env) (s : Shared) (H : Hp) (f : Addr) (vs : List V) (ws : List (Option V)) (Q : VK) (E : XK), Room k (A.deeper (envF F f s.heap.objs.size)) → ws.length = fr.length → sp ws vs H Q E →
      ∃ t, PE (ncx CX P w K mg base N F f A outer s H E) body t ∧ t (startF N vs ws) H Q) :
    LamFn P w K mg base CX (k + 1) F body ps fr sp := by
  refine ⟨len, fun A outer s H f pm ctv us vs ws Q E hr e0 hf hc C r q => ?_⟩
  have many := len _ _ _ _ _ q
  have lim : s.heap.NoLimit := e0.mod.nolimit.keeps fun b o e => (e0.bs b o e).1
  refine PySem.W.kla_callFunE hr.depth hf rfl S.co S.gen rfl (codeO_at e0.hok hc) ?_
  rw [hb pm ctv us (by rw [← r.length]; exact many)]
  refine wpAny_pure (wpAny_newFunctionEnv S.nocell (fun ⟨n, _⟩ hy => S.par n (List.of_mem_zip hy).1) (fun g hns hsb => ⟨lim.fresh _ hsb, ?_⟩) S.kind)
  show codeAny _ _ (.expr body (envF F f s.heap.objs.size)) _ _
  have kp : ∀ b o, s.heap.get? b = some o → g.get? b = some o := fun b o e => hsb.extBut b o (Nat.ne_of_lt (Heap.lt_size e)) (Heap.get?_push_of_some _ e)
  obtain ⟨t, ht, hq⟩ := hbody A outer s H f vs ws Q E (hr.deeper _) C.len q
  have I : Inv (ncx CX P w K mg base N F f A outer s H E) [] (startF N vs ws) H { s with heap := g, toks := s.toks + (ps.zip us).length } := inv_startN S hr.hd e0 many r C hns kp
  refine PySem.W.kla_codeExpr (wpAny_mono (ht.run [] _ _ H Q I hq) (fun v s' hv => ?_) fun e s' he => he)
  obtain ⟨x, J, I2, rx, qx⟩ := hv
  exact ⟨x, J, I2.os, I2.bare, I2.base, I2.hok, rx, qx⟩
/-- what the captured cells held when the frame began they hold still -/
theorem cells_later {X : Cx} {pins : List (Addr × Obj)} {σ : L2.St} {H : Hp} {s : Shared} {cl : List (Str × Addr)} {fr : List Str} {ws : List (Option V)} (C : CellsAt cl fr ws X.s_0.heap X.H_0) (hx : X.ex = []) (I : Inv X pins σ H s) : CellsAt cl fr ws s.heap H := by
  have out : ∀ b, b ∉ X.ex := fun b z => by
    rw [hx] at z
    cases z
  have still : ∀ (y : Str) (c : Addr), cl.lookup y = some c → ∀ v, X.s_0.heap.IsCell c v → s.heap.IsCell c v := fun y c e v ⟨o, ho, hd⟩ => by
    obtain ⟨sl, z⟩ := I.base.any ho (C.all y c e).1 (out c)
    exact ⟨_, z, hd⟩
  refine ⟨C.len, fun y c e => ?_, C.inj, fun i y e => ?_⟩
  · obtain ⟨n, v, z⟩ := C.all y c e
    have z2 := still y c e v z
    obtain ⟨o, ho, _⟩ := z
    exact ⟨I.base.free c o ho n (out c), v, z2⟩
  · obtain ⟨c, hc, hv⟩ := C.has i y e
    refine ⟨c, hc, fun v ev => ?_⟩
    obtain ⟨u, r, z⟩ := hv v ev
    exact ⟨u, r, still y c hc _ z⟩
/-- what a def knows at its entry of a lambda that it is given -/
structure Given (X : Cx) (f : Addr) (F : NF) (body : Expr) (fr : List Str) (ws : List (Option V)) : Prop where
  obj : ∃ pm ctv : Value, X.s_0.heap.get? f = some (PySem.W.kla_obj "<lambda>" F.qual F.params body F.scope F.cl pm F.c ctv)
  un : X.H_0 f = none
  nofr : f ∉ X.fs
  cells : CellsAt F.cl fr ws X.s_0.heap X.H_0
  noex : X.ex = []
section
variable {X : Cx} {CX : CXT} {f : Addr} {F : NF} {body : Expr} {ps fr : List Str} {ws : List (Option V)} {i k : Nat} {a : Str} {sp : List (Option V) → Sp} {E : XK} {t : TA} {e : Expr} {es : List Expr} {p pos : Pos}
/-- a(e, ..), the parameter a holds the lambda -/
theorem pe_given (G : Given X f F body fr ws) (L : LamFn X.prog X.w X.K X.mg X.base CX k F body ps fr sp) (hr : Room k X.A) (hx : Passes CX X E) (hN : X.N[i]? = some a) (hv : Vis X.env.scope a) (ha : PA X (e :: es) t)
    (hd : (a == ("__debug__" : Str)) = false := by decide) (hcd : (a == ("__classdict__" : Str)) = false := by decide)
    (he : starEach (e :: es) X.env = (false, eval e X.env) :: starEach es X.env := by rfl) (hpl : (backTo pos (starEach es X.env)).any (·.1) = false := by rfl) :
    PE X (.Call (.Name a p) (e :: es) [] pos) (fun σ H Q => σ[i]? = some (some (.ref f)) ∧ t σ H fun vs H1 => H1 F.c = some (CodeO F.c F.qual) ∧ sp ws vs H1 Q E) := by
  refine ⟨fun pins s σ H Q I ⟨hs, ht⟩ => ?_⟩
  refine wpAny_Call_Name_kw (thn ((pe_var (pos := p) hN hv hd hcd).run pins s σ H (fun v H1 => v = .ref f ∧ H1 = H) I ⟨.ref f, hs, rfl, rfl⟩) fun u s1 ⟨v, H1, I1, r1, q1⟩ => ?_)
  obtain ⟨rfl, rfl⟩ := q1
  obtain rfl : u = Value.ref f := r1
  have kept : ∀ {H : Hp} {s : Shared}, Inv X pins σ H s → ∃ pm ctv : Value, s.heap.get? f = some (PySem.W.kla_obj "<lambda>" F.qual F.params body F.scope F.cl pm F.c ctv) := fun {H s} I => by
    obtain ⟨pm, ctv, e⟩ := G.obj
    exact ⟨pm, ctv, I.base.keep f _ e G.un G.nofr (fun z => by rw [G.noex] at z; cases z)⟩
  have fnAt : ∀ {H : Hp} {s : Shared}, Inv X pins σ H s → PySem.W.FnAt f s.heap := fun {H s} I => by
    obtain ⟨pm, ctv, e⟩ := kept I
    exact ⟨_, _, _, _, e⟩
  refine PySem.W.callWith_F (first := []) (fnAt I1) (thn (ha.run pos pins s1 σ _ _ I1 ht) fun us s2 ⟨vs, H2, I2, r, hc, q⟩ => ⟨fnAt I2, ?_⟩) he hpl
  obtain ⟨pm, ctv, hf⟩ := kept I2
  show wpAny _ _ (call (.ref f) us) _ _ _
  refine wpAny_call (codeAny_mono (L.run X.A X.stack s2 H2 f pm ctv us vs ws Q E hr I2.env0 hf hc (cells_later G.cells G.noex I2) r q) fun r s' hq => ?_)
  cases r with
  | error e => exact hx pins σ H2 s2 e s' I2 hq
  | ok fl =>
    cases fl with
    | ret u => exact I2.after hq
    | next => exact False.elim hq
    | brk => exact False.elim hq
    | cont => exact False.elim hq
end
/-- x(e, lambda ..): what the called def makes of it -/
def tGive (T : TabL) (te : TE) (js : List Nat) (sp : V → List (Option V) → Hp → VK → XK → Prop) (E : XK) : TE := fun σ H Q => te σ H fun v H1 => Tabs T H1 ∧ ∀ J, SameN T H1 J → sp v (js.map (slotAt σ)) J Q E
section
variable {X : Cx} {CX : CXT}
theorem pe_give {T : TabL} {te : TE} {x : Str} {g c P : Addr} {k : Nat} {pg : Arguments} {bg : List Stmt} {sg : Scope} {dV kV doc pm cdv ct oc : Value} {an od : Option Addr} {osl : Array (Option Value)} {Ng ps fr : List Str} {js : List Nat} {E : XK}
    {params : Arguments} {body : Expr} {scope : Scope} {p lpos pos : Pos} {e : Expr} {sp : V → List (Option V) → Hp → VK → XK → Prop} (hg : Gl X x) (hm : X.mg x = some (.ref g)) (hk : PySem.W.keepIn X.K (.ref g) = true)
    (lk : X.K.lookup g = some ⟨oc, od, .func (PySem.W.fnOf x x pg bg sg dV kV doc pm an cdv ct), osl⟩) (hcg : PySem.W.codeIn X.K cdv x = true) (hb : L2.Binds X.K (PySem.W.fnOf x x pg bg sg dV kV doc pm an cdv ct) ps []) (Sg : FnScope Ng ps sg) (two : ps.length = 2)
    (he : PE X e te) (hx : Passes CX X E) (TB : TabB X.base X.mg c P) (hcode : X.env.code = .ref c) (hmT : (P, X.env.qual ++ "<lambda>") ∈ T) (hu : ∀ p ∈ T, p.1 = P → p.2 = X.env.qual ++ "<lambda>") (hr : Room (k + 1) X.A)
    (hfree : ∀ y ∈ scope.names, y.2 = .free → X.env.scope.names.lookup y.1 = some .cell ∨ X.env.scope.names.lookup y.1 = some .free) (hfr : ∀ y ∈ fr, (y, NameKind.free) ∈ scope.names) (hjs : js.map (fun j => X.N[j]?) = fr.map some) (hdef : defaultsOf params X.env = ([], []))
    (hbody : ∀ (v : V) (s : Shared) (H : Hp) (f c' : Addr) (ws : List (Option V)) (Q : VK), Room k (X.A.deeper (envOfC x sg s.heap.objs.size g cdv)) → ws.length = fr.length →
      Given (cxOf CX X.prog X.w X.K X.mg X.base Ng x sg g cdv X.A X.stack s H E) f ⟨"<lambda>", X.env.qual ++ "<lambda>", params, [], scope, cloFrom X.env.cells scope.names [], c'⟩ body fr ws →
      H c' = some (CodeO c' (X.env.qual ++ "<lambda>")) → sp v ws H Q E →
      ∃ t, PSs (cxOf CX X.prog X.w X.K X.mg X.base Ng x sg g cdv X.A X.stack s H E) bg t ∧ t { nx := fun _ H' => Q .non H', rt := Q } (L2.start Ng [v, .ref f]) H)
    (hdb : (x == ("__debug__" : Str)) = false := by decide) (hs : starEach [e, .Lambda params body scope lpos] X.env = (false, eval e X.env) :: starEach [.Lambda params body scope lpos] X.env := by rfl) :
    PE X (.Call (.Name x p) [e, .Lambda params body scope lpos] [] pos) (tGive T te js sp E) := by
  refine ⟨fun pins s σ H Q I h => ?_⟩
  have free2 : ∀ y ∈ scope.names, y.2 = .free → ∃ c, X.env.cells.lookup y.1 = some c := fun y hy z => (hfree y hy z).elim (fun q => I.ok.has _ (.inl q)) fun q => I.ok.has _ (.inr q)
  refine wpAny_Call_Name_kw (ld_glob I hg hm ?_ hdb)
  refine PySem.W.callWith_K (h₀ := X.base) I.ok.mod.kin hk ?_ hs (by rfl)
  rw [hs]
  show wpAny _ _ (spliced ((false, eval e X.env) :: (false, eval (.Lambda params body scope lpos) X.env) :: [])) _ _ s
  refine Calls.spliced_cons (thn (he.run pins s σ H _ I h) fun u1 s1 ⟨v, H1, I1, r1, t1, q1⟩ => ?_)
  refine Calls.spliced_cons (lam_new I1 TB hcode hmT hu t1 hdef free2 fun f c' pm' ctv J s2 I2 sN hf hfn hfr2 hco => ?_)
  refine Calls.spliced_nil ⟨I2.kIn, ?_⟩
  have C := cells_of I2 (Caps.made (fr := fr) (js := js) I2.ok hfree hfr hjs)
  have lenW : (js.map (slotAt σ)).length = fr.length := C.len
  show wpAny _ _ (call (.ref g) [u1, .ref f]) _ _ _
  refine wpAny_call (codeAny_mono (run_ofS (CX := CX) (N := Ng) (ps := ps) (us := [u1, .ref f]) (vs := [v, .ref f]) (Q := Q) (E := E) lk hcg Sg hr I2.env0 (hb s2 [u1, .ref f] I2.kIn (by rw [two]; rfl)) (.cons r1 (.cons rfl .nil)) (by rw [two]; rfl) fun hr' => ?_) fun r s3 hq => ?_)
  · exact hbody v s2 J f c' _ Q hr' lenW ⟨⟨_, _, hf⟩, hfn, hfr2, C, rfl⟩ hco (q1 J sN)
  · cases r with
    | error e => exact hx pins σ J s2 e s3 I2 hq
    | ok fl =>
      cases fl with
      | ret u => exact I2.after hq
      | next => exact False.elim hq
      | brk => exact False.elim hq
      | cont => exact False.elim hq
end
end L3
namespace LT
open PySem L2
def top (i : Nat) : Stmt := PySem.Challenge.pw_lineturns_k65_rounds_and_changes_taken_b.main.body.getD i (.Pass ⟨0, 0, 0, 0⟩)
abbrev sIsName : Stmt := top 13
abbrev sLaw : Stmt := top 54
abbrev sIsWhole : Stmt := top 10
abbrev sIsSeq : Stmt := top 12
abbrev sReadRow : Stmt := top 18
abbrev sRegion : Stmt := top 19
abbrev sMoved : Stmt := top 20
abbrev sPlay : Stmt := top 23
abbrev sAscending : Stmt := top 24
abbrev sIsRound : Stmt := top 25
abbrev sPlayRound : Stmt := top 26
abbrev sGranted : Stmt := top 27
abbrev sFaults : Stmt := top 28
abbrev sFault : Stmt := top 29
abbrev sIsRows : Stmt := top 34
abbrev sIsBelow : Stmt := top 11
abbrev sModesOf : Stmt := top 35
abbrev sNames : Stmt := top 43
abbrev sAnyRow : Stmt := top 41
abbrev sLRule : Stmt := top 45
abbrev sLRegion : Stmt := top 47
abbrev sLRound : Stmt := top 48
abbrev sMade : Stmt := top 49
abbrev sLineInit : Stmt := inClass (top 31) 0
abbrev sLineRounds : Stmt := inClass (top 31) 1
abbrev sLineAsk : Stmt := inClass (top 31) 2
abbrev sLineIadd : Stmt := inClass (top 31) 3
abbrev sLineSeveral : Stmt := inClass (top 31) 4
abbrev sLineChange : Stmt := inClass (top 31) 5
abbrev sLineUndo : Stmt := inClass (top 31) 6
abbrev sLineLen : Stmt := inClass (top 31) 7
abbrev sLineTrial : Stmt := inClass (top 31) 8
abbrev sLineWithin : Stmt := inClass (top 31) 9
abbrev sLineMark : Stmt := inClass (top 31) 10
abbrev sLineGranted : Stmt := inClass (top 31) 11
abbrev sErrInit : Stmt := inClass (top 3) 0
abbrev sRowInit : Stmt := inClass (top 17) 0
abbrev sRowEq : Stmt := inClass (top 17) 1
abbrev sRowStr : Stmt := inClass (top 17) 2
abbrev sPlayedInit : Stmt := inClass (top 22) 0
abbrev sRuleErrI : Stmt := inClass (top 4) 0
abbrev sTextErrI : Stmt := inClass (top 5) 0
abbrev sRoundErrI : Stmt := inClass (top 6) 0
abbrev sNoRowI : Stmt := inClass (top 8) 0
abbrev sRuleInit : Stmt := inClass (top 33) 0
abbrev sRuleRead : Stmt := inClass (top 33) 1
abbrev sRuleWithout : Stmt := inClass (top 33) 2
abbrev sRuleRenamed : Stmt := inClass (top 33) 3
abbrev sRuleCall : Stmt := inClass (top 33) 4
abbrev sRuleLen : Stmt := inClass (top 33) 5
abbrev sRuleItem : Stmt := inClass (top 33) 6
abbrev sRuleAdd : Stmt := inClass (top 33) 8
abbrev sRuleEq : Stmt := inClass (top 33) 9
abbrev sRuleStr : Stmt := inClass (top 33) 10
abbrev sx_deal : Stmt := top 37
abbrev sx_draw : Stmt := top 38
abbrev sx_pick : Stmt := top 39
abbrev sx_mixed : Stmt := top 40
abbrev sx_lines : Stmt := top 42
abbrev sx_bent : Stmt := top 44
abbrev sx_text : Stmt := top 46
abbrev sx_drawn_round : Stmt := top 50
abbrev sx_hand : Stmt := top 51
abbrev sx_do : Stmt := top 52
abbrev sx_stands : Stmt := top 53

/-- the heap without the box -/
def offB (H : Hp) (b : Addr) : Hp := fun c => if c = b then none else H c
theorem offB_ne {H : Hp} {b c : Addr} (h : c ≠ b) : offB H b c = H c := if_neg h
theorem offB_some {H : Hp} {b c : Addr} {o : HO} (h : offB H b c = some o) : c ≠ b ∧ H c = some o := by
  unfold offB at h
  by_cases e : c = b
  · rw [if_pos e] at h
    cases h
  · rw [if_neg e] at h
    exact ⟨e, h⟩
theorem offB_sub {H : Hp} {b : Addr} : Same (offB H b) H := fun _ _ h => (offB_some h).2
/-- from H to J all but the box at b is kept -/
def Kb (b : Addr) (H J : Hp) : Prop := ∀ c o, c ≠ b → H c = some o → J c = some o
theorem Kb.refl {b : Addr} {H : Hp} : Kb b H H := fun _ _ _ h => h
theorem Kb.trans {b : Addr} {H J L : Hp} (x : Kb b H J) (y : Kb b J L) : Kb b H L := fun c o n h => y c o n (x c o n h)
theorem Kb.of {b : Addr} {H J : Hp} (x : Same H J) : Kb b H J := fun c o _ h => x c o h
theorem Kb.box {b : Addr} {H : Hp} {o : HO} : Kb b H (upd H b o) := fun c u n h => by rw [upd_ne n]; exact h
theorem Kb.new {b p : Addr} {H : Hp} {o : HO} (h : H p = none) : Kb b H (upd H p o) := fun c u _ e => by rw [upd_ne (ne_of_none e h)]; exact e
theorem Kb.seq {K : PySem.W.Frag} {b : Addr} {H J : Hp} {a : Addr} {xs : List V} (x : Kb b H J) (n : a ≠ b) (h : SqL K H a xs) : SqL K J a xs := by
  rcases h with (h | ⟨o, h⟩) | h
  · exact .inl (.inl (x _ _ n h))
  · exact .inl (.inr ⟨o, x _ _ n h⟩)
  · exact .inr h
theorem new_same {H : Hp} {p : Addr} (h : H p = none) (o : HO) : Same H (upd H p o) := fun c u e => by rw [upd_ne (ne_of_none e h)]; exact e
/-- a box: a list of two ints -/
def Box (H : Hp) (b : Addr) : Prop := ∃ x y : Int, H b = some (.lst [.int x, .int y])

/-! ### promises -/
def spSeed (K : PySem.W.Frag) : Sp := fun vs H Q _ => ∃ (a : Addr) (ns : List Int) (k : Int), vs = [.ref a, .int k] ∧ SqL K H a (ns.map V.int) ∧ 0 ≤ k ∧ k ≤ 1000 ∧
  ∀ (p : Addr) (x y : Int), H p = none → Q (.ref p) (upd H p (.lst [.int x, .int y]))
def spChoose : Sp := fun vs H Q _ => ∃ (b : Addr) (m : Int), vs = [.ref b, .int m] ∧ Box H b ∧ 0 < m ∧ m ≤ 1000000000 ∧
  ∀ (d x y : Int), 0 ≤ d → d < m → Q (.int d) (upd H b (.lst [.int x, .int y]))
def spOneOf (K : PySem.W.Frag) : Sp := fun vs H Q _ => ∃ (b s : Addr) (xs : List V), vs = [.ref b, .ref s] ∧ Box H b ∧ s ≠ b ∧ SqL K H s xs ∧ 0 < xs.length ∧ xs.length ≤ 1000 ∧
  ∀ (i : Nat) (v : V) (x y : Int), xs[i]? = some v → Q v (upd H b (.lst [.int x, .int y]))
structure Blt (mg : Str → Option Value) : Prop where
  len : mg "len" = none
  abs : mg "abs" = none
  int : mg "int" = none
  range : mg "range" = none
  tuple : mg "tuple" = none
section
variable {P : Program} {w : World} {K : PySem.W.Frag} {mg : Str → Option Value} {base : Heap}
theorem mod_ix {k n : Int} (hn : 0 < n) : 0 ≤ k % n ∧ k % n < n := ⟨Int.emod_nonneg _ (by omega), Int.emod_lt_of_pos _ hn⟩
theorem at_in {ns : List Int} {i : Int} (h0 : 0 ≤ i) (h1 : i < (ns.length : Int)) : ∃ z, atI (ns.map V.int) i = some (.int z) := by
  obtain ⟨j, rfl⟩ : ∃ j : Nat, i = (j : Int) := ⟨i.toNat, by omega⟩
  have hj : j < ns.length := by omega
  exact ⟨ns[j], atI_nat (by rw [List.getElem?_map, List.getElem?_eq_getElem hj] <;> rfl)⟩
end
end LT
namespace LT
open PySem L2
/-! ### data -/
mutual
theorem dp_monoX {K : PySem.W.Frag} {H J : Hp} (s : L3.Ex H J) : ∀ (d : PyData) (v : V), Dp K H v d → Dp K J v d
  | .none, _, h => by cases h; exact .non
  | .bool b, _, h => by cases h; exact .bl b
  | .int i, _, h => by cases h; exact .int i
  | .str x, _, h => by cases h; exact .str x
  | .list ds, _, h => by
    cases h with
    | lst hs ha => exact .lst (s.seq hs) (dpAll_monoX s ds _ ha)
  | .tuple ds, _, h => by
    cases h with
    | tup hs ha => exact .tup (same_tup s hs) (dpAll_monoX s ds _ ha)
  | .dict _, _, h => by cases h
where
  same_tup {K : PySem.W.Frag} {H J : Hp} {a : Addr} {xs : List V} (e : L3.Ex H J) (h : SqT K H a xs) : SqT K J a xs := by
    rcases h with (h | ⟨o, h⟩) | h
    · exact .inl (.inl (e _ _ h))
    · exact .inl (.inr ⟨o, e _ _ h⟩)
    · exact .inr h
theorem dpAll_monoX {K : PySem.W.Frag} {H J : Hp} (s : L3.Ex H J) : ∀ (ds : List PyData) (vs : List V), DpAll K H vs ds → DpAll K J vs ds
  | [], _, h => by cases h; exact .nil
  | d :: ds, _, h => by
    cases h with
    | cons h1 h2 => exact .cons (dp_monoX s d _ h1) (dpAll_monoX s ds _ h2)
end
theorem dp_mono {K : PySem.W.Frag} {H J : Hp} (s : Same H J) : ∀ (d : PyData) (v : V), Dp K H v d → Dp K J v d := dp_monoX (L3.exOf s)
theorem dpAll_mono {K : PySem.W.Frag} {H J : Hp} (s : Same H J) : ∀ (ds : List PyData) (vs : List V), DpAll K H vs ds → DpAll K J vs ds := dpAll_monoX (L3.exOf s)
theorem dpAll_get {K : PySem.W.Frag} {H : Hp} : ∀ {ds : List PyData} {vs : List V} {i : Nat} {v : V}, DpAll K H vs ds → vs[i]? = some v → ∃ d, d ∈ ds ∧ Dp K H v d
  | [], _, _, _, h, e => by
    cases h
    cases e
  | d :: ds, _, 0, _, h, e => by
    cases h with
    | cons h1 h2 =>
      cases e
      exact ⟨d, List.mem_cons_self, h1⟩
  | d :: ds, _, i + 1, _, h, e => by
    cases h with
    | cons h1 h2 =>
      obtain ⟨d', m, q⟩ := dpAll_get h2 (i := i) e
      exact ⟨d', List.mem_cons_of_mem _ m, q⟩
theorem dpAll_add {K : PySem.W.Frag} {H : Hp} {v : V} {d : PyData} (hd : Dp K H v d) : ∀ {ds : List PyData} {vs : List V}, DpAll K H vs ds → DpAll K H (vs ++ [v]) (ds ++ [d])
  | [], _, h => by
    cases h
    exact .cons hd .nil
  | _ :: _, _, h => by
    cases h with
    | cons h1 h2 => exact .cons h1 (dpAll_add hd h2)
theorem dpAll_len {K : PySem.W.Frag} {H : Hp} : ∀ {ds : List PyData} {vs : List V}, DpAll K H vs ds → vs.length = ds.length
  | [], _, h => by
    cases h
    rfl
  | _ :: _, _, h => by
    cases h with
    | cons h1 h2 => exact congrArg (· + 1) (dpAll_len h2)
/-- what is new from H to J -/
def frs (H J : Hp) : Hp := fun c => match H c with
  | some _ => none
  | none => J c
theorem frs_of {H J : Hp} {c : Addr} (h : H c = none) : frs H J c = J c := by
  unfold frs
  rw [h]
theorem frs_some {H J : Hp} {c : Addr} {o : HO} (h : frs H J c = some o) : H c = none ∧ J c = some o := by
  unfold frs at h
  split at h
  · cases h
  · rename_i e
    exact ⟨e, h⟩
/-- where what is new from H to J stands also in L, seen from G -/
theorem frs_same {G H J L : Hp} (h : ∀ c o, H c = none → J c = some o → G c = none ∧ L c = some o) : Same (frs H J) (frs G L) := fun c o e => by
  obtain ⟨e1, e2⟩ := frs_some e
  obtain ⟨q1, q2⟩ := h c o e1 e2
  rw [frs_of q1]
  exact q2
theorem frs_sub {H J : Hp} : Same (frs H J) J := fun _ _ e => (frs_some e).2
end LT
namespace LT
open PySem L2
/-! ### the mathematics of names -/
def nameP (z : Str) : Bool := !decide ((4 : Int) < (z.length : Int)) && !decide (V.str z = V.str "also") && (Txt.isascii z && (Txt.isalpha z && Txt.islower z))
def isStr : V → Bool
  | .str _ => true
  | _ => false
def isBl : V → Bool
  | .bl _ => true
  | _ => false
def nameV (f : Str → Bool) : V → Bool
  | .str z => f z
  | _ => false
/-- what isinstance tells of a value, and how long a text is -/
structure Kind (K : PySem.W.Frag) (H : Hp) (v : V) : Prop where
  ty : ∃ t, TyX K H v t ∧ PySem.W.kitOne K t (.type "str") = some (isStr v) ∧ PySem.W.kitOne K t (.type "bool") = some (isBl v)
  sz : ∀ z, v = .str z → z.length ≤ 100
def spIsName (K : PySem.W.Frag) : Sp := fun vs H Q _ => ∃ v, vs = [v] ∧ Kind K H v ∧ Q (.bl (nameV nameP v)) H
structure Blt2 (mg : Str → Option Value) : Prop where
  isin : mg "isinstance" = none
  str : mg "str" = none
  bool : mg "bool" = none
section
variable {P : Program} {w : World} {K : PySem.W.Frag} {mg : Str → Option Value} {base : Heap}
theorem boot_isin : bootBuiltins "isinstance" = some (.builtin "isinstance") := by decide +kernel
theorem boot_strT : bootBuiltins "str" = some (.type "str") := by decide +kernel
theorem boot_boolT : bootBuiltins "bool" = some (.type "bool") := by decide +kernel
theorem scIsName : FnScope ["value"] ["value"] (defScope sIsName) := ⟨rfl, rfl, rfl, by decide +kernel, rfl, by decide +kernel, by decide +kernel⟩
theorem ok_isname {f : Addr} {fd : FuncData} (F : Fun K "is_name" "is_name" sIsName f fd) (T : Blt mg) (U : Blt2 mg) : FnOk P w K mg base CX0 1 f fd ["value"] (spIsName K) := by
  refine F.ok scIsName (fun vs H Q E h => ?_) (fun cdv A outer s H vs Q E hr h => ?_)
  · obtain ⟨v, rfl, _⟩ := h
    rfl
  obtain ⟨v, rfl, ⟨⟨t, ty, e1, _⟩, hz⟩, q⟩ := h
  refine ⟨_, pss_cons (ps_if (PW.pt (pw_or (pt_not (pt_val (pe_callB call_isi (by rfl) U.isin boot_isin (pa_cons (pv 0) (pa_cons (pe_bltn (v := .ty "str") (by rfl) U.str boot_strT rfl) pa_nil)))))
      (pw_or (pt_cmpR op_gt (pe_callB call_len_str (by rfl) T.len PySem.boot_len (pa_cons (pv 0) pa_nil)) pe_int (nomark _)) (pw_or1 (pt_cmpR op_eq (pv 0) pe_str (nomark _))))))
      (pss_one (ps_ret pe_bl)) pss_nil)
    (pss_one (ps_ret (pe_and (pe_bm0 PySem.F.plainAttrs_str PySem.F.slot_str_isascii PySem.F.type_str_isascii mt_isascii (pv 0))
      (pe_and (pe_bm0 PySem.F.plainAttrs_str PySem.F.slot_str_isalpha PySem.F.type_str_isalpha mt_isalpha (pv 0)) (pe_one (pe_bm0 PySem.F.plainAttrs_str PySem.F.slot_str_islower PySem.F.type_str_islower mt_islower (pv 0))))))), ?_⟩
  refine ⟨_, rfl, v, _, t, _, isStr v, rfl, .ty "str", ty, e1, _, rfl, ?_⟩
  cases v with
  | str z =>
    have hz' : z.length ≤ sizeLine := Nat.le_of_lt (small1000 (Nat.le_trans (hz z rfl) (by decide)))
    refine iteF ⟨_, rfl, z, rfl, hz', _, _, rfl, rfl, _, rfl, ?_⟩
    refine ite2 (fun c => iteT ?_) (fun c => ⟨_, rfl, rfl, _, rfl, ?_⟩)
    · have e : nameV nameP (.str z) = false := by
        show (!decide ((4 : Int) < (z.length : Int)) && _ && _) = false
        rw [c]
        rfl
      rw [e] at q
      exact q
    · refine ite2 (fun d => ?_) (fun d => ?_)
      · have e : nameV nameP (.str z) = false := by
          show (!decide ((4 : Int) < (z.length : Int)) && !decide (V.str z = V.str "also") && _) = false
          rw [d, Bool.not_true, Bool.and_false, Bool.false_and]
        rw [e] at q
        exact q
      · have c' : decide ((4 : Int) < (z.length : Int)) = false := Bool.eq_false_iff.mpr c
        have d' : decide (V.str z = V.str "also") = false := Bool.eq_false_iff.mpr d
        have e : nameV nameP (.str z) = (Txt.isascii z && (Txt.isalpha z && Txt.islower z)) := by
          show (!decide ((4 : Int) < (z.length : Int)) && !decide (V.str z = V.str "also") && _) = _
          rw [c', d', Bool.not_false, Bool.and_true, Bool.true_and]
        rw [e] at q
        refine ⟨_, rfl, rfl, z, rfl, rfl, trivial, _, rfl, ?_⟩
        cases h1 : Txt.isascii z with
        | false =>
          rw [h1, Bool.false_and] at q
          exact iteF q
        | true =>
          rw [h1, Bool.true_and] at q
          refine iteT ⟨_, rfl, rfl, z, rfl, rfl, trivial, _, rfl, ?_⟩
          cases h2 : Txt.isalpha z with
          | false =>
            rw [h2, Bool.false_and] at q
            exact iteF q
          | true =>
            rw [h2, Bool.true_and] at q
            exact iteT ⟨_, rfl, rfl, z, rfl, rfl, trivial, q⟩
  | _ => exact iteT (iteT q)
end
end LT
namespace LT
open PySem L2
def spErr (C : Addr) : Sp := fun vs H Q _ => ∃ (a : Addr) (v : V), vs = [.ref a, v] ∧ H a = some (exo a C none) ∧
  ∀ dx, H dx = none → dx ≠ a → Q .non (upd (upd H dx (exd dx [("word", v)])) a (exo a C (some dx)))
section
variable {P : Program} {w : World} {K : PySem.W.Frag} {mg : Str → Option Value} {base : Heap}
theorem scErr : FnScope ["self", "word"] ["self", "word"] (defScope sErrInit) := ⟨rfl, rfl, rfl, by decide +kernel, rfl, by decide +kernel, by decide +kernel⟩
theorem ok_err {C f : Addr} {fd : FuncData} {q : Str} (F : Fun K "__init__" q sErrInit f fd) (T : OexC K C) (no : PySem.W.findIn K (.ref C) "word" = some none) : FnOk P w K mg base CX0 1 f fd ["self", "word"] (spErr C) := by
  refine F.ok scErr (fun vs H Q E h => ?_) (fun cdv A outer s H vs Q E hr h => ?_)
  · obtain ⟨a, v, rfl, _⟩ := h
    rfl
  obtain ⟨a, v, rfl, ha, q⟩ := h
  refine ⟨_, pss_one (ps_ost (pv 0) (pv 1)), ?_⟩
  exact ⟨_, rfl, _, rfl, a, C, rfl, T, no, .inl ⟨ha, q⟩⟩
end
/-! ### rows -/
def picks : List Str := ["keep", "at", "past", "under", "all"]
def moves : List Str := ["stay", "on", "home"]
def pickV (l : List Str) : V → Bool
  | .str z => l.any fun y => y == z
  | _ => false
def rowDue (m p mv t a : V) : Option Str :=
  if nameV nameP m = false then some "mode" else if pickV picks p = false then some "pick" else if pickV moves mv = false then some "move" else if nameV nameP t = false then some "then" else if isBl a = false then some "also" else none
def rowFs (m p mv t a : V) : List (Str × V) := [("mode", m), ("pick", p), ("move", mv), ("then", t), ("also", a)]
theorem rowFs_put (m p mv t a : V) : putF "also" a (putF "then" t (putF "move" mv (putF "pick" p (putF "mode" m [])))) = rowFs m p mv t a := by
  kernel_rfl
/-- what the law hands to a row: data, or a row -/
def Arg (K : PySem.W.Frag) (C : Addr) (H : Hp) (v : V) : Prop :=
  (∃ d, Dp K H v d ∧ SeqAt.shaped d = true ∧ ∀ z, v = .str z → z.length ≤ 100) ∨ ∃ a dx fs, v = .ref a ∧ H a = some (.ins C dx fs)
theorem Arg.mono {K : PySem.W.Frag} {C : Addr} {H J : Hp} {v : V} (s : Same H J) (h : Arg K C H v) : Arg K C J v := by
  rcases h with ⟨d, h1, h2, h3⟩ | ⟨a, dx, fs, h1, h2⟩
  · exact .inl ⟨d, dp_mono s d v h1, h2, h3⟩
  · exact .inr ⟨a, dx, fs, h1, s _ _ h2⟩
/-- what the written part says of the class Row -/
structure RowC (K : PySem.W.Frag) (mg : Str → Option Value) (C : Addr) : Prop where
  cl : Cls K C
  ha : PySem.W.findIn K (.ref C) "__class__" = some (some (.builtin "object.__class__"))
  hn : PySem.W.specialIn K (.builtin "object.__class__") "__get__" = some (some (.builtin "getset_descriptor.__get__"))
  ht : PySem.W.takesIn K (.builtin "object.__class__") = some true
  hm : PySem.W.mroIn K C (.type "object") = some true
  ks : PySem.W.kitOne K (.ref C) (.type "str") = some false
  kb : PySem.W.kitOne K (.ref C) (.type "bool") = some false
  n1 : NoAttr K C "mode"
  n2 : NoAttr K C "pick"
  n3 : NoAttr K C "move"
  n4 : NoAttr K C "then"
  n5 : NoAttr K C "also"
  mgC : mg "Row" = some (.ref C)
theorem tyx_seqL {K : PySem.W.Frag} {H : Hp} {a : Addr} {xs : List V} (h : SqL K H a xs) : TyX K H (.ref a) (.type "list") := by
  rcases h with (h | ⟨o, h⟩) | ⟨o, its, n, h, c, _⟩
  · exact .base (.lst h)
  · exact .base (.frz h)
  · exact .kList h c
theorem tyx_seqT {K : PySem.W.Frag} {H : Hp} {a : Addr} {xs : List V} (h : SqT K H a xs) : TyX K H (.ref a) (.type "tuple") := by
  rcases h with (h | ⟨o, h⟩) | ⟨o, its, n, h, c, _⟩
  · exact .base (.tup h)
  · exact .fTuple h
  · exact .kTuple h c
theorem kit_NoneType_str {K : PySem.W.Frag} : PySem.W.kitOne K (.type "NoneType") (.type "str") = some false := kit_ty (by decide +kernel)
theorem kit_NoneType_bool {K : PySem.W.Frag} : PySem.W.kitOne K (.type "NoneType") (.type "bool") = some false := kit_ty (by decide +kernel)
theorem kit_bool_str {K : PySem.W.Frag} : PySem.W.kitOne K (.type "bool") (.type "str") = some false := kit_ty (by decide +kernel)
theorem kit_bool_bool {K : PySem.W.Frag} : PySem.W.kitOne K (.type "bool") (.type "bool") = some true := kit_ty (by decide +kernel)
theorem kit_int_str {K : PySem.W.Frag} : PySem.W.kitOne K (.type "int") (.type "str") = some false := kit_ty (by decide +kernel)
theorem kit_int_bool {K : PySem.W.Frag} : PySem.W.kitOne K (.type "int") (.type "bool") = some false := kit_ty (by decide +kernel)
theorem kit_str_str {K : PySem.W.Frag} : PySem.W.kitOne K (.type "str") (.type "str") = some true := kit_ty (by decide +kernel)
theorem kit_str_bool {K : PySem.W.Frag} : PySem.W.kitOne K (.type "str") (.type "bool") = some false := kit_ty (by decide +kernel)
theorem kit_list_str {K : PySem.W.Frag} : PySem.W.kitOne K (.type "list") (.type "str") = some false := kit_ty (by decide +kernel)
theorem kit_list_bool {K : PySem.W.Frag} : PySem.W.kitOne K (.type "list") (.type "bool") = some false := kit_ty (by decide +kernel)
theorem kit_tuple_str {K : PySem.W.Frag} : PySem.W.kitOne K (.type "tuple") (.type "str") = some false := kit_ty (by decide +kernel)
theorem kit_tuple_bool {K : PySem.W.Frag} : PySem.W.kitOne K (.type "tuple") (.type "bool") = some false := kit_ty (by decide +kernel)
theorem Arg.kind {K : PySem.W.Frag} {mg : Str → Option Value} {C : Addr} {H : Hp} {v : V} (T : RowC K mg C) (h : Arg K C H v) : Kind K H v := by
  rcases h with ⟨d, h1, _, h3⟩ | ⟨a, dx, fs, rfl, h2⟩
  · refine ⟨?_, fun z e => h3 z e⟩
    cases h1 with
    | non => exact ⟨_, .base .non, kit_NoneType_str, kit_NoneType_bool⟩
    | bl b => exact ⟨_, .base (.bl b), kit_bool_str, kit_bool_bool⟩
    | int i => exact ⟨_, .base (.int i), kit_int_str, kit_int_bool⟩
    | str x => exact ⟨_, .base (.str x), kit_str_str, kit_str_bool⟩
    | lst hs _ => exact ⟨_, tyx_seqL hs, kit_list_str, kit_list_bool⟩
    | tup hs _ => exact ⟨_, tyx_seqT hs, kit_tuple_str, kit_tuple_bool⟩
  · exact ⟨⟨_, .base (.ins h2 T.cl T.ha T.hn T.ht T.hm), T.ks, T.kb⟩, fun z e => nomatch e⟩
/-! ### x not in a tuple of texts -/
def strD (xs : List Str) : List PyData := xs.map PyData.str
theorem dp_strs {K : PySem.W.Frag} {H : Hp} : ∀ xs : List Str, DpAll K H (xs.map V.str) (strD xs)
  | [] => .nil
  | x :: xs => .cons (.str x) (dp_strs xs)
theorem eqv_strs {K : PySem.W.Frag} {H : Hp} {v : V} {d : PyData} (h : Dp K H v d) : ∀ xs : List Str, (strD xs).any (fun y => PyData.eqv y d) = pickV xs v := by
  intro xs
  cases h with
  | str z =>
    show (xs.map PyData.str).any (fun y => PyData.eqv y (.str z)) = xs.any fun y => y == z
    rw [List.any_map]
    rfl
  | _ =>
    show (xs.map PyData.str).any _ = false
    rw [List.any_map]
    exact List.any_eq_false.mpr fun y _ => by simp [PyData.eqv]
theorem op_notInArg {X : Cx} {CX : CXT} {C f : Addr} {fd : FuncData} {ps : List Str} {E : XK} {k : Nat} (F : FnOk X.prog X.w X.K X.mg X.base CX k f fd ps (spEqT C)) (hr : Room (k + 1) X.A)
    (hb : PySem.W.subIn X.K (.ref C) (.type "str") = some false) (hs : PySem.W.findIn X.K (.ref C) "__eq__" = some (some (.ref f))) (hf : PySem.W.isFn X.K (.ref f) = true) (bn : Binds X.K fd ps []) (hx : Passes CX X E) :
    OpR X (compareOp .NotIn) (fun x y H Q => ∃ (p : Addr) (xs : List Str), Arg X.K C H x ∧ y = .ref p ∧ SqT X.K H p (xs.map V.str) ∧ PyData.canLayAll0 (strD xs) = true ∧ Q (.bl (!pickV xs x)) H) := by
  intro pins s σ H x y v u Q I rx ry h
  obtain ⟨p, xs, ha, rfl, hp, hlay, q⟩ := h
  rcases ha with ⟨d, h1, h2, _⟩ | ⟨a, dx, fs, rfl, h2⟩
  · obtain ⟨as, r1⟩ := Dp.reads I d x v h1 rx
    obtain ⟨bs, r2⟩ := Dp.reads I (.tuple (strD xs)) (.ref p) u (.tup hp (dp_strs xs)) ry
    have hdep : PyData.depthAll (strD xs) ≤ 1 := by
      have go : ∀ l : List Str, PyData.depthAll (strD l) ≤ 1 := fun l => by
        induction l with
        | nil => decide
        | cons a l ih =>
          show max (PyData.depth (.str a)) (PyData.depthAll (strD l)) ≤ 1
          exact Nat.max_le.mpr ⟨by simp [PyData.depth], ih⟩
      exact go xs
    have hun := hr.units
    refine SeqAt.notIn_tuple_reads r2 r1 hlay (SeqAt.canLay_of_shaped h2) (by have := Nat.min_le_left (PyData.depthAll (strD xs)) d.depth; omega) ⟨.bl _, H, I, rfl, ?_⟩
    rw [eqv_strs h1 xs]
    exact q
  · exact op_notIn_own F hr hb hs hf bn hx pins s σ H _ _ v u Q I rx ry ⟨a, dx, p, fs, xs, rfl, h2, rfl, hp, q⟩
/-! ### Row's own == (asked by a text) and Row's making -/
section
variable {P : Program} {w : World} {K : PySem.W.Frag} {mg : Str → Option Value} {base : Heap}
theorem pe_nev {X : Cx} {e : Expr} : PE X e (fun _ _ _ => False) := ⟨fun _ _ _ _ _ _ h => h.elim⟩
theorem scEq : FnScope ["self", "other"] ["self", "other"] (defScope sRowEq) := ⟨rfl, rfl, rfl, by decide +kernel, rfl, by decide +kernel, by decide +kernel⟩
theorem ok_eqT {C f : Addr} {fd : FuncData} (F : Fun K "__eq__" "Row.__eq__" sRowEq f fd) (T : RowC K mg C) (U : Blt2 mg) (ks : PySem.W.kitOne K (.type "str") (.ref C) = some false) : FnOk P w K mg base CX0 1 f fd ["self", "other"] (spEqT C) := by
  refine F.ok scEq (fun vs H Q E h => ?_) (fun cdv A outer s H vs Q E hr h => ?_)
  · obtain ⟨a, dx, fs, z, rfl, _⟩ := h
    rfl
  obtain ⟨a, dx, fs, z, rfl, ha, q⟩ := h
  refine ⟨_, pss_one (ps_ret (pe_and (pe_callB call_isi (by rfl) U.isin boot_isin (pa_cons (pv 1) (pa_cons (pe_glob (by rfl) T.mgC (v := .ref C) rfl) pa_nil))) pe_nev)), ?_⟩
  exact ⟨_, rfl, .str z, .ref C, _, _, false, rfl, .own C, .base (.str z), ks, false, rfl, iteF q⟩
end
end LT
namespace L2
open PySem PySem.Spec PyProof.Rows
section
variable {X : Cx} {CX : CXT} {k : Nat} {f C : Addr} {fd : FuncData} {ps : List Str} {sp : Sp} {E : St → XK} {x : Str} {p pos : Pos} {e : Expr} {es : List Expr} {t : TA} {ds : List Value} {dvs : List V}
/-- C(e, ..) where what is raised is wished for at the slots -/
def tMakeS (C : Addr) (sp : Sp) (dvs : List V) (E : St → XK) (t : TA) : TE := fun σ H Q => t σ H fun vs H1 => ∀ x dx, H1 x = none → H1 dx = none → dx ≠ x →
  sp (.ref x :: (vs ++ dvs)) (upd (upd H1 dx (.own x)) x (.ins C dx [])) (fun v H2 => v = .non ∧ Q (.ref x) H2) (E σ)
theorem run_makeS {pins : List (Addr × Obj)} {σ : St} {H : Hp} {s : Shared} {Q : VK} {us : List Value} {vs : List V} (M : Mk X.K C f) (F : FnOk X.prog X.w X.K X.mg X.base CX k f fd ps sp) (hr : Room (k + 1) X.A)
    (hb : Binds X.K fd ps ds) (hd : Vals dvs ds) (hx : PassesAt CX X σ (E σ)) (I : Inv X pins σ H s) (r : Vals vs us)
    (h : ∀ y dy, H y = none → H dy = none → dy ≠ y → sp (.ref y :: (vs ++ dvs)) (upd (upd H dy (.own y)) y (.ins C dy [])) (fun v H2 => v = .non ∧ Q (.ref y) H2) (E σ)) :
    wpAny (model X.prog X.w) X.A (call (.ref C) us) (EP X pins σ Q) X.xe s := by
  have here := h (s.heap.objs.size + 1) s.heap.objs.size (I.hok.fresh (Nat.le_succ _)) (I.hok.fresh (Nat.le_refl _))
    (Nat.ne_of_lt (Nat.lt_succ_self _))
  have J := Inv.made (C := C) I
  have rr : Vals (V.ref (s.heap.objs.size + 1) :: (vs ++ dvs)) (Value.ref (s.heap.objs.size + 1) :: (us ++ ds)) :=
    .cons rfl (r.append hd)
  have len : (Value.ref (s.heap.objs.size + 1) :: us ++ ds).length = ps.length := by
    have z := rr.length
    rw [F.len _ _ _ _ here] at z
    exact z.symm
  have run := F.run _ X.stack _ _ ⟨Value.ref (s.heap.objs.size + 1) :: us, []⟩ (Value.ref (s.heap.objs.size + 1) :: (us ++ ds)) _ _ (E σ)
    (hr.make C us []) (J.env0.make C us []) (hb _ (Value.ref (s.heap.objs.size + 1) :: us) J.kIn len) rr here
  refine wpAny_call (make_map (f := f) I.kIn M.makes M.init (beq_iff_eq.mp M.fn) (codeAny_mono run fun q s' hq => ?_))
  cases q with
  | error e => exact hx pins _ _ e s' J hq
  | ok fl =>
    cases fl with
    | ret u =>
      obtain ⟨v, H', J', rv, ev, fin⟩ := J.after hq
      subst ev
      exact ⟨rv, V.ref (s.heap.objs.size + 1), H', J', rfl, fin⟩
    | next => exact False.elim hq
    | brk => exact False.elim hq
    | cont => exact False.elim hq
theorem pe_makeS (M : Mk X.K C f) (F : FnOk X.prog X.w X.K X.mg X.base CX k f fd ps sp) (hr : Room (k + 1) X.A) (hg : Gl X x) (hm : X.mg x = some (.ref C)) (hb : Binds X.K fd ps ds) (hd : Vals dvs ds)
    (hx : ∀ σ, PassesAt CX X σ (E σ)) (ha : PA X (e :: es) t) (hdb : (x == ("__debug__" : Str)) = false := by decide)
    (he : starEach (e :: es) X.env = (false, eval e X.env) :: starEach es X.env := by rfl) (hpl : (backTo pos (starEach es X.env)).any (·.1) = false := by rfl) :
    PE X (.Call (.Name x p) (e :: es) [] pos) (tMakeS C sp dvs E t) := by
  refine ⟨fun pins s σ H Q I h => wpAny_Call_Name_kw (ld_glob I hg hm ?_ hdb)⟩
  refine PySem.W.callWith_K (h₀ := X.base) I.ok.mod.kin M.kp (thn (ha.run pos pins s σ H _ I h) fun us s1 hh => ?_) he hpl
  obtain ⟨vs, H1, I1, r, q⟩ := hh
  exact ⟨I1.kIn, run_makeS M F hr hb hd (hx σ) I1 r q⟩
end
end L2
namespace LT
open PySem L2
/-- the heap behind a made error: its own dict stands at d -/
theorem del_word {H : Hp} {a d C : Addr} {fs : List (Str × V)} (ha : H a = none) : upd (del (upd (upd (upd H a (exo a C none)) d (exd d fs)) a (exo a C (some d))) a) d (.xd fs) = upd H d (.xd fs) := by
  funext b
  by_cases hb : b = d
  · rw [hb, upd_same, upd_same]
  · rw [upd_ne hb, upd_ne hb]
    by_cases hc : b = a
    · rw [hc, del_same, ha]
    · rw [del_ne hc, upd_ne hc, upd_ne hb, upd_ne hc]
theorem raise_ok {CE : Addr} {H : Hp} {E : XK} {wd : Str} {σ : St} (kE : ∀ d, H d = none → E (.ref CE) (some d) (upd H d (.xd [("word", .str wd)]))) :
    tMkO CE (spErr CE) [] (tCons (tC (.str wd)) tNil) σ H (fun cls d H' => E cls d H') := by
  refine ⟨(by show 1 ≤ 1000; decide), fun a ha => ⟨a, .str wd, rfl, upd_same, fun dx n ne => ?_⟩⟩
  have hd : H dx = none := by
    rw [upd_ne ne] at n
    exact n
  refine ⟨rfl, dx, [("word", .str wd)], upd_same, by rw [upd_ne ne]; exact upd_same, hd, ?_⟩
  rw [del_word ha]
  exact kE dx hd
def spRow (K : PySem.W.Frag) (C CE : Addr) : Sp := fun vs H Q E => ∃ (x dx : Addr) (m p mv t a : V), vs = [.ref x, m, p, mv, t, a] ∧ H x = some (.ins C dx []) ∧ Arg K C H m ∧ Arg K C H p ∧ Arg K C H mv ∧ Arg K C H t ∧ Arg K C H a ∧
  (∀ wd, rowDue m p mv t a = some wd → ∀ d, H d = none → E (.ref CE) (some d) (upd H d (.xd [("word", .str wd)]))) ∧
  (rowDue m p mv t a = none → Q .non (upd H x (.ins C dx (rowFs m p mv t a))))
section
variable {P : Program} {w : World} {K : PySem.W.Frag} {mg : Str → Option Value} {base : Heap}
theorem scRow : FnScope ["self", "mode", "pick", "move", "then", "also"] ["self", "mode", "pick", "move", "then", "also"] (defScope sRowInit) := ⟨rfl, rfl, rfl, by decide +kernel, rfl, by decide +kernel, by decide +kernel⟩
/-- what Row.__init__ leans on -/
structure RowG (P : Program) (w : World) (K : PySem.W.Frag) (mg : Str → Option Value) (base : Heap) (C CE : Addr) : Prop where
  row : RowC K mg C
  nm : ∃ (f : Addr) (fd : FuncData), FnOk P w K mg base CX0 1 f fd ["value"] (spIsName K) ∧ Binds K fd ["value"] [] ∧ PySem.W.keepIn K (.ref f) = true ∧ mg "is_name" = some (.ref f)
  err : ∃ (f : Addr) (fd : FuncData), FnOk P w K mg base CX0 1 f fd ["self", "word"] (spErr CE) ∧ Binds K fd ["self", "word"] [] ∧ PySem.W.findIn K (.ref CE) "__init__" = some (some (.ref f)) ∧ PySem.W.typeIn K (.ref f) = some (.type "function")
  oex : OexC K CE
  mE : mg "InvalidRow" = some (.ref CE)
  eq : ∃ (f : Addr) (fd : FuncData), FnOk P w K mg base CX0 1 f fd ["self", "other"] (spEqT C) ∧ Binds K fd ["self", "other"] [] ∧ PySem.W.findIn K (.ref C) "__eq__" = some (some (.ref f)) ∧ PySem.W.isFn K (.ref f) = true
  sub : PySem.W.subIn K (.ref C) (.type "str") = some false
  pk : ∃ p, mg "PICKS" = some (.ref p) ∧ ∀ H, SqT K H p (picks.map V.str)
  mv : ∃ p, mg "MOVES" = some (.ref p) ∧ ∀ H, SqT K H p (moves.map V.str)
theorem ok_row {C CE f : Addr} {fd : FuncData} {dvs : List V} {kws : List (Str × V)} (F : FunD K "__init__" "Row.__init__" (defArgs sRowInit) (defBody sRowInit) (defScope sRowInit) dvs kws f fd) (G : RowG P w K mg base C CE) (U : Blt2 mg) :
    FnOk P w K mg base (L2.CX P w) 3 f fd ["self", "mode", "pick", "move", "then", "also"] (spRow K C CE) := by
  obtain ⟨fN, fdN, GN, bN, kN, mN⟩ := G.nm
  obtain ⟨fE, fdE, GE, bE, iE, tE⟩ := G.err
  obtain ⟨fQ, fdQ, GQ, bQ, iQ, tQ⟩ := G.eq
  obtain ⟨pP, mP, sP⟩ := G.pk
  obtain ⟨pM, mM, sM⟩ := G.mv
  refine F.ok scRow (fun vs H Q E h => ?_) (fun cdv A outer s H vs Q E hr h => ?_)
  · obtain ⟨x, dx, m, p, mv, t, a, rfl, _⟩ := h
    rfl
  obtain ⟨x, dx, m, p, mv, t, a, rfl, hx, a1, a2, a3, a4, a5, kE, kQ⟩ := h
  have hr1 : Room 1 _ := hr.mono (by decide)
  refine ⟨_, pss_cons (ps_if (pt_not (pt_val (pe_call GN hr1 rfl mN kN bN .nil pass0 (pa_cons (pv 1) pa_nil))))
      (pss_one (ps_raise rfl (takes_of rfl rfl rfl rfl) (pmk_oex G.oex iE tE GE hr bE .nil pass0 rfl G.mE (pa_cons pe_str pa_nil)))) pss_nil)
    (pss_cons (ps_if (pt_cmpR (op_notInArg GQ hr G.sub iQ tQ bQ pass0) (pv 2) (pe_glob (by rfl) mP (v := .ref pP) rfl) (by rfl))
      (pss_one (ps_raise rfl (takes_of rfl rfl rfl rfl) (pmk_oex G.oex iE tE GE hr bE .nil pass0 rfl G.mE (pa_cons pe_str pa_nil)))) pss_nil)
    (pss_cons (ps_if (pt_cmpR (op_notInArg GQ hr G.sub iQ tQ bQ pass0) (pv 3) (pe_glob (by rfl) mM (v := .ref pM) rfl) (by rfl))
      (pss_one (ps_raise rfl (takes_of rfl rfl rfl rfl) (pmk_oex G.oex iE tE GE hr bE .nil pass0 rfl G.mE (pa_cons pe_str pa_nil)))) pss_nil)
    (pss_cons (ps_if (pt_not (pt_val (pe_call GN hr1 rfl mN kN bN .nil pass0 (pa_cons (pv 4) pa_nil))))
      (pss_one (ps_raise rfl (takes_of rfl rfl rfl rfl) (pmk_oex G.oex iE tE GE hr bE .nil pass0 rfl G.mE (pa_cons pe_str pa_nil)))) pss_nil)
    (pss_cons (ps_if (pt_not (pt_val (pe_callB call_isi (by rfl) U.isin boot_isin (pa_cons (pv 5) (pa_cons (pe_bltn (v := .ty "bool") (by rfl) U.bool boot_boolT rfl) pa_nil)))))
      (pss_one (ps_raise rfl (takes_of rfl rfl rfl rfl) (pmk_oex G.oex iE tE GE hr bE .nil pass0 rfl G.mE (pa_cons pe_str pa_nil)))) pss_nil)
    (pss_cons (ps_fld (pv 0) (pv 1) rfl) (pss_cons (ps_fld (pv 0) (pv 2) rfl) (pss_cons (ps_fld (pv 0) (pv 3) rfl) (pss_cons (ps_fld (pv 0) (pv 4) rfl) (pss_one (ps_fld (pv 0) (pv 5) rfl)))))))))), ?_⟩
  refine ⟨_, rfl, m, rfl, a1.kind G.row, _, rfl, ?_⟩
  have no : ∀ wd, rowDue m p mv t a = some wd → tMkO CE (spErr CE) [] (tCons (tC (.str wd)) tNil) (start ["self", "mode", "pick", "move", "then", "also"] [.ref x, m, p, mv, t, a]) H (fun cls d H' => E cls d H') :=
    fun wd e => raise_ok (kE wd e)
  refine ite2 (fun c => ?_) (fun c => ?_)
  · exact no "mode" (if_pos (by simpa using c))
  have c1 : ¬ nameV nameP m = false := by simpa using c
  refine ⟨_, rfl, pP, picks, a2, rfl, sP _, (by decide +kernel), _, rfl, ?_⟩
  refine ite2 (fun c => ?_) (fun c => ?_)
  · exact no "pick" ((if_neg c1).trans (if_pos (by simpa using c)))
  have c2 : ¬ pickV picks p = false := by simpa using c
  refine ⟨_, rfl, pM, moves, a3, rfl, sM _, (by decide +kernel), _, rfl, ?_⟩
  refine ite2 (fun c => ?_) (fun c => ?_)
  · exact no "move" ((if_neg c1).trans ((if_neg c2).trans (if_pos (by simpa using c))))
  have c3 : ¬ pickV moves mv = false := by simpa using c
  refine ⟨_, rfl, t, rfl, a4.kind G.row, _, rfl, ?_⟩
  refine ite2 (fun c => ?_) (fun c => ?_)
  · exact no "then" ((if_neg c1).trans ((if_neg c2).trans ((if_neg c3).trans (if_pos (by simpa using c)))))
  have c4 : ¬ nameV nameP t = false := by simpa using c
  obtain ⟨⟨ty, h1, _, h3⟩, _⟩ := a5.kind G.row
  refine ⟨_, rfl, a, .ty "bool", ty, _, isBl a, rfl, .ty "bool", h1, h3, _, rfl, ?_⟩
  refine ite2 (fun c => ?_) (fun c => ?_)
  · exact no "also" ((if_neg c1).trans ((if_neg c2).trans ((if_neg c3).trans ((if_neg c4).trans (if_pos (by simpa using c))))))
  have c5 : ¬ isBl a = false := by simpa using c
  have q := kQ ((if_neg c1).trans ((if_neg c2).trans ((if_neg c3).trans ((if_neg c4).trans (if_neg c5)))))
  have R := G.row
  refine ⟨_, rfl, _, rfl, x, C, dx, [], rfl, hx, R.cl, R.n1, (by show 0 < 1000; decide), ?_⟩
  have l1 : putF "mode" m [] = ([("mode", m)] : List (Str × V)) := by kernel_rfl
  have l2 : putF "pick" p [("mode", m)] = ([("mode", m), ("pick", p)] : List (Str × V)) := by kernel_rfl
  have l3 : putF "move" mv [("mode", m), ("pick", p)] = ([("mode", m), ("pick", p), ("move", mv)] : List (Str × V)) := by kernel_rfl
  have l4 : putF "then" t [("mode", m), ("pick", p), ("move", mv)] = ([("mode", m), ("pick", p), ("move", mv), ("then", t)] : List (Str × V)) := by kernel_rfl
  have l5 : putF "also" a [("mode", m), ("pick", p), ("move", mv), ("then", t)] = rowFs m p mv t a := by kernel_rfl
  rw [l1]
  refine ⟨_, rfl, _, rfl, x, C, dx, _, rfl, upd_same, R.cl, R.n2, (by show 1 < 1000; decide), ?_⟩
  rw [l2, upd_upd]
  refine ⟨_, rfl, _, rfl, x, C, dx, _, rfl, upd_same, R.cl, R.n3, (by show 2 < 1000; decide), ?_⟩
  rw [l3, upd_upd]
  refine ⟨_, rfl, _, rfl, x, C, dx, _, rfl, upd_same, R.cl, R.n4, (by show 3 < 1000; decide), ?_⟩
  rw [l4, upd_upd]
  refine ⟨_, rfl, _, rfl, x, C, dx, _, rfl, upd_same, R.cl, R.n5, (by show 4 < 1000; decide), ?_⟩
  rw [l5, upd_upd]
  exact q
end
end LT
namespace LT
open PySem L2
/-! ### the text of a row -/
def base4 (m p mv t : Str) : Str := Str.empty ++ m ++ " " ++ p ++ " " ++ mv ++ " " ++ t
def rowText (m p mv t : Str) (al : Bool) : Str := if al then base4 m p mv t ++ " also" else base4 m p mv t
theorem len_app (a b : Str) : (a ++ b).length = a.length + b.length := by
  show (a.cps ++ b.cps).size = _
  exact Array.size_append
theorem tl_app (a b : Str) : (a ++ b).cps.toList = a.cps.toList ++ b.cps.toList := by
  show (a.cps ++ b.cps).toList = _
  exact Array.toList_append
theorem len_base4 (m p mv t : Str) : (base4 m p mv t).length = m.length + p.length + mv.length + t.length + 3 := by
  unfold base4
  simp only [len_app]
  have h1 : (" " : Str).length = 1 := rfl
  have h0 : Str.empty.length = 0 := rfl
  omega
/-- a row made of words -/
structure Row5 where
  m : Str
  p : Str
  mv : Str
  t : Str
  al : Bool
def Row5.text (r : Row5) : Str := rowText r.m r.p r.mv r.t r.al
def Row5.fs (r : Row5) : List (Str × V) := rowFs (.str r.m) (.str r.p) (.str r.mv) (.str r.t) (.bl r.al)
def Row5.vs (r : Row5) : List V := [.str r.m, .str r.p, .str r.mv, .str r.t, .bl r.al]
structure Row5.Ok (r : Row5) : Prop where
  m : r.m.length ≤ 10
  p : r.p.length ≤ 10
  mv : r.mv.length ≤ 10
  t : r.t.length ≤ 10
/-- a made row stands at a -/
def RowAt (C : Addr) (H : Hp) (a : Addr) (r : Row5) : Prop := (∃ dx, H a = some (.ins C dx r.fs)) ∧ r.Ok
def spStr (C : Addr) : Sp := fun vs H Q _ => ∃ (a : Addr) (r : Row5), vs = [.ref a] ∧ RowAt C H a r ∧ Q (.str r.text) H
section
variable {P : Program} {w : World} {K : PySem.W.Frag} {mg : Str → Option Value} {base : Heap}
theorem scStr : FnScope ["self"] ["self"] (defScope sRowStr) := ⟨rfl, rfl, rfl, by decide +kernel, rfl, by decide +kernel, by decide +kernel⟩
theorem ok_str {C f : Addr} {fd : FuncData} (F : Fun K "__str__" "Row.__str__" sRowStr f fd) (R : RowC K mg C) : FnOk P w K mg base CX0 1 f fd ["self"] (spStr C) := by
  refine F.ok scStr (fun vs H Q E h => ?_) (fun cdv A outer s H vs Q E hr h => ?_)
  · obtain ⟨a, r, rfl, _⟩ := h
    rfl
  obtain ⟨a, r, rfl, ⟨⟨dx, ha⟩, ok⟩, q⟩ := h
  refine ⟨_, pss_cons (ps_if (pt_val (pe_fld (pv 0) rfl)) (pss_one (ps_ret (pe_joined (.cons (pe_fmt (pe_fld (pv 0) rfl)) (.cons pe_str (.cons (pe_fmt (pe_fld (pv 0) rfl)) (.cons pe_str (.cons (pe_fmt (pe_fld (pv 0) rfl)) (.cons pe_str (.cons (pe_fmt (pe_fld (pv 0) rfl)) (.cons pe_str .nil))))))))))) pss_nil)
    (pss_one (ps_ret (pe_joined (.cons (pe_fmt (pe_fld (pv 0) rfl)) (.cons pe_str (.cons (pe_fmt (pe_fld (pv 0) rfl)) (.cons pe_str (.cons (pe_fmt (pe_fld (pv 0) rfl)) (.cons pe_str (.cons (pe_fmt (pe_fld (pv 0) rfl)) .nil)))))))))), ?_⟩
  have l1 : r.fs.lookup ("mode" : Str) = some (V.str r.m) := by kernel_rfl
  have l2 : r.fs.lookup ("pick" : Str) = some (V.str r.p) := by kernel_rfl
  have l3 : r.fs.lookup ("move" : Str) = some (V.str r.mv) := by kernel_rfl
  have l4 : r.fs.lookup ("then" : Str) = some (V.str r.t) := by kernel_rfl
  have l5 : r.fs.lookup ("also" : Str) = some (V.bl r.al) := by kernel_rfl
  have o1 := ok.m
  have o2 := ok.p
  have o3 := ok.mv
  have o4 := ok.t
  have e1 : (" " : Str).length = 1 := rfl
  have e5 : (" also" : Str).length = 5 := rfl
  have e0 : Str.empty.length = 0 := rfl
  have sz : ∀ n, n ≤ 1000 → n ≤ sizeLine := fun n h => Nat.le_of_lt (small1000 h)
  refine ⟨_, rfl, a, C, dx, _, _, rfl, ha, R.cl, R.n5, l5, _, rfl, ?_⟩
  have four : ∀ W : Str → Prop, W (base4 r.m r.p r.mv r.t) → W (base4 r.m r.p r.mv r.t) := fun _ h => h
  cases hal : r.al with
  | true =>
    have et : r.text = base4 r.m r.p r.mv r.t ++ " also" := by
      unfold Row5.text rowText
      rw [hal]
      rfl
    rw [et] at q
    refine iteT ?_
    refine ⟨_, rfl, a, C, dx, _, _, rfl, ha, R.cl, R.n1, l1, .inl ⟨_, rfl, sz _ (by omega), _, rfl, sz _ (by simp only [len_app]; omega), ?_⟩⟩
    refine ⟨_, rfl, sz _ (by simp only [len_app]; omega), _, rfl, a, C, dx, _, _, rfl, ha, R.cl, R.n2, l2, .inl ⟨_, rfl, sz _ (by omega), _, rfl, sz _ (by simp only [len_app]; omega), ?_⟩⟩
    refine ⟨_, rfl, sz _ (by simp only [len_app]; omega), _, rfl, a, C, dx, _, _, rfl, ha, R.cl, R.n3, l3, .inl ⟨_, rfl, sz _ (by omega), _, rfl, sz _ (by simp only [len_app]; omega), ?_⟩⟩
    refine ⟨_, rfl, sz _ (by simp only [len_app]; omega), _, rfl, a, C, dx, _, _, rfl, ha, R.cl, R.n4, l4, .inl ⟨_, rfl, sz _ (by omega), _, rfl, sz _ (by simp only [len_app]; omega), ?_⟩⟩
    exact ⟨_, rfl, sz _ (by simp only [len_app]; omega), q⟩
  | false =>
    have et : r.text = base4 r.m r.p r.mv r.t := by
      unfold Row5.text rowText
      rw [hal]
      rfl
    rw [et] at q
    refine iteF ?_
    refine ⟨_, rfl, a, C, dx, _, _, rfl, ha, R.cl, R.n1, l1, .inl ⟨_, rfl, sz _ (by omega), _, rfl, sz _ (by simp only [len_app]; omega), ?_⟩⟩
    refine ⟨_, rfl, sz _ (by simp only [len_app]; omega), _, rfl, a, C, dx, _, _, rfl, ha, R.cl, R.n2, l2, .inl ⟨_, rfl, sz _ (by omega), _, rfl, sz _ (by simp only [len_app]; omega), ?_⟩⟩
    refine ⟨_, rfl, sz _ (by simp only [len_app]; omega), _, rfl, a, C, dx, _, _, rfl, ha, R.cl, R.n3, l3, .inl ⟨_, rfl, sz _ (by omega), _, rfl, sz _ (by simp only [len_app]; omega), ?_⟩⟩
    refine ⟨_, rfl, sz _ (by simp only [len_app]; omega), _, rfl, a, C, dx, _, _, rfl, ha, R.cl, R.n4, l4, .inl ⟨_, rfl, sz _ (by omega), _, rfl, sz _ (by simp only [len_app]; omega), ?_⟩⟩
    exact q
/-- Row's ==: asked by a row, or by what is none -/
def spEqR (K : PySem.W.Frag) (C : Addr) : Sp := fun vs H Q _ => ∃ (a : Addr) (r : Row5) (v : V), vs = [.ref a, v] ∧ RowAt C H a r ∧
  ((Oth K H v ∧ Q (.bl false) H) ∨ ∃ (b : Addr) (q : Row5), v = .ref b ∧ RowAt C H b q ∧ Q (.bl (decide (r.text = q.text))) H)
structure KitC (K : PySem.W.Frag) (C : Addr) : Prop where
  s : PySem.W.kitOne K (.type "str") (.ref C) = some false
  n : PySem.W.kitOne K (.type "NoneType") (.ref C) = some false
  t : PySem.W.kitOne K (.type "tuple") (.ref C) = some false
  l : PySem.W.kitOne K (.type "list") (.ref C) = some false
  c : PySem.W.kitOne K (.ref C) (.ref C) = some true
theorem oth_ty {C : Addr} {H : Hp} {v : V} (T : KitC K C) (h : Oth K H v) : ∃ t, TyX K H v t ∧ PySem.W.kitOne K t (.ref C) = some false := by
  rcases h with ⟨z, rfl⟩ | rfl | ⟨a, xs, rfl, h⟩ | ⟨a, xs, rfl, h⟩
  · exact ⟨_, .base (.str z), T.s⟩
  · exact ⟨_, .base .non, T.n⟩
  · exact ⟨_, tyx_seqT h, T.t⟩
  · exact ⟨_, tyx_seqL h, T.l⟩
theorem ok_eqR {C f g : Addr} {fd gd : FuncData} (F : Fun K "__eq__" "Row.__eq__" sRowEq f fd) (T : RowC K mg C) (U : Blt2 mg) (Kc : KitC K C)
    (G : FnOk P w K mg base CX0 1 g gd ["self"] (spStr C)) (bG : Binds K gd ["self"] []) (iG : PySem.W.findIn K (.ref C) "__str__" = some (some (.ref g))) (tG : PySem.W.isFn K (.ref g) = true) :
    FnOk P w K mg base CX0 4 f fd ["self", "other"] (spEqR K C) := by
  refine F.ok scEq (fun vs H Q E h => ?_) (fun cdv A outer s H vs Q E hr h => ?_)
  · obtain ⟨a, r, v, rfl, _⟩ := h
    rfl
  obtain ⟨a, r, v, rfl, ha, h⟩ := h
  refine ⟨_, pss_one (ps_ret (pe_and (pe_callB call_isi (by rfl) U.isin boot_isin (pa_cons (pv 1) (pa_cons (pe_glob (by rfl) T.mgC (v := .ref C) rfl) pa_nil)))
    (pe_one (pe_cmpR op_eq (pe_callTy (call_strOwn G hr iG tG bG pass0) (by rfl) U.str boot_strT (pa_cons (pv 0) pa_nil)) (pe_callTy (call_strOwn G hr iG tG bG pass0) (by rfl) U.str boot_strT (pa_cons (pv 1) pa_nil)) (nomark _))))), ?_⟩
  rcases h with ⟨ot, q⟩ | ⟨b, r2, rfl, hb, q⟩
  · obtain ⟨t, h1, h2⟩ := oth_ty Kc ot
    exact ⟨_, rfl, v, .ref C, _, _, false, rfl, .own C, h1, h2, false, rfl, iteF q⟩
  · obtain ⟨⟨dx, ea⟩, oa⟩ := ha
    obtain ⟨⟨dy, eb⟩, ob⟩ := hb
    refine ⟨_, rfl, .ref b, .ref C, _, _, true, rfl, .own C, .base (.ins eb T.cl T.ha T.hn T.ht T.hm), Kc.c, true, rfl, iteT ?_⟩
    refine ⟨_, rfl, a, dx, _, rfl, ea, a, r, rfl, ⟨⟨dx, ea⟩, oa⟩, _, rfl, ?_⟩
    refine ⟨_, rfl, b, dy, _, rfl, eb, b, r2, rfl, ⟨⟨dy, eb⟩, ob⟩, _, rfl, rfl, ?_⟩
    show Q (.bl (decide (V.str r.text = V.str r2.text))) H
    have e : decide (V.str r.text = V.str r2.text) = decide (r.text = r2.text) := by
      by_cases c : r.text = r2.text
      · rw [decide_eq_true c, c]
        exact decide_eq_true rfl
      · rw [decide_eq_false c]
        exact decide_eq_false fun z => c (V.str.inj z)
    rw [← e] at q
    exact q
end
end LT
namespace LT
open PySem L2
def az : List Nat := [97, 98, 99, 100, 101, 102, 103, 104, 105, 106, 107, 108, 109, 110, 111, 112, 113, 114, 115, 116, 117, 118, 119, 120, 121, 122]
/-- a word: one to four small letters, not «also» -/
structure Wd (z : Str) : Prop where
  pos : 0 < z.length
  len : z.length ≤ 4
  az : ∀ c ∈ z.cps.toList, c ∈ az
  no : z ≠ "also"
theorem az_ok : ∀ c ∈ az, (decide (c < 128) && Unicode.isAlpha c && Unicode.isLower c && !(Unicode.isUpper c || Unicode.isTitle c)) = true := by decide +kernel
theorem az_no : ∀ c ∈ az, c ≠ 32 ∧ c < 16 ^ 8 := by decide +kernel
theorem Wd.name {z : Str} (h : Wd z) : nameP z = true := by
  have ok : ∀ c ∈ z.cps.toList, c < 128 ∧ Unicode.isAlpha c = true ∧ Unicode.isLower c = true ∧ (Unicode.isUpper c || Unicode.isTitle c) = false := fun c hc => by
    have := az_ok c (h.az c hc)
    simp only [Bool.and_eq_true, decide_eq_true_eq, Bool.not_eq_true'] at this
    exact ⟨this.1.1.1, this.1.1.2, this.1.2, this.2⟩
  have e1 : decide ((4 : Int) < (z.length : Int)) = false := decide_eq_false (by have := h.len; omega)
  have e2 : decide (V.str z = V.str "also") = false := decide_eq_false fun q => h.no (V.str.inj q)
  have e3 : Txt.isascii z = true := Array.all_eq_true'.mpr fun c hc => by
    have := (ok c (Array.mem_toList_iff.mpr hc)).1
    simpa using this
  have e4 : Txt.isalpha z = true := by
    unfold Txt.isalpha
    rw [Bool.and_eq_true]
    exact ⟨by simpa using h.pos, Array.all_eq_true'.mpr fun c hc => (ok c (Array.mem_toList_iff.mpr hc)).2.1⟩
  have e5 : Txt.islower z = true := by
    unfold Txt.islower
    rw [Bool.and_eq_true, Bool.not_eq_true']
    refine ⟨?_, ?_⟩
    · have hp : 0 < z.cps.size := h.pos
      exact Array.any_eq_true'.mpr ⟨z.cps[0], Array.getElem_mem hp, (ok _ (Array.mem_toList_iff.mpr (Array.getElem_mem hp))).2.2.1⟩
    · exact Array.any_eq_false'.mpr fun c hc => by
        rw [(ok c (Array.mem_toList_iff.mpr hc)).2.2.2]
        exact Bool.false_ne_true
  unfold nameP
  rw [e1, e2, e3, e4, e5]
  rfl
structure Good (r : Row5) : Prop where
  m : Wd r.m
  p : r.p ∈ picks
  mv : r.mv ∈ moves
  t : Wd r.t
theorem picks_ok : ∀ z ∈ picks, z.length ≤ 10 ∧ (∀ c ∈ z.cps.toList, c ≠ 32 ∧ c < 16 ^ 8) ∧ pickV picks (.str z) = true := by decide +kernel
theorem moves_ok : ∀ z ∈ moves, z.length ≤ 10 ∧ (∀ c ∈ z.cps.toList, c ≠ 32 ∧ c < 16 ^ 8) ∧ pickV moves (.str z) = true := by decide +kernel
theorem Wd.cs {z : Str} (h : Wd z) : ∀ c ∈ z.cps.toList, c ≠ 32 ∧ c < 16 ^ 8 := fun c hc => az_no c (h.az c hc)
theorem Good.ok {r : Row5} (h : Good r) : r.Ok := ⟨by have := h.m.len; omega, (picks_ok _ h.p).1, (moves_ok _ h.mv).1, by have := h.t.len; omega⟩
theorem Good.due {r : Row5} (h : Good r) : rowDue (.str r.m) (.str r.p) (.str r.mv) (.str r.t) (.bl r.al) = none := by
  have e1 : nameV nameP (.str r.m) = true := h.m.name
  have e4 : nameV nameP (.str r.t) = true := h.t.name
  unfold rowDue
  rw [e1, (picks_ok _ h.p).2.2, (moves_ok _ h.mv).2.2, e4]
  rfl
/-! ### the text tells the row -/
theorem cut_eq : ∀ {a b x y : List Nat}, (∀ c ∈ a, c ≠ 32) → (∀ c ∈ b, c ≠ 32) → a ++ 32 :: x = b ++ 32 :: y → a = b ∧ x = y
  | [], [], x, y, _, _, e => ⟨rfl, by simpa using e⟩
  | [], c :: b, x, y, _, hb, e => by
    have : (32 : Nat) = c := by
      have := congrArg List.head? e
      simpa using this
    exact absurd this.symm (hb c List.mem_cons_self)
  | c :: a, [], x, y, ha, _, e => by
    have : c = (32 : Nat) := by
      have := congrArg List.head? e
      simpa using this
    exact absurd this (ha c List.mem_cons_self)
  | c :: a, d :: b, x, y, ha, hb, e => by
    rw [List.cons_append, List.cons_append] at e
    injection e with e1 e2
    obtain ⟨q1, q2⟩ := cut_eq (fun c h => ha c (List.mem_cons_of_mem _ h)) (fun c h => hb c (List.mem_cons_of_mem _ h)) e2
    exact ⟨by rw [e1, q1], q2⟩
def tailC (al : Bool) : List Nat := if al then 32 :: [97, 108, 115, 111] else []
theorem tail_eq {a b : List Nat} {s t : Bool} (ha : ∀ c ∈ a, c ≠ 32) (hb : ∀ c ∈ b, c ≠ 32) (e : a ++ tailC s = b ++ tailC t) : a = b ∧ s = t := by
  cases s <;> cases t
  · exact ⟨by simpa [tailC] using e, rfl⟩
  · exfalso
    have e' : a = b ++ 32 :: [97, 108, 115, 111] := by simpa [tailC] using e
    exact ha 32 (by rw [e']; simp) rfl
  · exfalso
    have e' : a ++ 32 :: [97, 108, 115, 111] = b := by simpa [tailC] using e
    exact hb 32 (by rw [← e']; simp) rfl
  · exact ⟨(cut_eq (x := [97, 108, 115, 111]) (y := [97, 108, 115, 111]) ha hb e).1, rfl⟩
theorem sp_c : (" " : Str).cps.toList = [32] := by decide +kernel
theorem also_c : (" also" : Str).cps.toList = [32, 97, 108, 115, 111] := by decide +kernel
theorem emp_c : Str.empty.cps.toList = [] := rfl
theorem text_c (r : Row5) : r.text.cps.toList = r.m.cps.toList ++ 32 :: (r.p.cps.toList ++ 32 :: (r.mv.cps.toList ++ 32 :: (r.t.cps.toList ++ tailC r.al))) := by
  unfold Row5.text rowText base4
  cases r.al
  · simp only [Bool.false_eq_true, if_false, tl_app, sp_c, emp_c, tailC, List.nil_append, List.append_assoc, List.cons_append, List.append_nil]
  · simp only [if_true, tl_app, sp_c, also_c, emp_c, tailC, List.nil_append, List.append_assoc, List.cons_append]
theorem str_of {a b : Str} (h : a.cps.toList = b.cps.toList) : a = b := by
  cases a
  cases b
  exact congrArg Str.mk (Array.toList_inj.mp h)
theorem text_inj {r q : Row5} (h : Good r) (g : Good q) (e : r.text = q.text) : r = q := by
  have e' := congrArg (fun z : Str => z.cps.toList) e
  simp only [text_c] at e'
  obtain ⟨e1, e'⟩ := cut_eq (fun c hc => (h.m.cs c hc).1) (fun c hc => (g.m.cs c hc).1) e'
  obtain ⟨e2, e'⟩ := cut_eq (fun c hc => ((picks_ok _ h.p).2.1 c hc).1) (fun c hc => ((picks_ok _ g.p).2.1 c hc).1) e'
  obtain ⟨e3, e'⟩ := cut_eq (fun c hc => ((moves_ok _ h.mv).2.1 c hc).1) (fun c hc => ((moves_ok _ g.mv).2.1 c hc).1) e'
  obtain ⟨e4, e5⟩ := tail_eq (fun c hc => (h.t.cs c hc).1) (fun c hc => (g.t.cs c hc).1) e'
  cases r
  cases q
  simp only at e1 e2 e3 e4 e5
  rw [str_of e1, str_of e2, str_of e3, str_of e4, e5]
def Row5.d (r : Row5) : PyData := .tuple [.str r.m, .str r.p, .str r.mv, .str r.t, .bool r.al]
theorem eqv_row {r q : Row5} (h : Good r) (g : Good q) : PyData.eqv r.d q.d = decide (r.text = q.text) := by
  show PyData.eqvAll [.str r.m, .str r.p, .str r.mv, .str r.t, .bool r.al] [.str q.m, .str q.p, .str q.mv, .str q.t, .bool q.al] = _
  simp only [PyData.eqvAll, PyData.eqv, Bool.and_true]
  by_cases c : r.text = q.text
  · rw [decide_eq_true c, text_inj h g c]
    simp
  · rw [decide_eq_false c]
    refine Bool.eq_false_iff.mpr fun z => c ?_
    simp only [Bool.and_eq_true, beq_iff_eq] at z
    obtain ⟨z1, z2, z3, z4, z5⟩ := z
    cases r
    cases q
    simp only at z1 z2 z3 z4 z5
    subst z1 z2 z3 z4 z5
    rfl
theorem az_top : ∀ c ∈ az, c < 0x110000 := by decide +kernel
theorem Wd.top {z : Str} (h : Wd z) : PyData.strOk z = true := Array.all_eq_true'.mpr fun c hc => by
  have := az_top c (h.az c (Array.mem_toList_iff.mpr hc))
  simpa using this
theorem picks_top : ∀ z ∈ picks, PyData.strOk z = true := by decide +kernel
theorem moves_top : ∀ z ∈ moves, PyData.strOk z = true := by decide +kernel
theorem d_shaped {r : Row5} (h : Good r) : SeqAt.shaped r.d = true := by
  show ((PyData.tuple _).canLay0 && decide ((PyData.tuple _).depth ≤ 64)) = true
  simp [PyData.canLay0, PyData.canLayAll0, PyData.depth, PyData.depthAll, h.m.top, h.t.top, picks_top _ h.p, moves_top _ h.mv]
theorem str_arg {K : PySem.W.Frag} {C : Addr} {H : Hp} {z : Str} (h : PyData.strOk z = true) (hl : z.length ≤ 100) : Arg K C H (.str z) :=
  .inl ⟨.str z, .str z, by
    show ((PyData.str z).canLay0 && decide ((PyData.str z).depth ≤ 64)) = true
    simp [PyData.canLay0, PyData.depth, h], fun y e => by cases e; exact hl⟩
theorem bl_arg {K : PySem.W.Frag} {C : Addr} {H : Hp} {b : Bool} : Arg K C H (.bl b) := .inl ⟨.bool b, .bl b, rfl, fun y e => nomatch e⟩
theorem Good.args {K : PySem.W.Frag} {C : Addr} {H : Hp} {r : Row5} (h : Good r) : Arg K C H (.str r.m) ∧ Arg K C H (.str r.p) ∧ Arg K C H (.str r.mv) ∧ Arg K C H (.str r.t) ∧ Arg K C H (.bl r.al) :=
  ⟨str_arg h.m.top (by have := h.ok.m; omega), str_arg (picks_top _ h.p) (by have := h.ok.p; omega), str_arg (moves_top _ h.mv) (by have := h.ok.mv; omega), str_arg h.t.top (by have := h.ok.t; omega), bl_arg⟩
theorem d_depth (r : Row5) : r.d.depth ≤ 50 := by
  show PyData.depth (.tuple _) ≤ 50
  simp [PyData.depth, PyData.depthAll]
theorem d_showable (r : Row5) : r.d.showable = true := by
  show PyData.showable (.tuple _) = true
  simp [PyData.showable, PyData.showableAll]
theorem d_noDict (r : Row5) : r.d.hasDict = false := by
  show PyData.hasDict (.tuple _) = false
  simp [PyData.hasDict, PyData.hasDictAll]
theorem d_shown {r : Row5} (h : Good r) : r.d.shown.length ≤ sizeLine := by
  have e : r.d.shown = tupleText [reprText r.m, reprText r.p, reprText r.mv, reprText r.t, (PyData.bool r.al).shown] := by
    show PyData.shown (.tuple _) = _
    simp only [PyData.shown, PyData.shownAll]
  rw [e]
  have h1 := StrLaws.reprText_len r.m fun c hc => (h.m.cs c hc).2
  have h2 := StrLaws.reprText_len r.p fun c hc => ((picks_ok _ h.p).2.1 c hc).2
  have h3 := StrLaws.reprText_len r.mv fun c hc => ((moves_ok _ h.mv).2.1 c hc).2
  have h4 := StrLaws.reprText_len r.t fun c hc => (h.t.cs c hc).2
  have h5 : ((PyData.bool r.al).shown).length ≤ 5 := by
    cases r.al <;> decide +kernel
  have o := h.ok
  have o1 := o.m
  have o2 := o.p
  have o3 := o.mv
  have o4 := o.t
  have k := fmt_text [reprText r.m, reprText r.p, reprText r.mv, reprText r.t, (PyData.bool r.al).shown]
  simp only [piled_cons, piled_nil] at k
  exact Nat.le_of_lt (small1000 (by omega))
theorem dp_row {K : PySem.W.Frag} {H : Hp} {a : Addr} {r : Row5} (h : SqT K H a r.vs) : Dp K H (.ref a) r.d := .tup h (.cons (.str _) (.cons (.str _) (.cons (.str _) (.cons (.str _) (.cons (.bl _) .nil)))))
theorem row_join (r : Row5) : Txt.join " " [r.m, r.p, r.mv, r.t] ++ (if r.al then (" also" : Str) else "") = r.text := by
  refine str_of ?_
  rw [text_c, tl_app]
  have e : (Txt.join " " [r.m, r.p, r.mv, r.t]).cps.toList = r.m.cps.toList ++ 32 :: (r.p.cps.toList ++ 32 :: (r.mv.cps.toList ++ 32 :: r.t.cps.toList)) := by
    show (r.m.cps ++ (" " : Str).cps ++ r.p.cps ++ (" " : Str).cps ++ r.mv.cps ++ (" " : Str).cps ++ r.t.cps).toList = _
    simp only [Array.toList_append, sp_c, List.append_assoc, List.cons_append, List.nil_append]
  rw [e]
  cases r.al
  · have z : (("" : Str)).cps.toList = [] := rfl
    simp [tailC, z]
  · simp [tailC, also_c]
end LT
namespace L2
open PySem PySem.Spec PyProof.Rows
section
variable {X : Cx}
/-- two lists, both empty or not of one length -/
def rEqL (K : PySem.W.Frag) : R2 := fun x y H Q => ∃ (a b : Addr) (xs ys : List V), x = .ref a ∧ y = .ref b ∧ SqL K H a xs ∧ SqL K H b ys ∧ ((xs = [] ∧ ys = []) ∨ xs.length ≠ ys.length) ∧ Q (.bl (decide (xs.length = ys.length))) H
theorem op_eqL (hu : X.A.units + 64 < cLine) : OpR X (compareOp .Eq) (rEqL X.K) := by
  intro pins s σ H x y v u Q I rx ry h
  obtain ⟨a, b, xs, ys, rfl, rfl, ha, hb, hh, q⟩ := h
  rcases hh with ⟨rfl, rfl⟩ | hh
  · exact op_eqD hu pins s σ H _ _ v u Q I rx ry ⟨.list [], .list [], .lst ha .nil, .lst hb .nil, by decide +kernel, by decide +kernel, q⟩
  · cases rx
    cases ry
    obtain ⟨us, r1, p1, _⟩ := I.list ha
    obtain ⟨ws, r2, p2, _⟩ := I.list hb
    rw [decide_eq_false hh] at q
    have sz : (us.toArray.size != ws.toArray.size) = true := by
      rw [List.size_toArray, List.size_toArray, ← r1.length, ← r2.length]
      exact bne_iff_ne.mpr hh
    exact SeqAt.RcAt.lists_lengths p1.isList p2.isList sz (by omega) _ _ _ _ ⟨.bl false, H, I, rfl, q⟩
end
section
variable {X : Cx}
def rNeL (K : PySem.W.Frag) : R2 := fun x y H Q => ∃ (a b : Addr) (xs ys : List V), x = .ref a ∧ y = .ref b ∧ SqL K H a xs ∧ SqL K H b ys ∧ ((xs = [] ∧ ys = []) ∨ xs.length ≠ ys.length) ∧ Q (.bl (decide (xs.length ≠ ys.length))) H
theorem op_neL (hu : X.A.units + 64 < cLine) : OpR X (compareOp .NotEq) (rNeL X.K) := by
  intro pins s σ H x y v u Q I rx ry h
  obtain ⟨a, b, xs, ys, rfl, rfl, ha, hb, hh, q⟩ := h
  rcases hh with ⟨rfl, rfl⟩ | hh
  · exact op_neD hu pins s σ H _ _ v u Q I rx ry ⟨.list [], .list [], .lst ha .nil, .lst hb .nil, by decide +kernel, by decide +kernel, q⟩
  · cases rx
    cases ry
    obtain ⟨us, r1, p1, _⟩ := I.list ha
    obtain ⟨ws, r2, p2, _⟩ := I.list hb
    rw [decide_eq_true hh] at q
    have sz : (us.toArray.size != ws.toArray.size) = true := by
      rw [List.size_toArray, List.size_toArray, ← r1.length, ← r2.length]
      exact bne_iff_ne.mpr hh
    exact SeqAt.RcNeAt.lists_lengths p1.isList p2.isList sz (by omega) _ _ _ _ ⟨.bl true, H, I, rfl, q⟩
end
section
variable {X : Cx} {o : Expr} {pos : Pos}
/-- o.f = .. as one of several targets -/
def gFld (K : PySem.W.Frag) (to : TE) (f : Str) : TG := fun v σ H Q => to σ H fun x H1 => ∃ (a C dx : Addr) (fs : List (Str × V)), x = .ref a ∧ H1 a = some (.ins C dx fs) ∧ Cls K C ∧ NoAttr K C f ∧ fs.length < 1000 ∧ Q σ (upd H1 a (.ins C dx (putF f v fs)))
theorem pg_fld {f : Str} {to : TE} (ho : PE X o to) (ha : ∀ v, assign (.Attribute o f pos) X.env v = (do
      let ov ← holding [v] (eval o X.env)
      standAt pos.atName
      holding [v, ov] (setAttr ov f v)
      release [v, ov] []) := by intro _; rfl) : PG X (.Attribute o f pos) (gFld X.K to f) := by
  refine ⟨fun pins s σ H v u Q I r h => ?_⟩
  rw [ha]
  refine wpAny_bind (wpAny_holding (thn (ho.run pins s σ H _ I h) fun ov s1 hh => ?_))
  obtain ⟨x, H1, I1, rx, a, C, dx, fs, ex, ea, c, n, l, q⟩ := hh
  subst ex
  obtain rfl : ov = Value.ref a := rx
  refine wpAny_bind (wpAny_standAt (wpAny_bind (wpAny_holding (setattr_ok I1 ea c n l r fun s2 I2 => ?_))))
  exact wpAny_release ⟨σ, _, I2, q⟩
end
end L2
namespace L2
open PySem PySem.Spec PyProof.Rows
/-- xs[::-1], xs a list; the step is written as an expression -/
def tRev (K : PySem.W.Frag) (te ts : TE) : TE := fun σ H Q => te σ H fun x H1 => ts σ H1 fun y H2 => ∃ a xs, x = .ref a ∧ y = .int (-1) ∧ SqL K H2 a xs ∧ ∀ p, H2 p = none → Q (.ref p) (upd H2 p (.lst xs.reverse))
theorem vals_rev {xs : List V} {its : List Value} (h : Vals xs its) : Vals xs.reverse its.reverse := h.reverse
theorem pe_rev {X : Cx} {e st : Expr} {te ts : TE} {p2 pos : Pos} (he : PE X e te) (hst : PE X st ts) : PE X (e.Subscript (Expr.Slice none none (some st) p2) pos) (tRev X.K te ts) := by
  refine ⟨fun pins s σ H Q I h => ?_⟩
  refine PyProof.Rows.Subscript_ (thn (he.run pins s σ H _ I h) fun v s1 hh => ?_)
  obtain ⟨x, H1, I1, r1, q⟩ := hh
  refine wpAny_Slice ?_
  refine wpAny_pure (wpAny_pure ?_)
  show wpAny _ _ (eval st X.env) _ _ _
  refine thn (hst.run pins s1 σ H1 _ I1 q) fun w s2 hh => ?_
  obtain ⟨y, H2, I2, r2, a, xs, rfl, rfl, hx, q⟩ := hh
  obtain ⟨t, rfl⟩ : ∃ t, w = .int (-1) t := r2
  have I3 : Inv X pins σ H2 { s2 with heap := s2.heap.push { cls := .type "slice", data := .fields #[.none, .none, .int (-1) t] } } := I2.kept fun b o e => Heap.get?_push_of_some _ e
  obtain ⟨its, rv, pl, hz⟩ := I3.list hx
  have hn := Vals.length rv
  obtain rfl : v = .ref a := by
    cases r1
    rfl
  refine PyProof.Rows.tail_any (T := "list") (id := "list.__getitem__") (PlainL.isList pl).typeIs slot_list_getitem.lookup (wpAny_getItem_list_slice (PlainL.isList pl) ⟨_, Heap.get?_push_size _ rfl, rfl, rfl⟩ IsPart.none IsPart.none (IsPart.int (-1) t) (by decide) ?_ (by rw [List.size_toArray]; omega)) rfl
  rw [W.krv_pick]
  refine ⟨.ref _, _, I3.lnew (t' := s2.toks) (vals_rev rv) (by rw [List.length_reverse]; exact hz), rfl, q _ ?_⟩
  exact I3.hok.fresh (Nat.le_refl _)
end L2
namespace L2
open PySem
theorem pe_revK {X : Cx} {K : PySem.W.Frag} {e st : Expr} {te ts : TE} {p2 pos : Pos} (hK : X.K = K) (he : PE X e te) (hst : PE X st ts) : PE X (e.Subscript (Expr.Slice none none (some st) p2) pos) (tRev K te ts) := by
  subst hK
  exact pe_rev he hst
/-- list(xs), xs a list or a tuple -/
def rListOf (K : PySem.W.Frag) : List V → Hp → VK → Prop := fun xs H Q => ∃ p ys, xs = [V.ref p] ∧ (SqL K H p ys ∨ SqT K H p ys) ∧ ∀ l, H l = none → Q (.ref l) (upd H l (.lst ys))
end L2
namespace LT
open PySem L2
/-! ### the deal: great cells, and a number -/
structure Deal (J : Hp) (d l : Addr) : Prop where
  ex : ∃ (cs : List Int) (m : Int), J d = some (.lst [.ref l, .int m]) ∧ J l = some (.lst (cs.map V.int)) ∧ cs.length ≤ 63 ∧ ∀ c ∈ cs, 0 ≤ c
theorem Deal.ne {J : Hp} {d l : Addr} (h : Deal J d l) : d ≠ l := by
  obtain ⟨cs, m, e1, e2, -⟩ := h.ex
  intro e
  rw [e, e2] at e1
  have := HO.lst.inj (Option.some.inj e1)
  cases cs with
  | nil => cases this
  | cons c cs => exact nomatch (List.cons.inj this).1
/-- all but the deal is kept -/
def Kd (d l : Addr) (H J : Hp) : Prop := ∀ c o, c ≠ d → c ≠ l → H c = some o → J c = some o
theorem Kd.refl {d l : Addr} {H : Hp} : Kd d l H H := fun _ _ _ _ e => e
theorem Kd.of {d l : Addr} {H J : Hp} (s : Same H J) : Kd d l H J := fun c o _ _ e => s c o e
theorem Kd.trans {d l : Addr} {H J L : Hp} (a : Kd d l H J) (b : Kd d l J L) : Kd d l H L := fun c o n m e => b c o n m (a c o n m e)
theorem Kd.then {d l : Addr} {H J L : Hp} (a : Kd d l H J) (s : Same J L) : Kd d l H L := a.trans (Kd.of s)
theorem Kd.put1 {d l : Addr} {H : Hp} {o : HO} : Kd d l H (upd H d o) := fun c u n _ e => by
  rw [upd_ne n]
  exact e
theorem Kd.put2 {d l : Addr} {H : Hp} {o : HO} : Kd d l H (upd H l o) := fun c u _ n e => by
  rw [upd_ne n]
  exact e
theorem Deal.mono {J L : Hp} {d l : Addr} (s : Same J L) (h : Deal J d l) : Deal L d l := by
  obtain ⟨cs, m, e1, e2, e3⟩ := h.ex
  exact ⟨cs, m, s _ _ e1, s _ _ e2, e3⟩
theorem Deal.off {J : Hp} {d l c : Addr} {o : HO} (h : Deal J d l) (e : J c = some o) (n : ∀ xs, o ≠ .lst xs) : c ≠ d ∧ c ≠ l := by
  obtain ⟨cs, m, e1, e2, -⟩ := h.ex
  refine ⟨fun q => ?_, fun q => ?_⟩
  · rw [q, e1] at e
    exact n _ (Option.some.inj e).symm
  · rw [q, e2] at e
    exact n _ (Option.some.inj e).symm
/-- a new address is none of the deal -/
theorem Deal.new {J : Hp} {d l c : Addr} (h : Deal J d l) (e : J c = none) : c ≠ d ∧ c ≠ l := by
  obtain ⟨cs, m, e1, e2, -⟩ := h.ex
  refine ⟨fun q => ?_, fun q => ?_⟩
  · rw [q, e1] at e
    cases e
  · rw [q, e2] at e
    cases e
theorem Kd.seq {K : PySem.W.Frag} {d l c : Addr} {H J : Hp} {xs : List V} (k : Kd d l H J) (n : c ≠ d ∧ c ≠ l) (h : SqL K H c xs) : SqL K J c xs := by
  rcases h with (h | ⟨o, h⟩) | h
  · exact .inl (.inl (k _ _ n.1 n.2 h))
  · exact .inl (.inr ⟨o, k _ _ n.1 n.2 h⟩)
  · exact .inr h
theorem bt_list : bootBuiltins "list" = some (.type "list") := by decide +kernel
def spDeal (K : PySem.W.Frag) : Sp := fun vs H Q _ => ∃ (a : Addr) (ns : List Int) (k : Nat), vs = [.ref a, .int (k : Nat)] ∧ SqL K H a (ns.map V.int) ∧ ns.length ≤ 63 ∧
  ∀ (d l : Addr) (J : Hp), Same H J → H d = none → H l = none → Deal J d l → Q (.ref d) J
def spDraw : Sp := fun vs H Q _ => ∃ (d l : Addr) (m : Int), vs = [.ref d, .int m] ∧ Deal H d l ∧ 0 < m ∧ m ≤ 1000000000 ∧ ∀ (k : Int) (J : Hp), 0 ≤ k → k < m → Kd d l H J → Deal J d l → Q (.int k) J
def spPick (K : PySem.W.Frag) : Sp := fun vs H Q _ => ∃ (d l s : Addr) (xs : List V), vs = [.ref d, .ref s] ∧ Deal H d l ∧ s ≠ d ∧ s ≠ l ∧ SqL K H s xs ∧ 0 < xs.length ∧ xs.length ≤ 1000 ∧
  ∀ (i : Nat) (v : V) (J : Hp), xs[i]? = some v → Kd d l H J → Deal J d l → Q v J
abbrev nDeal : List Str := ["_law_script", "_law_base", "_law_cells", "_law_mixed_here", "_law_cell"]
abbrev nDraw : List Str := ["_law_deal_here", "_law_many", "_law_left"]
theorem seq_kd {s b : TS} {D : Ends} {σ : L2.St} {H : Hp} (P : L2.St → Hp → Prop) (r : ∀ τ L, P τ L → b D τ L) (m : (∀ τ L, P τ L → b D τ L) → tSeq s b D σ H) : tSeq s b D σ H := m r
section
variable {P : Program} {w : World} {K : PySem.W.Frag} {mg : Str → Option Value} {base : Heap}
theorem scDeal : FnScope nDeal ["_law_script", "_law_base"] (defScope sx_deal) := ⟨rfl, rfl, rfl, by decide +kernel, rfl, by decide +kernel, by decide +kernel⟩
theorem scDraw : FnScope nDraw ["_law_deal_here", "_law_many"] (defScope sx_draw) := ⟨rfl, rfl, rfl, by decide +kernel, rfl, by decide +kernel, by decide +kernel⟩
theorem scPick : FnScope ["_law_deal_here", "_law_some"] ["_law_deal_here", "_law_some"] (defScope sx_pick) := ⟨rfl, rfl, rfl, by decide +kernel, rfl, by decide +kernel, by decide +kernel⟩
theorem ok_draw {f : Addr} {fd : FuncData} (F : Fun K "_law_draw" "_law_draw" sx_draw f fd) (T : Blt mg) : FnOk P w K mg base CX0 1 f fd ["_law_deal_here", "_law_many"] spDraw := by
  refine F.ok scDraw (fun vs H Q E h => ?_) (fun cdv A outer s H vs Q E hr h => ?_)
  · obtain ⟨d, l, m, rfl, _⟩ := h
    rfl
  obtain ⟨d, l, m, rfl, hd, h0, h1, q⟩ := h
  have nd := hd.ne
  obtain ⟨cs0, m0, e10, e20, l0, p0⟩ := hd.ex
  refine ⟨_, (pss_cons (ps_while PassesOwn.never (PW.pt (pw_and (pt_cmpR (op_neL hr.units) (pe_ix ix_list (pv 0) pe_int (fun _ _ => rfl)) (pe_lst pa_nil) (nomark _)) (pw_and1 (pt_cmpR op_eq (pe_ix ix_list (pe_ix ix_list (pv 0) pe_int (fun _ _ => rfl)) (pe_un un_neg pe_int) (fun _ _ => rfl)) pe_int (nomark _))))) (pss_one (ps_expr (pe_bm0 PySem.F.plainAttrs_list PySem.F.slot_list_pop PySem.F.type_list_pop mt_pop (pe_ix ix_list (pv 0) pe_int (fun _ _ => rfl))))))
    (pss_cons (ps_if (pt_cmpR (op_neL hr.units) (pe_ix ix_list (pv 0) pe_int (fun _ _ => rfl)) (pe_lst pa_nil) (nomark _)) (pss_cons (ps_set (i := 2) scDraw.nd rfl (Or.inl rfl) (pe_bm0 PySem.F.plainAttrs_list PySem.F.slot_list_pop PySem.F.type_list_pop mt_pop (pe_ix ix_list (pv 0) pe_int (fun _ _ => rfl))))
      (pss_cons (ps_expr (pe_bm PySem.F.plainAttrs_list PySem.F.slot_list_append PySem.F.type_list_append mt_append (pe_ix ix_list (pv 0) pe_int (fun _ _ => rfl)) (pa_cons (pe_op op_fdiv (pv 2) (pv 1)) pa_nil)))
      (pss_one (ps_ret (pe_op op_mod (pe_callTy call_int1 (by rfl) T.int (by decide +kernel) (pa_cons (pv 2) pa_nil)) (pv 1)))))) pss_nil)
    (pss_cons (ps_asg (pe_op op_mod (pe_callTy call_int1 (by rfl) T.int (by decide +kernel) (pa_cons (pe_op op_add (pe_op op_mul (pe_ix ix_list (pv 0) pe_int (fun _ _ => rfl)) pe_int) pe_int) pa_nil)) pe_int) (pg_sub (pv 0) pe_int set_list))
    (pss_one (ps_ret (pe_op op_mod (pe_callTy call_int1 (by rfl) T.int (by decide +kernel) (pa_cons (pe_op op_fdiv (pe_ix ix_list (pv 0) pe_int (fun _ _ => rfl)) pe_int) pa_nil)) (pv 1))))))), ?_⟩
  have a0 : ∀ (x : V) (i : Int), atI ([x, .int i] : List V) 0 = some x := fun _ _ => rfl
  have a1 : ∀ (x : V) (i : Int), atI ([x, .int i] : List V) 1 = some (.int i) := fun _ _ => rfl
  refine seq_kd (fun σ J => σ = [some (.ref d), some (.int m), none] ∧ ∃ cs : List Int, J d = some (.lst [.ref l, .int m0]) ∧ J l = some (.lst (cs.map V.int)) ∧ cs.length ≤ 63 ∧ (∀ c ∈ cs, 0 ≤ c) ∧ Kd d l H J) ?_ fun k => ?_
  rotate_left
  · refine ⟨fun n σ J => σ = [some (.ref d), some (.int m), none] ∧ ∃ cs : List Int, n = cs.length ∧ J d = some (.lst [.ref l, .int m0]) ∧ J l = some (.lst (cs.map V.int)) ∧ cs.length ≤ 63 ∧ (∀ c ∈ cs, 0 ≤ c) ∧ Kd d l H J, ⟨_, rfl, cs0, rfl, e10, e20, l0, p0, Kd.refl⟩, ?_⟩
    rintro n σ J ⟨rfl, cs, rfl, e1, e2, hl, hp, kd⟩
    refine ⟨_, rfl, d, _, 0, _, rfl, rfl, SqL.of e1, a0 _ _, (by show 0 ≤ sizeLine; decide), fun p np => ?_⟩
    have s1 := new_same np (.lst [])
    have f1 := s1 _ _ e1
    have f2 := s1 _ _ e2
    have kd2 := kd.then s1
    refine ⟨l, p, _, _, rfl, rfl, SqL.of f2, SqL.of upd_same, (by cases cs with
      | nil => exact .inl ⟨rfl, rfl⟩
      | cons y ys => exact .inr (by simp)), ?_⟩
    generalize upd J p (.lst []) = J2 at s1 f1 f2 kd2 ⊢
    cases cs with
    | nil => exact ⟨_, rfl, iteF (k _ _ ⟨rfl, [], f1, f2, hl, hp, kd2⟩)⟩
    | cons c cs =>
      obtain ⟨ini, last, ecs⟩ : ∃ ini last, c :: cs = ini ++ [last] := ⟨(c :: cs).dropLast, (c :: cs).getLast (by simp), (List.dropLast_concat_getLast (by simp)).symm⟩
      rw [ecs] at f2 hl hp ⊢
      have el : (ini ++ [last]).map V.int = ini.map V.int ++ [V.int last] := by rw [List.map_append]; rfl
      have gl : ((ini ++ [last]).map V.int)[((ini ++ [last]).map V.int).length - 1]? = some (V.int last) := by
        rw [el, List.length_append]
        exact List.getElem?_concat_length
      refine ⟨_, rfl, ?_⟩
      rw [decide_eq_true (by simp)]
      refine iteT ⟨_, rfl, d, _, 0, _, rfl, rfl, SqL.of f1, a0 _ _, _, rfl, l, _, -1, .int last, rfl, rfl, SqL.of f2, ?_, rfl, _, rfl, ?_⟩
      · rw [el]
        exact atI_last _ _
      refine ite2 (fun _ => ?_) (fun _ => k _ _ ⟨rfl, ini ++ [last], f1, f2, hl, hp, kd2⟩)
      refine ⟨_, fun σ' J' z => z, ?_⟩
      refine ⟨_, rfl, d, _, 0, _, rfl, rfl, SqL.of f1, a0 _ _, .inl ⟨rfl, _, SqL.of f2⟩, l, _, _, rfl, rfl, f2, gl, ?_⟩
      rw [el, List.dropLast_concat]
      rw [List.length_append] at hl
      exact ⟨ini.length, by rw [List.length_append]; exact Nat.lt_succ_self _, rfl, ini, rfl, by rw [upd_ne nd]; exact f1, upd_same, by omega, fun x hx => hp x (List.mem_append_left _ hx), kd2.trans Kd.put2⟩
  · rintro τ L ⟨rfl, cs, e1, e2, hl, hp, kd⟩
    refine ⟨_, rfl, d, _, 0, _, rfl, rfl, SqL.of e1, a0 _ _, (by show 0 ≤ sizeLine; decide), fun p np => ?_⟩
    have s1 := new_same np (.lst [])
    have f1 := s1 _ _ e1
    have f2 := s1 _ _ e2
    have kd2 := kd.then s1
    refine ⟨l, p, _, _, rfl, rfl, SqL.of f2, SqL.of upd_same, (by cases cs with
      | nil => exact .inl ⟨rfl, rfl⟩
      | cons y ys => exact .inr (by simp)), ?_⟩
    generalize upd L p (.lst []) = J2 at s1 f1 f2 kd2 ⊢
    cases cs with
    | nil =>
      refine ⟨_, rfl, iteF ?_⟩
      refine ⟨_, rfl, d, _, 1, _, rfl, rfl, SqL.of f1, a1 _ _, _, _, rfl, rfl, .inr (by decide), _, _, rfl, rfl, .inl ⟨_, rfl, _, _, rfl, rfl, (by show (0 : Int) < 2147483647; decide), ?_⟩⟩
      refine ⟨_, rfl, d, _, _, 1, rfl, rfl, f1, rfl, ?_⟩
      refine ⟨_, rfl, d, _, 1, _, rfl, rfl, SqL.of upd_same, a1 _ _, _, _, rfl, rfl, ⟨by decide, by decide⟩, .inl ⟨_, rfl, _, rfl, _, _, rfl, rfl, h0, ?_⟩⟩
      exact q _ _ (mod_ix h0).1 (mod_ix h0).2 (kd2.trans Kd.put1) ⟨[], _, upd_same, by rw [upd_ne (Ne.symm nd)]; exact f2, by simp, fun c h => nomatch h⟩
    | cons c cs =>
      obtain ⟨ini, last, ecs⟩ : ∃ ini last, c :: cs = ini ++ [last] := ⟨(c :: cs).dropLast, (c :: cs).getLast (by simp), (List.dropLast_concat_getLast (by simp)).symm⟩
      rw [ecs] at f2 hl hp ⊢
      have el : (ini ++ [last]).map V.int = ini.map V.int ++ [V.int last] := by rw [List.map_append]; rfl
      have gl : ((ini ++ [last]).map V.int)[((ini ++ [last]).map V.int).length - 1]? = some (V.int last) := by
        rw [el, List.length_append]
        exact List.getElem?_concat_length
      refine ⟨_, rfl, ?_⟩
      rw [decide_eq_true (by simp)]
      refine iteT ⟨_, rfl, d, _, 0, _, rfl, rfl, SqL.of f1, a0 _ _, .inl ⟨rfl, _, SqL.of f2⟩, l, _, _, rfl, rfl, f2, gl, ?_⟩
      rw [el, List.dropLast_concat]
      have lp := hp last (List.mem_append_right _ (List.mem_singleton.mpr rfl))
      rw [List.length_append, List.length_singleton] at hl
      have g1 : upd J2 l (.lst (ini.map V.int)) d = some (.lst [.ref l, .int m0]) := by
        rw [upd_ne nd]
        exact f1
      refine ⟨_, rfl, d, _, 0, _, rfl, rfl, SqL.of g1, a0 _ _, .inl ⟨rfl, _, SqL.of upd_same⟩, _, rfl, _, rfl, _, _, rfl, rfl, ⟨h0, by omega⟩, l, _, _, rfl, rfl, upd_same, small1000 (by rw [List.length_map]; omega), ?_⟩
      refine ⟨_, rfl, .inl ⟨_, rfl, _, rfl, _, _, rfl, rfl, h0, ?_⟩⟩
      refine q _ _ (mod_ix h0).1 (mod_ix h0).2 ((kd2.trans Kd.put2).trans Kd.put2) ⟨ini ++ [last / m], m0, by rw [upd_ne nd]; exact g1, ?_, by rw [List.length_append, List.length_singleton]; exact hl, fun x hx => ?_⟩
      · rw [upd_same, List.map_append]
        rfl
      · rcases List.mem_append.mp hx with h | h
        · exact hp x (List.mem_append_left _ h)
        · rw [List.mem_singleton.mp h]
          exact Int.ediv_nonneg lp (Int.le_of_lt h0)
theorem ok_pick {f g : Addr} {fd gd : FuncData} (F : Fun K "_law_pick" "_law_pick" sx_pick f fd) (T : Blt mg) (GD : FnOk P w K mg base CX0 1 g gd ["_law_deal_here", "_law_many"] spDraw) (bD : Binds K gd ["_law_deal_here", "_law_many"] []) (kD : PySem.W.keepIn K (.ref g) = true) (mD : mg "_law_draw" = some (.ref g)) :
    FnOk P w K mg base CX0 2 f fd ["_law_deal_here", "_law_some"] (spPick K) := by
  refine F.ok scPick (fun vs H Q E h => ?_) (fun cdv A outer s H vs Q E hr h => ?_)
  · obtain ⟨d, l, s, xs, rfl, _⟩ := h
    rfl
  obtain ⟨d, l, a, xs, rfl, hd, n1, n2, hS, h0, h1, q⟩ := h
  refine ⟨_, pss_one (ps_ret (pe_ix ix_list (pv 1) (pe_call GD hr (by rfl) mD kD bD .nil pass0 (pa_cons (pv 0) (pa_cons (pe_callB call_len_seq (by rfl) T.len PySem.boot_len (pa_cons (pv 1) pa_nil)) pa_nil))) (fun _ _ => rfl))), ?_⟩
  refine ⟨_, rfl, _, rfl, _, rfl, a, xs, rfl, .inl hS, d, l, _, rfl, hd, by omega, by omega, fun k J k0 k1 kd hd2 => ?_⟩
  obtain ⟨j, rfl⟩ : ∃ j : Nat, k = (j : Int) := ⟨k.toNat, by omega⟩
  have hj : j < xs.length := by omega
  have e : xs[j]? = some xs[j] := List.getElem?_eq_getElem hj
  exact ⟨a, xs, _, _, rfl, rfl, kd.seq ⟨n1, n2⟩ hS, atI_nat e, q j _ J e kd hd2⟩
theorem ok_deal {f : Addr} {fd : FuncData} (F : Fun K "_law_deal" "_law_deal" sx_deal f fd) (T : Blt mg) : FnOk P w K mg base CX0 1 f fd ["_law_script", "_law_base"] (spDeal K) := by
  refine F.ok scDeal (fun vs H Q E h => ?_) (fun cdv A outer s H vs Q E hr h => ?_)
  · obtain ⟨a, ns, k, rfl, _⟩ := h
    rfl
  obtain ⟨a, ns, k, rfl, hS, hz, q⟩ := h
  refine ⟨_, (pss_cons (ps_setLc (i := 2) (own := [("_law_cell", 4)]) (g := gName 4) (tt := tYes) rfl scDeal.nd rfl rfl (sw_true rfl rfl rfl (by decide +kernel)) (pi_list (pe_slice sl_list (pv 0) (po_some (pv 1)) (po_some pe_int))) (blkOk_by (N := nDeal) (sc := defScope sx_deal) (own := [("_law_cell", 4)]) (by decide +kernel)) (fun _ _ _ _ _ => pg_name (i := 4) scDeal.nd rfl (Or.inl rfl)) (fun _ _ _ _ _ => pts_nil) (fun _ _ _ _ _ => (pe_callB call_abs (by rfl) T.abs (by decide +kernel) (pa_cons (pv 4) pa_nil))))
    (pss_cons (ps_set (i := 3) scDeal.nd rfl (Or.inl rfl) (pe_op op_add pe_int (pe_op op_mul pe_int (pv 1))))
    (pss_cons (ps_for PassesOwn.never rfl (pi_list (pv 2)) (pg_name (i := 4) scDeal.nd rfl (Or.inl rfl))
    (pss_one (ps_set (i := 3) scDeal.nd rfl (Or.inl rfl) (pe_op op_mod (pe_callTy call_int1 (by rfl) T.int (by decide +kernel) (pa_cons (pe_op op_add (pe_op op_mul (pv 3) pe_int) (pe_op op_mod (pe_callTy call_int1 (by rfl) T.int (by decide +kernel) (pa_cons (pv 4) pa_nil)) pe_int)) pa_nil)) pe_int))))
    (pss_one (ps_ret (pe_lst (pa_cons (pe_revK (K := K) rfl (pe_lc (own := [("_law_cell", 4)]) (g := gName 4) (by rfl) scDeal.nd (pi_list (pv 2)) (blkOk_by (N := nDeal) (sc := defScope sx_deal) (own := [("_law_cell", 4)]) (by decide +kernel)) (fun _ _ _ _ _ => pg_name (i := 4) scDeal.nd rfl (Or.inl rfl)) (fun _ _ _ _ _ => (pts_one (pt_cmpR op_ge (pv 4) (pe_op op_pow pe_int pe_int) (nomark _)))) (fun _ _ _ _ _ => (pv 4))) (pe_un un_neg pe_int)) (pa_cons (pv 3) pa_nil)))))))), ?_⟩
  refine ⟨_, rfl, _, rfl, _, rfl, _, rfl, a, _, rfl, hS, fun p np => ?_⟩
  obtain ⟨ms, ems⟩ : ∃ ms : List Int, cutV (ns.map V.int) (some (k : Nat)) (some 63) = ms.map V.int := by
    unfold cutV
    exact ⟨_, by rw [← List.map_drop, ← List.map_take]⟩
  have lms : ms.length ≤ 63 := by
    have := congrArg List.length ems
    rw [List.length_map] at this
    rw [← this]
    unfold cutV
    rw [List.length_take, List.length_drop, List.length_map]
    omega
  rw [ems]
  have s1 := new_same np (.lst (ms.map V.int))
  have h1 : upd H p (.lst (ms.map V.int)) p = some (.lst (ms.map V.int)) := upd_same
  generalize upd H p (.lst (ms.map V.int)) = J1 at s1 h1 ⊢
  have lm : (ms.map V.int).length = ms.length := List.length_map _
  have int_at : ∀ {zs : List Int} {i : Nat} {v : V}, (zs.map V.int)[i]? = some v → ∃ n, zs[i]? = some n ∧ v = .int n := fun {zs i v} e => by
    rw [List.getElem?_map] at e
    cases q : zs[i]? with
    | none =>
      rw [q] at e
      cases e
    | some n =>
      rw [q] at e
      exact ⟨n, rfl, (Option.some.inj e).symm⟩
  refine ⟨p, rfl, ⟨_, SqL.of h1⟩, fun D hD => lc_list (K := K) (a := p) (xs := ms.map V.int) (fun i M => Same J1 M ∧ ∃ ys : List Int, M D = some (.lst (ys.map V.int)) ∧ ys.length = i ∧ ∀ c ∈ ys, 0 ≤ c) ⟨new_same hD _, [], upd_same, rfl, fun c h => nomatch h⟩ (fun i M _ z => SqL.of (z.1 _ _ h1)) (fun i v M hv z => ?_) (fun M z => ?_)⟩
  · obtain ⟨n, hn, rfl⟩ := int_at hv
    obtain ⟨sM, ys, hy, ly, py⟩ := z
    have hi := (List.getElem?_eq_some_iff.mp hn).1
    refine ⟨rfl, _, rfl, _, rfl, _, hy, small1000 (by rw [List.length_map]; omega), fun c o h => ?_, ys ++ [if n < 0 then -n else n], ?_, by rw [List.length_append, ly]; rfl, fun c hc => ?_⟩
    · rw [upd_ne (fun q => by rw [q, hD] at h; cases h)]
      exact sM c o h
    · rw [upd_same, List.map_append]
      rfl
    · rcases List.mem_append.mp hc with h | h
      · exact py c h
      · rw [List.mem_singleton.mp h]
        split <;> omega
  obtain ⟨sM, ys, hy, ly, py⟩ := z
  rw [lm] at ly
  have sHM := s1.trans sM
  clear sM s1 h1 hD
  refine ⟨_, rfl, _, _, rfl, rfl, .inl ⟨by decide, by decide⟩, _, _, rfl, rfl, ?_⟩
  have lY : (ys.map V.int).length = ys.length := List.length_map _
  refine ⟨_, rfl, D, rfl, ⟨_, SqL.of hy⟩, for_list (K := K) (a := D) (xs := ys.map V.int) (fun _ σ J => ∃ (m : Int) (v4 : Option V), σ = [some (.ref a), some (.int (k : Nat)), some (.ref D), some (.int m), v4] ∧ J = M) ⟨_, _, rfl, rfl⟩ (fun i σ J _ ⟨_, _, _, e⟩ => by rw [e]; exact SqL.of hy) ?_ ?_⟩
  · rintro i x σ J hx ⟨m, v4, rfl, rfl⟩
    obtain ⟨n, hn, rfl⟩ := int_at hx
    refine ⟨_, rfl, _, _, rfl, rfl, .inr (by decide), _, rfl, .inl ⟨_, rfl, _, _, rfl, rfl, (by show (0 : Int) < 2147483629; decide), _, _, rfl, rfl, .inl ⟨_, rfl, _, _, rfl, rfl, (by show (0 : Int) < 2147483647; decide), ?_⟩⟩⟩
    exact ⟨_, _, rfl, rfl⟩
  rintro σ J ⟨m, v4, rfl, rfl⟩
  refine ⟨_, rfl, D, rfl, ⟨_, SqL.of hy⟩, fun D2 hD2 => lc_list (K := K) (a := D) (xs := ys.map V.int) (fun i M => Same J M ∧ ∃ zs : List Int, M D2 = some (.lst (zs.map V.int)) ∧ zs.length ≤ i ∧ ∀ c ∈ zs, 0 ≤ c) ⟨new_same hD2 _, [], upd_same, Nat.le_refl _, fun c h => nomatch h⟩ (fun i M _ z => SqL.of (z.1 _ _ hy)) (fun i v M hv z => ?_) (fun M z => ?_)⟩
  · obtain ⟨n, hn, rfl⟩ := int_at hv
    obtain ⟨sM, zs, hz2, lz, pz⟩ := z
    have hi := (List.getElem?_eq_some_iff.mp hn).1
    refine ⟨rfl, _, rfl, _, _, rfl, rfl, ⟨by decide, by decide, by decide⟩, _, _, rfl, rfl, _, rfl, ?_⟩
    refine ite2 (fun _ => ?_) (fun _ => ⟨sM, zs, hz2, by omega, pz⟩)
    refine ⟨_, rfl, _, hz2, small1000 (by rw [List.length_map]; omega), fun c o h => ?_, zs ++ [n], ?_, by rw [List.length_append, List.length_singleton]; omega, fun c hc => ?_⟩
    · rw [upd_ne (fun q => by rw [q, hD2] at h; cases h)]
      exact sM c o h
    · rw [upd_same, List.map_append]
      rfl
    · rcases List.mem_append.mp hc with h | h
      · exact pz c h
      · rw [List.mem_singleton.mp h]
        exact py n (List.mem_of_getElem? hn)
  obtain ⟨sM, zs, hz2, lz, pz⟩ := z
  rw [lY] at lz
  refine ⟨_, rfl, D2, _, rfl, rfl, SqL.of hz2, fun l nl => ⟨_, rfl, (by show 2 ≤ sizeLine; decide), fun d nd => ?_⟩⟩
  have eR : (zs.map V.int).reverse = zs.reverse.map V.int := (List.map_reverse ..).symm
  have sl := new_same nl (.lst (zs.map V.int).reverse)
  have sd := new_same nd (.lst [V.ref l, .int m])
  have dl : l ≠ d := fun e => by
    rw [← e, upd_same] at nd
    cases nd
  refine q d l _ (sHM.trans (sM.trans (sl.trans sd))) ((sHM.trans (sM.trans sl)).free nd) ((sHM.trans sM).free nl) ⟨zs.reverse, m, upd_same, ?_, by rw [List.length_reverse]; omega, fun c hc => pz c (List.mem_reverse.mp hc)⟩
  rw [upd_ne dl, upd_same, eR]
end
end LT
namespace LT
open PySem L2
structure BltD (mg : Str → Option Value) : Prop where
  list : mg "list" = none
theorem Kd.fresh {d l p : Addr} {H J : Hp} {o : HO} (k : Kd d l H J) (n : H p = none) : Kd d l H (upd J p o) := fun c u n1 n2 e => by
  rw [upd_ne (ne_of_none e n)]
  exact k c u n1 n2 e
theorem Deal.put {J : Hp} {d l p : Addr} {o : HO} (h : Deal J d l) (n : p ≠ d ∧ p ≠ l) : Deal (upd J p o) d l := by
  obtain ⟨cs, m, e1, e2, e3⟩ := h.ex
  exact ⟨cs, m, by rw [upd_ne (Ne.symm n.1)]; exact e1, by rw [upd_ne (Ne.symm n.2)]; exact e2, e3⟩
theorem Kd.free {d l c : Addr} {H J : Hp} (k : Kd d l H J) (h : J c = none) (n : c ≠ d ∧ c ≠ l) : H c = none := by
  cases e : H c with
  | none => rfl
  | some o =>
    rw [k c o n.1 n.2 e] at h
    cases h
theorem Deal.keepE {J : Hp} {d l : Addr} (h : Deal J d l) {c : Addr} {o : HO} (e : J c = some o) : (c ≠ d ∧ c ≠ l) ∨ ∃ ys, o = .lst ys := by
  obtain ⟨cs, m, e1, e2, -⟩ := h.ex
  by_cases a : c = d
  · rw [a, e1] at e
    exact .inr ⟨_, (Option.some.inj e).symm⟩
  by_cases b : c = l
  · rw [b, e2] at e
    exact .inr ⟨_, (Option.some.inj e).symm⟩
  exact .inl ⟨a, b⟩
theorem sidxD {d : Int} {n : Nat} (h0 : 0 ≤ d) (h1 : d < (n : Int)) : seqIndex? d n = some d.toNat := by
  have e1 : (if d < 0 then d + (n : Int) else d) = d := if_neg (by omega)
  have e2 : seqIndex? d n = if (decide (0 ≤ (if d < 0 then d + (n : Int) else d)) && decide ((if d < 0 then d + (n : Int) else d) < (n : Int))) = true then some (if d < 0 then d + (n : Int) else d).toNat else none := rfl
  rw [e2, e1, decide_eq_true h0, decide_eq_true h1]
  rfl
theorem erase_perm {α : Type} : ∀ {xs : List α} {j : Nat} {y : α}, xs[j]? = some y → (y :: xs.eraseIdx j).Perm xs
  | [], _, _, h => nomatch h
  | x :: xs, 0, y, h => by
    cases h
    exact List.Perm.refl _
  | x :: xs, j + 1, y, h => (List.Perm.swap x y _).trans ((erase_perm (xs := xs) (j := j) h).cons x)
def spMixed (K : PySem.W.Frag) : Sp := fun vs H Q _ => ∃ (d l s : Addr) (xs : List V), vs = [.ref d, .ref s] ∧ Deal H d l ∧ SqL K H s xs ∧ xs.length ≤ 100 ∧
  ∀ (r : Addr) (ys : List V) (J : Hp), Kd d l H J → Deal J d l → H r = none → J r = some (.lst ys) → ys.Perm xs → Q (.ref r) J
abbrev nMixed : List Str := ["_law_deal_here", "_law_some", "_law_left", "_law_found"]
section
variable {P : Program} {w : World} {K : PySem.W.Frag} {mg : Str → Option Value} {base : Heap}
theorem scMixed : FnScope nMixed ["_law_deal_here", "_law_some"] (defScope sx_mixed) := ⟨rfl, rfl, rfl, by decide +kernel, rfl, by decide +kernel, by decide +kernel⟩
theorem ok_mixed {f g : Addr} {fd gd : FuncData} (F : Fun K "_law_mixed" "_law_mixed" sx_mixed f fd) (T : Blt mg) (T2 : BltD mg) (GD : FnOk P w K mg base CX0 1 g gd ["_law_deal_here", "_law_many"] spDraw) (bD : Binds K gd ["_law_deal_here", "_law_many"] []) (kD : PySem.W.keepIn K (.ref g) = true) (mD : mg "_law_draw" = some (.ref g)) :
    FnOk P w K mg base CX0 2 f fd ["_law_deal_here", "_law_some"] (spMixed K) := by
  refine F.ok scMixed (fun vs H Q E h => ?_) (fun cdv A outer s H vs Q E hr h => ?_)
  · obtain ⟨d, l, s, xs, rfl, _⟩ := h
    rfl
  obtain ⟨d, l, a, xs, rfl, hd, hS, hz, q⟩ := h
  refine ⟨_, (pss_cons (ps_par (i := 2) (j := 3) rfl scMixed.nd rfl rfl (by decide) rfl rfl (pa_cons (pe_callTy (r := rListOf K) call_list_of (by rfl) T2.list bt_list (pa_cons (pv 1) pa_nil)) (pa_cons (pe_lst pa_nil) pa_nil)) rfl)
    (pss_cons (ps_while PassesOwn.never (pt_cmpR (op_neL hr.units) (pv 2) (pe_lst pa_nil) (nomark _)) (pss_one (ps_expr (pe_bm PySem.F.plainAttrs_list PySem.F.slot_list_append PySem.F.type_list_append mt_append (pv 3) (pa_cons (pe_bm PySem.F.plainAttrs_list PySem.F.slot_list_pop PySem.F.type_list_pop mt_popAt (pv 2) (pa_cons (pe_call GD hr (by rfl) mD kD bD .nil pass0 (pa_cons (pv 0) (pa_cons (pe_callB call_len_seq (by rfl) T.len PySem.boot_len (pa_cons (pv 2) pa_nil)) pa_nil))) pa_nil)) pa_nil)))))
    (pss_one (ps_ret (pv 3))))), ?_⟩
  refine ⟨_, rfl, a, _, rfl, .inl hS, fun p np => ⟨(by show 0 ≤ sizeLine; decide), fun r nr => ⟨_, _, rfl, ?_⟩⟩⟩
  have s1 := new_same np (.lst xs)
  have s2 := new_same nr (.lst [])
  have hp : upd (upd H p (.lst xs)) r (.lst []) p = some (.lst xs) := s2 _ _ upd_same
  have hr0 : upd (upd H p (.lst xs)) r (.lst []) r = some (.lst []) := upd_same
  have hd2 := (hd.mono s1).mono s2
  have kd2 : Kd d l H (upd (upd H p (.lst xs)) r (.lst [])) := Kd.of (s1.trans s2)
  have nrH : H r = none := s1.free nr
  have pr : p ≠ r := fun e => by
    rw [← e, upd_same] at nr
    cases nr
  have pdl := hd.new np
  have rdl := hd.new nrH
  generalize upd (upd H p (.lst xs)) r (.lst []) = J1 at hp hr0 hd2 kd2 ⊢
  refine ⟨fun n σ J => σ = [some (.ref d), some (.ref a), some (.ref p), some (.ref r)] ∧ ∃ left found : List V, n = left.length ∧ J p = some (.lst left) ∧ J r = some (.lst found) ∧ (left ++ found).Perm xs ∧ Deal J d l ∧ Kd d l H J, ⟨_, rfl, xs, [], rfl, hp, hr0, by rw [List.append_nil], hd2, kd2⟩, ?_⟩
  rintro n σ J ⟨rfl, left, found, rfl, ep, er, pm, hdJ, kd⟩
  have lsum := pm.length_eq
  rw [List.length_append] at lsum
  refine ⟨_, rfl, (by show 0 ≤ sizeLine; decide), fun u nu => ?_⟩
  have su := new_same nu (.lst [])
  have ep2 := su _ _ ep
  have er2 := su _ _ er
  have hdU := hdJ.mono su
  have kdU := kd.then su
  refine ⟨p, u, _, _, rfl, rfl, SqL.of ep2, SqL.of upd_same, (by cases left with
    | nil => exact .inl ⟨rfl, rfl⟩
    | cons y ys => exact .inr (by simp)), ?_⟩
  generalize upd J u (.lst []) = J2 at ep2 er2 hdU kdU ⊢
  clear su ep er hdJ kd nu
  refine ⟨_, rfl, ?_⟩
  cases left with
  | nil =>
    refine iteF ⟨_, rfl, q r found J2 kdU hdU nrH er2 ?_⟩
    exact pm
  | cons c cs =>
    rw [decide_eq_true (by simp)]
    refine iteT ⟨_, fun σ' J' z => z, ?_⟩
    refine ⟨_, rfl, .inl ⟨rfl, _, SqL.of er2⟩, _, rfl, .inl ⟨rfl, _, SqL.of ep2⟩, _, rfl, _, rfl, p, _, rfl, .inl (SqL.of ep2), d, l, _, rfl, hdU, by rw [List.length_cons]; omega, by omega, fun k J3 k0 k1 kd3 hd3 => ?_⟩
    have ep3 := kd3 _ _ pdl.1 pdl.2 ep2
    have er3 := kd3 _ _ rdl.1 rdl.2 er2
    obtain ⟨j, rfl⟩ : ∃ j : Nat, k = (j : Int) := ⟨k.toNat, by omega⟩
    have hj : j < (c :: cs).length := by omega
    have ej : (c :: cs)[j]? = some (c :: cs)[j] := List.getElem?_eq_getElem hj
    refine ⟨p, _, _, j, _, rfl, rfl, ep3, by omega, by omega, sidxD (by omega) (by omega), ej, r, _, _, rfl, rfl, by rw [upd_ne (Ne.symm pr)]; exact er3, small1000 (by omega), ?_⟩
    have pe := erase_perm ej
    have le := pe.length_eq
    refine ⟨((c :: cs).eraseIdx j).length, by rw [List.length_cons] at le; omega, rfl, _, _, rfl, by rw [upd_ne pr]; exact upd_same, upd_same, ?_, (hd3.put pdl).put rdl, ((kdU.trans kd3).fresh np).fresh nrH⟩
    refine List.Perm.trans ?_ pm
    rw [← List.append_assoc]
    refine (List.perm_append_comm).trans ?_
    show ((c :: cs)[j] :: ((c :: cs).eraseIdx j ++ found)).Perm _
    rw [← List.cons_append]
    exact pe.append_right found
end
end LT
namespace LT
open PySem L2
def namesD : List (List Str) := [["run", "one", "two", "lock"], ["a", "ab", "abc", "b"], ["at", "past", "all", "keep"], ["stay", "on", "home", "zzzz"]]
theorem namesD_ok : ∀ ws ∈ namesD, ws.length = 4 ∧ ws.Nodup ∧ ∀ z ∈ ws, 0 < z.length ∧ z.length ≤ 4 ∧ (∀ c ∈ z.cps.toList, c ∈ az) ∧ z ≠ "also" := by decide +kernel
theorem wdD {z : Str} (h : 0 < z.length ∧ z.length ≤ 4 ∧ (∀ c ∈ z.cps.toList, c ∈ az) ∧ z ≠ "also") : Wd z := ⟨h.1, h.2.1, h.2.2.1, h.2.2.2⟩
theorem str_at_ {l : List Str} {i : Nat} {v : V} (h : (l.map V.str)[i]? = some v) : ∃ z, l[i]? = some z ∧ v = .str z := by
  rw [List.getElem?_map] at h
  cases e : l[i]? with
  | none =>
    rw [e] at h
    cases h
  | some a =>
    rw [e] at h
    exact ⟨a, rfl, (Option.some.inj h).symm⟩
def unS : V → Str
  | .str z => z
  | _ => Str.empty
theorem strs_of_perm {ys : List V} {ws : List Str} (h : ys.Perm (ws.map V.str)) : ∃ zs : List Str, ys = zs.map V.str ∧ zs.Perm ws := by
  refine ⟨ys.map unS, ?_, ?_⟩
  · have all : ∀ v ∈ ys, V.str (unS v) = v := fun v hv => by
      obtain ⟨z, _, rfl⟩ := List.mem_map.mp (h.mem_iff.mp hv)
      rfl
    clear h
    induction ys with
    | nil => rfl
    | cons y ys ih =>
      rw [List.map_cons, List.map_cons, all y List.mem_cons_self, ← ih fun v hv => all v (List.mem_cons_of_mem _ hv)]
  · have e : (ws.map V.str).map unS = ws := by
      rw [List.map_map]
      exact List.map_id' ws
    rw [← e]
    exact h.map unS
/-- some names -/
structure NamesOk (ws : List Str) : Prop where
  wd : ∀ z ∈ ws, Wd z
  nd : ws.Nodup
  sub : ∃ w4 ∈ namesD, ∀ z ∈ ws, z ∈ w4
def spNamesD : Sp := fun vs H Q _ => ∃ (d l : Addr) (m : Nat), vs = [.ref d, .int (m : Nat)] ∧ Deal H d l ∧ 1 ≤ m ∧ m ≤ 4 ∧
  ∀ (r : Addr) (ws : List Str) (J : Hp), Kd d l H J → Deal J d l → H r = none → J r = some (.lst (ws.map V.str)) → ws.length = m → NamesOk ws → Q (.ref r) J
def spAnyRowD (K : PySem.W.Frag) : Sp := fun vs H Q _ => ∃ (d l s : Addr) (ws : List Str), vs = [.ref d, .ref s] ∧ Deal H d l ∧ s ≠ d ∧ s ≠ l ∧ SqL K H s (ws.map V.str) ∧ 0 < ws.length ∧ ws.length ≤ 4 ∧ (∀ z ∈ ws, Wd z) ∧
  ∀ (p : Addr) (r : Row5) (J : Hp), Good r → r.m ∈ ws → r.t ∈ ws → Kd d l H J → Deal J d l → H p = none → J p = some (.tup r.vs) → Q (.ref p) J
abbrev nNames : List Str := ["_law_deal_here", "_law_many", "_law_pools"]
abbrev nAnyRow : List Str := ["_law_deal_here", "_law_names_here", "_law_pick_here", "_law_move"]
section
variable {P : Program} {w : World} {K : PySem.W.Frag} {mg : Str → Option Value} {base : Heap}
theorem scNames : FnScope nNames ["_law_deal_here", "_law_many"] (defScope sNames) := ⟨rfl, rfl, rfl, by decide +kernel, rfl, by decide +kernel, by decide +kernel⟩
theorem scAnyRow : FnScope nAnyRow ["_law_deal_here", "_law_names_here"] (defScope sAnyRow) := ⟨rfl, rfl, rfl, by decide +kernel, rfl, by decide +kernel, by decide +kernel⟩
theorem ok_namesD {f gm gp : Addr} {fd dm dp : FuncData} (F : Fun K "_law_names" "_law_names" sNames f fd)
    (GP : FnOk P w K mg base CX0 2 gp dp ["_law_deal_here", "_law_some"] (spPick K)) (bP : Binds K dp ["_law_deal_here", "_law_some"] []) (kP : PySem.W.keepIn K (.ref gp) = true) (mP : mg "_law_pick" = some (.ref gp))
    (GM : FnOk P w K mg base CX0 2 gm dm ["_law_deal_here", "_law_some"] (spMixed K)) (bM : Binds K dm ["_law_deal_here", "_law_some"] []) (kM : PySem.W.keepIn K (.ref gm) = true) (mM : mg "_law_mixed" = some (.ref gm)) :
    FnOk P w K mg base CX0 3 f fd ["_law_deal_here", "_law_many"] spNamesD := by
  refine F.ok scNames (fun vs H Q E h => ?_) (fun cdv A outer s H vs Q E hr h => ?_)
  · obtain ⟨d, l, m, rfl, _⟩ := h
    rfl
  obtain ⟨d, l, m, rfl, hd, m0, m1, q⟩ := h
  have hr2 := hr
  refine ⟨_, (pss_cons (ps_set (i := 2) scNames.nd rfl (Or.inl rfl) (pe_lst (pa_cons (pe_lst (pa_cons pe_str (pa_cons pe_str (pa_cons pe_str (pa_cons pe_str pa_nil))))) (pa_cons (pe_lst (pa_cons pe_str (pa_cons pe_str (pa_cons pe_str (pa_cons pe_str pa_nil))))) (pa_cons (pe_lst (pa_cons pe_str (pa_cons pe_str (pa_cons pe_str (pa_cons pe_str pa_nil))))) pa_nil)))))
    (pss_one (ps_ret (pe_slice sl_list (pe_call GM hr2 (by rfl) mM kM bM .nil pass0 (pa_cons (pv 0) (pa_cons (pe_call GP hr2 (by rfl) mP kP bP .nil pass0 (pa_cons (pv 0) (pa_cons (pe_op op_cat (pv 2) (pe_lst (pa_cons (pe_lst (pa_cons pe_str (pa_cons pe_str (pa_cons pe_str (pa_cons pe_str pa_nil))))) pa_nil))) pa_nil))) pa_nil))) po_none (po_some (pv 1)))))), ?_⟩
  have four : (4 : Nat) ≤ sizeLine := by decide
  refine ⟨four, fun l1 n1 => ⟨four, fun l2 n2 => ⟨four, fun l3 n3 => ⟨(by show 3 ≤ sizeLine; decide), fun p0 np0 => ?_⟩⟩⟩⟩
  have s1 := new_same n1 (.lst [V.str "run", .str "one", .str "two", .str "lock"])
  have s2 := new_same n2 (.lst [V.str "a", .str "ab", .str "abc", .str "b"])
  have s3 := new_same n3 (.lst [V.str "at", .str "past", .str "all", .str "keep"])
  have s4 := new_same np0 (.lst [V.ref l1, .ref l2, .ref l3])
  have e1 := s4 _ _ (s3 _ _ (s2 _ _ (upd_same (H := H) (a := l1) (o := .lst [V.str "run", .str "one", .str "two", .str "lock"]))))
  have e2 := s4 _ _ (s3 _ _ (upd_same (H := upd H l1 (.lst [V.str "run", .str "one", .str "two", .str "lock"])) (a := l2) (o := .lst [V.str "a", .str "ab", .str "abc", .str "b"])))
  have e3 := s4 _ _ (upd_same (H := upd (upd H l1 (.lst [V.str "run", .str "one", .str "two", .str "lock"])) l2 (.lst [V.str "a", .str "ab", .str "abc", .str "b"])) (a := l3) (o := .lst [V.str "at", .str "past", .str "all", .str "keep"]))
  have s14 := ((s1.trans s2).trans s3).trans s4
  have x1 := hd.new n1
  have x2 := hd.new (s1.free n2)
  have x3 := hd.new ((s1.trans s2).free n3)
  have e0 : upd (upd (upd (upd H l1 (.lst [V.str "run", .str "one", .str "two", .str "lock"])) l2 (.lst [V.str "a", .str "ab", .str "abc", .str "b"])) l3 (.lst [V.str "at", .str "past", .str "all", .str "keep"])) p0 (.lst [V.ref l1, .ref l2, .ref l3]) p0 = some (.lst [V.ref l1, .ref l2, .ref l3]) := upd_same
  generalize upd (upd (upd (upd H l1 (.lst [V.str "run", .str "one", .str "two", .str "lock"])) l2 (.lst [V.str "a", .str "ab", .str "abc", .str "b"])) l3 (.lst [V.str "at", .str "past", .str "all", .str "keep"])) p0 (.lst [V.ref l1, .ref l2, .ref l3]) = J1 at e1 e2 e3 e0 s14 ⊢
  clear s1 s2 s3 s4 n1 n2 n3 np0
  refine ⟨_, rfl, _, rfl, _, rfl, four, fun l4 n4 => ⟨(by show 1 ≤ sizeLine; decide), fun p1 np1 => ⟨p0, p1, [V.ref l1, .ref l2, .ref l3], [V.ref l4], rfl, rfl, ?_, upd_same, (by show 3 + 1 ≤ sizeLine; decide), fun p2 np2 => ?_⟩⟩⟩
  · exact new_same np1 _ _ _ (new_same n4 _ _ _ e0)
  have s5 := new_same n4 (.lst [V.str "stay", .str "on", .str "home", .str "zzzz"])
  have s6 := new_same np1 (.lst [V.ref l4])
  have s7 := new_same np2 (.lst ([V.ref l1, .ref l2, .ref l3] ++ [V.ref l4]))
  have x4 := hd.new (s14.free n4)
  have e4 := s7 _ _ (s6 _ _ (upd_same (H := J1) (a := l4) (o := .lst [V.str "stay", .str "on", .str "home", .str "zzzz"])))
  have s57 := (s5.trans s6).trans s7
  have xp := hd.new (((s14.trans s5).trans s6).free np2)
  refine ⟨d, l, p2, _, rfl, (hd.mono s14).mono s57, xp.1, xp.2, SqL.of upd_same, (by show 0 < 4; decide), (by show 4 ≤ 1000; decide), fun i v J ev kd hdJ => ?_⟩
  obtain ⟨u, ws, rfl, eu, mw⟩ : ∃ (u : Addr) (ws : List Str), v = .ref u ∧ J u = some (.lst (ws.map V.str)) ∧ ws ∈ namesD := by
    match i, ev with
    | 0, ev =>
      cases ev
      exact ⟨l1, (["run", "one", "two", "lock"] : List Str), rfl, kd _ _ x1.1 x1.2 (s57 _ _ e1), List.mem_cons_self⟩
    | 1, ev =>
      cases ev
      exact ⟨l2, (["a", "ab", "abc", "b"] : List Str), rfl, kd _ _ x2.1 x2.2 (s57 _ _ e2), List.mem_cons_of_mem _ List.mem_cons_self⟩
    | 2, ev =>
      cases ev
      exact ⟨l3, (["at", "past", "all", "keep"] : List Str), rfl, kd _ _ x3.1 x3.2 (s57 _ _ e3), List.mem_cons_of_mem _ (List.mem_cons_of_mem _ List.mem_cons_self)⟩
    | 3, ev =>
      cases ev
      exact ⟨l4, (["stay", "on", "home", "zzzz"] : List Str), rfl, kd _ _ x4.1 x4.2 e4, List.mem_cons_of_mem _ (List.mem_cons_of_mem _ (List.mem_cons_of_mem _ List.mem_cons_self))⟩
    | i + 4, ev => exact nomatch ev
  obtain ⟨lw, ndw, okw⟩ := namesD_ok ws mw
  have kdH : Kd d l H J := (Kd.of (s14.trans s57)).trans kd
  refine ⟨d, l, u, _, rfl, hdJ, SqL.of eu, by rw [List.length_map]; omega, fun r ys J2 kd2 hd2 nr er pm => ?_⟩
  obtain ⟨zs, rfl, pz⟩ := strs_of_perm pm
  refine ⟨_, rfl, _, rfl, r, _, rfl, SqL.of er, fun r2 nr2 => ?_⟩
  have ec : cutV (zs.map V.str) none (some ((m : Nat) : Int)) = (zs.take m).map V.str := by
    unfold cutV
    rw [HT.sIx_none, HT.sIx_nat, List.drop_zero, Nat.sub_zero, List.length_map, Nat.min_eq_left (by rw [pz.length_eq]; omega), List.map_take]
  rw [ec]
  have kd3 : Kd d l H (upd J2 r2 (.lst ((zs.take m).map V.str))) := (kdH.trans kd2).then (new_same nr2 _)
  refine q r2 (zs.take m) _ kd3 (hd2.mono (new_same nr2 _)) ((kdH.trans kd2).free nr2 (hd2.new nr2)) upd_same (by rw [List.length_take, pz.length_eq]; omega) ⟨fun z hz => wdD (okw z (pz.mem_iff.mp (List.mem_of_mem_take hz))), (pz.nodup_iff.mpr ndw).sublist (List.take_sublist _ _), ws, mw, fun z hz => pz.mem_iff.mp (List.mem_of_mem_take hz)⟩
def picksD : List Str := ["keep", "at", "past", "under", "all"]
def movesD : List Str := ["stay", "on", "on", "home"]
theorem picksD_ok : ∀ z ∈ picksD, z ∈ picks := by decide +kernel
theorem movesD_ok : ∀ z ∈ movesD, z ∈ moves := by decide +kernel
theorem ok_anyrowD {f gd gp : Addr} {fd dd dp : FuncData} (F : Fun K "_law_any_row" "_law_any_row" sAnyRow f fd)
    (GP : FnOk P w K mg base CX0 2 gp dp ["_law_deal_here", "_law_some"] (spPick K)) (bP : Binds K dp ["_law_deal_here", "_law_some"] []) (kP : PySem.W.keepIn K (.ref gp) = true) (mP : mg "_law_pick" = some (.ref gp))
    (GD : FnOk P w K mg base CX0 1 gd dd ["_law_deal_here", "_law_many"] spDraw) (bD : Binds K dd ["_law_deal_here", "_law_many"] []) (kD : PySem.W.keepIn K (.ref gd) = true) (mD : mg "_law_draw" = some (.ref gd)) :
    FnOk P w K mg base CX0 3 f fd ["_law_deal_here", "_law_names_here"] (spAnyRowD K) := by
  refine F.ok scAnyRow (fun vs H Q E h => ?_) (fun cdv A outer s H vs Q E hr h => ?_)
  · obtain ⟨d, l, a, ws, rfl, _⟩ := h
    rfl
  obtain ⟨d, l, a, ws, rfl, hd, n1, n2, hS, w0, w1, wok, q⟩ := h
  have hr2 := hr
  have hr1 : Room 1 _ := hr.mono (by decide)
  have lw : (ws.map V.str).length = ws.length := List.length_map _
  refine ⟨_, (pss_cons (ps_par (i := 2) (j := 3) rfl scAnyRow.nd rfl rfl (by decide) rfl rfl (pa_cons (pe_call GP hr2 (by rfl) mP kP bP .nil pass0 (pa_cons (pv 0) (pa_cons (pe_lst (pa_cons pe_str (pa_cons pe_str (pa_cons pe_str (pa_cons pe_str (pa_cons pe_str pa_nil)))))) pa_nil))) (pa_cons (pe_call GP hr2 (by rfl) mP kP bP .nil pass0 (pa_cons (pv 0) (pa_cons (pe_lst (pa_cons pe_str (pa_cons pe_str (pa_cons pe_str (pa_cons pe_str pa_nil))))) pa_nil))) pa_nil)) rfl)
    (pss_one (ps_ret (pe_tup (pa_cons (pe_call GP hr2 (by rfl) mP kP bP .nil pass0 (pa_cons (pv 0) (pa_cons (pv 1) pa_nil))) (pa_cons (pv 2) (pa_cons (pv 3) (pa_cons (pe_call GP hr2 (by rfl) mP kP bP .nil pass0 (pa_cons (pv 0) (pa_cons (pv 1) pa_nil))) (pa_cons (pe_cmpR op_eq (pe_call GD hr1 (by rfl) mD kD bD .nil pass0 (pa_cons (pv 0) (pa_cons pe_int pa_nil))) pe_int (nomark _)) pa_nil))))))))), ?_⟩
  refine ⟨_, rfl, (by show 5 ≤ sizeLine; decide), fun l1 m1 => ?_⟩
  have s1 := new_same m1 (.lst (picksD.map V.str))
  have x1 := hd.new m1
  refine ⟨d, l, l1, picksD.map V.str, rfl, hd.mono s1, x1.1, x1.2, SqL.of upd_same, by decide, by decide, fun i v J1 ev k1 hd1 => ?_⟩
  obtain ⟨zp, hzp, rfl⟩ := str_at_ ev
  have kd1 : Kd d l H J1 := (Kd.of s1).trans k1
  refine ⟨_, rfl, (by show 4 ≤ sizeLine; decide), fun l2 m2 => ?_⟩
  have s2 := new_same m2 (.lst (movesD.map V.str))
  have x2 := hd1.new m2
  refine ⟨d, l, l2, movesD.map V.str, rfl, hd1.mono s2, x2.1, x2.2, SqL.of upd_same, by decide, by decide, fun i2 v2 J2 ev2 k2 hd2 => ?_⟩
  obtain ⟨zm, hzm, rfl⟩ := str_at_ ev2
  have kd2 : Kd d l H J2 := (kd1.then s2).trans k2
  refine ⟨_, _, rfl, ?_⟩
  refine ⟨_, rfl, _, rfl, d, l, a, _, rfl, hd2, n1, n2, kd2.seq ⟨n1, n2⟩ hS, by omega, by omega, fun i3 v3 J3 ev3 k3 hd3 => ?_⟩
  obtain ⟨zq, hzq, rfl⟩ := str_at_ ev3
  have kd3 := kd2.trans k3
  refine ⟨_, rfl, _, rfl, _, rfl, _, rfl, d, l, a, _, rfl, hd3, n1, n2, kd3.seq ⟨n1, n2⟩ hS, by omega, by omega, fun i4 v4 J4 ev4 k4 hd4 => ?_⟩
  obtain ⟨zt, hzt, rfl⟩ := str_at_ ev4
  have kd4 := kd3.trans k4
  refine ⟨_, rfl, d, l, _, rfl, hd4, by decide, by decide, fun k J5 _ _ k5 hd5 => ⟨rfl, (by show 5 ≤ sizeLine; decide), fun p np => ?_⟩⟩
  have kd5 := kd4.trans k5
  have mq := List.mem_of_getElem? hzq
  have mt := List.mem_of_getElem? hzt
  have sp := new_same np (.tup (Row5.vs ⟨zq, zp, zm, zt, decide (V.int k = V.int 0)⟩))
  exact q p ⟨zq, zp, zm, zt, decide (V.int k = V.int 0)⟩ _ ⟨wok _ mq, picksD_ok _ (List.mem_of_getElem? hzp), movesD_ok _ (List.mem_of_getElem? hzm), wok _ mt⟩ mq mt (kd5.then sp) (hd5.mono sp) (kd5.free np (hd5.new np)) upd_same
end
end LT
namespace L2
open PySem PySem.Spec PyProof.Rows
/-- an empty set, as it is made -/
abbrev newSet (w : World) : Obj := { cls := .type "set", dict := none, data := .set #[] 0 (.fresh 0 0 (!w.params.followText "set-order")) }
section
variable {P : Program} {w : World} {A : Around} {E : Value → Shared → Prop} {s : Shared}
/-- set(l), l a list of isI -/
theorem set_of_list {l : Addr} {items : Array Value} (ns : List Int) {Q : Value → Shared → Prop} (hh : A.handled = none) (pl : s.heap.IsList l items) (isI : IntsAre items.toList ns) (few : ns.length + 1 < scanBound)
    (h : ∀ (h' : Heap) (tk c : Nat), SetR w h' s.heap.objs.size (fun j => decide (j ∈ ns)) c → c ≤ ns.length → (∀ b o, s.heap.get? b = some o → h'.get? b = some o) → Q (.ref s.heap.objs.size) { s with heap := h', toks := tk }) :
    wpAny (model P w) A (call (.type "set") [.ref l]) Q E s := by
  have size : items.size = ns.length := by
    have z := IntsAre.length isI
    rw [Array.length_toList] at z
    exact z
  obtain ⟨c, tl, mro⟩ := F.called_set.mro
  have made := F.called_set.made
  have sub := F.called_set.sub
  refine wpAny_call (codeAny_of_tree ?_)
  show wpAny _ _ (callAny (.type "set") _) _ _ _
  refine wpAny_pure ⟨Code.quiet_builtin _ (by decide +kernel), codeAny_builtin F.entry_type_call ?_⟩
  rw [Around.under_plain (weight_type_call_type "set" [.ref l] []) rfl]
  have n1 := F.called_set.notType
  have n2 := F.called_set.canCreate
  have n3 := F.typeCall_set_1 (.ref l)
  repeat (any_goals (first | assumption | wp_step))
  refine codeAny_mono (code_set_led1 (.ref l) (E := E) (Q₁ := fun v t => v = .ref s.heap.objs.size ∧ t = { s with heap := s.heap.push (newSet w) }) ⟨rfl, rfl⟩) fun r s₁ hr => ?_
  cases r with
  | error e => exact hr
  | ok fl =>
    cases fl with
    | next => exact hr.elim
    | brk => exact hr.elim
    | cont => exact hr.elim
    | ret obj =>
      obtain ⟨rfl, rfl⟩ := hr
      have there : (s.heap.push (newSet w)).get? s.heap.objs.size = some (newSet w) := Heap.get?_push_size _ rfl
      have isSet : Shared.TypeIs { s with heap := s.heap.push (newSet w) } (.ref s.heap.objs.size) "set" := ⟨_, there, rfl⟩
      have li := F.called_set.init.lookup
      have bi := F.called_set.init.bind (.ref s.heap.objs.size)
      repeat (any_goals (first | assumption | wp_step))
      refine codeAny_mono (codeAny_call_builtin (R := wants (fun r s₂ => r = .none ∧ ∃ h' tk c, s₂ = { s with heap := h', toks := tk } ∧ SetR w h' s.heap.objs.size (fun j => decide (j ∈ ns)) c ∧ c ≤ ns.length ∧
          (∀ b o, s.heap.get? b = some o → h'.get? b = some o)) E) F.called_set.init.plain F.entry_set_init (check_set_init_1 isSet ?_)) fun r₂ s₂ hr₂ => ?_
      · obtain ⟨⟨k1, k2, k3, k4⟩, got, e1, n, e2⟩ := pl
        simp only at e1 e2
        subst e1 e2
        have got' : (s.heap.push (newSet w)).get? l = some { cls := .type "list", dict := k2, data := .seq items n, slots := k4 } := Heap.get?_push_of_some _ got
        have s1 := PySem.F.sub_list_set
        have s2 := PySem.F.sub_list_frozenset
        have s3 : (Value.type "list" == Value.type "dict") = false := by decide
        have pl1 : (s.heap.push (newSet w)).IsList l items := ⟨_, got', rfl, n, rfl⟩
        unfold Builtin.«set.__init__» noKeywords Builtin.Frozenset.updateFrom
        generalize hPI : pyIter = PI
        wp_walk
        subst hPI
        refine wpAny_pyIter_list pl1 ?_
        refine wpAny_bind (wpAny_runValue ?_)
        have below : l < s.heap.objs.size := Heap.lt_size got
        have calm3 : A.in1.in1.in1.handled = none := by simp [hh]
        have far : l ≠ (s.heap.push (newSet w)).objs.size := by
          rw [Heap.size_push]
          exact Nat.ne_of_lt (Nat.lt_succ_of_lt below)
        have apart : s.heap.objs.size ∉ [(s.heap.push (newSet w)).objs.size, l] := by
          rw [Heap.size_push]
          simp only [List.mem_cons, List.mem_singleton, List.not_mem_nil, or_false, not_or]
          exact ⟨Nat.ne_of_lt (Nat.lt_succ_self _), Nat.ne_of_gt below⟩
        have vals : ∀ (i : Nat) (v : Value), items[i]? = some v → ∃ k t, ns[i]? = some k ∧ v = .int k t := fun i v hv => by
          have hi : i < ns.length := by
            rw [← size]
            exact (Array.getElem?_eq_some_iff.mp hv).1
          obtain ⟨t, e⟩ := IntsAre.int_at isI i v (by rw [Array.getElem?_toList]; exact hv)
          refine ⟨ns[i], t, List.getElem?_eq_getElem hi, ?_⟩
          rw [e, List.getD_eq_getElem?_getD, List.getElem?_eq_getElem hi] <;> rfl
        refine set_update_ints ((Walks.list calm3 _ l far items).toS) s.heap.objs.size apart ns size few vals (items.size - 0) 0 _ (by omega) (Nat.zero_le _) ⟨⟨_, Heap.get?_push_size _ rfl, rfl, rfl⟩, pl1.push _⟩ ?start ?fin
        case start =>
          have again : ((s.heap.push (newSet w)).push { cls := .type "list_iterator", data := .fields #[.ref l, .int 0 0] }).get? s.heap.objs.size = some (newSet w) := Heap.get?_push_of_some _ there
          exact ⟨0, Nat.le_refl 0, setR_new_at again⟩
        case fin =>
          intro t c' moved le R
          obtain ⟨h', g2, d', tk', os'⟩ := t
          have eg : g2 = s.gens := moved.gens
          have ed : d' = s.drawn := moved.drawn
          have eo : os' = s.os := moved.os
          subst eg ed eo
          show wpAny _ _ _ _ _ _
          refine wpAny_pure ?_
          show wpAny _ _ (ret Value.none) _ _ _
          rw [size] at le
          refine wpAny_pure ⟨rfl, h', tk', c', rfl, R, le, fun b o e => ?_⟩
          have b0 : b < s.heap.objs.size := Heap.lt_size e
          refine moved.heap b o ?_ (Heap.get?_push_of_some _ (Heap.get?_push_of_some _ e))
          simp only [List.mem_cons, List.mem_singleton, List.not_mem_nil, or_false, not_or]
          refine ⟨Nat.ne_of_lt b0, ?_⟩
          rw [Heap.size_push]
          exact Nat.ne_of_lt (Nat.lt_succ_of_lt b0)
      · cases r₂ with
        | error e => exact hr₂
        | ok fl₂ =>
          cases fl₂ with
          | next => exact hr₂.elim
          | brk => exact hr₂.elim
          | cont => exact hr₂.elim
          | ret r2 =>
            obtain ⟨rfl, h', tk, c2, rfl, R, le, k⟩ := hr₂
            repeat (any_goals (first | assumption | wp_step))
            exact h _ _ _ R le k
end
end L2
namespace L2
open PySem PySem.Spec PyProof.Rows
/-- set(xs), ints: a new set of n members -/
def rSetI (K : PySem.W.Frag) (w : World) : List V → Hp → VK → Prop := fun vs H Q => ∃ (p : Addr) (ns : List Int), vs = [.ref p] ∧ (SqL K H p (ns.map V.int) ∨ SqT K H p (ns.map V.int)) ∧ ns.length ≤ 1000 ∧
  ∀ (q : Addr) (n : Nat) (ks : List Int), H q = none → n ≤ ns.length → ks.Nodup → ks.length = n → (∀ k, k ∈ ks ↔ k ∈ ns) → Q (.ref q) (upd H q (SetO w q (fun j => decide (j ∈ ns)) n))
theorem setR_keys {w : World} {h : Heap} {a : Addr} {S : Int → Bool} {n : Nat} (R : SetR w h a S n) : ∃ ks : List Int, ks.Nodup ∧ ks.length = n ∧ ∀ k, k ∈ ks ↔ S k = true := by
  obtain ⟨o, es, ep, t, ho, hex, hd, g, nd, hm, hb, hf, hn, _⟩ := R
  exact ⟨es.toList.map keyOf, nd, by rw [List.length_map, Array.length_toList, hn], fun k => (hm k).symm⟩
theorem cr_setI {X : Cx} (hc : X.calm = true) : CallR X (.type "set") (rSetI X.K X.w) := by
  intro pins s σ H xs us Q I r h
  obtain ⟨p, ns, rfl, hp, hz, q⟩ := h
  obtain ⟨u, rfl, ru⟩ := vals1 r
  obtain rfl : u = Value.ref p := ru
  have fin : ∀ (h' : Heap) (tk c : Nat), SetR X.w h' s.heap.objs.size (fun j => decide (j ∈ ns)) c → c ≤ ns.length → (∀ b o, s.heap.get? b = some o → h'.get? b = some o) → EP X pins σ Q (.ref s.heap.objs.size) { s with heap := h', toks := tk } := fun h' tk c R le k => by
    have fre : H s.heap.objs.size = none := I.hok.fresh (Nat.le_refl _)
    obtain ⟨ks, k1, k2, k3⟩ := setR_keys R
    have J : Inv X pins σ (upd H s.heap.objs.size (SetO X.w s.heap.objs.size (fun j => decide (j ∈ ns)) c)) { s with heap := h', toks := tk } := I.laid (t' := tk) k (Nat.le_refl _) (setO_new R)
    exact ⟨.ref s.heap.objs.size, _, J, rfl, q _ c ks fre le k1 k2 fun j => by rw [k3 j, decide_eq_true_eq]⟩
  rcases hp with hp | hp
  · obtain ⟨its, rv, pl, _⟩ := I.list hp
    exact set_of_list ns (I.ok.hd hc) pl.isList (ints_of_vals rv) (by unfold scanBound; omega) fin
  · obtain ⟨its, rv, pt, _⟩ := I.tuple hp
    exact call_set_tupI ns (I.ok.hd hc) (show s.heap.IsTuple p its.toArray from pt) (ints_of_vals rv) (by unfold scanBound; omega) fin
/-- len of such a set -/
theorem cr_lenSet {X : Cx} : CallR X (.builtin "len") (fun xs H Q => ∃ (a : Addr) (S : Int → Bool) (n : Nat), xs = [.ref a] ∧ H a = some (SetO X.w a S n) ∧ n ≤ 1000 ∧ Q (.int (n : Nat)) H) := by
  intro pins s σ H xs us Q I r h
  obtain ⟨a, S, n, rfl, ha, hz, q⟩ := h
  rw [Vals.ref1 r]
  obtain ⟨o, es, ep, t, ho, hex, hd, _, _, _, _, hf, hn, _⟩ := setO_get I ha
  exact call_len_set ho hex hd hf (by rw [hn] <;> omega) ⟨.int (n : Nat), H, I.tok _, ⟨_, by rw [hn]⟩, q⟩
end L2
/-! sets of texts: their table can be walked, so that they can be sorted -/
namespace L2
open PySem PySem.Spec PyProof.Rows
def txtOf (e : Int × Value) : Str := match e.2 with | .str z _ => z | _ => Str.empty
def put1 (ys : List Str) (z : Str) : List Str := if z ∈ ys then ys else z :: ys
/-- what a table of texts has: the entries es -/
structure TxtEs (w : World) (es : Array (Int × Value)) (t : SetTable) (ys : List Str) : Prop where
  each : ∀ e ∈ es.toList, ∃ z tk, e.2 = Value.str z tk ∧ e.1 = hashStr w z
  perm : (es.toList.map txtOf).Perm ys
  once : ys.Nodup
  few : es.size < scanBound
  fit : t.fits es.size = true
  up : Ris t.place.toList
  way : w.params.followText "set-order" = true ∨ t.led = true
def TxtTab (w : World) (h : Heap) (a : Addr) (ys : List Str) : Prop :=
  ∃ (o : Obj) (es : Array (Int × Value)) (ep : Nat) (t : SetTable), h.get? a = some o ∧ o.ExactSet ∧ o.data = .set es ep t ∧ TxtEs w es t ys
section
variable {P : Program} {w : World} {A : Around} {E : Value → Shared → Prop} {s : Shared} {a : Addr} {ys : List Str}
theorem TxtTab.move {h h' : Heap} (R : TxtTab w h a ys) (k : ∀ o, h.get? a = some o → h'.get? a = some o) : TxtTab w h' a ys := by
  obtain ⟨o, es, ep, t, g, r⟩ := R
  exact ⟨o, es, ep, t, k o g, r⟩
theorem TxtEs.size {es : Array (Int × Value)} {t : SetTable} (T : TxtEs w es t ys) : es.size = ys.length := by
  have := T.perm.length_eq
  rwa [List.length_map, Array.length_toList] at this
theorem TxtEs.elems {es : Array (Int × Value)} {t : SetTable} (T : TxtEs w es t ys) : ElemsOf (PySem.strKind P w) es.toList := fun e he => by
  obtain ⟨z, tk, e1, e2⟩ := T.each e he
  refine ⟨⟨z, ?_, e2⟩, ?_⟩
  · rw [e1]
    exact strKind_is P w z tk
  · rw [e1]
    rfl
theorem is_txt {e : Int × Value} {z y : Str} {tk : Tok} (h : e.2 = Value.str y tk) : (PySem.strKind P w).is z e.2 = true ↔ txtOf e = z := by
  unfold txtOf
  rw [h]
  refine ⟨fun q => ?_, fun q => ?_⟩
  · exact ((PySem.strKind P w).inj _ _ _ (strKind_is P w y tk) q)
  · rw [← (show y = z from q)]
    exact strKind_is P w y tk
theorem TxtEs.has {es : Array (Int × Value)} {t : SetTable} (T : TxtEs w es t ys) {z : Str} : z ∈ ys ↔ ∃ e ∈ es.toList, (PySem.strKind P w).is z e.2 = true := by
  rw [← T.perm.mem_iff, List.mem_map]
  refine ⟨fun ⟨e, he, q⟩ => ?_, fun ⟨e, he, q⟩ => ?_⟩
  · obtain ⟨_, _, e1, _⟩ := T.each e he
    exact ⟨e, he, (is_txt e1).mpr q⟩
  · obtain ⟨_, _, e1, _⟩ := T.each e he
    exact ⟨e, he, (is_txt e1).mp q⟩
theorem TxtEs.relay {es es' : Array (Int × Value)} {t t' : SetTable} (T : TxtEs w es t ys) (p : es'.toList.Perm es.toList) (f : t'.fits es'.size = true) (u : Ris t'.place.toList) (l : t'.led = t.led) : TxtEs w es' t' ys := by
  have z : es'.size = es.size := by
    have := p.length_eq
    rwa [Array.length_toList, Array.length_toList] at this
  exact ⟨fun e he => T.each e (p.mem_iff.mp he), (p.map txtOf).trans T.perm, T.once, by rw [z]; exact T.few, f, u, T.way.imp id fun q => by rw [l]; exact q⟩
theorem TxtEs.plain {es : Array (Int × Value)} {t : SetTable} (T : TxtEs w es t ys) : TxtEs w es { t with plain := false } ys :=
  ⟨T.each, T.perm, T.once, T.few, SetTable.fits_plain_off T.fit, T.up, T.way⟩
/-- what is done behind a new entry's laying -/
theorem txt_store {g : Bool → Sem Unit} (quiet : ∀ (b : Bool) (r : Shared) (R : Unit → Shared → Prop), R () r → wpAny (model P w) A (g b) R E r)
    {o : Obj} {es0 es : Array (Int × Value)} {ep : Nat} {t0 t : SetTable} (at_ : s.heap.get? a = some o) (ex : o.ExactSet) (dat : o.data = .set es0 ep t0) (T : TxtEs w es t ys) {wd : Bool} {R : Option Bool → Shared → Prop}
    (fin : ∀ h', Heap.SameBut a s.heap h' → TxtTab w h' a ys → R (some true) { s with heap := h' }) :
    wpAny (model P w) A (do
        storeSet a es t
        if (!wd && t.tooFull) = true then do
            g (relayAll t es (SetTable.grown es.size)).2.2
            storeSet a (relayAll t es (SetTable.grown es.size)).1 (relayAll t es (SetTable.grown es.size)).2.1
            pure (some true)
          else pure (some true)) R E s := by
  refine wpAny_bind (wpAny_storeSet_of at_ dat ?_ (fits_of_scanBound T.few))
  have at1 := store_at (es' := es) (t' := t) at_ dat
  have but1 := Heap.SameBut.update s.heap a (Obj.putSet es t)
  split
  · have T2 : TxtEs w (relayAll t es (SetTable.grown es.size)).1 (relayAll t es (SetTable.grown es.size)).2.1 ys := T.relay (relayAll_perm t es _) (relayAll_fits t es _) (relayAll_ris t es _) (relayAll_led t es _)
    revert T2
    generalize relayAll t es (SetTable.grown es.size) = L
    obtain ⟨es2, t2, gave⟩ := L
    intro T2
    refine wpAny_bind (quiet _ _ _ ?_)
    refine wpAny_bind (wpAny_storeSet_of at1 rfl ?_ (fits_of_scanBound T2.few))
    exact wpAny_pure (fin _ (but1.trans (Heap.SameBut.update _ a _)) ⟨_, es2, _, t2, store_at at1 rfl, ex, rfl, T2⟩)
  · exact wpAny_pure (fin _ but1 ⟨_, es, _, t, at1, ex, rfl, T⟩)
theorem gave_quiet (b : Bool) (r : Shared) (R : Unit → Shared → Prop) (h : R () r) : wpAny (model P w) A (match b with | true => rule "set.scan.the-table-gave-way" | false => pure ()) R E r := by
  cases b
  · exact wpAny_pure h
  · exact wpAny_rule h
/-- one more text -/
theorem txt_add {z : Str} {tk : Tok} {Q : Bool → Shared → Prop} (R : TxtTab w s.heap a ys) (room : ys.length + 1 < scanBound)
    (fin : ∀ h', Heap.SameBut a s.heap h' → TxtTab w h' a (put1 ys z) → ∀ b, Q b { s with heap := h' }) :
    wpAny (model P w) A (setAddHashed a (.str z tk) ((PySem.strKind P w).hash z)) Q E s := by
  obtain ⟨o, es, ep, t, at_, ex, dat, T⟩ := R
  have key : (PySem.strKind P w).is z (.str z tk) = true := strKind_is P w z tk
  have scan : (Value.str z tk).scannable = true := rfl
  have all : ElemsOf (PySem.strKind P w) es.toList := T.elems
  unfold setAddHashed setAddHashedIn
  refine wpAny_holding (wpAny_bind (wpAny_setState_of at_ dat T.fit ?_))
  dsimp only
  rw [byScan_of scan T.few all, if_pos rfl]
  unfold setAddByScan
  refine wpAny_bind ?_
  refine wpAny_bind (wpAny_rule ?_)
  refine wpAny_bind (wpAny_setScan_of key at_ dat T.fit all ?_)
  cases found : List.findIdx? (fun e => (PySem.strKind P w).is z e.2) es.toList with
  | some j =>
    obtain ⟨lt, yes, _⟩ := List.findIdx?_eq_some_iff_getElem.mp found
    have mem : z ∈ ys := (T.has (P := P)).mpr ⟨es.toList[j], List.getElem_mem lt, yes⟩
    refine wpAny_pure (wpAny_pure ?_)
    refine fin s.heap (Heap.SameBut.refl a s.heap) ?_ _
    rw [put1, if_pos mem]
    exact ⟨o, es, ep, t, at_, ex, dat, T⟩
  | none =>
    have mem : z ∉ ys := fun q => by
      obtain ⟨e, he, y⟩ := (T.has (P := P)).mp q
      have no := List.findIdx?_eq_none_iff.mp found e he
      rw [y] at no
      cases no
    have T1 : TxtEs w (layNew t es ((PySem.strKind P w).hash z) (.str z tk)).1 (layNew t es ((PySem.strKind P w).hash z) (.str z tk)).2.1 (z :: ys) := by
      have p0 := layNew_perm t es ((PySem.strKind P w).hash z) (.str z tk)
      rw [Array.toList_push] at p0
      have p1 := p0.trans (List.perm_append_singleton _ _)
      have size1 : (layNew t es ((PySem.strKind P w).hash z) (.str z tk)).1.size = ys.length + 1 := by
        have := p1.length_eq
        rw [Array.length_toList, List.length_cons, Array.length_toList, T.size] at this
        exact this
      refine ⟨fun e he => ?_, (p1.map txtOf).trans (List.Perm.cons z T.perm), List.nodup_cons.mpr ⟨mem, T.once⟩, by rw [size1]; exact room, layNew_fits t es _ _, layNew_ris t es _ _ T.up, T.way.imp id fun q => by rw [layNew_led]; exact q⟩
      rcases List.mem_cons.mp (p1.mem_iff.mp he) with q | q
      · rw [q]
        exact ⟨z, tk, rfl, rfl⟩
      · exact T.each e q
    dsimp only
    revert T1
    generalize layNew t es ((PySem.strKind P w).hash z) (.str z tk) = L
    obtain ⟨es1, t1, wd, gave⟩ := L
    intro T1
    have done : ∀ h', Heap.SameBut a s.heap h' → TxtTab w h' a (z :: ys) → ∀ b, Q b { s with heap := h' } := fun h' sb r b => by
      have q := fin h' sb
      rw [put1, if_neg mem] at q
      exact q r b
    dsimp only at T1 ⊢
    refine wpAny_bind (gave_quiet _ _ _ ?_)
    split
    · refine wpAny_bind ?_
      rw [hashByValue_scannable 8 scan]
      refine wpAny_pure ?_
      refine txt_store gave_quiet at_ ex dat (ys := z :: ys) ?_ ?_
      · first | exact T1.plain | (split <;> first | exact T1.plain | exact T1) | exact T1
      · intro h' sb r
        exact wpAny_pure (done h' sb r _)
    · refine wpAny_bind (wpAny_pure ?_)
      simp only [↓reduceIte]
      refine txt_store gave_quiet at_ ex dat T1 ?_
      intro h' sb r
      exact wpAny_pure (done h' sb r _)
end
end L2
namespace L2
open PySem PySem.Spec PyProof.Rows
/-- the texts of a list, each once -/
def onceOf (xs : List Str) : List Str := xs.foldl put1 []
theorem put1_len {ys : List Str} {z : Str} : (put1 ys z).length ≤ ys.length + 1 := by
  unfold put1
  split
  · omega
  · exact Nat.le_refl _
theorem mem_put1 {ys : List Str} {z y : Str} : y ∈ put1 ys z ↔ y ∈ ys ∨ y = z := by
  unfold put1
  split
  · rename_i h
    exact ⟨.inl, fun q => q.elim id fun e => e ▸ h⟩
  · rw [List.mem_cons]
    exact Or.comm
theorem mem_once {xs : List Str} : ∀ {ys : List Str} {y : Str}, y ∈ xs.foldl put1 ys ↔ y ∈ ys ∨ y ∈ xs := by
  induction xs with
  | nil => intro ys y; simp
  | cons x xs ih =>
    intro ys y
    rw [List.foldl_cons, ih, mem_put1, List.mem_cons, or_assoc]
theorem mem_onceOf {xs : List Str} {y : Str} : y ∈ onceOf xs ↔ y ∈ xs := by
  rw [onceOf, mem_once]
  simp
section
variable {P : Program} {w : World} {A : Around} {E : Value → Shared → Prop} {s : Shared}
theorem txt_new_at {h : Heap} {a : Addr} (g : h.get? a = some { cls := .type "set", dict := none, data := .set #[] 0 (.fresh 0 0 (!w.params.followText "set-order")) }) : TxtTab w h a [] := by
  refine ⟨_, #[], 0, _, g, ⟨rfl, rfl, rfl⟩, rfl, fun e he => absurd he (by simp), List.Perm.refl _, List.nodup_nil, (by decide), rfl, List.Pairwise.nil, ?_⟩
  show _ ∨ (!w.params.followText "set-order") = true
  cases w.params.followText "set-order"
  · exact .inr rfl
  · exact .inl rfl
theorem txt_loop {I : Addr} {fp wr : List Addr} {G : Array GenState → Array GenState → Prop} {n : Nat} {Pv : Nat → Value → Prop} {St : Nat → Shared → Prop} {R : Result → Shared → Prop}
    (W : WalksS P w A.in1 I fp wr G n Pv St) (S : Addr) (apart : S ∉ fp) (xs : List Str) (len : n = xs.length) (few : xs.length + 1 < scanBound) (vals : ∀ i v, Pv i v → ∃ z t, xs[i]? = some z ∧ v = .str z t) :
    ∀ (left i : Nat) (r : Shared), n - i = left → i ≤ n → St i r → (∃ ys, ys = (xs.take i).foldl put1 [] ∧ ys.length ≤ i ∧ TxtTab w r.heap S ys) →
      (∀ r', Moved (S :: wr) G r r' → (onceOf xs).length ≤ n → TxtTab w r'.heap S (onceOf xs) → R (.ok (.ret .none)) r') →
      codeAny (model P w) A (.builtin "set.update.loop" ⟨[.ref S, .ref I], []⟩) R r := by
  have off : S ∉ wr := fun q => apart (W.sub _ q)
  have wider : ∀ b ∈ wr, b ∈ S :: wr := fun b hb => List.mem_cons_of_mem _ hb
  intro left
  induction left with
  | zero =>
    intro i r e0 le st ⟨ys, ey, hl, T⟩ fin
    obtain rfl : i = n := by omega
    refine codeAny_builtin F.entry_set_update_loop ?_
    rw [Around.under_plainId F.plain_set_update_loop _]
    show wpAny _ A.in1 (pyNext (.ref I) >>= _) _ _ r
    refine wpAny_bind (W.done r _ _ st fun r' mv => ?_)
    show wpAny _ A.in1 (ret Value.none) _ _ r'
    rw [List.take_of_length_le (by omega)] at ey
    subst ey
    exact wpAny_pure (fin r' (mv.mono wider) hl (T.move fun o q => mv.heap S o off q))
  | succ left ih =>
    intro i r e0 le st ⟨ys, ey, hl, T⟩ fin
    have lt : i < n := by omega
    refine codeAny_builtin F.entry_set_update_loop ?_
    rw [Around.under_plainId F.plain_set_update_loop _]
    show wpAny _ A.in1 (pyNext (.ref I) >>= _) _ _ r
    refine wpAny_bind (W.item i r _ _ lt st fun v r' pv st' mv => ?_)
    obtain ⟨z, tk, ez, rfl⟩ := vals i v pv
    have T' : TxtTab w r'.heap S ys := T.move fun o q => mv.heap S o off q
    show wpAny _ A.in1 (holding [Value.str z tk] (setAdd S (.str z tk)) >>= _) _ _ r'
    refine wpAny_bind (wpAny_holding ?_)
    unfold setAdd
    refine wpAny_holding ?_
    refine wpAny_bind ((PySem.strKind P w).pyHash (k := z) (strKind_is P w z tk) ?_)
    refine txt_add (s := { r' with toks := r'.toks + 1 }) T' (by omega) fun h' but T2 b => ?_
    have ey2 : put1 ys z = (xs.take (i + 1)).foldl put1 [] := by
      rw [List.take_add_one, ez, List.foldl_append, ← ey]
      rfl
    have next : St (i + 1) { r' with heap := h', toks := r'.toks + 1 } := W.frame _ r' _ _ st' (Nat.le_succ _) fun c hc o q => by
      rw [but.2 c fun e : c = S => apart (e ▸ hc)]
      exact q
    refine wpAny_pure ⟨plainId_quiet F.plain_set_update_loop _, ih (i + 1) _ (by omega) lt next ⟨_, ey2, Nat.le_trans put1_len (by omega), T2⟩ fun r2 mv2 l2 T3 => ?_⟩
    refine fin r2 (Moved.trans W.gtrans ((mv.mono wider).then_heap (Nat.le_succ _) fun c o hc q => ?_) mv2) l2 T3
    rw [but.2 c fun e : c = S => hc (e ▸ List.mem_cons_self)]
    exact q
/-- set(l), l a list of texts -/
theorem set_of_texts {l : Addr} {items : Array Value} (xs : List Str) {Q : Value → Shared → Prop} (hh : A.handled = none) (pl : s.heap.IsList l items) (isS : StrsAre items.toList xs) (few : xs.length + 1 < scanBound)
    (h : ∀ (h' : Heap) (tk : Nat), TxtTab w h' s.heap.objs.size (onceOf xs) → (∀ b o, s.heap.get? b = some o → h'.get? b = some o) → Q (.ref s.heap.objs.size) { s with heap := h', toks := tk }) :
    wpAny (model P w) A (call (.type "set") [.ref l]) Q E s := by
  have size : items.size = xs.length := by
    have z := StrsAre.len_eq isS
    rw [Array.length_toList] at z
    exact z
  obtain ⟨c, tl, mro⟩ := F.called_set.mro
  have made := F.called_set.made
  have sub := F.called_set.sub
  refine wpAny_call (codeAny_of_tree ?_)
  show wpAny _ _ (callAny (.type "set") _) _ _ _
  refine wpAny_pure ⟨Code.quiet_builtin _ (by decide +kernel), codeAny_builtin F.entry_type_call ?_⟩
  rw [Around.under_plain (weight_type_call_type "set" [.ref l] []) rfl]
  have n1 := F.called_set.notType
  have n2 := F.called_set.canCreate
  have n3 := F.typeCall_set_1 (.ref l)
  repeat (any_goals (first | assumption | wp_step))
  refine codeAny_mono (code_set_led1 (.ref l) (E := E) (Q₁ := fun v t => v = .ref s.heap.objs.size ∧ t = { s with heap := s.heap.push (newSet w) }) ⟨rfl, rfl⟩) fun r s₁ hr => ?_
  cases r with
  | error e => exact hr
  | ok fl =>
    cases fl with
    | next => exact hr.elim
    | brk => exact hr.elim
    | cont => exact hr.elim
    | ret obj =>
      obtain ⟨rfl, rfl⟩ := hr
      have there : (s.heap.push (newSet w)).get? s.heap.objs.size = some (newSet w) := Heap.get?_push_size _ rfl
      have isSet : Shared.TypeIs { s with heap := s.heap.push (newSet w) } (.ref s.heap.objs.size) "set" := ⟨_, there, rfl⟩
      have li := F.called_set.init.lookup
      have bi := F.called_set.init.bind (.ref s.heap.objs.size)
      repeat (any_goals (first | assumption | wp_step))
      refine codeAny_mono (codeAny_call_builtin (R := wants (fun r s₂ => r = .none ∧ ∃ h' tk, s₂ = { s with heap := h', toks := tk } ∧ TxtTab w h' s.heap.objs.size (onceOf xs) ∧
          (∀ b o, s.heap.get? b = some o → h'.get? b = some o)) E) F.called_set.init.plain F.entry_set_init (check_set_init_1 isSet ?_)) fun r₂ s₂ hr₂ => ?_
      · obtain ⟨⟨k1, k2, k3, k4⟩, got, e1, n, e2⟩ := pl
        simp only at e1 e2
        subst e1 e2
        have got' : (s.heap.push (newSet w)).get? l = some { cls := .type "list", dict := k2, data := .seq items n, slots := k4 } := Heap.get?_push_of_some _ got
        have s1 := PySem.F.sub_list_set
        have s2 := PySem.F.sub_list_frozenset
        have s3 : (Value.type "list" == Value.type "dict") = false := by decide
        have pl1 : (s.heap.push (newSet w)).IsList l items := ⟨_, got', rfl, n, rfl⟩
        unfold Builtin.«set.__init__» noKeywords Builtin.Frozenset.updateFrom
        generalize hPI : pyIter = PI
        wp_walk
        subst hPI
        refine wpAny_pyIter_list pl1 ?_
        refine wpAny_bind (wpAny_runValue ?_)
        have below : l < s.heap.objs.size := Heap.lt_size got
        have calm3 : A.in1.in1.in1.handled = none := by simp [hh]
        have far : l ≠ (s.heap.push (newSet w)).objs.size := by
          rw [Heap.size_push]
          exact Nat.ne_of_lt (Nat.lt_succ_of_lt below)
        have apart : s.heap.objs.size ∉ [(s.heap.push (newSet w)).objs.size, l] := by
          rw [Heap.size_push]
          simp only [List.mem_cons, List.mem_singleton, List.not_mem_nil, or_false, not_or]
          exact ⟨Nat.ne_of_lt (Nat.lt_succ_self _), Nat.ne_of_gt below⟩
        have vals : ∀ (i : Nat) (v : Value), items[i]? = some v → ∃ z t, xs[i]? = some z ∧ v = .str z t := fun i v hv => by
          have hi : i < xs.length := by
            rw [← size]
            exact (Array.getElem?_eq_some_iff.mp hv).1
          obtain ⟨t, e⟩ := SS.strs_at isS i v (by rw [Array.getElem?_toList]; exact hv)
          refine ⟨xs[i], t, List.getElem?_eq_getElem hi, ?_⟩
          rw [e, List.getD_eq_getElem?_getD, List.getElem?_eq_getElem hi] <;> rfl
        refine txt_loop ((Walks.list calm3 _ l far items).toS) s.heap.objs.size apart xs size few vals (items.size - 0) 0 _ (by omega) (Nat.zero_le _) ⟨⟨_, Heap.get?_push_size _ rfl, rfl, rfl⟩, pl1.push _⟩ ?start ?fin
        case start =>
          have again : ((s.heap.push (newSet w)).push { cls := .type "list_iterator", data := .fields #[.ref l, .int 0 0] }).get? s.heap.objs.size = some (newSet w) := Heap.get?_push_of_some _ there
          exact ⟨[], rfl, Nat.le_refl 0, txt_new_at again⟩
        case fin =>
          intro t moved le R
          obtain ⟨h', g2, d', tk', os'⟩ := t
          have eg : g2 = s.gens := moved.gens
          have ed : d' = s.drawn := moved.drawn
          have eo : os' = s.os := moved.os
          subst eg ed eo
          show wpAny _ _ _ _ _ _
          refine wpAny_pure ?_
          show wpAny _ _ (ret Value.none) _ _ _
          refine wpAny_pure ⟨rfl, h', tk', rfl, R, fun b o e => ?_⟩
          have b0 : b < s.heap.objs.size := Heap.lt_size e
          refine moved.heap b o ?_ (Heap.get?_push_of_some _ (Heap.get?_push_of_some _ e))
          simp only [List.mem_cons, List.mem_singleton, List.not_mem_nil, or_false, not_or]
          refine ⟨Nat.ne_of_lt b0, ?_⟩
          rw [Heap.size_push]
          exact Nat.ne_of_lt (Nat.lt_succ_of_lt b0)
      · cases r₂ with
        | error e => exact hr₂
        | ok fl₂ =>
          cases fl₂ with
          | next => exact hr₂.elim
          | brk => exact hr₂.elim
          | cont => exact hr₂.elim
          | ret r2 =>
            obtain ⟨rfl, h', tk, rfl, R, k⟩ := hr₂
            repeat (any_goals (first | assumption | wp_step))
            exact h _ _ R k
theorem strs_of : ∀ (l : List Value), (∀ v ∈ l, ∃ z tk, v = Value.str z tk) → StrsAre l (l.map fun v => txtOf (0, v))
  | [], _ => .nil
  | v :: l, h => by
    obtain ⟨k, tk, rfl⟩ := h v List.mem_cons_self
    exact .cons k tk (strs_of l fun u hu => h u (List.mem_cons_of_mem _ hu))
/-- sorted of a set of texts -/
theorem sorted_texts {a : Addr} {ys : List Str} {Q : Value → Shared → Prop} (R : TxtTab w s.heap a ys) (hh : A.handled = none) (few : ys.length < 64)
    (fin : ∀ r p (out : Array Value) (c : Nat) (zs : List Str), (∀ b o, s.heap.get? b = some o → r.heap.get? b = some o) → r.gens = s.gens → r.os = s.os → s.heap.objs.size ≤ p →
      r.heap.get? p = some (seqObj "list" out c) → StrsAre out.toList zs → zs.Perm ys → sortedS zs = true → Q (.ref p) r) :
    wpAny (model P w) A (call (.builtin "sorted") [.ref a]) Q E s := by
  obtain ⟨o, es, ep, t, at_, ex, dat, T⟩ := R
  refine Calls.call_function_entry kind_sorted plain_sorted entry_sorted (args_sorted1 _) ?_
  unfold Builtin.«sorted»
  refine wpAny_bind (m := checkCount "sorted" 1 1 _) (wpAny_pure ?_)
  refine wpAny_bind (collect_set (A := A.in1) hh ⟨o, at_, ex.1, dat⟩ T.fit T.few T.up T.way fun r vs keep grow g1 o1 pm => ?_)
  have len : vs.length = ys.length := by
    rw [pm.length_eq, List.length_map, Array.length_toList]
    exact T.size
  have isS : StrsAre vs (vs.map fun v => txtOf (0, v)) := strs_of vs fun v hv => by
    obtain ⟨e, he, q⟩ := List.mem_map.mp (pm.mem_iff.mp hv)
    obtain ⟨z, tk, e1, _⟩ := T.each e he
    exact ⟨z, tk, q ▸ e1⟩
  have perm : (vs.map fun v => txtOf (0, v)).Perm ys := by
    have q := pm.map fun v => txtOf (0, v)
    rw [List.map_map] at q
    exact q.trans T.perm
  refine wpAny_bind (wpAny_newList ?_ (by rw [len, sizeLine_eq]; omega))
  have got : (r.heap.push (seqObj "list" vs.toArray 0)).get? r.heap.objs.size = some (seqObj "list" vs.toArray 0) := Heap.get?_push_size _ rfl
  refine wpAny_bind (wpAny_holding (wpAny_call_entry slot_list_sort ⟨_, got, rfl⟩ entry_list_sort
    (list_sort_treeK strKind_oneLt got isS.keysOf (fun v₁ v₂ rest e => keyKind_strs (by rw [← e]; exact isS)) (by rw [len]; exact few) fun st hp hs => ⟨_, rfl, ?_⟩) (args_list_sort _)))
  obtain ⟨zs, a1, a2, a3⟩ := sorted_out_str isS hp hs
  obtain ⟨c, at2⟩ := sortedHeap_at (vs := vs) (out := _) got
  refine wpAny_pure ⟨_, rfl, fin _ r.heap.objs.size _ c zs (fun b u e => ?_) g1 o1 grow at2 a1 (a2.trans perm) a3⟩
  have q := keep b u e
  have lt := Heap.lt_size q
  show (sortedHeap (r.heap.push (seqObj "list" vs.toArray 0)) r.heap.objs.size vs _).get? b = some u
  rw [sortedHeap_old (Nat.ne_of_lt lt) (by rw [size_push']; exact Nat.lt_succ_of_lt lt)]
  exact Heap.get?_push_of_some _ q
end
end L2
namespace L2
open PySem PySem.Spec PyProof.Rows
/-- the set of texts at a -/
def SetT (w : World) (a : Addr) (ys : List Str) : HO := .ext fun h => TxtTab w h a ys
section
variable {X : Cx} {pins : List (Addr × Obj)} {σ : St} {H : Hp} {s : Shared} {a : Addr} {ys : List Str}
theorem setT_new {w : World} {P : Program} {h : Heap} (R : TxtTab w h a ys) : ObjOk P w H h a (SetT w a ys) := by
  have ⟨o, _, _, _, g, _⟩ := R
  exact ⟨R, ⟨o, g⟩, fun _ _ p k => p.move k⟩
theorem setT_get (I : Inv X pins σ H s) (ha : H a = some (SetT X.w a ys)) : TxtTab X.w s.heap a ys := (I.hok a _ ha).1
/-- set(xs), texts in a list -/
def rSetT (K : PySem.W.Frag) (w : World) : List V → Hp → VK → Prop := fun vs H Q => ∃ (p : Addr) (xs : List Str), vs = [.ref p] ∧ SqL K H p (xs.map V.str) ∧ xs.length ≤ 1000 ∧
  ∀ q : Addr, H q = none → Q (.ref q) (upd H q (SetT w q (onceOf xs)))
theorem cr_setT (hc : X.calm = true) : CallR X (.type "set") (rSetT X.K X.w) := by
  intro pins s σ H xs us Q I r h
  obtain ⟨p, ns, rfl, hp, hz, q⟩ := h
  obtain ⟨u, rfl, ru⟩ := vals1 r
  obtain rfl : u = Value.ref p := ru
  obtain ⟨its, rv, pl, _⟩ := I.list hp
  refine set_of_texts ns (I.ok.hd hc) pl.isList rv.strs (by unfold scanBound; omega) fun h' tk R k => ?_
  have fre : H s.heap.objs.size = none := I.hok.fresh (Nat.le_refl _)
  have J : Inv X pins σ (upd H s.heap.objs.size (SetT X.w s.heap.objs.size (onceOf ns))) { s with heap := h', toks := tk } := I.laid (t' := tk) k (Nat.le_refl _) (setT_new R)
  exact ⟨.ref s.heap.objs.size, _, J, rfl, q _ fre⟩
/-- sorted of such a set, fewer than 64 members -/
def rSortedT (w : World) : List V → Hp → VK → Prop := fun vs H Q => ∃ (a : Addr) (ys : List Str), vs = [V.ref a] ∧ H a = some (SetT w a ys) ∧ ys.length < 64 ∧
  ∀ (zs : List Str) (p : Addr), zs.Perm ys → sortedS zs = true → H p = none → Q (.ref p) (upd H p (.lst (zs.map V.str)))
theorem cr_sortedT (hc : X.calm = true) : CallR X (.builtin "sorted") (rSortedT X.w) := by
  intro pins s σ H vs us Q I r h
  obtain ⟨a, ys, rfl, ha, h64, q⟩ := h
  have R := setT_get I ha
  rw [Vals.ref1 r]
  refine sorted_texts R (I.ok.hd hc) h64 fun s' p out c zs k g o hp hg hi pm hs => ?_
  have hlen : (zs.map V.str).length ≤ sizeLine := by
    rw [List.length_map, pm.length_eq, sizeLine_eq]
    omega
  have hn : H p = none := I.hok.fresh hp
  have J : Inv X pins σ (upd H p (.lst (zs.map V.str))) { s with heap := s'.heap, gens := s'.gens, drawn := s'.drawn, toks := s'.toks } :=
    I.call (ch := []) (Un.laid k hp hn) (I.hok.laid k hp ⟨hlen, out.toList, c, vals_of_strs hi, hg⟩) (by rw [g]; exact I.bare) (fun _ z => nomatch z)
  have e : s' = { s with heap := s'.heap, gens := s'.gens, drawn := s'.drawn, toks := s'.toks } := by
    cases s'
    cases s
    cases o
    rfl
  rw [e]
  exact ⟨.ref p, _, J, rfl, q zs p pm hs hn⟩
end
end L2
namespace L2
open PySem PySem.Spec PyProof.Rows
/-- sorted(xs), ints in a list or a tuple -/
def rSortedA (K : PySem.W.Frag) : List V → Hp → VK → Prop := fun vs H Q => ∃ (a : Addr) (ns : List Int), vs = [V.ref a] ∧ (SqL K H a (ns.map V.int) ∨ SqT K H a (ns.map V.int)) ∧
  ∀ (out : List Int) (p : Addr), out.Perm ns → out.Pairwise (· ≤ ·) → H p = none → Q (.ref p) (upd H p (.lst (out.map V.int)))
theorem cr_sortedA {X : Cx} : CallR X (.builtin "sorted") (rSortedA X.K) := by
  intro pins s σ H vs us Q I r h
  obtain ⟨a, ns, rfl, hs, q⟩ := h
  rw [Vals.ref1 r]
  obtain ⟨T, o, its, n, hT, ho, hc, hd, rv, hz⟩ : ∃ (T : String) (o : Obj) (its : List Value) (n : Nat), (T = "list" ∨ T = "tuple") ∧ s.heap.get? a = some o ∧ o.cls = .type T ∧ o.data = .seq its.toArray n ∧ Vals (ns.map V.int) its ∧ (ns.map V.int).length ≤ sizeLine := by
    rcases hs with hs | hs
    · obtain ⟨its, rv, pl, hz⟩ := I.list hs
      obtain ⟨o, ho, hc, n, hd⟩ := pl.isList
      exact ⟨"list", o, its, n, .inl rfl, ho, hc, hd, rv, hz⟩
    · obtain ⟨its, rv, ⟨o, ho, hc, n, hd⟩, hz⟩ := I.tuple hs
      exact ⟨"tuple", o, its, n, .inr rfl, ho, hc, hd, rv, hz⟩
  have hi := rv.ints
  have hz' : its.length ≤ sizeLine := by
    rw [← rv.length]
    exact hz
  refine Calls.call_function_entry kind_sorted plain_sorted entry_sorted (args_sorted1 _) ?_
  unfold Builtin.«sorted»
  refine wpAny_bind (m := checkCount "sorted" 1 1 _) (wpAny_pure ?_)
  refine wpAny_bind (wpAny_collect_seq a hT ho hc hd (fun h' k => ?_) (by rw [List.size_toArray]; exact hz'))
  refine wpAny_bind (wpAny_newList ?_ (by simpa using hz'))
  have there : (h'.push { cls := .type "list", data := .seq its.toArray }).get? h'.objs.size = some (seqObj "list" its.toArray 0) := Heap.get?_push_size _ rfl
  have fin : ∀ out : List Value, SrtO.Srtd SrtO.ltIv out → SrtO.Stb SrtO.ltIv out its → EP X pins σ Q (.ref h'.objs.size) { s with heap := sortedHeap (h'.push { cls := .type "list", data := .seq its.toArray }) h'.objs.size its out.toArray } := fun out h1 h2 => by
    obtain ⟨k1, k2, k3⟩ := SrtO.ints_out hi h1 h2
    obtain ⟨ep, he⟩ := sortedHeap_at (vs := its) (out := out.toArray) there
    have fresh : s.heap.get? h'.objs.size = none := by
      cases e : s.heap.get? h'.objs.size with
      | none => rfl
      | some u => exact absurd (Heap.lt_size (k _ u e)) (Nat.lt_irrefl _)
    have freH : H h'.objs.size = none := I.hok.gone fresh
    have len : ((out.map SrtO.iv).map V.int).length ≤ sizeLine := by
      rw [List.length_map, k2.length_eq]
      rw [List.length_map] at hz
      exact hz
    exact ⟨.ref _, upd H h'.objs.size (.lst ((out.map SrtO.iv).map V.int)), I.laidN (t' := s.toks) (fun b u e => by
      have hb : b < h'.objs.size := Heap.lt_size (k b u e)
      rw [sortedHeap_old (Nat.ne_of_lt hb) (Nat.lt_of_lt_of_le hb (by rw [Heap.size_push]; exact Nat.le_succ _))]
      exact Heap.get?_push_of_some _ (k b u e)) fresh freH ⟨len, out, ep, vals_of_ints k1, he⟩, rfl, q _ _ k2 k3 freH⟩
  refine wpAny_bind (wpAny_holding (wpAny_call_entry slot_list_sort ⟨_, there, rfl⟩ entry_list_sort (SrtO.list_sort_ord SrtO.swo_int there (by simpa using hz') (fun h2 => SrtO.ints_sortable hi (by simpa using h2)) fun out h1 h2 => ⟨_, rfl, ?_⟩) (args_list_sort _)))
  exact wpAny_pure ⟨_, rfl, fin out h1 h2⟩
end L2
namespace LT
open PySem L2
/-- a list or a tuple -/
def Sq (K : PySem.W.Frag) (H : Hp) (a : Addr) (xs : List V) : Prop := SqL K H a xs ∨ SqT K H a xs
theorem Sq.monoX {K : PySem.W.Frag} {H J : Hp} {a : Addr} {xs : List V} (s : L3.Ex H J) (h : Sq K H a xs) : Sq K J a xs := h.elim (fun z => .inl (s.seq z)) fun z => .inr (s.seqT z)
theorem Sq.mono {K : PySem.W.Frag} {H J : Hp} {a : Addr} {xs : List V} (s : Same H J) (h : Sq K H a xs) : Sq K J a xs := h.monoX (L3.exOf s)
def ForW (J : It) (g : TG) (tb : TS) (D : Ends) (σ : L2.St) (H : Hp) : Prop := ∃ W : Nat → Nat → L2.St → Hp → Prop, (∃ m, W 0 m σ H) ∧
  ∀ i m σ H, W i m σ H → (J.stop i H ∧ D.nx σ H) ∨ (J.go i H ∧ ∃ N : L2.St → Hp → Prop, (∀ σ' H', N σ' H' → ∃ m', m' < m ∧ W (i + 1) m' σ' H') ∧ ∀ x H', J.yld i H x H' → g x σ H' fun σ2 H2 => tb { D with nx := N, ct := N, bk := D.nx } σ2 H2)
theorem same_both {K : PySem.W.Frag} {H J : Hp} {a : Addr} {xs : List V} (s : Same H J) : (SqL K H a xs → SqL K J a xs) ∧ (SqT K H a xs → SqT K J a xs) := ⟨fun e => s.seq e, fun e => SqT.ext e s⟩
theorem for_seq {K : PySem.W.Frag} {a : Addr} {xs : List V} {g : TG} {tb : TS} {D : Ends} {σ : L2.St} {H0 H : Hp} (hq : Sq K H0 a xs) (Pv : Nat → L2.St → Hp → Prop) (h0 : Pv 0 σ H)
    (keep : ∀ i σ J, i ≤ xs.length → Pv i σ J → (SqL K H0 a xs → SqL K J a xs) ∧ (SqT K H0 a xs → SqT K J a xs))
    (turn : ∀ i x σ J, xs[i]? = some x → Pv i σ J → g x σ J fun σ2 H2 => tb { D with nx := Pv (i + 1), ct := Pv (i + 1), bk := D.nx } σ2 H2) (fin : ∀ σ J, Pv xs.length σ J → D.nx σ J) :
    ((∃ ys, SqL K H a ys) ∧ ForW (Itl K a) g tb D σ H) ∨ ((∃ ys, SqT K H a ys) ∧ ForW (Itt K a) g tb D σ H) := by
  rcases hq with h | h
  · exact .inl ⟨⟨_, (keep 0 _ _ (Nat.zero_le _) h0).1 h⟩, for_list Pv h0 (fun i σ J le p => (keep i σ J le p).1 h) turn fin⟩
  · exact .inr ⟨⟨_, (keep 0 _ _ (Nat.zero_le _) h0).2 h⟩, for_tup Pv h0 (fun i σ J le p => (keep i σ J le p).2 h) turn fin⟩
def LcW (J : It) (g : TG) (tt : TT) (te : TE) (vs : List Nat) (σ : L2.St) (H1 : Hp) (D : Addr) (Qd : Hp → Prop) : Prop := ∃ W : Nat → Nat → Hp → Prop, (∃ m, W 0 m (upd H1 D (.lst []))) ∧
  ∀ i m H, W i m H → (J.stop i H ∧ Qd H) ∨ (J.go i H ∧ ∃ Nx : Hp → Prop, (∀ H', Nx H' → ∃ m', m' < m ∧ W (i + 1) m' H') ∧ ∀ x H', J.yld i H x H' → g x (wipe σ vs) H' fun σ2 H2 => wipe σ2 vs = wipe σ vs ∧
    tt σ2 H2 fun b H3 => if b = true then te σ2 H3 fun y H4 => ∃ acc, H4 D = some (.lst acc) ∧ acc.length < sizeLine ∧ Nx (upd H4 D (.lst (acc ++ [y]))) else Nx H3)
theorem lc_seq {K : PySem.W.Frag} {a : Addr} {xs : List V} {g : TG} {tt : TT} {te : TE} {vs : List Nat} {σ : L2.St} {H1 : Hp} {Qd : Addr → Hp → Prop} (hq : Sq K H1 a xs) (Pv : Addr → Nat → Hp → Prop) (h0 : ∀ D, H1 D = none → Pv D 0 (upd H1 D (.lst [])))
    (keep : ∀ D i J, i ≤ xs.length → Pv D i J → (SqL K H1 a xs → SqL K J a xs) ∧ (SqT K H1 a xs → SqT K J a xs))
    (turn : ∀ D, H1 D = none → ∀ i x H, xs[i]? = some x → Pv D i H → g x (wipe σ vs) H fun σ2 H2 => wipe σ2 vs = wipe σ vs ∧ tt σ2 H2 fun b H3 =>
      if b = true then te σ2 H3 fun y H4 => ∃ acc, H4 D = some (.lst acc) ∧ acc.length < sizeLine ∧ Pv D (i + 1) (upd H4 D (.lst (acc ++ [y]))) else Pv D (i + 1) H3)
    (fin : ∀ D, H1 D = none → ∀ H, Pv D xs.length H → Qd D H) :
    ((∃ ys, SqL K H1 a ys) ∧ ∀ D, H1 D = none → LcW (Itl K a) g tt te vs σ H1 D (Qd D)) ∨ ((∃ ys, SqT K H1 a ys) ∧ ∀ D, H1 D = none → LcW (Itt K a) g tt te vs σ H1 D (Qd D)) := by
  rcases hq with h | h
  · exact .inl ⟨⟨_, h⟩, fun D hD => lc_list (Pv D) (h0 D hD) (fun i J le p => (keep D i J le p).1 h) (turn D hD) (fin D hD)⟩
  · exact .inr ⟨⟨_, h⟩, fun D hD => lc_tup (Pv D) (h0 D hD) (fun i J le p => (keep D i J le p).2 h) (turn D hD) (fin D hD)⟩
end LT
namespace LT
open PySem
theorem enum_laid {v : Value} {o : Obj} {G : Heap → Prop} (B : Begins v o G) :
    Meets (Builtin.«enumerate.__new__» ⟨[.type "enumerate", v], []⟩) (fun _ R s => G s.heap ∧
      R (.ok (.ret (.ref (s.heap.push o).objs.size))) { s with heap := (s.heap.push o).push { cls := .type "enumerate", data := .fields #[.none, .bool false, .ref s.heap.objs.size, rawInt 0, .none, .none] } }) :=
  .of_wp fun prog w A R s h => by
    obtain ⟨hp, g, d, tk, os⟩ := s
    obtain ⟨h1, h⟩ := h
    have sub := sub_enumerate
    have it : ∀ {A' : Around} {E : Value → Shared → Prop} {Q : Value → Shared → Prop}, Q (.ref hp.objs.size) ⟨hp.push o, g, d, tk, os⟩ → wpAny (model prog w) A' (pyIter v) Q E ⟨hp, g, d, tk, os⟩ := fun q => B.iter prog w _ _ ⟨hp, g, d, tk, os⟩ _ h1 q
    wp_walk using it
    refine wpAny_stack_any fun st => wpAny_pure ?_
    split
    · rename_i c _ _ _ _ _
      cases (c == Value.type "enumerate")
      · wp_walk using it
        exact ⟨_, rfl, h⟩
      · wp_walk using it
        exact ⟨_, rfl, h⟩
    · wp_walk using it
      exact ⟨_, rfl, h⟩
section
variable {prog : Program} {w : World} {A : Around} {E : Value → Shared → Prop} {s : Shared}
theorem enum_made {v : Value} {o : Obj} {G : Heap → Prop} {Q : Value → Shared → Prop} (B : Begins v o G) (h1 : G s.heap)
    (h : ∀ h', IsEnum h' (s.heap.objs.size + 1) s.heap.objs.size 0 .none → h'.get? s.heap.objs.size = some o → h'.objs.size = s.heap.objs.size + 2 →
      (∀ b u, s.heap.get? b = some u → h'.get? b = some u) → Q (.ref (s.heap.objs.size + 1)) { s with heap := h' }) :
    wpAny (model prog w) A (call (.type "enumerate") [v]) Q E s := by
  refine callType_new F.called_enumerate (by decide) (F.typeCall_enumerate_1 _) (F.newCall_enumerate_1 _) (fun obj => F.args_object_init_2 obj _) F.entry_enumerate_new (enum_laid B) ⟨h1, ?_⟩
  have one : (s.heap.push o).objs.size = s.heap.objs.size + 1 := Heap.size_push ..
  show _ ∧ _
  rw [one]
  have got := Heap.get?_push_size (s.heap.push o) (o := { cls := .type "enumerate", data := .fields #[.none, .bool false, .ref s.heap.objs.size, rawInt 0, .none, .none] }) rfl
  rw [one] at got
  exact ⟨⟨_, got, rfl⟩, h _ got (Heap.get?_push_of_some _ (Heap.get?_push_size _ B.free)) (by rw [Heap.size_push, one]) fun b u x => Heap.get?_push_of_some _ (Heap.get?_push_of_some _ x)⟩
end
end LT
namespace L2
open PySem PySem.Spec PyProof.Rows
/-- the tuple at a, each item in a new pair with its number -/
def ItEt (K : PySem.W.Frag) (a : Addr) : It :=
  ⟨fun i H => ∃ (xs : List V) (x : V), SqT K H a xs ∧ xs[i]? = some x, fun i H v H' => ∃ T x, v = .ref T ∧ H T = none ∧ H' = upd H T (.tup [.int (i : Nat), x]) ∧ ∀ xs, SqT K H a xs → xs[i]? = some x, fun i H => ∃ xs : List V, SqT K H a xs ∧ xs.length ≤ i⟩
theorem turn_enumT {P : Program} {w : World} {K : PySem.W.Frag} {elts : List Expr} {kk : Nat} {tpos : Pos} (a e it : Addr) :
    Turn P w K (.Tuple elts kk tpos) (ItEt K a) [e, it] e (fun i h => (∃ old, IsEnum h e it ((i : Nat) : Int) old) ∧ h.IsTupleIter it a i ∧ e ≠ it ∧ a ≠ it ∧ e ≠ a) where
  mem := by simp
  obj := fun i h st b hb => by
    obtain ⟨⟨old, he⟩, ⟨o, ho, hc, hd⟩, _⟩ := st
    rcases (by simpa using hb : b = e ∨ b = it) with z | z
    · rw [z]
      exact ⟨_, he, fun v q => nomatch q⟩
    · rw [z]
      exact ⟨o, ho, fun v q => by rw [hd] at q; cases q⟩
  keep := fun i h h' st k => by
    obtain ⟨⟨old, he⟩, hi, n1, n2, n3⟩ := st
    exact ⟨⟨old, k e (by simp) _ he⟩, hi.at fun o q => k it (by simp) o q, n1, n2, n3⟩
  item := by
    intro X hP hw hK hc i pins s σ H E I hf st hg
    subst hP hw hK
    obtain ⟨⟨old, he⟩, hit, n1, n2, n3⟩ := st
    obtain ⟨xs, x, hq, hx⟩ := hg
    obtain ⟨its, rv, p, hz⟩ := I.tuple hq
    obtain ⟨u, hu, ru⟩ := rv.get hx
    have hel : e < s.heap.objs.size := Heap.lt_size he
    have hil : it < s.heap.objs.size := by
      obtain ⟨_, q, _⟩ := hit
      exact Heap.lt_size q
    have hlt : i < its.toArray.size := by
      rw [List.size_toArray]
      exact (List.getElem?_eq_some_iff.mp hu).1
    refine wpAny_pyNext_enum_itemD (Draws.tuple (A := X.A.in1) (show X.A.in1.handled = none from I.ok.hd hc) it a n2 its.toArray) he ⟨hit, p⟩ hlt n1 (by simp [n1, n3]) fun y h' tk hy ho st' hT hsz hk => ?_
    have ey : y = u := by
      have e1 : its.toArray[i]? = some u := by simpa using hu
      rw [e1] at hy
      exact (Option.some.inj hy).symm
    subst ey
    refine ⟨_, rfl, wpAny_letOwnedTupleGo_enum (s := { s with heap := h', toks := tk + 1 }) ho fun h'' he' sb => ?_⟩
    have hT2 : h''.get? s.heap.objs.size = some { cls := .type "tuple", data := .seq #[.int i tk, y] } := (sb.2 _ (Nat.ne_of_gt hel)).trans hT
    have new : ObjOk X.prog X.w (upd H s.heap.objs.size (.tup [.int (i : Nat), x])) h'' s.heap.objs.size (.tup [.int (i : Nat), x]) :=
      ⟨by show 2 ≤ sizeLine; decide, [.int i tk, y], .cons ⟨_, rfl⟩ (.cons ru .nil), ⟨_, hT2, rfl, _, rfl⟩⟩
    have I1 : Inv X pins σ (upd H s.heap.objs.size (.tup [.int (i : Nat), x])) { s with heap := h'', toks := tk + 1 } :=
      I.turnedNew (ch := [e, it]) (fun b ob hb q => (sb.2 b (fun z => hb (by simp [z]))).trans (hk b ob (fun z => hb (by simp [z])) (fun z => hb (by simp [z])) q)) hf (Nat.le_refl _) new
    refine ⟨.ref s.heap.objs.size, _, I1, rfl, ⟨_, x, rfl, I.hok.fresh (Nat.le_refl _), rfl, fun ys hy' => by rw [I.tuple_inj hy' hq]; exact hx⟩, ⟨⟨y, ?_⟩, st'.1.at fun o q => (sb.2 it (Ne.symm n1)).trans q, n1, n2, n3⟩, fun b hb => ?_⟩
    · have e1 : ((i + 1 : Nat) : Int) = (i : Int) + 1 := by omega
      rw [e1]
      exact he'
    · have hb' : b < s.heap.objs.size := by
        rcases (by simpa using hb : b = e ∨ b = it) with z | z
        · rw [z]
          exact hel
        · rw [z]
          exact hil
      rw [upd_ne (Nat.ne_of_lt hb')]
      exact (hf b hb).1
  done := by
    intro X hP hw hK hc i pins s σ H E I hf st hg
    subst hP hw hK
    obtain ⟨⟨old, he⟩, hit, n1, n2, n3⟩ := st
    obtain ⟨xs, hq, hx⟩ := hg
    obtain ⟨its, rv, p, hz⟩ := I.tuple hq
    obtain ⟨f0, f1, f2, f3, f4, f5⟩ := hf it (by simp)
    have hl := rv.length
    have D : Draws X.prog X.w X.A.in1 it [it, a] i (fun _ _ => True) (fun j h => j = i ∧ h.IsTupleIter it a j ∧ h.IsTuple a its.toArray) := {
      live := fun _ _ st => let ⟨o, ho, _⟩ := st.2.1; ⟨o, ho⟩
      frame := fun _ _ _ st hk => ⟨st.1, st.2.1.at fun o e => hk it (by simp) o e, st.2.2.at fun o e => hk a (by simp) o e⟩
      item := fun j s Q E hj st hQ => absurd hj (by rw [st.1]; exact Nat.lt_irrefl i)
      done := fun s Q E st hE => wpAny_nextOf_tuple_end (show X.A.in1.handled = none from I.ok.hd hc) st.2.1 st.2.2 (by simp; omega) hE }
    exact wpAny_pyNext_enum_endD D he ⟨rfl, hit, p⟩ fun h' eb => ⟨rfl, I.turned (t' := s.toks) (fun b o hb q => eb b o hb q) f0 f1 f3 f4 f5⟩
  self := fun A i s Q E st h => let ⟨⟨_, he⟩, _⟩ := st; wpAny_pyIter_enum he h
def iEnumT (K : PySem.W.Frag) (ta : TA) : TI := fun σ H R => ta σ H fun vs H1 => ∃ a xs, vs = [.ref a] ∧ SqT K H1 a xs ∧ R (ItEt K a) H1
theorem pi_enumT {X : Cx} {e : Expr} {ta : TA} {p pos tpos : Pos} {elts : List Expr} {kk : Nat} (hg : Gl X "enumerate") (hm : X.mg "enumerate" = none) (ha : PA X [e] ta) (hs : starEach [e] X.env = [(false, eval e X.env)] := by rfl) :
    PI X (.Tuple elts kk tpos) (.Call (.Name "enumerate" p) [e] [] pos) (iEnumT X.K ta) := by
  refine ⟨fun pins s σ H R I h => ?_⟩
  refine Call_ (ld_blt I hg hm boot_enumerate (PyProof.Rows.callWith_type1 (thn (ha.run pos pins s σ H _ I h) fun us s1 ⟨vs, H1, I1, r1, q1⟩ => ?_) hs rfl))
  obtain ⟨a, xs, ex, hq, q⟩ := q1
  subst ex
  cases r1 with
  | cons r rr =>
    cases rr
    cases r
    obtain ⟨its, rv, p', hz⟩ := I1.tuple hq
    have al : a < s1.heap.objs.size := by
      obtain ⟨o, ho, _⟩ := p'
      exact Heap.lt_size ho
    refine LT.enum_made (begins_tuple a its.toArray) p' fun h' he hit hsz hk => wpAny_pyIter_enum he ?_
    have I2 : Inv X pins σ H1 { s1 with heap := h' } := I1.kept (t' := s1.toks) hk
    refine ⟨s1.heap.objs.size + 1, [s1.heap.objs.size + 1, s1.heap.objs.size], _, _, H1, rfl, I2, turn_enumT a (s1.heap.objs.size + 1) s1.heap.objs.size, ⟨⟨.none, he⟩, ⟨_, hit, rfl, rfl⟩, Nat.succ_ne_self _, Nat.ne_of_lt al, Nat.ne_of_gt (Nat.lt_succ_of_lt al)⟩, fun b hb => ?_, q⟩
    have hle : s1.heap.objs.size ≤ b := by
      rcases (by simpa using hb : b = s1.heap.objs.size + 1 ∨ b = s1.heap.objs.size) with z | z
      · rw [z]
        exact Nat.le_add_right _ _
      · rw [z]
        exact Nat.le_refl _
    exact I1.fpOk hle (I1.hok.fresh hle)
theorem walk_enumT {K : PySem.W.Frag} {a : Addr} {xs : List V} : Walk (ItEt K a) xs.length (fun H => SqT K H a xs) (YPair (fun i => some (.int (i : Nat))) (fun i => xs[i]?)) := by
  refine ⟨fun i _ hi q => ⟨xs, xs[i], q, by simp [hi]⟩, fun _ q => ⟨xs, q, Nat.le_refl _⟩, fun i H v H' _ q y => ?_⟩
  obtain ⟨T, x, h1, h2, h3, h4⟩ := y
  exact ⟨T, .int (i : Nat), x, h1, h2, h3, rfl, h4 xs q⟩
end L2
namespace LT
open PySem L2
/-! ### one asker and one row -/
def ptrV : Option Int → V
  | none => .non
  | some p => .int p
def inReg (pick : Str) (p : Option Int) (a : Int) : Bool :=
  if pick = "all" then true else match p with
    | none => decide (pick = "at") || decide (pick = "past")
    | some p => if pick = "keep" then decide (a = p) else if pick = "at" then decide (p ≤ a) else if pick = "past" then decide (p < a) else decide (a < p)
def movedP (move : Str) (p : Option Int) (g : Int) : Option Int := if move = "on" then some g else if move = "home" then none else p
def grantedBy (r : Row5) (mode : Str) (p : Option Int) (asking : List Int) : Option Int := if r.m = mode then asking.find? (inReg r.p p) else none
def spRegion : Sp := fun vs H Q _ => ∃ (pick : Str) (p : Option Int) (a : Int), vs = [.str pick, ptrV p, .int a] ∧ pick ∈ picks ∧ ∀ J, Same H J → Q (.bl (inReg pick p a)) J
def spMoved : Sp := fun vs H Q _ => ∃ (move : Str) (p : Option Int) (g : Int), vs = [.str move, ptrV p, .int g] ∧ Q (ptrV (movedP move p g)) H
theorem str_dec (a b : Str) : decide (V.str a = V.str b) = decide (a = b) := by
  by_cases h : a = b
  · rw [decide_eq_true h, h]
    exact decide_eq_true rfl
  · rw [decide_eq_false h]
    exact decide_eq_false fun z => h (V.str.inj z)
theorem op_inT {X : Cx} {k : Nat} (hr : Room k X.A) : OpR X (compareOp .In) (fun x y H Q => ∃ (z : Str) (p : Addr) (xs : List Str), x = .str z ∧ y = .ref p ∧ SqT X.K H p (xs.map V.str) ∧ PyData.canLayAll0 (strD xs) = true ∧ PyData.strOk z = true ∧ Q (.bl (pickV xs (.str z))) H) := by
  intro pins s σ H x y v u Q I rx ry h
  obtain ⟨z, p, xs, rfl, rfl, hp, hlay, hz, q⟩ := h
  obtain ⟨as, r1⟩ := Dp.reads I (.str z) (.str z) v (.str z) rx
  obtain ⟨bs, r2⟩ := Dp.reads I (.tuple (strD xs)) (.ref p) u (.tup hp (dp_strs xs)) ry
  have hdep : PyData.depthAll (strD xs) ≤ 1 := by
    have go : ∀ l : List Str, PyData.depthAll (strD l) ≤ 1 := fun l => by
      induction l with
      | nil => decide
      | cons a l ih =>
        show max (PyData.depth (.str a)) (PyData.depthAll (strD l)) ≤ 1
        exact Nat.max_le.mpr ⟨by simp [PyData.depth], ih⟩
    exact go xs
  have hun := hr.units
  refine SeqAt.in_tuple_reads r2 r1 hlay (by simp [PyData.canLay0, hz]) (by have := Nat.min_le_left (PyData.depthAll (strD xs)) (PyData.str z).depth; omega) ⟨.bl _, H, I, rfl, ?_⟩
  rw [eqv_strs (K := X.K) (H := H) (v := .str z) (.str z) xs]
  exact q
section
variable {P : Program} {w : World} {K : PySem.W.Frag} {mg : Str → Option Value} {base : Heap}
theorem scRegion : FnScope ["pick", "pointer", "asker"] ["pick", "pointer", "asker"] (defScope sRegion) := ⟨rfl, rfl, rfl, by decide +kernel, rfl, by decide +kernel, by decide +kernel⟩
theorem scMoved : FnScope ["move", "pointer", "granted"] ["move", "pointer", "granted"] (defScope sMoved) := ⟨rfl, rfl, rfl, by decide +kernel, rfl, by decide +kernel, by decide +kernel⟩
theorem ok_moved {f : Addr} {fd : FuncData} (F : Fun K "moved" "moved" sMoved f fd) : FnOk P w K mg base CX0 1 f fd ["move", "pointer", "granted"] spMoved := by
  refine F.ok scMoved (fun vs H Q E h => ?_) (fun cdv A outer s H vs Q E hr h => ?_)
  · obtain ⟨m, p, g, rfl, _⟩ := h
    rfl
  obtain ⟨m, p, g, rfl, q⟩ := h
  refine ⟨_, (pss_cons (ps_if (pt_cmpR op_eq (pv 0) pe_str (nomark _)) (pss_one (ps_ret (pv 2))) pss_nil)
    (pss_cons (ps_if (pt_cmpR op_eq (pv 0) pe_str (nomark _)) (pss_one (ps_ret pe_non)) pss_nil)
    (pss_one (ps_ret (pv 1))))), ?_⟩
  unfold movedP at q
  refine ⟨_, rfl, rfl, _, rfl, ?_⟩
  rw [str_dec]
  refine ite2 (fun c => ⟨_, rfl, ?_⟩) (fun c => ⟨_, rfl, rfl, _, rfl, ?_⟩)
  · rw [if_pos (of_decide_eq_true c)] at q
    exact q
  · have c' : ¬ m = "on" := by simpa using c
    rw [if_neg c'] at q
    rw [str_dec]
    refine ite2 (fun d => ?_) (fun d => ⟨_, rfl, ?_⟩)
    · rw [if_pos (of_decide_eq_true d)] at q
      exact q
    · have d' : ¬ m = "home" := by simpa using d
      rw [if_neg d'] at q
      exact q
theorem atpast_lay : PyData.canLayAll0 (strD ["at", "past"]) = true := by decide +kernel
theorem ok_region {f : Addr} {fd : FuncData} (F : Fun K "in_region" "in_region" sRegion f fd) : FnOk P w K mg base CX0 1 f fd ["pick", "pointer", "asker"] spRegion := by
  refine F.ok scRegion (fun vs H Q E h => ?_) (fun cdv A outer s H vs Q E hr h => ?_)
  · obtain ⟨m, p, g, rfl, _⟩ := h
    rfl
  obtain ⟨pick, p, a, rfl, hpick, q⟩ := h
  refine ⟨_, (pss_cons (ps_if (pt_cmpR op_eq (pv 0) pe_str (nomark _)) (pss_one (ps_ret pe_bl)) pss_nil)
    (pss_cons (ps_if (pt_cmpR op_isN (pv 1) pe_non (nomark _)) (pss_one (ps_ret (pe_cmpR (op_inT hr) (pv 0) (pe_tup (pa_cons pe_str (pa_cons pe_str pa_nil))) (by rfl)))) pss_nil)
    (pss_cons (ps_if (pt_cmpR op_eq (pv 0) pe_str (nomark _)) (pss_one (ps_ret (pe_cmpR op_eq (pv 2) (pv 1) (nomark _)))) pss_nil)
    (pss_cons (ps_if (pt_cmpR op_eq (pv 0) pe_str (nomark _)) (pss_one (ps_ret (pe_cmpR op_ge (pv 2) (pv 1) (nomark _)))) pss_nil)
    (pss_cons (ps_if (pt_cmpR op_eq (pv 0) pe_str (nomark _)) (pss_one (ps_ret (pe_cmpR op_gt (pv 2) (pv 1) (nomark _)))) pss_nil)
    (pss_one (ps_ret (pe_cmpR op_lt (pv 2) (pv 1) (nomark _))))))))), ?_⟩
  unfold inReg at q
  refine ⟨_, rfl, rfl, _, rfl, ?_⟩
  rw [str_dec]
  refine ite2 (fun c => ?_) (fun c => ⟨_, rfl, rfl, _, rfl, ?_⟩)
  · rw [if_pos (of_decide_eq_true c)] at q
    exact q _ (Same.refl _)
  have c' : ¬ pick = "all" := by simpa using c
  rw [if_neg c'] at q
  cases p with
  | none =>
    refine iteT ⟨_, rfl, (by show 2 ≤ sizeLine; decide), fun t nt => ⟨pick, t, ["at", "past"], rfl, rfl, SqT.of upd_same, atpast_lay, picks_top _ hpick, ?_⟩⟩
    have z := q _ (new_same nt (.tup [V.str "at", V.str "past"]))
    have e : pickV ["at", "past"] (.str pick) = (decide (pick = "at") || decide (pick = "past")) := by
      show (["at", "past"] : List Str).any (fun y => y == pick) = _
      have b : ∀ y : Str, (y == pick) = decide (pick = y) := fun y => by
        by_cases h : pick = y
        · rw [decide_eq_true h, h]
          exact beq_self_eq_true y
        · rw [decide_eq_false h]
          exact beq_eq_false_iff_ne.mpr fun k => h k.symm
      simp only [List.any_cons, List.any_nil, b, Bool.or_false]
    rw [← e] at z
    exact z
  | some p =>
    have q := q _ (Same.refl _)
    refine iteF ⟨_, rfl, rfl, _, rfl, ?_⟩
    rw [str_dec]
    refine ite2 (fun c => ⟨_, rfl, _, rfl, rfl, ?_⟩) (fun c => ⟨_, rfl, rfl, _, rfl, ?_⟩)
    · simp only [if_pos (of_decide_eq_true c)] at q
      have e : decide (V.int a = V.int p) = decide (a = p) := by
        by_cases h : a = p
        · rw [decide_eq_true h, h]
          exact decide_eq_true rfl
        · rw [decide_eq_false h]
          exact decide_eq_false fun z => h (V.int.inj z)
      rw [← e] at q
      exact q
    have c1 : ¬ pick = "keep" := by simpa using c
    simp only [if_neg c1] at q
    rw [str_dec]
    refine ite2 (fun c => ⟨_, rfl, _, rfl, _, _, rfl, rfl, ?_⟩) (fun c => ⟨_, rfl, rfl, _, rfl, ?_⟩)
    · simp only [if_pos (of_decide_eq_true c)] at q
      exact q
    have c2 : ¬ pick = "at" := by simpa using c
    simp only [if_neg c2] at q
    rw [str_dec]
    refine ite2 (fun c => ⟨_, rfl, _, rfl, _, _, rfl, rfl, ?_⟩) (fun c => ⟨_, rfl, _, rfl, _, _, rfl, rfl, ?_⟩)
    · simp only [if_pos (of_decide_eq_true c)] at q
      exact q
    have c3 : ¬ pick = "past" := by simpa using c
    simp only [if_neg c3] at q
    exact q
end
end LT
namespace LT
open PySem L2
theorem find_at {p : Int → Bool} : ∀ {l : List Int} {i : Nat} {a : Int}, l[i]? = some a → p a = true → (∀ (j : Nat) (b : Int), j < i → l[j]? = some b → p b = false) → l.find? p = some a
  | [], i, a, h, _, _ => by simp at h
  | c :: l, 0, a, h, hp, _ => by
    have e : c = a := by simpa using h
    rw [List.find?_cons, e, hp]
  | c :: l, i + 1, a, h, hp, no => by
    have n : p c = false := no 0 c (Nat.succ_pos _) rfl
    rw [List.find?_cons, n]
    exact find_at (l := l) (i := i) (by simpa using h) hp fun j b hj hb => no (j + 1) b (Nat.succ_lt_succ hj) (by simpa using hb)
theorem find_no {p : Int → Bool} {l : List Int} (h : ∀ (j : Nat) (b : Int), l[j]? = some b → p b = false) : l.find? p = none := by
  refine List.find?_eq_none.mpr fun x hx => ?_
  obtain ⟨j, hj⟩ := List.getElem?_of_mem hx
  rw [h j x hj]
  exact Bool.false_ne_true
def spGranted (K : PySem.W.Frag) (C : Addr) : Sp := fun vs H Q _ => ∃ (a l : Addr) (r : Row5) (mode : Str) (p : Option Int) (asking : List Int), vs = [.ref a, .str mode, ptrV p, .ref l] ∧ RowAt C H a r ∧ r.p ∈ picks ∧ SqT K H l (asking.map V.int) ∧
  ∀ J, Same H J → Q (ptrV (grantedBy r mode p asking)) J
/-- what is wrong with one round: nobody of those who ask, or more than one -/
def faultP (asks grants : Nat) : V := if 0 < asks ∧ grants = 0 then .str "none" else if 1 < grants then .str "two" else .non
def spFault (K : PySem.W.Frag) : Sp := fun vs H Q _ => ∃ (a g : Addr) (xs ys : List V), vs = [.ref a, .ref g] ∧ SqT K H a xs ∧ SqT K H g ys ∧ Q (faultP xs.length ys.length) H
section
variable {P : Program} {w : World} {K : PySem.W.Frag} {mg : Str → Option Value} {base : Heap}
theorem scGranted : FnScope ["row", "mode", "pointer", "asking", "asker"] ["row", "mode", "pointer", "asking"] (defScope sGranted) := ⟨rfl, rfl, rfl, by decide +kernel, rfl, by decide +kernel, by decide +kernel⟩
theorem scFault : FnScope ["asking", "granted"] ["asking", "granted"] (defScope sFault) := ⟨rfl, rfl, rfl, by decide +kernel, rfl, by decide +kernel, by decide +kernel⟩
theorem get_int {l : List Int} {i : Nat} {v : V} (h : (l.map V.int)[i]? = some v) : ∃ a, l[i]? = some a ∧ v = .int a := by
  rw [List.getElem?_map] at h
  cases e : l[i]? with
  | none =>
    rw [e] at h
    cases h
  | some a =>
    rw [e] at h
    exact ⟨a, rfl, (Option.some.inj h).symm⟩
theorem ok_granted {C f g : Addr} {fd gd : FuncData} (F : Fun K "granted_by" "granted_by" sGranted f fd) (R : RowC K mg C)
    (G : FnOk P w K mg base CX0 1 g gd ["pick", "pointer", "asker"] spRegion) (bG : Binds K gd ["pick", "pointer", "asker"] []) (kG : PySem.W.keepIn K (.ref g) = true) (mG : mg "in_region" = some (.ref g)) :
    FnOk P w K mg base CX0 2 f fd ["row", "mode", "pointer", "asking"] (spGranted K C) := by
  refine F.ok scGranted (fun vs H Q E h => ?_) (fun cdv A outer s H vs Q E hr h => ?_)
  · obtain ⟨a, l, r, mode, p, asking, rfl, _⟩ := h
    rfl
  obtain ⟨a, l, r, mode, p, asking, rfl, ⟨⟨dx, ha⟩, ok⟩, hp, hl, q⟩ := h
  refine ⟨_, (pss_cons (ps_if (pt_cmpR op_ne (pe_fld (pv 0) rfl) (pv 1) (nomark _)) (pss_one (ps_ret pe_non)) pss_nil)
    (pss_cons (ps_for PassesOwn.never rfl (pi_tup (pv 3)) (pg_name (i := 4) scGranted.nd rfl (Or.inl rfl))
    (pss_one (ps_if (pt_val (pe_call G hr (by rfl) mG kG bG .nil pass0 (pa_cons (pe_fld (pv 0) rfl) (pa_cons (pv 2) (pa_cons (pv 4) pa_nil))))) (pss_one (ps_ret (pv 4))) pss_nil)))
    (pss_one (ps_ret pe_non)))), ?_⟩
  have f1 : r.fs.lookup ("mode" : Str) = some (V.str r.m) := by kernel_rfl
  have f2 : r.fs.lookup ("pick" : Str) = some (V.str r.p) := by kernel_rfl
  unfold grantedBy at q
  refine ⟨_, rfl, a, C, dx, _, _, rfl, ha, R.cl, R.n1, f1, _, rfl, rfl, _, rfl, ?_⟩
  rw [str_dec]
  refine ite2 (fun c => ?_) (fun c => ?_)
  · have c' : ¬ r.m = mode := by simpa using c
    rw [if_neg c'] at q
    exact q _ (Same.refl _)
  have c' : r.m = mode := by simpa using c
  rw [if_pos c'] at q
  refine ⟨_, rfl, l, rfl, ⟨_, hl⟩, for_tup (K := K) (a := l) (xs := asking.map V.int) (fun i σ J => ∃ v4, σ = [some (.ref a), some (.str mode), some (ptrV p), some (.ref l), v4] ∧ Same H J ∧ ∀ (j : Nat) (b : Int), j < i → asking[j]? = some b → inReg r.p p b = false)
    ⟨none, rfl, Same.refl _, fun j b hj => absurd hj (Nat.not_lt_zero _)⟩ (fun i σ J _ ⟨_, _, z, _⟩ => SqT.ext hl z) ?_ ?_⟩
  · rintro i x σ J hx ⟨v4, rfl, sJ, no⟩
    obtain ⟨b, hb, rfl⟩ := get_int hx
    refine ⟨_, rfl, a, C, dx, _, _, rfl, sJ _ _ ha, R.cl, R.n2, f2, _, rfl, _, rfl, r.p, p, b, rfl, hp, fun J2 s2 => ?_⟩
    have sJ2 := sJ.trans s2
    cases hi : inReg r.p p b with
    | true =>
      refine ⟨true, rfl, iteT ⟨_, rfl, ?_⟩⟩
      have z := q _ sJ2
      rw [find_at hb hi no] at z
      exact z
    | false =>
      refine ⟨false, rfl, iteF ⟨_, rfl, sJ2, fun j b' hj hb' => ?_⟩⟩
      rcases Nat.lt_succ_iff_lt_or_eq.mp hj with h | h
      · exact no j b' h hb'
      · rw [h, hb] at hb'
        cases hb'
        exact hi
  · rintro σ J ⟨v4, rfl, sJ, no⟩
    have z := q _ sJ
    rw [find_no fun j b hb => no j b (by rw [List.length_map]; exact (List.getElem?_eq_some_iff.mp hb).1) hb] at z
    exact z
theorem ok_fault {f : Addr} {fd : FuncData} (F : Fun K "round_fault" "round_fault" sFault f fd) (T : Blt mg) : FnOk P w K mg base CX0 1 f fd ["asking", "granted"] (spFault K) := by
  refine F.ok scFault (fun vs H Q E h => ?_) (fun cdv A outer s H vs Q E hr h => ?_)
  · obtain ⟨a, g, xs, ys, rfl, _⟩ := h
    rfl
  obtain ⟨a, g, xs, ys, rfl, ha, hg, q⟩ := h
  refine ⟨_, (pss_cons (ps_if (PW.pt (pw_and (pt_truth (pv 0) (fun _ => rfl)) (pw_and1 (pt_not (pt_truth (pv 1) (fun _ => rfl)))))) (pss_one (ps_ret pe_str)) pss_nil)
    (pss_cons (ps_if (pt_cmpR op_gt (pe_callB call_len_seq (by rfl) T.len PySem.boot_len (pa_cons (pv 1) pa_nil)) pe_int (nomark _)) (pss_one (ps_ret pe_str)) pss_nil)
    (pss_one (ps_ret pe_non)))), ?_⟩
  have tail : ¬ (0 < xs.length ∧ ys.length = 0) → (if decide ((1 : Int) < ((ys.length : Nat) : Int)) = true then Q (.str "two") H else Q .non H) := fun no => by
    unfold faultP at q
    rw [if_neg no] at q
    refine ite2 (fun c => ?_) (fun c => ?_)
    · rw [if_pos (by have := of_decide_eq_true c; omega)] at q
      exact q
    · rw [if_neg (by
        have : ¬ ((1 : Int) < ((ys.length : Nat) : Int)) := by simpa using c
        omega)] at q
      exact q
  refine ⟨_, rfl, _, .inr (.inl ⟨xs, ha, rfl⟩), ?_⟩
  refine ite2 (fun c => ⟨_, rfl, _, .inr (.inl ⟨ys, hg, rfl⟩), ?_⟩) (fun c => ⟨_, rfl, g, ys, rfl, .inr hg, _, _, rfl, rfl, _, rfl, tail fun z => c ?_⟩)
  · have hx : 0 < xs.length := by
      cases xs with
      | nil => exact absurd c (by decide)
      | cons _ _ => exact Nat.succ_pos _
    refine ite2 (fun d => ?_) (fun d => ⟨_, rfl, g, ys, rfl, .inr hg, _, _, rfl, rfl, _, rfl, tail fun z => d ?_⟩)
    · have hy : ys.length = 0 := by
        cases ys with
        | nil => rfl
        | cons _ _ => exact absurd d (by simp)
      unfold faultP at q
      rw [if_pos ⟨hx, hy⟩] at q
      exact q
    · have e : ys = [] := List.length_eq_zero_iff.mp z.2
      rw [e]
      rfl
  · cases xs with
    | nil => exact absurd z.1 (by decide)
    | cons _ _ => rfl
end
end LT
namespace LT
open PySem L2
/-! ### one round -/
/-- what row number i does to what is done and granted so far -/
def stepR (mode : Str) (p : Option Int) (asking : List Int) (i : Nat) (r : Row5) (st : Option Nat × List Int) : Option Nat × List Int :=
  if st.1.isSome = true ∧ r.al = false then st else match grantedBy r mode p asking with
    | none => st
    | some a => (match st.1 with | none => some i | some d => some d, st.2 ++ [a])
def scanR (rows : List Row5) (mode : Str) (p : Option Int) (asking : List Int) : Nat → Option Nat × List Int
  | 0 => (none, [])
  | i + 1 => match rows[i]? with
    | none => scanR rows mode p asking i
    | some r => stepR mode p asking i r (scanR rows mode p asking i)
structure ScanOk (n i : Nat) (st : Option Nat × List Int) : Prop where
  len : st.2.length ≤ i
  no : st.1 = none → st.2 = []
  yes : ∀ d, st.1 = some d → d < n ∧ st.2 ≠ []
theorem ScanOk.more {n i : Nat} {st : Option Nat × List Int} (h : ScanOk n i st) : ScanOk n (i + 1) st := ⟨Nat.le_succ_of_le h.len, h.no, h.yes⟩
theorem step_ok {mode : Str} {p : Option Int} {asking : List Int} {n i : Nat} {r : Row5} {st : Option Nat × List Int} (h : ScanOk n i st) (hi : i < n) : ScanOk n (i + 1) (stepR mode p asking i r st) := by
  unfold stepR
  by_cases c : st.1.isSome = true ∧ r.al = false
  · rw [if_pos c]
    exact h.more
  · rw [if_neg c]
    cases g : grantedBy r mode p asking with
    | none => exact h.more
    | some a =>
      obtain ⟨dn, gr⟩ := st
      have hl := h.len
      simp only at hl
      cases dn with
      | none => exact ⟨by simp only [List.length_append, List.length_singleton]; omega, fun z => (nomatch z), fun d z => ⟨by cases z; exact hi, by simp⟩⟩
      | some d0 => exact ⟨by simp only [List.length_append, List.length_singleton]; omega, fun z => (nomatch z), fun d z => ⟨by cases z; exact (h.yes d0 rfl).1, by simp⟩⟩
theorem scan_ok (rows : List Row5) (mode : Str) (p : Option Int) (asking : List Int) : ∀ i, ScanOk rows.length i (scanR rows mode p asking i)
  | 0 => ⟨Nat.le_refl _, fun _ => rfl, fun d h => (nomatch h)⟩
  | i + 1 => by
    have h := scan_ok rows mode p asking i
    cases e : rows[i]? with
    | none =>
      have z : scanR rows mode p asking (i + 1) = scanR rows mode p asking i := by
        show (match rows[i]? with | none => _ | some r => _) = _
        rw [e]
      rw [z]
      exact h.more
    | some r =>
      have z : scanR rows mode p asking (i + 1) = stepR mode p asking i r (scanR rows mode p asking i) := by
        show (match rows[i]? with | none => _ | some r => _) = _
        rw [e]
      rw [z]
      exact step_ok h (List.getElem?_eq_some_iff.mp e).1
/-- what is done in a round, and what stands behind it -/
def endDone (rows : List Row5) (mode : Str) (p : Option Int) (asking : List Int) : Option Nat := (scanR rows mode p asking rows.length).1
def endGrants (rows : List Row5) (mode : Str) (p : Option Int) (asking : List Int) : List Int := (scanR rows mode p asking rows.length).2
def endMode (rows : List Row5) (mode : Str) (p : Option Int) (asking : List Int) : Str := match endDone rows mode p asking with
  | none => mode
  | some d => (rows[d]?.map (·.t)).getD mode
def endPtr (rows : List Row5) (mode : Str) (p : Option Int) (asking : List Int) : Option Int := match endDone rows mode p asking with
  | none => p
  | some d => match rows[d]?, (endGrants rows mode p asking)[0]? with
    | some r, some g => movedP r.mv p g
    | _, _ => p
def doneV : Option Nat → V
  | none => .non
  | some d => .int (d : Nat)
theorem seq_c {c : Prop} {tt : TT} {a1 a2 b : TS} {D : Ends} {σ : L2.St} {H : Hp} (m : (c → b D σ H) → tSeq (tIfS tt a1 a2) b D σ H) (r : c → b D σ H) : tSeq (tIfS tt a1 a2) b D σ H := m r
theorem step_some {mode : Str} {p : Option Int} {asking : List Int} {i : Nat} {r : Row5} {dn : Option Nat} {gr : List Int} {g0 : Int} (nc : ¬ (dn.isSome = true ∧ r.al = false)) (h : grantedBy r mode p asking = some g0) :
    stepR mode p asking i r (dn, gr) = (match dn with | none => some i | some d => some d, gr ++ [g0]) := by
  unfold stepR
  rw [if_neg nc, h]
  cases dn <;> rfl
structure Blt4 (mg : Str → Option Value) : Prop where
  enumerate : mg "enumerate" = none
  sorted : mg "sorted" = none
  set : mg "set" = none
/-- what the written part says of the class Rule -/
structure RuleC (K : PySem.W.Frag) (CR : Addr) : Prop where
  cl : Cls K CR
  nr : NoAttr K CR "rows"
/-- a rule's rows -/
structure RowsAt (K : PySem.W.Frag) (C CR : Addr) (H : Hp) (a : Addr) (rows : List Row5) : Prop where
  ex : ∃ (dx tp : Addr) (fs : List (Str × V)) (xs : List V), H a = some (.ins CR dx fs) ∧ fs.lookup ("rows" : Str) = some (V.ref tp) ∧ SqT K H tp xs ∧ xs.length = rows.length ∧ ∀ (i : Nat) (x : V), xs[i]? = some x → ∃ (b : Addr) (r : Row5), x = .ref b ∧ rows[i]? = some r ∧ RowAt C H b r ∧ r.p ∈ picks
def spPlayRound (K : PySem.W.Frag) (C CR : Addr) : Sp := fun vs H Q _ => ∃ (a l : Addr) (mode : Str) (p : Option Int) (rows : List Row5) (asking : List Int), vs = [.ref a, .str mode, ptrV p, .ref l] ∧ RowsAt K C CR H a rows ∧ rows.length < 60 ∧ SqT K H l (asking.map V.int) ∧
  ∀ (q g : Addr) (out : List Int) (J : Hp), Same H J → H q = none → H g = none → J q = some (.tup [.ref g, doneV (endDone rows mode p asking), .str (endMode rows mode p asking), ptrV (endPtr rows mode p asking)]) → J g = some (.tup (out.map V.int)) →
    out.Pairwise (· < ·) → (∀ k, k ∈ out ↔ k ∈ endGrants rows mode p asking) → Q (.ref q) J
abbrev nPlayRound : List Str := ["rule", "mode", "pointer", "asking", "done", "granted", "at", "row", "asker"]
section
variable {P : Program} {w : World} {K : PySem.W.Frag} {mg : Str → Option Value} {base : Heap}
theorem scPlayRound : FnScope nPlayRound ["rule", "mode", "pointer", "asking"] (defScope sPlayRound) := ⟨rfl, rfl, rfl, by decide +kernel, rfl, by decide +kernel, by decide +kernel⟩
theorem ok_playround {C CR f g h : Addr} {fd gd hd : FuncData} (F : Fun K "play_round" "play_round" sPlayRound f fd) (T : Blt mg) (Z : Blt4 mg) (R : RowC K mg C) (RC : RuleC K CR)
    (G : FnOk P w K mg base CX0 2 g gd ["row", "mode", "pointer", "asking"] (spGranted K C)) (bG : Binds K gd ["row", "mode", "pointer", "asking"] []) (kG : PySem.W.keepIn K (.ref g) = true) (mG : mg "granted_by" = some (.ref g))
    (Gm : FnOk P w K mg base CX0 1 h hd ["move", "pointer", "granted"] spMoved) (bM : Binds K hd ["move", "pointer", "granted"] []) (kM : PySem.W.keepIn K (.ref h) = true) (mM : mg "moved" = some (.ref h)) :
    FnOk P w K mg base CX0 3 f fd ["rule", "mode", "pointer", "asking"] (spPlayRound K C CR) := by
  refine F.ok scPlayRound (fun vs H Q E h => ?_) (fun cdv A outer s H vs Q E hr h => ?_)
  · obtain ⟨a, l, mode, p, rows, asking, rfl, _⟩ := h
    rfl
  obtain ⟨a, l, mode, p, rows, asking, rfl, ⟨dx, tp, fs, xs, ha, hrows, htp, hlen, hx⟩, h60, hl, q⟩ := h
  have hr2 : Room 2 _ := hr
  have hr1 : Room 1 _ := hr.mono (by decide)
  refine ⟨_, (pss_cons (ps_set (i := 4) scPlayRound.nd rfl (Or.inl rfl) pe_non)
    (pss_cons (ps_set (i := 5) scPlayRound.nd rfl (Or.inl rfl) (pe_lst pa_nil))
    (pss_cons (ps_for PassesOwn.never rfl (L2.pi_enumT (by rfl) Z.enumerate (pa_cons (pe_fld (pv 0) rfl) pa_nil)) (pg_tup rfl (pgs_cons (pg_name (i := 6) scPlayRound.nd rfl (Or.inl rfl)) (pgs_cons (pg_name (i := 7) scPlayRound.nd rfl (Or.inl rfl)) pgs_nil)))
    (pss_cons (ps_if (PW.pt (pw_and (pt_cmpR op_notN (pv 4) pe_non (nomark _)) (pw_and1 (pt_not (pt_val (pe_fld (pv 7) rfl)))))) (pss_one ps_continue) pss_nil)
      (pss_cons (ps_set (i := 8) scPlayRound.nd rfl (Or.inl rfl) (pe_call G hr2 (by rfl) mG kG bG .nil pass0 (pa_cons (pv 7) (pa_cons (pv 1) (pa_cons (pv 2) (pa_cons (pv 3) pa_nil))))))
      (pss_cons (ps_if (pt_cmpR op_isN (pv 8) pe_non (nomark _)) (pss_one ps_continue) pss_nil)
      (pss_cons (ps_if (pt_cmpR op_isN (pv 4) pe_non (nomark _)) (pss_one (ps_set (i := 4) scPlayRound.nd rfl (Or.inl rfl) (pv 6))) pss_nil)
      (pss_one (ps_expr (pe_bm PySem.F.plainAttrs_list PySem.F.slot_list_append PySem.F.type_list_append mt_append (pv 5) (pa_cons (pv 8) pa_nil)))))))))
    (pss_cons (ps_if (pt_cmpR op_isN (pv 4) pe_non (nomark _)) (pss_one (ps_ret (pe_tup (pa_cons (pe_tup pa_nil) (pa_cons pe_non (pa_cons (pv 1) (pa_cons (pv 2) pa_nil))))))) pss_nil)
    (pss_cons (ps_set (i := 7) scPlayRound.nd rfl (Or.inl rfl) (pe_ix ix_tup (pe_fld (pv 0) rfl) (pv 4) (fun _ _ => rfl)))
    (pss_one (ps_ret (pe_tup (pa_cons (pe_callTy call_tuple_of (by rfl) T.tuple (by decide +kernel) (pa_cons (pe_callB (cr_sortedSet rfl) (by rfl) Z.sorted (by decide +kernel) (pa_cons (pe_callTy (cr_setI rfl) (by rfl) Z.set (by decide +kernel) (pa_cons (pv 5) pa_nil)) pa_nil)) pa_nil)) (pa_cons (pv 4) (pa_cons (pe_fld (pv 7) rfl) (pa_cons (pe_call Gm hr1 (by rfl) mM kM bM .nil pass0 (pa_cons (pe_fld (pv 7) rfl) (pa_cons (pv 2) (pa_cons (pe_ix ix_list (pv 5) pe_int (fun _ _ => rfl)) pa_nil)))) pa_nil)))))))))))), ?_⟩
  refine ⟨(by show 0 ≤ sizeLine; decide), fun gl ngl => ?_⟩
  have hg0 : upd H gl (.lst []) gl = some (.lst []) := upd_same
  have s0 := new_same ngl (.lst [])
  generalize upd H gl (.lst []) = H0 at hg0 s0 ⊢
  refine ⟨_, rfl, a, CR, dx, fs, _, rfl, s0 _ _ ha, RC.cl, RC.nr, hrows, tp, xs, rfl, SqT.ext htp s0, for_it (walk_enumT (K := K) (a := tp) (xs := xs)) (fun i σ J => ∃ v6 v7 v8, σ = [some (.ref a), some (.str mode), some (ptrV p), some (.ref l), some (doneV (scanR rows mode p asking i).1), some (.ref gl), v6, v7, v8] ∧ Same H J ∧ J gl = some (.lst ((scanR rows mode p asking i).2.map V.int)))
    ⟨none, none, none, rfl, s0, hg0⟩ (fun i σ J _ ⟨_, _, _, _, z, _⟩ => SqT.ext htp z) ?_ ?_⟩
  · rintro i x σ J J' hi ⟨v6, v7, v8, rfl, sJ, hgl⟩ ⟨W, x1, e, rfl, nW, rfl, ex1, ee⟩
    cases ex1
    obtain ⟨b, r, rfl, er, ⟨⟨dy, hb⟩, okr⟩, hp⟩ := hx i e ee
    have sW := new_same nW (.tup [V.int (i : Nat), .ref b])
    refine ⟨W, _, rfl, SqT.of upd_same, rfl, _, _, rfl, _, _, rfl, rfl, ?_⟩
    have hgl1 := sW _ _ hgl
    have s1 := sJ.trans sW
    clear hgl sJ
    generalize upd J W _ = J1 at s1 hgl1 ⊢
    have es : scanR rows mode p asking (i + 1) = stepR mode p asking i r (scanR rows mode p asking i) := by
      show (match rows[i]? with | none => _ | some r => _) = _
      rw [er]
    generalize hst : scanR rows mode p asking i = st at es hgl1 ⊢
    obtain ⟨dn, gr⟩ := st
    have f5 : r.fs.lookup ("also" : Str) = some (V.bl r.al) := by kernel_rfl
    have hb1 := s1 _ _ hb
    refine seq_c (c := ¬ (dn.isSome = true ∧ r.al = false)) (fun k => ?_) (fun nc => ?_)
    · refine ⟨_, rfl, rfl, _, rfl, ?_⟩
      cases dn with
      | none => exact iteF (k fun z => nomatch z.1)
      | some d =>
        refine iteT ⟨_, rfl, b, C, dy, _, _, rfl, hb1, R.cl, R.n5, f5, r.al, rfl, ?_⟩
        cases hal : r.al with
        | true => exact iteF (k fun z => by rw [hal] at z; cases z.2)
        | false =>
          refine iteT ⟨some (.int (i : Nat)), some (.ref b), v8, ?_, s1, ?_⟩
          · rw [es]
            unfold stepR
            rw [if_pos ⟨rfl, hal⟩]
            rfl
          · rw [es]
            unfold stepR
            rw [if_pos ⟨rfl, hal⟩]
            exact hgl1
    refine ⟨_, rfl, _, rfl, _, rfl, _, rfl, b, l, r, mode, p, asking, rfl, ⟨⟨dy, hb1⟩, okr⟩, hp, SqT.ext hl s1, fun J2 s2 => ?_⟩
    have s3 := s1.trans s2
    have hgl2 := s2 _ _ hgl1
    clear s1 s2 hgl1 hb1
    refine ⟨_, rfl, rfl, _, rfl, ?_⟩
    cases hgb : grantedBy r mode p asking with
    | none =>
      refine iteT ⟨some (.int (i : Nat)), some (.ref b), some .non, ?_, s3, ?_⟩
      · rw [es]
        unfold stepR
        rw [if_neg nc, hgb]
        rfl
      · rw [es]
        unfold stepR
        rw [if_neg nc, hgb]
        exact hgl2
    | some g0 =>
      have e2 := step_some (i := i) (gr := gr) nc hgb
      have sk := scan_ok rows mode p asking i
      rw [hst] at sk
      have hgr : gr.length ≤ i := sk.len
      have fit : (gr.map V.int).length < sizeLine := by
        rw [List.length_map]
        exact small1000 (by have := hlen; omega)
      have sN : Same H (upd J2 gl (.lst (gr.map V.int ++ [V.int g0]))) := fun c o z => by
        rw [upd_ne (ne_of_none z ngl)]
        exact s3 c o z
      have hN : upd J2 gl (.lst (gr.map V.int ++ [V.int g0])) gl = some (.lst ((gr ++ [g0]).map V.int)) := by
        rw [upd_same, List.map_append, List.map_singleton]
      refine iteF ⟨_, rfl, rfl, _, rfl, ?_⟩
      cases dn with
      | none =>
        refine iteT ⟨_, rfl, ?_⟩
        refine ⟨_, rfl, .inl ⟨rfl, _, SqL.of hgl2⟩, _, rfl, gl, _, _, rfl, rfl, hgl2, fit, ?_⟩
        refine ⟨some (.int (i : Nat)), some (.ref b), some (.int g0), ?_, sN, ?_⟩
        · rw [es, e2]
          rfl
        · rw [es, e2]
          exact hN
      | some d =>
        refine iteF ⟨_, rfl, .inl ⟨rfl, _, SqL.of hgl2⟩, _, rfl, gl, _, _, rfl, rfl, hgl2, fit, ?_⟩
        refine ⟨some (.int (i : Nat)), some (.ref b), some (.int g0), ?_, sN, ?_⟩
        · rw [es, e2]
          rfl
        · rw [es, e2]
          exact hN
  · rintro σ J ⟨v6, v7, v8, rfl, sJ, hgl⟩
    rw [hlen] at hgl ⊢
    have sk := scan_ok rows mode p asking rows.length
    have d0 : endDone rows mode p asking = (scanR rows mode p asking rows.length).1 := rfl
    have g0' : endGrants rows mode p asking = (scanR rows mode p asking rows.length).2 := rfl
    have m0 : endMode rows mode p asking = match endDone rows mode p asking with | none => mode | some d => (rows[d]?.map (·.t)).getD mode := rfl
    have p0 : endPtr rows mode p asking = match endDone rows mode p asking with | none => p | some d => match rows[d]?, (endGrants rows mode p asking)[0]? with | some r, some g => movedP r.mv p g | _, _ => p := rfl
    generalize hst : scanR rows mode p asking rows.length = st at hgl sk d0 g0' ⊢
    obtain ⟨dn, gr⟩ := st
    refine ⟨_, rfl, rfl, _, rfl, ?_⟩
    cases dn with
    | none =>
      have eg : gr = [] := sk.no rfl
      rw [d0] at m0 p0
      refine iteT ⟨(by show 0 ≤ sizeLine; decide), fun e ne => ⟨_, rfl, _, rfl, (by show 4 ≤ sizeLine; decide), fun z nz => ?_⟩⟩
      have s4 := sJ.trans (new_same ne (.tup []))
      refine q z e [] _ (s4.trans (new_same nz _)) (s4.free nz) (sJ.free ne) ?_ (new_same nz _ _ _ upd_same) .nil fun k => ?_
      · rw [d0, m0, p0]
        exact upd_same
      · rw [g0', eg]
    | some d =>
      obtain ⟨hd, hne⟩ := sk.yes d rfl
      have hdx : d < xs.length := by omega
      obtain ⟨b, r, ex, er, ⟨⟨dy, hb⟩, okr⟩, hp⟩ := hx d xs[d] (List.getElem?_eq_getElem hdx)
      have ex' : xs[d]? = some (.ref b) := by
        rw [List.getElem?_eq_getElem hdx, ex]
      have f3 : r.fs.lookup ("move" : Str) = some (V.str r.mv) := by kernel_rfl
      have f4 : r.fs.lookup ("then" : Str) = some (V.str r.t) := by kernel_rfl
      obtain ⟨g1, gs, rfl⟩ : ∃ g1 gs, gr = g1 :: gs := by
        cases gr with
        | nil => exact absurd rfl hne
        | cons g1 gs => exact ⟨g1, gs, rfl⟩
      have hgl3 : (g1 :: gs).length ≤ rows.length := sk.len
      have e3 : endMode rows mode p asking = r.t := by
        rw [m0, d0]
        show (rows[d]?.map (·.t)).getD mode = r.t
        rw [er]
        rfl
      have e4 : endPtr rows mode p asking = movedP r.mv p g1 := by
        rw [p0, d0, g0']
        show (match rows[d]?, (g1 :: gs)[0]? with | some r, some g => movedP r.mv p g | _, _ => p) = _
        rw [er]
        rfl
      refine iteF ⟨_, rfl, a, CR, dx, fs, _, rfl, sJ _ _ ha, RC.cl, RC.nr, hrows, _, rfl, tp, xs, (d : Nat), .ref b, rfl, rfl, SqT.ext htp sJ, atI_nat ex', ?_⟩
      refine ⟨_, rfl, gl, g1 :: gs, rfl, .inl (SqL.of hgl), (by omega), fun sq n ks nsq hn k1 k2 k3 => ?_⟩
      have sS := new_same nsq (SetO w sq (fun j => decide (j ∈ g1 :: gs)) n)
      refine ⟨sq, _, n, rfl, upd_same, (by omega), fun out op pw mem ln nop => ?_⟩
      have sO := sS.trans (new_same nop (.lst (out.map V.int)))
      refine ⟨op, out.map V.int, rfl, .inl ⟨SqL.of upd_same, fun tq ntq => ?_⟩⟩
      have sT := sO.trans (new_same ntq (.tup (out.map V.int)))
      have hT : (upd (upd (upd J sq (SetO w sq (fun j => decide (j ∈ g1 :: gs)) n)) op (.lst (out.map V.int))) tq (.tup (out.map V.int))) tq = some (.tup (out.map V.int)) := upd_same
      have ntJ : J tq = none := sO.free ntq
      clear nsq nop ntq sS sO
      have sL := sJ.trans sT
      refine ⟨_, rfl, _, rfl, b, C, dy, _, _, rfl, sL _ _ hb, R.cl, R.n4, f4, _, rfl, b, C, dy, _, _, rfl, sL _ _ hb, R.cl, R.n3, f3, _, rfl, _, rfl, gl, _, 0, .int g1, rfl, rfl, SqL.of (sT _ _ hgl), (show atI (((g1 :: gs).map V.int)) (((0 : Nat)) : Int) = some (.int g1) from atI_nat rfl), r.mv, p, g1, rfl, (by show 4 ≤ sizeLine; decide), fun z nz => ?_⟩
      refine q z tq out _ (sL.trans (new_same nz _)) (sL.free nz) (sJ.free ntJ) ?_ (new_same nz _ _ _ hT) pw fun k => ?_
      · rw [d0, e3, e4]
        exact upd_same
      · rw [mem k, g0', decide_eq_true_eq]
end
end LT
namespace L2
open PySem PySem.Spec PyProof.Rows
section
variable {X : Cx} {tg : Expr}
/-- a walk over what is a list or a tuple -/
def iSeq (K : PySem.W.Frag) (tl : TE) : TI := fun σ H R => tl σ H fun x H1 => ∃ a, x = .ref a ∧ (((∃ xs, SqL K H1 a xs) ∧ R (Itl K a) H1) ∨ ((∃ xs, SqT K H1 a xs) ∧ R (Itt K a) H1))
theorem pi_seq {l : Expr} {tl : TE} (hl : PE X l tl) : PI X tg l (iSeq X.K tl) := by
  refine ⟨fun pins s σ H R I h => thn (hl.run pins s σ H _ I h) fun v s1 hh => ?_⟩
  obtain ⟨x, H1, I1, r1, a, rfl, q⟩ := hh
  obtain rfl : v = Value.ref a := r1
  have newIt : ∀ b, b ∈ [s1.heap.objs.size] → FpOk X pins H1 b := fun b hb => by
    rw [List.mem_singleton.mp hb]
    exact I1.fpOk (Nat.le_refl _) (I1.hok.fresh (Nat.le_refl _))
  have more : ∀ o : Obj, Inv X pins σ H1 { s1 with heap := s1.heap.push o } := fun o => I1.kept (t' := s1.toks) fun b u e => Heap.get?_push_of_some _ e
  rcases q with ⟨⟨xs, hq⟩, q⟩ | ⟨⟨xs, hq⟩, q⟩
  · obtain ⟨its, rv, p, hz⟩ := I1.list hq
    exact wpAny_pyIter_list p.isList ⟨_, _, _, _, H1, rfl, more _, turn_list a _, ⟨_, Heap.get?_push_size _ rfl, rfl, rfl⟩, newIt, q⟩
  · obtain ⟨its, rv, p, hz⟩ := I1.tuple hq
    exact wpAny_pyIter_tuple (show s1.heap.IsTuple a its.toArray from p) ⟨_, _, _, _, H1, rfl, more _, turn_tuple a _, ⟨_, Heap.get?_push_size _ rfl, rfl, rfl⟩, newIt, q⟩
end
end L2
namespace LT
open PySem L2
structure Blt5 (mg : Str → Option Value) : Prop where
  int : mg "int" = none
  bool : mg "bool" = none
  list : mg "list" = none
  tuple : mg "tuple" = none
def spWhole (K : PySem.W.Frag) : Sp := fun vs H Q _ => ∃ (x : V) (t : Value) (b c : Bool), vs = [x] ∧ TyX K H x t ∧ PySem.W.kitOne K t (.type "int") = some b ∧ PySem.W.kitOne K t (.type "bool") = some c ∧ Q (.bl (b && !c)) H
def spSeq (K : PySem.W.Frag) : Sp := fun vs H Q _ => ∃ (x : V) (t : Value) (b : Bool), vs = [x] ∧ (∀ J, Same H J → TyX K J x t) ∧ PySem.W.kitAny K t [.type "list", .type "tuple"] = some b ∧ ∀ J, Same H J → Q (.bl b) J
/-- a round of ints is good -/
def goodRound (askers : Int) (ns : List Int) : Bool := (ns.all fun n => decide (0 ≤ n) && decide (n < askers)) && decide ns.Nodup
def spBelow (K : PySem.W.Frag) : Sp := fun vs H Q _ => ∃ (x : V) (t : Value) (b c : Bool) (n : Int), vs = [x, .int n] ∧ (∀ J, Same H J → TyX K J x t) ∧ PySem.W.kitOne K t (.type "int") = some b ∧ PySem.W.kitOne K t (.type "bool") = some c ∧
  (∀ J, Same H J → ((b && !c) = false → Q (.bl false) J) ∧ ((b && !c) = true → ∃ k : Int, x = .int k ∧ Q (.bl (decide (0 ≤ k) && decide (k < n))) J))
def spIsRound (K : PySem.W.Frag) : Sp := fun vs H Q _ => ∃ (a : Addr) (ns : List Int) (askers : Int), vs = [.ref a, .int askers] ∧ (SqL K H a (ns.map V.int) ∨ SqT K H a (ns.map V.int)) ∧ ns.length ≤ 1000 ∧ ∀ J, Same H J → Q (.bl (goodRound askers ns)) J
theorem nodup_len : ∀ {ns ks : List Int}, ks.Nodup → (∀ k, k ∈ ks ↔ k ∈ ns) → ks.length ≤ ns.length ∧ ((ks.length = ns.length) ↔ ns.Nodup)
  | [], ks, _, m => by
    have e : ks = [] := List.eq_nil_iff_forall_not_mem.mpr fun k hk => nomatch (m k).mp hk
    subst e
    exact ⟨Nat.le_refl _, fun _ => .nil, fun _ => rfl⟩
  | a :: t, ks, h, m => by
    by_cases c : a ∈ t
    · obtain ⟨l, _⟩ := nodup_len (ns := t) (ks := ks) h fun k => by
        rw [m k, List.mem_cons]
        exact ⟨fun z => z.elim (fun e => e ▸ c) id, .inr⟩
      refine ⟨by rw [List.length_cons]; omega, fun e => ?_, fun n => absurd c (List.nodup_cons.mp n).1⟩
      rw [List.length_cons] at e
      omega
    · have ha : a ∈ ks := (m a).mpr List.mem_cons_self
      obtain ⟨l, i⟩ := nodup_len (ns := t) (ks := ks.erase a) (h.erase a) fun k => by
        rw [h.mem_erase_iff, m k, List.mem_cons]
        refine ⟨fun z => z.2.elim (fun e => absurd e z.1) id, fun z => ⟨fun e => c (e ▸ z), .inr z⟩⟩
      have len : ks.length = (ks.erase a).length + 1 := by
        rw [List.length_erase_of_mem ha]
        have : 0 < ks.length := List.length_pos_of_mem ha
        omega
      refine ⟨by rw [len, List.length_cons]; omega, ?_⟩
      rw [len, List.length_cons, List.nodup_cons]
      exact ⟨fun e => ⟨c, i.mp (by omega)⟩, fun n => by rw [i.mpr n.2]⟩
section
variable {P : Program} {w : World} {K : PySem.W.Frag} {mg : Str → Option Value} {base : Heap}
theorem scWhole : FnScope ["value"] ["value"] (defScope sIsWhole) := ⟨rfl, rfl, rfl, by decide +kernel, rfl, by decide +kernel, by decide +kernel⟩
theorem scSeq : FnScope ["value"] ["value"] (defScope sIsSeq) := ⟨rfl, rfl, rfl, by decide +kernel, rfl, by decide +kernel, by decide +kernel⟩
theorem scBelow : FnScope ["value", "bound"] ["value", "bound"] (defScope sIsBelow) := ⟨rfl, rfl, rfl, by decide +kernel, rfl, by decide +kernel, by decide +kernel⟩
abbrev nIsRound : List Str := ["value", "askers", "asker"]
theorem scIsRound : FnScope nIsRound ["value", "askers"] (defScope sIsRound) := ⟨rfl, rfl, rfl, by decide +kernel, rfl, by decide +kernel, by decide +kernel⟩
theorem ok_whole {f : Addr} {fd : FuncData} (F : Fun K "is_whole" "is_whole" sIsWhole f fd) (U : Blt2 mg) (Y : Blt5 mg) : FnOk P w K mg base CX0 1 f fd ["value"] (spWhole K) := by
  refine F.ok scWhole (fun vs H Q E h => ?_) (fun cdv A outer s H vs Q E hr h => ?_)
  · obtain ⟨x, t, b, c, rfl, _⟩ := h
    rfl
  obtain ⟨x, t, b, c, rfl, ty, k1, k2, q⟩ := h
  refine ⟨_, (pss_one (ps_ret (pe_and (pe_callB call_isi (by rfl) U.isin boot_isin (pa_cons (pv 0) (pa_cons (pe_bltn (v := .ty "int") (by rfl) Y.int (by decide +kernel) rfl) pa_nil))) (pe_one (pe_not (pe_callB call_isi (by rfl) U.isin boot_isin (pa_cons (pv 0) (pa_cons (pe_bltn (v := .ty "bool") (by rfl) Y.bool (by decide +kernel) rfl) pa_nil)))))))), ?_⟩
  refine ⟨_, rfl, x, _, t, _, b, rfl, .ty "int", ty, k1, b, rfl, ?_⟩
  cases b with
  | false => exact iteF q
  | true => exact iteT ⟨_, rfl, x, _, t, _, c, rfl, .ty "bool", ty, k2, c, rfl, q⟩
theorem ok_seq {f : Addr} {fd : FuncData} (F : Fun K "is_sequence" "is_sequence" sIsSeq f fd) (U : Blt2 mg) (Y : Blt5 mg) : FnOk P w K mg base CX0 1 f fd ["value"] (spSeq K) := by
  refine F.ok scSeq (fun vs H Q E h => ?_) (fun cdv A outer s H vs Q E hr h => ?_)
  · obtain ⟨x, t, b, rfl, _⟩ := h
    rfl
  obtain ⟨x, t, b, rfl, ty, k1, q⟩ := h
  refine ⟨_, (pss_one (ps_ret (pe_callB call_isiT (by rfl) U.isin boot_isin (pa_cons (pv 0) (pa_cons (pe_tup (pa_cons (pe_bltn (v := .ty "list") (by rfl) Y.list (by decide +kernel) rfl) (pa_cons (pe_bltn (v := .ty "tuple") (by rfl) Y.tuple (by decide +kernel) rfl) pa_nil))) pa_nil))))), ?_⟩
  refine ⟨_, rfl, (by show 2 ≤ sizeLine; decide), fun p np => ?_⟩
  have sp := new_same np (.tup [V.ty "list", .ty "tuple"])
  exact ⟨x, p, _, t, _, b, rfl, upd_same, .cons (.ty "list") (.cons (.ty "tuple") .nil), ty _ sp, k1, q _ sp⟩
theorem len_iff {ks ns : List Int} (h : ks.Nodup) (m : ∀ k, k ∈ ks ↔ k ∈ ns) : decide (V.int (ks.length : Nat) = V.int (ns.length : Nat)) = decide ns.Nodup := by
  have e := (nodup_len h m).2
  by_cases c : ns.Nodup
  · rw [decide_eq_true c, e.mpr c]
    exact decide_eq_true rfl
  · rw [decide_eq_false c]
    refine decide_eq_false fun z => c (e.mp ?_)
    have := V.int.inj z
    omega
theorem kit_int_int {K : PySem.W.Frag} : PySem.W.kitOne K (.type "int") (.type "int") = some true := kit_ty (by decide +kernel)
theorem kit_list_seq {K : PySem.W.Frag} : PySem.W.kitAny K (.type "list") [.type "list", .type "tuple"] = some true :=
  kitAny_cons (b := true) (kit_ty (by decide +kernel)) (fun z => nomatch z) fun _ => rfl
theorem kit_tuple_seq {K : PySem.W.Frag} : PySem.W.kitAny K (.type "tuple") [.type "list", .type "tuple"] = some true :=
  kitAny_cons (b := false) (kit_ty (by decide +kernel)) (fun _ => kitAny_cons (b := true) (kit_ty (by decide +kernel)) (fun z => nomatch z) fun _ => rfl) fun z => nomatch z
theorem ok_below {f h : Addr} {fd hd : FuncData} (F : Fun K "is_below" "is_below" sIsBelow f fd)
    (Gw : FnOk P w K mg base CX0 1 h hd ["value"] (spWhole K)) (bW : Binds K hd ["value"] []) (kW : PySem.W.keepIn K (.ref h) = true) (mW : mg "is_whole" = some (.ref h)) : FnOk P w K mg base CX0 2 f fd ["value", "bound"] (spBelow K) := by
  refine F.ok scBelow (fun vs H Q E h => ?_) (fun cdv A outer s H vs Q E hr h => ?_)
  · obtain ⟨x, t, b, c, n, rfl, _⟩ := h
    rfl
  obtain ⟨x, t, b, c, n, rfl, ty, k1, k2, q⟩ := h
  refine ⟨_, pss_one (ps_ret (pe_and (pe_call Gw hr (by rfl) mW kW bW .nil pass0 (pa_cons (pv 0) pa_nil)) (pe_one (pe_chain op_le op_lt pe_int (pv 0) (pv 1))))), ?_⟩
  refine ⟨_, rfl, x, t, b, c, rfl, ty _ (Same.refl _), k1, k2, ?_⟩
  have z := q _ (Same.refl _)
  cases e : (b && !c) with
  | false => exact ⟨false, rfl, iteF (z.1 e)⟩
  | true =>
    obtain ⟨k, rfl, z2⟩ := z.2 e
    refine ⟨true, rfl, iteT ⟨_, rfl, _, _, rfl, rfl, _, rfl, ?_⟩⟩
    cases c1 : decide (0 ≤ k) with
    | false =>
      rw [c1, Bool.false_and] at z2
      exact iteF z2
    | true =>
      rw [c1, Bool.true_and] at z2
      exact iteT ⟨_, rfl, _, _, rfl, rfl, z2⟩
theorem ok_isround {f g h : Addr} {fd gd hd : FuncData} (F : Fun K "is_round" "is_round" sIsRound f fd) (Z : Blt4 mg) (T : Blt mg) (zAll : mg "all" = none)
    (Gs : FnOk P w K mg base CX0 1 g gd ["value"] (spSeq K)) (bS : Binds K gd ["value"] []) (kS : PySem.W.keepIn K (.ref g) = true) (mS : mg "is_sequence" = some (.ref g))
    (Gb : FnOk P w K mg base CX0 2 h hd ["value", "bound"] (spBelow K)) (bB : Binds K hd ["value", "bound"] []) (kB : PySem.W.keepIn K (.ref h) = true) (mB : mg "is_below" = some (.ref h)) :
    FnOk P w K mg base CX0 3 f fd ["value", "askers"] (spIsRound K) := by
  refine F.ok scIsRound (fun vs H Q E h => ?_) (fun cdv A outer s H vs Q E hr h => ?_)
  · obtain ⟨a, ns, n, rfl, _⟩ := h
    rfl
  obtain ⟨a, ns, n, rfl, ha, hz, q⟩ := h
  have hr2 : Room 2 _ := hr
  have hr1 : Room 1 _ := hr2.mono (by decide)
  refine ⟨_, (pss_cons (ps_if (PW.pt (pw_or (pt_not (pt_val (pe_call Gs hr1 (by rfl) mS kS bS .nil pass0 (pa_cons (pv 0) pa_nil)))) (pw_or1 (pt_not (pt_val (pe_callB (cr_all rfl) (by rfl) zAll (by decide +kernel)
        (pa_cons (pe_lc (own := [("asker", 2)]) (g := gName 2) (tt := tYes) (by rfl) scIsRound.nd (L2.pi_seq (pv 0)) (blkOk_by (N := nIsRound) (sc := defScope sIsRound) (own := [("asker", 2)]) (by decide +kernel)) (fun _ _ _ _ _ => pg_name (i := 2) scIsRound.nd rfl (Or.inl rfl)) (fun _ _ _ _ _ => pts_nil)
          (fun _ _ _ _ _ => pe_call Gb hr2 (by rfl) mB kB bB .nil pass0 (pa_cons (pv 2) (pa_cons (pv 1) pa_nil)))) pa_nil)))))))
      (pss_one (ps_ret pe_bl)) pss_nil)
    (pss_one (ps_ret (pe_cmpR op_eq (pe_callB L2.cr_lenSet (by rfl) T.len PySem.boot_len (pa_cons (pe_callTy (cr_setI rfl) (by rfl) Z.set (by decide +kernel) (pa_cons (pv 0) pa_nil)) pa_nil)) (pe_callB call_len_seq (by rfl) T.len PySem.boot_len (pa_cons (pv 0) pa_nil)) (nomark _))))), ?_⟩
  have hq : Sq K H a (ns.map V.int) := ha
  obtain ⟨t, ty, kS'⟩ : ∃ t, (∀ J, Same H J → TyX K J (.ref a) t) ∧ PySem.W.kitAny K t [.type "list", .type "tuple"] = some true := by
    rcases ha with ha | ha
    · exact ⟨_, fun J s => tyx_seqL (s.seq ha), kit_list_seq⟩
    · exact ⟨_, fun J s => tyx_seqT (SqT.ext ha s), kit_tuple_seq⟩
  refine ⟨_, rfl, .ref a, t, true, rfl, ty, kS', fun J s0 => ⟨true, rfl, iteF ?_⟩⟩
  refine ⟨_, rfl, a, rfl, lc_seq (K := K) (a := a) (xs := ns.map V.int) (hq.mono s0) (fun D i M => Same J M ∧ M D = some (.lst (((ns.map fun b => decide (0 ≤ b) && decide (b < n)).take i).map V.bl))) (fun D hD => ⟨new_same hD _, upd_same⟩)
    (fun D i M _ ⟨z, _⟩ => same_both z) (fun D hD i v M hv ⟨z, e⟩ => ?_) (fun D hD M ⟨z, e⟩ => ?_)⟩
  · obtain ⟨b, hb, rfl⟩ := get_int hv
    have hi : i < ns.length := (List.getElem?_eq_some_iff.mp hb).1
    refine ⟨rfl, _, rfl, _, rfl, .int b, _, true, false, n, rfl, fun _ _ => .base (.int b), kit_int_int, kit_int_bool, fun M2 s2 => ⟨(fun z => nomatch z), fun _ => ⟨b, rfl, _, s2 _ _ e, ?_, fun c o h => ?_, ?_⟩⟩⟩
    · rw [List.length_map, List.length_take, List.length_map]
      exact small1000 (by omega)
    · rw [upd_ne (fun q => by rw [q, hD] at h; cases h)]
      exact s2 c o (z c o h)
    · have hb2 : (ns.map fun b => decide (0 ≤ b) && decide (b < n))[i]? = some (decide (0 ≤ b) && decide (b < n)) := by rw [List.getElem?_map, hb]; rfl
      rw [upd_same, List.take_add_one, hb2, List.map_append]
      rfl
  · have sM := s0.trans z
    refine ⟨D, ns.map fun b => decide (0 ≤ b) && decide (b < n), rfl, SqL.of ?_, ?_⟩
    · rw [e, List.length_map, ← List.length_map (f := fun b => decide (0 ≤ b) && decide (b < n)), List.take_length]
    have eall : (ns.map fun b => decide (0 ≤ b) && decide (b < n)).all id = ns.all fun b => decide (0 ≤ b) && decide (b < n) := by rw [List.all_map]; rfl
    refine ⟨_, rfl, ?_⟩
    rw [eall]
    cases c : ns.all fun b => decide (0 ≤ b) && decide (b < n) with
    | false =>
      refine iteT ?_
      have z2 := q _ sM
      unfold goodRound at z2
      rw [c, Bool.false_and] at z2
      exact z2
    | true =>
      refine iteF ?_
      have seqJ : ∀ J, Same H J → SqL K J a (ns.map V.int) ∨ SqT K J a (ns.map V.int) := fun J s => Sq.mono s hq
      refine ⟨_, rfl, a, ns, rfl, seqJ _ sM, hz, fun p m ks np hm k1 k2 k3 => ?_⟩
      have sp := new_same np (SetO w p (fun j => decide (j ∈ ns)) m)
      refine ⟨p, _, m, rfl, upd_same, by omega, _, rfl, a, ns.map V.int, rfl, seqJ _ (sM.trans sp), rfl, ?_⟩
      have z2 := q _ (sM.trans sp)
      unfold goodRound at z2
      rw [c, Bool.true_and, ← len_iff k1 k3, k2] at z2
      rw [List.length_map]
      exact z2
end
end LT
namespace L2
open PySem PySem.Spec PyProof.Rows
section
variable {X : Cx}
/-- enumerate of what is a list or a tuple -/
def iEnumA (K : PySem.W.Frag) (ta : TA) : TI := fun σ H R => ta σ H fun vs H1 => ∃ a xs, vs = [.ref a] ∧ ((SqL K H1 a xs ∧ R (Ite K a) H1) ∨ (SqT K H1 a xs ∧ R (ItEt K a) H1))
theorem pi_enumA {e : Expr} {ta : TA} {p pos tpos : Pos} {elts : List Expr} {kk : Nat} (hg : Gl X "enumerate") (hm : X.mg "enumerate" = none) (ha : PA X [e] ta) (hs : starEach [e] X.env = [(false, eval e X.env)] := by rfl) :
    PI X (.Tuple elts kk tpos) (.Call (.Name "enumerate" p) [e] [] pos) (iEnumA X.K ta) := by
  refine ⟨fun pins s σ H R I h => ?_⟩
  refine Call_ (ld_blt I hg hm boot_enumerate (PyProof.Rows.callWith_type1 (thn (ha.run pos pins s σ H _ I h) fun us s1 hh => ?_) hs rfl))
  obtain ⟨vs, H1, I1, r1, a, xs, rfl, hq⟩ := hh
  obtain ⟨u, rfl, ru⟩ := vals1 r1
  obtain rfl : u = Value.ref a := ru
  have laid : ∀ b, b ∈ [s1.heap.objs.size + 1, s1.heap.objs.size] → FpOk X pins H1 b := fun b hb => by
    have hle : s1.heap.objs.size ≤ b := by
      rcases (by simpa using hb : b = s1.heap.objs.size + 1 ∨ b = s1.heap.objs.size) with z | z
      · rw [z]
        exact Nat.le_add_right _ _
      · rw [z]
        exact Nat.le_refl _
    exact I1.fpOk hle (I1.hok.fresh hle)
  rcases hq with ⟨hq, q⟩ | ⟨hq, q⟩
  · obtain ⟨its, rv, p', hz⟩ := I1.list hq
    exact call_enumerate_list p'.isList fun h' he hit hsz hk => wpAny_pyIter_enum he ⟨_, _, _, _, H1, rfl, I1.kept (t' := s1.toks) hk, turn_enum a (s1.heap.objs.size + 1) s1.heap.objs.size, ⟨⟨.none, he⟩, hit, Nat.succ_ne_self _⟩, laid, q⟩
  · obtain ⟨its, rv, p', hz⟩ := I1.tuple hq
    have al : a < s1.heap.objs.size := by
      obtain ⟨o, ho, _⟩ := p'
      exact Heap.lt_size ho
    exact LT.enum_made (begins_tuple a its.toArray) p' fun h' he hit hsz hk => wpAny_pyIter_enum he ⟨_, _, _, _, H1, rfl, I1.kept (t' := s1.toks) hk, turn_enumT a (s1.heap.objs.size + 1) s1.heap.objs.size, ⟨⟨.none, he⟩, ⟨_, hit, rfl, rfl⟩, Nat.succ_ne_self _, Nat.ne_of_lt al, Nat.ne_of_gt (Nat.lt_succ_of_lt al)⟩, laid, q⟩
def rTupOf (K : PySem.W.Frag) : List V → Hp → VK → Prop := fun xs H Q => ∃ p ys, xs = [.ref p] ∧ ((SqL K H p ys ∧ ∀ l, H l = none → Q (.ref l) (upd H l (.tup ys))) ∨ (SqT K H p ys ∧ Q (.ref p) H))
end
end L2
namespace LT
open PySem L2
theorem ps_nev {X : Cx} {st : Stmt} : PS X st (fun _ _ _ => False) := ⟨fun _ _ _ _ _ _ h => h.elim⟩
theorem get_snoc {us : List V} {z u : V} {j : Nat} (h : (us ++ [z])[j]? = some u) : us[j]? = some u ∨ (j = us.length ∧ u = z) := by
  by_cases c : j < us.length
  · rw [List.getElem?_append_left c] at h
    exact .inl h
  · rw [List.getElem?_append_right (by omega)] at h
    have e : j - us.length = 0 := by
      cases w : j - us.length with
      | zero => rfl
      | succ n =>
        rw [w] at h
        simp at h
    rw [e] at h
    simp at h
    exact .inr ⟨by omega, h.symm⟩
/-- rounds as they are given: each a list or a tuple of ints, all good -/
def RoundsAt (K : PySem.W.Frag) (askers : Int) (H : Hp) (xs : List V) (rs : List (List Int)) : Prop := xs.length = rs.length ∧ ∀ (i : Nat) (x : V), xs[i]? = some x → ∃ (a : Addr) (ns : List Int), x = .ref a ∧ rs[i]? = some ns ∧ (SqL K H a (ns.map V.int) ∨ SqT K H a (ns.map V.int)) ∧ ns.length ≤ 1000 ∧ goodRound askers ns = true
theorem RoundsAt.monoX {K : PySem.W.Frag} {askers : Int} {H J : Hp} {xs : List V} {rs : List (List Int)} (s : L3.Ex H J) (h : RoundsAt K askers H xs rs) : RoundsAt K askers J xs rs :=
  ⟨h.1, fun i x e => by
    obtain ⟨a, ns, e1, e2, hq, e3, e4⟩ := h.2 i x e
    exact ⟨a, ns, e1, e2, hq.elim (fun z => .inl (s.seq z)) fun z => .inr (s.seqT z), e3, e4⟩⟩
theorem RoundsAt.mono {K : PySem.W.Frag} {askers : Int} {H J : Hp} {xs : List V} {rs : List (List Int)} (s : Same H J) (h : RoundsAt K askers H xs rs) : RoundsAt K askers J xs rs := h.monoX (L3.exOf s)
/-- the rounds, each sorted, as new tuples -/
def SortedAt (J : Hp) (ys : List V) (rs : List (List Int)) (n : Nat) : Prop := ys.length = n ∧ ∀ (i : Nat) (y : V), ys[i]? = some y → ∃ (p : Addr) (out ns : List Int), y = .ref p ∧ J p = some (.tup (out.map V.int)) ∧ rs[i]? = some ns ∧ out.Perm ns ∧ out.Pairwise (· ≤ ·)
def spAscending (K : PySem.W.Frag) : V → List (Option V) → Hp → VK → XK → Prop := fun v ws H Q _ => ∃ (r : Addr) (xs : List V) (rs : List (List Int)) (askers : Int), v = .ref r ∧ ws = [some (.int askers)] ∧ (SqL K H r xs ∨ SqT K H r xs) ∧ xs.length ≤ 1000 ∧ RoundsAt K askers H xs rs ∧
  ∀ (D : Addr) (ys : List V) (J : Hp), Same H J → H D = none → J D = some (.lst ys) → SortedAt J ys rs rs.length → Q (.ref D) J
/-- the lambda that is handed on: is_round of its argument and the captured number -/
def spLamRound (K : PySem.W.Frag) : List (Option V) → Sp := fun ws vs H Q E => ∃ (x : V) (n : Int), ws = [some (.int n)] ∧ vs = [x] ∧ spIsRound K [x, .int n] H Q E
abbrev nAscending : List Str := ["rounds", "is_right", "at", "asking"]
section
variable {P : Program} {w : World} {K : PySem.W.Frag} {mg : Str → Option Value} {base : Heap}
theorem scAscending : FnScope nAscending ["rounds", "is_right"] (defScope sAscending) := ⟨rfl, rfl, rfl, by decide +kernel, rfl, by decide +kernel, by decide +kernel⟩
theorem asc_body {A : Around} {outer : List Env} {s : Shared} {H : Hp} {E : XK} {g f : Addr} {cdv : Value} {gs : Addr} {ds : FuncData} {F : NdefX.NF} {lb : Expr} {ws : List (Option V)} {v : V} {Q : VK} (Z : Blt4 mg) (T : Blt mg)
    (Gs : FnOk P w K mg base CX0 1 gs ds ["value"] (spSeq K)) (bS : Binds K ds ["value"] []) (kS : PySem.W.keepIn K (.ref gs) = true) (mS : mg "is_sequence" = some (.ref gs))
    (L : L3.LamFn P w K mg base CX0 4 F lb ["asking"] ["askers"] (spLamRound K)) (hr : Room 4 (A.deeper (PyProof.Rows.envOfC "ascending_rounds" (defScope sAscending) s.heap.objs.size g cdv)))
    (GV : L3.Given (cxOf CX0 P w K mg base nAscending "ascending_rounds" (defScope sAscending) g cdv A outer s H E) f F lb ["askers"] ws) (hc : H F.c = some (LamX.CodeO F.c F.qual)) (h : spAscending K v ws H Q E) :
    ∃ t, PSs (cxOf CX0 P w K mg base nAscending "ascending_rounds" (defScope sAscending) g cdv A outer s H E) (defBody sAscending) t ∧ t { nx := fun _ H' => Q .non H', rt := Q } (L2.start nAscending [v, .ref f]) H := by
  obtain ⟨r, xs, rs, n, rfl, rfl, hq, hz, hR, q⟩ := h
  have hr1 : Room 1 _ := hr.mono (by decide)
  have GN : L3.Given (cxOf CX0 P w K mg base nAscending "ascending_rounds" (defScope sAscending) g cdv A outer s H E).nox f F lb ["askers"] [some (.int n)] := ⟨GV.obj, GV.un, GV.nofr, GV.cells, GV.noex⟩
  suffices hN : ∃ t, PSs (cxOf CX0 P w K mg base nAscending "ascending_rounds" (defScope sAscending) g cdv A outer s H E).nox (defBody sAscending) t ∧ t { nx := fun _ H' => Q .non H', rt := Q } (L2.start nAscending [.ref r, .ref f]) H by
    obtain ⟨t, a, b⟩ := hN
    exact ⟨t, a.nox, b⟩
  refine ⟨_, pss_cons (ps_if (pt_not (pt_val (pe_call Gs hr1 (by rfl) mS kS bS .nil pass0 (pa_cons (pv 0) pa_nil)))) (pss_one ps_nev) pss_nil)
    (pss_cons (ps_for PassesOwn.never rfl (L2.pi_enumA (by rfl) Z.enumerate (pa_cons (pv 0) pa_nil)) (pg_tup rfl (pgs_cons (pg_name (i := 2) scAscending.nd rfl (Or.inl rfl)) (pgs_cons (pg_name (i := 3) scAscending.nd rfl (Or.inl rfl)) pgs_nil)))
      (pss_one (ps_if (pt_not (pt_val (L3.pe_given (i := 1) GN L hr pass0 (by rfl) (Or.inl rfl) (pa_cons (pv 3) pa_nil)))) (pss_one ps_nev) pss_nil)))
    (pss_one (ps_ret (pe_lc (own := [("asking", 3)]) (g := gName 3) (tt := tYes) (by rfl) scAscending.nd (L2.pi_seq (pv 0)) (blkOk_by (N := nAscending) (sc := defScope sAscending) (own := [("asking", 3)]) (by decide +kernel)) (fun _ _ _ _ _ => pg_name (i := 3) scAscending.nd rfl (Or.inl rfl)) (fun _ _ _ _ _ => pts_nil)
      (fun _ _ _ _ _ => pe_callTy (r := rTupOf K) call_tuple_of (by rfl) T.tuple (by decide +kernel) (pa_cons (pe_callB (r := rSortedA K) cr_sortedA (by rfl) Z.sorted (by decide +kernel) (pa_cons (pv 3) pa_nil)) pa_nil)))))), ?_⟩
  have tyS : ∃ t, (∀ J, Same H J → TyX K J (.ref r) t) ∧ PySem.W.kitAny K t [.type "list", .type "tuple"] = some true := by
    rcases hq with hq | hq
    · exact ⟨_, fun J s => tyx_seqL (s.seq hq), kit_list_seq⟩
    · exact ⟨_, fun J s => tyx_seqT (SqT.ext hq s), kit_tuple_seq⟩
  obtain ⟨t, ty, kS'⟩ := tyS
  refine ⟨_, rfl, .ref r, t, true, rfl, ty, kS', fun J s0 => ⟨true, rfl, iteF ?_⟩⟩
  let Pv : Nat → L2.St → Hp → Prop := fun _ σ J => ∃ v2 v3, σ = [some (.ref r), some (.ref f), v2, v3] ∧ Same H J
  have next : ∀ {D : Addr} {i : Nat} {x : V} {M : Hp} {ys : List V} {J1 : Hp}, Same H J1 → J1 D = none → xs[i]? = some x → M D = some (.lst ys) → Same J1 M → SortedAt M ys rs i →
      ∃ (a : Addr) (ns : List Int), x = .ref a ∧ (SqL K M a (ns.map V.int) ∨ SqT K M a (ns.map V.int)) ∧ ∀ (out : List Int) (p u : Addr), out.Perm ns → out.Pairwise (· ≤ ·) → M p = none → (upd M p (.lst (out.map V.int))) u = none →
        ∃ acc, (upd (upd M p (.lst (out.map V.int))) u (.tup (out.map V.int))) D = some (.lst acc) ∧ acc.length < sizeLine ∧ ∃ ys', (upd (upd (upd M p (.lst (out.map V.int))) u (.tup (out.map V.int))) D (.lst (acc ++ [.ref u]))) D = some (.lst ys') ∧
          Same J1 (upd (upd (upd M p (.lst (out.map V.int))) u (.tup (out.map V.int))) D (.lst (acc ++ [.ref u]))) ∧ SortedAt (upd (upd (upd M p (.lst (out.map V.int))) u (.tup (out.map V.int))) D (.lst (acc ++ [.ref u]))) ys' rs (i + 1) := by
    intro D i x M ys J1 s1 hD hx m1 m2 m3
    obtain ⟨a, ns, rfl, er, hs, hz2, hg⟩ := hR.2 i x hx
    have sM := s1.trans m2
    refine ⟨a, ns, rfl, hs.elim (fun z => .inl (sM.seq z)) (fun z => .inr (SqT.ext z sM)), fun out p u pm pw np nu => ?_⟩
    have s3 := (new_same np (.lst (out.map V.int))).trans (new_same nu (.tup (out.map V.int)))
    have hu : upd (upd M p (.lst (out.map V.int))) u (.tup (out.map V.int)) u = some (.tup (out.map V.int)) := upd_same
    have uD : u ≠ D := fun z => by
      have w := new_same np (.lst (out.map V.int)) _ _ m1
      rw [← z, nu] at w
      cases w
    generalize upd (upd M p (.lst (out.map V.int))) u (.tup (out.map V.int)) = L at s3 hu ⊢
    have hi : i < xs.length := (List.getElem?_eq_some_iff.mp hx).1
    refine ⟨ys, s3 _ _ m1, by rw [m3.1]; exact small1000 (by omega), ys ++ [.ref u], upd_same, fun c o e => ?_, ?_⟩
    · rw [upd_ne (ne_of_none e hD)]
      exact s3 _ _ (m2 _ _ e)
    · refine ⟨by rw [List.length_append, m3.1]; rfl, fun j y e => ?_⟩
      have keep : ∀ c ts, M c = some (HO.tup ts) → upd L D (.lst (ys ++ [.ref u])) c = some (.tup ts) := fun c ts e => by
        have nc : c ≠ D := fun z => by rw [z, m1] at e; cases e
        rw [upd_ne nc]
        exact s3 _ _ e
      rcases get_snoc e with e9 | ⟨e9, rfl⟩
      · obtain ⟨p', out', ns', e1, e2, e3, e4, e5⟩ := m3.2 j y e9
        exact ⟨p', out', ns', e1, keep _ _ e2, e3, e4, e5⟩
      · exact ⟨u, out, ns, rfl, by rw [upd_ne uD]; exact hu, by rw [e9, m3.1]; exact er, pm, pw⟩
  refine ⟨_, rfl, r, xs, rfl, ?_⟩
  rcases hq with hq | hq
  · refine .inl ⟨s0.seq hq, for_it (walk_enum (K := K) (a := r) (xs := xs)) Pv ⟨none, none, rfl, s0⟩ (fun i σ J _ ⟨_, _, _, z⟩ => z.seq hq) ?_ ?_⟩
    · rintro i x σ J1 J2 hi ⟨v2, v3, rfl, s1⟩ ⟨W, x1, e, rfl, nW, rfl, ex1, ee⟩
      cases ex1
      obtain ⟨a, ns, rfl, er, hs, hz2, hg⟩ := hR.2 i e ee
      have s2 := s1.trans (new_same nW (.tup [V.int (i : Nat), .ref a]))
      refine ⟨W, _, rfl, SqT.of upd_same, rfl, _, _, rfl, _, _, rfl, rfl, ?_⟩
      refine ⟨rfl, _, rfl, s2 _ _ hc, .ref a, n, rfl, rfl, a, ns, n, rfl, hs.elim (fun z => .inl (s2.seq z)) (fun z => .inr (SqT.ext z s2)), hz2, fun J3 s3 => ⟨true, by rw [hg], iteF ?_⟩⟩
      exact ⟨_, _, rfl, s2.trans s3⟩
    · rintro σ J1 ⟨v2, v3, rfl, s1⟩
      refine ⟨_, rfl, r, rfl, .inl ⟨⟨_, s1.seq hq⟩, fun D hD => lc_it (walk_list (K := K) (a := r) (xs := xs)) (fun i M => ∃ ys : List V, M D = some (.lst ys) ∧ Same J1 M ∧ SortedAt M ys rs i) ⟨[], upd_same, new_same hD _, rfl, fun i y e => nomatch e⟩ (fun i M _ ⟨_, _, z, _⟩ => (s1.trans z).seq hq) ?_ (fun M ⟨ys, m1, m2, m3⟩ => q D ys M (s1.trans m2) (s1.free hD) m1 (by rw [← hR.1]; exact m3))⟩⟩
      rintro i x M M' hi ⟨ys, m1, m2, m3⟩ ⟨rfl, hx⟩
      obtain ⟨a, ns, rfl, sq, go⟩ := next s1 hD hx m1 m2 m3
      exact ⟨rfl, _, rfl, a, ns, rfl, sq, fun out p pm pw np => ⟨p, _, rfl, .inl ⟨SqL.of upd_same, fun u nu => go out p u pm pw np nu⟩⟩⟩
  · refine .inr ⟨SqT.ext hq s0, for_it (walk_enumT (K := K) (a := r) (xs := xs)) Pv ⟨none, none, rfl, s0⟩ (fun i σ J _ ⟨_, _, _, z⟩ => SqT.ext hq z) ?_ ?_⟩
    · rintro i x σ J1 J2 hi ⟨v2, v3, rfl, s1⟩ ⟨W, x1, e, rfl, nW, rfl, ex1, ee⟩
      cases ex1
      obtain ⟨a, ns, rfl, er, hs, hz2, hg⟩ := hR.2 i e ee
      have s2 := s1.trans (new_same nW (.tup [V.int (i : Nat), .ref a]))
      refine ⟨W, _, rfl, SqT.of upd_same, rfl, _, _, rfl, _, _, rfl, rfl, ?_⟩
      refine ⟨rfl, _, rfl, s2 _ _ hc, .ref a, n, rfl, rfl, a, ns, n, rfl, hs.elim (fun z => .inl (s2.seq z)) (fun z => .inr (SqT.ext z s2)), hz2, fun J3 s3 => ⟨true, by rw [hg], iteF ?_⟩⟩
      exact ⟨_, _, rfl, s2.trans s3⟩
    · rintro σ J1 ⟨v2, v3, rfl, s1⟩
      refine ⟨_, rfl, r, rfl, .inr ⟨⟨_, SqT.ext hq s1⟩, fun D hD => lc_it (walk_tup (K := K) (a := r) (xs := xs)) (fun i M => ∃ ys : List V, M D = some (.lst ys) ∧ Same J1 M ∧ SortedAt M ys rs i) ⟨[], upd_same, new_same hD _, rfl, fun i y e => nomatch e⟩ (fun i M _ ⟨_, _, z, _⟩ => SqT.ext hq (s1.trans z)) ?_ (fun M ⟨ys, m1, m2, m3⟩ => q D ys M (s1.trans m2) (s1.free hD) m1 (by rw [← hR.1]; exact m3))⟩⟩
      rintro i x M M' hi ⟨ys, m1, m2, m3⟩ ⟨rfl, hx⟩
      obtain ⟨a, ns, rfl, sq, go⟩ := next s1 hD hx m1 m2 m3
      exact ⟨rfl, _, rfl, a, ns, rfl, sq, fun out p pm pw np => ⟨p, _, rfl, .inl ⟨SqL.of upd_same, fun u nu => go out p u pm pw np nu⟩⟩⟩
end
end LT
namespace LT
open PySem L2
def faultD (p : Nat × Nat) : PyData := if 0 < p.1 ∧ p.2 = 0 then .str "none" else if 1 < p.2 then .str "two" else .none
def faultX (p : Nat × Nat) : V := faultP p.1 p.2
def hasFault (fl : List (Nat × Nat)) (z : Str) : Bool := (fl.map faultD).any fun y => PyData.eqv y (.str z)
def faultsV (fl : List (Nat × Nat)) : List V := ((["none", "two"] : List Str).filter (hasFault fl)).map V.str
theorem dp_fault {K : PySem.W.Frag} {H : Hp} (p : Nat × Nat) : Dp K H (faultX p) (faultD p) := by
  unfold faultX faultP faultD
  split
  · exact .str _
  · split
    · exact .str _
    · exact .non
theorem dp_faults {K : PySem.W.Frag} {H : Hp} : ∀ fl : List (Nat × Nat), DpAll K H (fl.map faultX) (fl.map faultD)
  | [] => .nil
  | p :: fl => .cons (dp_fault p) (dp_faults fl)
theorem lay_faults : ∀ fl : List (Nat × Nat), PyData.canLayAll0 (fl.map faultD) = true ∧ PyData.depthAll (fl.map faultD) ≤ 1
  | [] => by simp [PyData.canLayAll0, PyData.depthAll]
  | p :: fl => by
    obtain ⟨e1, e2⟩ := lay_faults fl
    have k1 : PyData.strOk "none" = true := by decide +kernel
    have k2 : PyData.strOk "two" = true := by decide +kernel
    have k : (faultD p).canLay0 = true ∧ (faultD p).depth ≤ 1 := by
      unfold faultD
      split
      · exact ⟨by simp [PyData.canLay0, k1], by simp [PyData.depth]⟩
      · split
        · exact ⟨by simp [PyData.canLay0, k2], by simp [PyData.depth]⟩
        · exact ⟨by simp [PyData.canLay0], by simp [PyData.depth]⟩
    simp only [List.map_cons, PyData.canLayAll0, PyData.depthAll]
    exact ⟨by rw [k.1, e1]; rfl, Nat.max_le.mpr ⟨k.2, e2⟩⟩
theorem shaped_faults (fl : List (Nat × Nat)) : SeqAt.shaped (.list (fl.map faultD)) = true := by
  obtain ⟨e1, e2⟩ := lay_faults fl
  show ((PyData.list (fl.map faultD)).canLay0 && decide ((PyData.list (fl.map faultD)).depth ≤ 64)) = true
  rw [Bool.and_eq_true, decide_eq_true_eq]
  exact ⟨by simp only [PyData.canLay0]; exact e1, by simp only [PyData.depth]; omega⟩
def SeqsAt (K : PySem.W.Frag) (H : Hp) (xs : List V) (ls : List Nat) : Prop := xs.length = ls.length ∧ ∀ (i : Nat) (x : V), xs[i]? = some x → ∃ (p : Addr) (us : List V), x = .ref p ∧ SqT K H p us ∧ ls[i]? = some us.length
def spFaults (K : PySem.W.Frag) : Sp := fun vs H Q _ => ∃ (a g : Addr) (xs ys : List V) (fl : List (Nat × Nat)), vs = [.ref a, .ref g] ∧ SqL K H a xs ∧ SqL K H g ys ∧ SeqsAt K H xs (fl.map Prod.fst) ∧ SeqsAt K H ys (fl.map Prod.snd) ∧ fl.length ≤ 1000 ∧
  ∀ (t : Addr) (J : Hp), Same H J → H t = none → J t = some (.tup (faultsV fl)) → Q (.ref t) J
abbrev nFaults : List Str := ["asked", "grants", "found", "asking", "granted", "fault"]
section
variable {P : Program} {w : World} {K : PySem.W.Frag} {mg : Str → Option Value} {base : Heap}
theorem scFaults : FnScope nFaults ["asked", "grants"] (defScope sFaults) := ⟨rfl, rfl, rfl, by decide +kernel, rfl, by decide +kernel, by decide +kernel⟩
theorem ok_faults {f g : Addr} {fd gd : FuncData} (F : Fun K "faults_of" "faults_of" sFaults f fd) (T : Blt mg) (Zz : mg "zip" = none)
    (Gf : FnOk P w K mg base CX0 1 g gd ["asking", "granted"] (spFault K)) (bF : Binds K gd ["asking", "granted"] []) (kF : PySem.W.keepIn K (.ref g) = true) (mF : mg "round_fault" = some (.ref g)) :
    FnOk P w K mg base CX0 2 f fd ["asked", "grants"] (spFaults K) := by
  refine F.ok scFaults (fun vs H Q E h => ?_) (fun cdv A outer s H vs Q E hr h => ?_)
  · obtain ⟨a, g, xs, ys, fl, rfl, _⟩ := h
    rfl
  obtain ⟨a, g, xs, ys, fl, rfl, ha, hg, hx, hy, hz, q⟩ := h
  have hu65 : (A.deeper (PyProof.Rows.envOfC "faults_of" (defScope sFaults) s.heap.objs.size f cdv)).units + 65 < cLine := by
    have := hr.un
    omega
  refine ⟨_, pss_cons (ps_set (i := 2) scFaults.nd rfl (Or.inr rfl) (pe_lc (own := [("asking", 3), ("granted", 4)]) (g := gTup K 2 (gCons (gName 3) (gCons (gName 4) gNil))) (tt := tYes) (by rfl) scFaults.nd (RZ.pi_zipA (by rfl) Zz (pa_cons (pv 0) (pa_cons (pv 1) pa_nil)))
      (blkOk_by (N := nFaults) (sc := defScope sFaults) (own := [("asking", 3), ("granted", 4)]) (by decide +kernel)) (fun _ _ _ _ _ => pg_tup rfl (pgs_cons (pg_name (i := 3) scFaults.nd rfl (Or.inl rfl)) (pgs_cons (pg_name (i := 4) scFaults.nd rfl (Or.inl rfl)) pgs_nil))) (fun _ _ _ _ _ => pts_nil)
      (fun _ _ _ _ _ => pe_call Gf hr (by rfl) mF kF bF .nil pass0 (pa_cons (pv 3) (pa_cons (pv 4) pa_nil)))))
    (pss_one (ps_ret (pe_callTy call_tuple_of (by rfl) T.tuple (by decide +kernel) (pa_cons (pe_lc (own := [("fault", 5)]) (g := gName 5) (by rfl) scFaults.nd (pi_tup (pe_tup (pa_cons pe_str (pa_cons pe_str pa_nil)))) (blkOk_by (N := nFaults) (sc := defScope sFaults) (own := [("fault", 5)]) (by decide +kernel)) (fun _ _ _ _ _ => pg_name (i := 5) scFaults.nd rfl (Or.inl rfl))
      (fun _ _ _ _ _ => (pts_one (pt_cmpR (r := rInD K) (op_inD hu65) (pv 5) (pv 2) (by rfl)))) (fun _ _ _ _ _ => (pv 5))) pa_nil)))), ?_⟩
  have lx : xs.length = fl.length := by rw [hx.1, List.length_map]
  have ly : ys.length = fl.length := by rw [hy.1, List.length_map]
  refine ⟨_, rfl, _, rfl, a, g, xs, ys, rfl, .inl ⟨ha, hg, fun D hD => lc_it (walk_zip (K := K) (a := a) (b := g) (xs := xs) (ys := ys) (n := fl.length) (by omega)) (fun i M => M D = some (.lst ((fl.take i).map faultX)) ∧ Same H M) ⟨upd_same, new_same hD _⟩ (fun i M _ z => ⟨z.2.seq ha, z.2.seq hg⟩) ?_ (fun M z => ?_)⟩⟩
  · rintro i x M M' hi ⟨md, sm⟩ ⟨W, x1, y1, rfl, nW, rfl, ex, ey⟩
    obtain ⟨p1, us, rfl, t1, e1⟩ := hx.2 i x1 ex
    obtain ⟨p2, ts, rfl, t2, e2⟩ := hy.2 i y1 ey
    obtain ⟨f0, ef⟩ : ∃ f0, fl[i]? = some f0 := ⟨fl[i], List.getElem?_eq_getElem hi⟩
    have sW := new_same nW (.tup [V.ref p1, .ref p2])
    have e3 : faultP us.length ts.length = faultX f0 := by
      rw [List.getElem?_map, ef] at e1 e2
      have q1 : f0.1 = us.length := Option.some.inj e1
      have q2 : f0.2 = ts.length := Option.some.inj e2
      unfold faultX
      rw [q1, q2]
    have s2 := sm.trans sW
    refine ⟨W, _, rfl, SqT.of upd_same, rfl, _, _, rfl, _, _, rfl, rfl, rfl, _, rfl, _, rfl, p1, p2, us, ts, rfl, SqT.ext t1 s2, SqT.ext t2 s2, _, sW _ _ md, ?_, ?_, ?_⟩
    · rw [List.length_map, List.length_take]
      exact small1000 (by omega)
    · rw [upd_same, e3, List.take_add_one, ef, List.map_append]
      rfl
    · exact fun c o e => by
        rw [upd_ne (ne_of_none e hD)]
        exact s2 c o e
  obtain ⟨md, sm⟩ := z
  rw [List.take_length] at md
  refine ⟨(by show 2 ≤ sizeLine; decide), fun tp ntp => ⟨tp, rfl, ⟨_, SqT.of upd_same⟩, fun D2 hD2 => lc_it (walk_tup (K := K) (a := tp) (xs := [V.str "none", .str "two"])) (fun i J => J D2 = some (.lst ((((["none", "two"] : List Str).take i).filter (hasFault fl)).map V.str)) ∧ Same (upd M tp (.tup [V.str "none", .str "two"])) J) ⟨upd_same, new_same hD2 _⟩ (fun i J _ z => SqT.of (z.2 _ _ upd_same)) ?_ (fun J z => ?_)⟩⟩
  · rintro i x J J' hi ⟨jd, sj⟩ ⟨rfl, hxi⟩
    obtain ⟨z, hz', rfl⟩ : ∃ z, (["none", "two"] : List Str)[i]? = some z ∧ x = .str z := by
      have e : ([V.str "none", V.str "two"] : List V) = (["none", "two"] : List Str).map V.str := rfl
      rw [e, List.getElem?_map] at hxi
      cases w : (["none", "two"] : List Str)[i]? with
      | none =>
        rw [w] at hxi
        cases hxi
      | some z =>
        rw [w] at hxi
        exact ⟨z, rfl, (Option.some.inj hxi).symm⟩
    have zs : SeqAt.shaped (.str z) = true := by
      have all : ∀ z ∈ (["none", "two"] : List Str), SeqAt.shaped (.str z) = true := by decide +kernel
      exact all z (List.mem_of_getElem? hz')
    have found := sj _ _ (new_same ntp (.tup [V.str "none", .str "two"]) _ _ md)
    have tk : ((["none", "two"] : List Str).take (i + 1)).filter (hasFault fl) = (((["none", "two"] : List Str).take i).filter (hasFault fl)) ++ ([z].filter (hasFault fl)) := by
      rw [List.take_add_one, hz', List.filter_append]
      rfl
    refine ⟨rfl, _, rfl, _, rfl, .str z, fl.map faultD, .str z, .lst (SqL.of found) (dp_faults fl), zs, shaped_faults fl, _, rfl, ?_⟩
    refine ite2 (fun c => ⟨_, rfl, _, jd, ?_, ?_, ?_⟩) (fun c => ⟨?_, sj⟩)
    · have := List.length_filter_le (hasFault fl) ((["none", "two"] : List Str).take i)
      rw [List.length_take] at this
      rw [List.length_map]
      have two : ((["none", "two"] : List Str)).length = 2 := rfl
      rw [two] at this
      exact small1000 (by omega)
    · have c' : hasFault fl z = true := c
      rw [upd_same, tk, List.map_append, List.filter_cons, if_pos c']
      rfl
    · exact fun q o e => by
        rw [upd_ne (ne_of_none e hD2)]
        exact sj q o e
    · have c' : ¬ hasFault fl z = true := c
      rw [tk, List.filter_cons, if_neg c', List.filter_nil, List.append_nil]
      exact jd
  obtain ⟨jd, sj⟩ := z
  have e2 : (["none", "two"] : List Str).take [V.str "none", V.str "two"].length = (["none", "two"] : List Str) := rfl
  rw [e2] at jd
  have sH := sm.trans ((new_same ntp (.tup [V.str "none", .str "two"])).trans sj)
  exact ⟨D2, _, rfl, .inl ⟨SqL.of jd, fun t nt => q t _ (sH.trans (new_same nt _)) (sH.free nt) upd_same⟩⟩
end
end LT
namespace LT
open PySem L2
/-- what the written part says of the class Played -/
structure PlC (K : PySem.W.Frag) (C : Addr) : Prop where
  cl : Cls K C
  n0 : NoAttr K C "grants"
  n1 : NoAttr K C "done"
  n2 : NoAttr K C "modes"
  n3 : NoAttr K C "pointers"
  n4 : NoAttr K C "faults"
def playFs (a b c d e : V) : List (Str × V) := [("grants", a), ("done", b), ("modes", c), ("pointers", d), ("faults", e)]
def spPlayedI (C : Addr) : Sp := fun vs H Q _ => ∃ (x dx : Addr) (a b c d e : V), vs = [.ref x, a, b, c, d, e] ∧ H x = some (.ins C dx []) ∧ Q .non (upd H x (.ins C dx (playFs a b c d e)))
theorem choose_list {α β : Type} {R : Nat → α → β → Prop} : ∀ (ys : List α) (k : Nat), (∀ (i : Nat) y, ys[i]? = some y → ∃ b, R (k + i) y b) → ∃ bs : List β, bs.length = ys.length ∧ ∀ (i : Nat) y, ys[i]? = some y → ∃ b, bs[i]? = some b ∧ R (k + i) y b
  | [], _, _ => ⟨[], rfl, fun _ _ h => by simp at h⟩
  | y :: ys, k, h => by
    obtain ⟨b, hb⟩ := h 0 y rfl
    obtain ⟨bs, l, hs⟩ := choose_list ys (k + 1) fun i z hz => by
      have := h (i + 1) z (by simpa using hz)
      rwa [show k + (i + 1) = k + 1 + i by omega] at this
    refine ⟨b :: bs, by rw [List.length_cons, List.length_cons, l], fun i z hz => ?_⟩
    cases i with
    | zero =>
      have e : y = z := by simpa using hz
      subst e
      exact ⟨b, rfl, hb⟩
    | succ i =>
      obtain ⟨c, e, r⟩ := hs i z (by simpa using hz)
      exact ⟨c, by simpa using e, by rwa [show k + 1 + i = k + (i + 1) by omega] at r⟩
/-- mode and pointer before round i -/
def stAt (rows : List Row5) (first : Str) (os : List (List Int)) : Nat → Str × Option Int
  | 0 => (first, none)
  | i + 1 => match os[i]? with
    | none => stAt rows first os i
    | some o => (endMode rows (stAt rows first os i).1 (stAt rows first os i).2 o, endPtr rows (stAt rows first os i).1 (stAt rows first os i).2 o)
def doneAt (rows : List Row5) (first : Str) (os : List (List Int)) (i : Nat) : V := match os[i]? with
  | none => .non
  | some o => doneV (endDone rows (stAt rows first os i).1 (stAt rows first os i).2 o)
def grantsAt (rows : List Row5) (first : Str) (os : List (List Int)) (i : Nat) : List Int := match os[i]? with
  | none => []
  | some o => endGrants rows (stAt rows first os i).1 (stAt rows first os i).2 o
theorem st_next {rows : List Row5} {first : Str} {os : List (List Int)} {i : Nat} {o : List Int} (h : os[i]? = some o) : stAt rows first os (i + 1) = (endMode rows (stAt rows first os i).1 (stAt rows first os i).2 o, endPtr rows (stAt rows first os i).1 (stAt rows first os i).2 o) := by
  show (match os[i]? with | none => _ | some o => _) = _
  rw [h]
/-- all is kept but lists -/
def Keep (J L : Hp) : Prop := ∀ c o, (∀ ys, o ≠ HO.lst ys) → J c = some o → L c = some o
/-- the grants as tuples -/
def GrantsAt (J : Hp) (gs : List V) (us : List (List Int)) (gr : Nat → List Int) (n : Nat) : Prop := gs.length = n ∧ us.length = n ∧ ∀ (j : Nat) (v : V), gs[j]? = some v → ∃ (q : Addr) (out : List Int), v = .ref q ∧ us[j]? = some out ∧ J q = some (.tup (out.map V.int)) ∧ out.Pairwise (· < ·) ∧ ∀ k, k ∈ out ↔ k ∈ gr j
theorem GrantsAt.keep {J L : Hp} {gs : List V} {us : List (List Int)} {gr : Nat → List Int} {n : Nat} (k : Keep J L) (h : GrantsAt J gs us gr n) : GrantsAt L gs us gr n :=
  ⟨h.1, h.2.1, fun j v e => by
    obtain ⟨q, out, e1, e0, e2, e3⟩ := h.2.2 j v e
    exact ⟨q, out, e1, e0, k _ _ (fun _ z => nomatch z) e2, e3⟩⟩
theorem GrantsAt.add {J : Hp} {gs : List V} {us : List (List Int)} {gr : Nat → List Int} {n : Nat} {q : Addr} {out : List Int} (h : GrantsAt J gs us gr n) (e : J q = some (.tup (out.map V.int))) (pw : out.Pairwise (· < ·)) (m : ∀ k, k ∈ out ↔ k ∈ gr n) :
    GrantsAt J (gs ++ [.ref q]) (us ++ [out]) gr (n + 1) := by
  refine ⟨by rw [List.length_append, h.1]; rfl, by rw [List.length_append, h.2.1]; rfl, fun j v z => ?_⟩
  rcases get_snoc z with z9 | ⟨z9, rfl⟩
  · obtain ⟨q', out', e1, e0, e2⟩ := h.2.2 j v z9
    exact ⟨q', out', e1, by rw [List.getElem?_append_left (List.getElem?_eq_some_iff.mp e0).1]; exact e0, e2⟩
  · refine ⟨q, out, rfl, ?_, e, pw, by rw [z9, h.1]; exact m⟩
    rw [z9, h.1, ← h.2.1]
    exact List.getElem?_concat_length
/-- the rounds in order, by their numbers -/
def OrderAt (J : Hp) (ys : List V) (os : List (List Int)) : Prop := ys.length = os.length ∧ ∀ (i : Nat) (y : V), ys[i]? = some y → ∃ (p : Addr) (o : List Int), y = .ref p ∧ J p = some (.tup (o.map V.int)) ∧ os[i]? = some o
theorem OrderAt.keep {J L : Hp} {ys : List V} {os : List (List Int)} (k : Keep J L) (h : OrderAt J ys os) : OrderAt L ys os :=
  ⟨h.1, fun i y e => by
    obtain ⟨p, o, e1, e2, e3⟩ := h.2 i y e
    exact ⟨p, o, e1, k _ _ (fun _ z => nomatch z) e2, e3⟩⟩
theorem zip_len : ∀ {os us : List (List Int)}, os.length = us.length → (List.zipWith (fun o u : List Int => (o.length, u.length)) os us).map Prod.fst = os.map List.length ∧ (List.zipWith (fun o u : List Int => (o.length, u.length)) os us).map Prod.snd = us.map List.length
  | [], [], _ => ⟨rfl, rfl⟩
  | [], _ :: _, h => absurd h (by simp)
  | _ :: _, [], h => absurd h (by simp)
  | o :: os, u :: us, h => by
    obtain ⟨a, b⟩ := zip_len (os := os) (us := us) (by simpa using h)
    exact ⟨by rw [List.zipWith_cons_cons, List.map_cons, a]; rfl, by rw [List.zipWith_cons_cons, List.map_cons, b]; rfl⟩
abbrev nPlay : List Str := ["rule", "askers", "rounds", "asked", "grants", "done", "modes", "pointers", "asking", "granted", "at", "mode", "pointer", "faults"]
section
variable {P : Program} {w : World} {K : PySem.W.Frag} {mg : Str → Option Value} {base : Heap}
theorem scPlayedI : FnScope ["self", "grants", "done", "modes", "pointers", "faults"] ["self", "grants", "done", "modes", "pointers", "faults"] (defScope sPlayedInit) := ⟨rfl, rfl, rfl, by decide +kernel, rfl, by decide +kernel, by decide +kernel⟩
theorem scPlay : FnScope nPlay ["rule", "askers", "rounds"] (defScope sPlay) := ⟨rfl, rfl, rfl, by decide +kernel, rfl, by decide +kernel, by decide +kernel⟩
theorem ok_playedI {C f : Addr} {fd : FuncData} (F : Fun K "__init__" "Played.__init__" sPlayedInit f fd) (R : PlC K C) : FnOk P w K mg base CX0 1 f fd ["self", "grants", "done", "modes", "pointers", "faults"] (spPlayedI C) := by
  refine F.ok scPlayedI (fun vs H Q E h => ?_) (fun cdv A outer s H vs Q E hr h => ?_)
  · obtain ⟨x, dx, a, b, c, d, e, rfl, _⟩ := h
    rfl
  obtain ⟨x, dx, a, b, c, d, e, rfl, hx, q⟩ := h
  refine ⟨_, (pss_cons (ps_fld (pv 0) (pv 1) rfl)
    (pss_cons (ps_fld (pv 0) (pv 2) rfl)
    (pss_cons (ps_fld (pv 0) (pv 3) rfl)
    (pss_cons (ps_fld (pv 0) (pv 4) rfl)
    (pss_one (ps_fld (pv 0) (pv 5) rfl)))))), ?_⟩
  have l1 : putF "grants" a [] = ([("grants", a)] : List (Str × V)) := by kernel_rfl
  have l2 : putF "done" b [("grants", a)] = ([("grants", a), ("done", b)] : List (Str × V)) := by kernel_rfl
  have l3 : putF "modes" c [("grants", a), ("done", b)] = ([("grants", a), ("done", b), ("modes", c)] : List (Str × V)) := by kernel_rfl
  have l4 : putF "pointers" d [("grants", a), ("done", b), ("modes", c)] = ([("grants", a), ("done", b), ("modes", c), ("pointers", d)] : List (Str × V)) := by kernel_rfl
  have l5 : putF "faults" e [("grants", a), ("done", b), ("modes", c), ("pointers", d)] = playFs a b c d e := by kernel_rfl
  refine ⟨_, rfl, _, rfl, x, C, dx, [], rfl, hx, R.cl, R.n0, (by show 0 < 1000; decide), ?_⟩
  rw [l1]
  refine ⟨_, rfl, _, rfl, x, C, dx, _, rfl, upd_same, R.cl, R.n1, (by show 1 < 1000; decide), ?_⟩
  rw [l2, upd_upd]
  refine ⟨_, rfl, _, rfl, x, C, dx, _, rfl, upd_same, R.cl, R.n2, (by show 2 < 1000; decide), ?_⟩
  rw [l3, upd_upd]
  refine ⟨_, rfl, _, rfl, x, C, dx, _, rfl, upd_same, R.cl, R.n3, (by show 3 < 1000; decide), ?_⟩
  rw [l4, upd_upd]
  refine ⟨_, rfl, _, rfl, x, C, dx, _, rfl, upd_same, R.cl, R.n4, (by show 4 < 1000; decide), ?_⟩
  rw [l5, upd_upd]
  exact q
end
end LT
namespace LT
open PySem L2
/-- what play tells -/
structure PlayedAt (J : Hp) (CP x : Addr) (rows : List Row5) (first : Str) (rs : List (List Int)) : Prop where
  ex : ∃ (os us : List (List Int)) (gs : List V) (dx t1 t2 t3 t4 t5 : Addr), os.length = rs.length ∧ (∀ (i : Nat) (o : List Int), os[i]? = some o → ∃ ns, rs[i]? = some ns ∧ o.Perm ns ∧ o.Pairwise (· ≤ ·)) ∧ J x = some (.ins CP dx (playFs (.ref t1) (.ref t2) (.ref t3) (.ref t4) (.ref t5))) ∧
    J t1 = some (.tup gs) ∧ GrantsAt J gs us (grantsAt rows first os) rs.length ∧ J t2 = some (.tup ((List.range rs.length).map (doneAt rows first os))) ∧ J t3 = some (.tup ((List.range (rs.length + 1)).map fun i => V.str (stAt rows first os i).1)) ∧
    J t4 = some (.tup ((List.range (rs.length + 1)).map fun i => ptrV (stAt rows first os i).2)) ∧ J t5 = some (.tup (faultsV (List.zipWith (fun o u : List Int => (o.length, u.length)) os us)))
def spPlay (K : PySem.W.Frag) (T : L3.TabL) (C CR CP : Addr) : Sp := fun vs H Q _ => ∃ (a r dx : Addr) (askers : Int) (xs : List V) (rs : List (List Int)) (rows : List Row5) (first : Str) (fs : List (Str × V)), vs = [.ref a, .int askers, .ref r] ∧ RowsAt K C CR H a rows ∧ rows.length < 60 ∧
  H a = some (.ins CR dx fs) ∧ fs.lookup ("first" : Str) = some (V.str first) ∧ (SqL K H r xs ∨ SqT K H r xs) ∧ xs.length ≤ 900 ∧ RoundsAt K askers H xs rs ∧ LamX.Tabs T H ∧ ∀ (x : Addr) (J : Hp), L3.SameN T H J → H x = none → PlayedAt J CP x rows first rs → Q (.ref x) J
/-- the lambda that play hands on -/
def playLam : Arguments × Expr × Scope := match defBody sPlay with
  | .Assign _ (.Call _ [_, .Lambda a b c _] _ _) _ :: _ => (a, b, c)
  | _ => default
theorem lamFr : NdefX.ndefB (defScope sPlay) playLam.2.2 ["askers"] = true := by decide +kernel
theorem nsLam : NdefX.NScope ["asking", "askers"] ["asking"] ["askers"] playLam.2.2 := NdefX.nscope_by (by decide +kernel)
theorem RowsAt.monoX {K : PySem.W.Frag} {C CR : Addr} {H J : Hp} {a : Addr} {rows : List Row5} (s : L3.Ex H J) (h : RowsAt K C CR H a rows) : RowsAt K C CR J a rows := by
  obtain ⟨dx, tp, fs, xs, h1, h2, h3, h4, h5⟩ := h.ex
  exact ⟨dx, tp, fs, xs, s _ _ h1, h2, s.seqT h3, h4, fun i x e => by
    obtain ⟨b, r, e1, e2, ⟨⟨dy, e3⟩, e4⟩, e5⟩ := h5 i x e
    exact ⟨b, r, e1, e2, ⟨⟨dy, s _ _ e3⟩, e4⟩, e5⟩⟩
theorem RowsAt.mono {K : PySem.W.Frag} {C CR : Addr} {H J : Hp} {a : Addr} {rows : List Row5} (s : Same H J) (h : RowsAt K C CR H a rows) : RowsAt K C CR J a rows := h.monoX (L3.exOf s)
section
variable {P : Program} {w : World} {K : PySem.W.Frag} {mg : Str → Option Value} {base : Heap}
/-- the lambda's body -/
theorem lam_round {h : Addr} {hd : FuncData} {q : Str} {cl : List (Str × Addr)} {c' : Addr}
    (Gr : FnOk P w K mg base CX0 3 h hd ["value", "askers"] (spIsRound K)) (bR : Binds K hd ["value", "askers"] []) (kR : PySem.W.keepIn K (.ref h) = true) (mR : mg "is_round" = some (.ref h)) :
    L3.LamFn P w K mg base CX0 4 ⟨"<lambda>", q, playLam.1, [], playLam.2.2, cl, c'⟩ playLam.2.1 ["asking"] ["askers"] (spLamRound K) := by
  refine L3.lamfn_of nsLam (fun pm ctv us hl => ?_) (fun ws vs H Q E h => ?_) fun A outer s H f vs ws Q E hr hw h => ?_
  · match us, hl with
    | [_], _ => rfl
  · obtain ⟨x, n, _, rfl, _⟩ := h
    rfl
  obtain ⟨x, n, rfl, rfl, h⟩ := h
  refine ⟨_, pe_call Gr hr (by rfl) mR kR bR .nil pass0 (pa_cons (pv 0) (pa_cons (pv 1) pa_nil)), ?_⟩
  exact ⟨_, rfl, _, rfl, h⟩
theorem ok_play {TL : L3.TabL} {cP tP : Addr} {C CR CP f fa fp ff g fr : Addr} {da dp df gd dr : FuncData} {oc kV doc pm ct : Value} {od an : Option Addr} {osl : Array (Option Value)}
    (lk : K.lookup f = some ⟨oc, od, .func (PySem.W.fnOf "play" "play" (defArgs sPlay) (defBody sPlay) (defScope sPlay) .none kV doc pm an (.ref cP) ct), osl⟩) (hcd : PySem.W.codeIn K (.ref cP) "play" = true) (T : Blt mg) (Z4 : Blt4 mg) (RC : RuleC K CR) (nf : NoAttr K CR "first")
    (TB : LamX.TabB base mg cP tP) (hTL : TL = [(tP, ("play.<locals>.<lambda>" : Str))])
    (Gs : FnOk P w K mg base CX0 1 g gd ["value"] (spSeq K)) (bS : Binds K gd ["value"] []) (kS : PySem.W.keepIn K (.ref g) = true) (mS : mg "is_sequence" = some (.ref g))
    (Gr : FnOk P w K mg base CX0 3 fr dr ["value", "askers"] (spIsRound K)) (bR : Binds K dr ["value", "askers"] []) (kR : PySem.W.keepIn K (.ref fr) = true) (mR : mg "is_round" = some (.ref fr))
    (Fa : Fun K "ascending_rounds" "ascending_rounds" sAscending fa da) (bA : Binds K da ["rounds", "is_right"] []) (mA : mg "ascending_rounds" = some (.ref fa))
    (Gp : FnOk P w K mg base CX0 3 fp dp ["rule", "mode", "pointer", "asking"] (spPlayRound K C CR)) (bP : Binds K dp ["rule", "mode", "pointer", "asking"] []) (kP : PySem.W.keepIn K (.ref fp) = true) (mP : mg "play_round" = some (.ref fp))
    (Gf : FnOk P w K mg base CX0 2 ff df ["asked", "grants"] (spFaults K)) (bF : Binds K df ["asked", "grants"] []) (kF : PySem.W.keepIn K (.ref ff) = true) (mF : mg "faults_of" = some (.ref ff))
    {gi : Addr} {di : FuncData} (M : Mk K CP gi) (GI : FnOk P w K mg base CX0 1 gi di ["self", "grants", "done", "modes", "pointers", "faults"] (spPlayedI CP)) (bI : Binds K di ["self", "grants", "done", "modes", "pointers", "faults"] []) (mI : mg "Played" = some (.ref CP)) :
    FnOk P w K mg base CX0 6 f (PySem.W.fnOf "play" "play" (defArgs sPlay) (defBody sPlay) (defScope sPlay) .none kV doc pm an (.ref cP) ct) ["rule", "askers", "rounds"] (spPlay K TL C CR CP) := by
  have len : ∀ (vs : List V) (H : Hp) (Q : VK) (E : XK), spPlay K TL C CR CP vs H Q E → vs.length = 3 := fun vs H Q E h => by
    obtain ⟨a, r, dx, n, xs, rs, rows, first, fs, rfl, _⟩ := h
    rfl
  refine ⟨len, fun A outer s H args us vs Q E hr0 e0 hb rv h => LamX.run_ofS (k := 5) (CX := CX0) (N := nPlay) lk hcd scPlay hr0 e0 hb rv (len _ _ _ _ h) fun hr => ?_⟩
  obtain ⟨a, r, dx, n, xs, rs, rows, first, fs, rfl, hrows0, h60, ha0, hf, hq, hz, hR, hT, q⟩ := h
  obtain ⟨oc2, od2, kV2, doc2, pm2, an2, cd2, ct2, osl2, rfl, lkA, hcA⟩ := Fa.ex
  have hr3 : Room 3 _ := hr.mono (by decide)
  have hr2 : Room 2 _ := hr.mono (by decide)
  suffices hN : ∃ t, PSs (cxOf CX0 P w K mg base nPlay "play" (defScope sPlay) f (.ref cP) A outer s H E).nox (defBody sPlay) t ∧ t { nx := fun _ H' => Q .non H', rt := Q } (L2.start nPlay [.ref a, .int n, .ref r]) H by
    obtain ⟨t, a, b⟩ := hN
    exact ⟨t, a.nox, b⟩
  refine ⟨_, (pss_cons (ps_set (i := 3) scPlay.nd rfl (Or.inl rfl) (L3.pe_give (T := TL) (CX := CX0) (k := 4) (fr := ["askers"]) (js := [1]) (E := fun _ _ _ => False) (sp := spAscending K) (params := playLam.1) (body := playLam.2.1) (scope := playLam.2.2) (by rfl) mA Fa.kp lkA hcA bA scAscending rfl (pv 2) pass0 TB rfl
      (by rw [hTL]; exact List.mem_singleton.mpr rfl) (fun p hp _ => by rw [hTL] at hp; rw [List.mem_singleton.mp hp]; rfl) hr (NdefX.ndef_free lamFr) (NdefX.ndef_fr lamFr) rfl rfl
      (fun v s H f c' ws Q hr4 hw GV hc h => asc_body Z4 T Gs bS kS mS (lam_round Gr bR kR mR) hr4 GV hc h)))
    (pss_cons (ps_set (i := 4) scPlay.nd rfl (Or.inl rfl) (pe_lst pa_nil))
    (pss_cons (ps_set (i := 5) scPlay.nd rfl (Or.inl rfl) (pe_lst pa_nil))
    (pss_cons (ps_set (i := 6) scPlay.nd rfl (Or.inl rfl) (pe_lst (pa_cons (pe_fld (pv 0) rfl) pa_nil)))
    (pss_cons (ps_set (i := 7) scPlay.nd rfl (Or.inl rfl) (pe_lst (pa_cons pe_non pa_nil)))
    (pss_cons (ps_for PassesOwn.never rfl (pi_list (pv 3)) (pg_name (i := 8) scPlay.nd rfl (Or.inl rfl))
    (pss_cons (ps_asg (pe_call Gp hr3 (by rfl) mP kP bP .nil pass0 (pa_cons (pv 0) (pa_cons (pe_ix ix_list (pv 6) (pe_un un_neg pe_int) (fun _ _ => rfl)) (pa_cons (pe_ix ix_list (pv 7) (pe_un un_neg pe_int) (fun _ _ => rfl)) (pa_cons (pv 8) pa_nil))))) (pg_tup rfl (pgs_cons (pg_name (i := 9) scPlay.nd rfl (Or.inl rfl)) (pgs_cons (pg_name (i := 10) scPlay.nd rfl (Or.inl rfl)) (pgs_cons (pg_name (i := 11) scPlay.nd rfl (Or.inl rfl)) (pgs_cons (pg_name (i := 12) scPlay.nd rfl (Or.inl rfl)) pgs_nil))))))
      (pss_cons (ps_expr (pe_bm PySem.F.plainAttrs_list PySem.F.slot_list_append PySem.F.type_list_append mt_append (pv 4) (pa_cons (pv 9) pa_nil)))
      (pss_cons (ps_expr (pe_bm PySem.F.plainAttrs_list PySem.F.slot_list_append PySem.F.type_list_append mt_append (pv 5) (pa_cons (pv 10) pa_nil)))
      (pss_cons (ps_expr (pe_bm PySem.F.plainAttrs_list PySem.F.slot_list_append PySem.F.type_list_append mt_append (pv 6) (pa_cons (pv 11) pa_nil)))
      (pss_one (ps_expr (pe_bm PySem.F.plainAttrs_list PySem.F.slot_list_append PySem.F.type_list_append mt_append (pv 7) (pa_cons (pv 12) pa_nil)))))))))
    (pss_cons (ps_set (i := 13) scPlay.nd rfl (Or.inl rfl) (pe_call Gf hr2 (by rfl) mF kF bF .nil pass0 (pa_cons (pv 3) (pa_cons (pv 4) pa_nil))))
    (pss_one (ps_ret (pe_make M GI hr2 (by rfl) mI bI .nil pass0 (pa_cons (pe_callTy call_tuple_of (by rfl) T.tuple (by decide +kernel) (pa_cons (pv 4) pa_nil)) (pa_cons (pe_callTy call_tuple_of (by rfl) T.tuple (by decide +kernel) (pa_cons (pv 5) pa_nil)) (pa_cons (pe_callTy call_tuple_of (by rfl) T.tuple (by decide +kernel) (pa_cons (pv 6) pa_nil)) (pa_cons (pe_callTy call_tuple_of (by rfl) T.tuple (by decide +kernel) (pa_cons (pv 7) pa_nil)) (pa_cons (pv 13) pa_nil))))))))))))))), ?_⟩
  refine ⟨_, rfl, hT, fun B sB => ?_⟩
  have hrows := hrows0.monoX sB.ex
  have ha := sB _ _ ha0
  refine ⟨r, xs, rs, n, rfl, rfl, hq.elim (fun z => .inl (sB.seq z)) (fun z => .inr (sB.seqT z)), by omega, hR.monoX sB.ex, fun as ys J0 s0 nas has hS => ?_⟩
  obtain ⟨os, los, hos⟩ := choose_list (R := fun (i : Nat) (y : V) (o : List Int) => ∃ (p : Addr) (ns : List Int), y = .ref p ∧ J0 p = some (.tup (o.map V.int)) ∧ rs[i]? = some ns ∧ o.Perm ns ∧ o.Pairwise (· ≤ ·)) ys 0 fun i y e => by
    obtain ⟨p, o, ns, e1, e2, e3, e4, e5⟩ := hS.2 i y e
    exact ⟨o, p, ns, e1, e2, by rw [Nat.zero_add]; exact e3, e4, e5⟩
  have ln : os.length = rs.length := by rw [los, hS.1]
  have lys : ys.length = rs.length := hS.1
  have ord0 : OrderAt J0 ys os := ⟨los.symm, fun i y e => by
    obtain ⟨o, e0, p, ns, e1, e2, _⟩ := hos i y e
    exact ⟨p, o, e1, e2, e0⟩⟩
  have ordP : ∀ (i : Nat) (o : List Int), os[i]? = some o → ∃ ns, rs[i]? = some ns ∧ o.Perm ns ∧ o.Pairwise (· ≤ ·) := fun i o e => by
    have hi : i < ys.length := by
      rw [← los]
      exact (List.getElem?_eq_some_iff.mp e).1
    obtain ⟨o', e0, p, ns, e1, e2, e3, e4, e5⟩ := hos i ys[i] (List.getElem?_eq_getElem hi)
    rw [e] at e0
    cases e0
    exact ⟨ns, by rw [Nat.zero_add] at e3; exact e3, e4, e5⟩
  refine ⟨(by show 0 ≤ sizeLine; decide), fun gl ngl => ⟨(by show 0 ≤ sizeLine; decide), fun dl ndl => ⟨_, rfl, a, CR, dx, fs, _, rfl, ?_, RC.cl, nf, hf, (by show 1 ≤ sizeLine; decide), fun ml nml => ⟨(by show 1 ≤ sizeLine; decide), fun pl npl => ?_⟩⟩⟩⟩
  · exact new_same ndl _ _ _ (new_same ngl _ _ _ (s0 _ _ ha))
  have d1 : dl ≠ gl := fun z => by rw [z, upd_same] at ndl; cases ndl
  have d2 : ml ≠ dl := fun z => by rw [z, upd_same] at nml; cases nml
  have d3 : ml ≠ gl := fun z => by rw [z, upd_ne (Ne.symm d1), upd_same] at nml; cases nml
  have d4 : pl ≠ ml := fun z => by rw [z, upd_same] at npl; cases npl
  have d5 : pl ≠ dl := fun z => by rw [z, upd_ne (Ne.symm d2), upd_same] at npl; cases npl
  have d6 : pl ≠ gl := fun z => by rw [z, upd_ne (Ne.symm d3), upd_ne (Ne.symm d1), upd_same] at npl; cases npl
  have a1 : as ≠ gl := fun z => by rw [← z, has] at ngl; cases ngl
  have e1 := new_same ngl (.lst [])
  have e2 := e1.trans (new_same ndl (.lst []))
  have e3 := e2.trans (new_same nml (.lst [V.str first]))
  have e4 := e3.trans (new_same npl (.lst [V.non]))
  have a2 : as ≠ dl := fun z => by rw [← z, e1 _ _ has] at ndl; cases ndl
  have a3 : as ≠ ml := fun z => by rw [← z, e2 _ _ has] at nml; cases nml
  have a4 : as ≠ pl := fun z => by rw [← z, e3 _ _ has] at npl; cases npl
  have fg : B gl = none := s0.free ngl
  have fdl : B dl = none := (s0.trans e1).free ndl
  have fml : B ml = none := (s0.trans e2).free nml
  have fpl : B pl = none := (s0.trans e3).free npl
  let Pv : Nat → L2.St → Hp → Prop := fun i σ J => ∃ w8 w9 wa wb wc wd, σ = [some (.ref a), some (.int n), some (.ref r), some (.ref as), some (.ref gl), some (.ref dl), some (.ref ml), some (.ref pl), w8, w9, wa, wb, wc, wd] ∧ Same B J ∧ J as = some (.lst ys) ∧ OrderAt J ys os ∧
    ∃ gs us, J gl = some (.lst gs) ∧ GrantsAt J gs us (grantsAt rows first os) i ∧ J dl = some (.lst ((List.range i).map (doneAt rows first os))) ∧ J ml = some (.lst ((List.range (i + 1)).map fun i => V.str (stAt rows first os i).1)) ∧ J pl = some (.lst ((List.range (i + 1)).map fun i => ptrV (stAt rows first os i).2))
  refine ⟨_, rfl, as, rfl, ⟨ys, SqL.of (e4 _ _ has)⟩, for_list (K := K) (a := as) (xs := ys) Pv ?_ (fun i σ J _ ⟨_, _, _, _, _, _, _, _, z, _⟩ => SqL.of z) ?_ ?_⟩
  · refine ⟨none, none, none, none, none, none, rfl, s0.trans e4, e4 _ _ has, ⟨ord0.1, fun i y e => ?_⟩, [], [], ?_, ⟨rfl, rfl, fun j v e => nomatch e⟩, ?_, ?_, ?_⟩
    · obtain ⟨p, o, q1, q2, q3⟩ := ord0.2 i y e
      exact ⟨p, o, q1, e4 _ _ q2, q3⟩
    · rw [upd_ne (Ne.symm d6), upd_ne (Ne.symm d3), upd_ne (Ne.symm d1), upd_same]
    · rw [upd_ne (Ne.symm d5), upd_ne (Ne.symm d2), upd_same]
      rfl
    · rw [upd_ne (Ne.symm d4), upd_same]
      rfl
    · rw [upd_same]
      rfl
  · rintro i x σ J hx ⟨w8, w9, wa, wb, wc, wd, rfl, sJ, jas, jo, gs, us, jg, ga, jd, jm, jp⟩
    obtain ⟨p, o, rfl, hp, ho⟩ := jo.2 i x hx
    have hi : i < ys.length := (List.getElem?_eq_some_iff.mp hx).1
    have em : ((List.range (i + 1)).map fun i => V.str (stAt rows first os i).1) = ((List.range i).map fun i => V.str (stAt rows first os i).1) ++ [V.str (stAt rows first os i).1] := by rw [List.range_succ, List.map_append, List.map_singleton]
    have ep : ((List.range (i + 1)).map fun i => ptrV (stAt rows first os i).2) = ((List.range i).map fun i => ptrV (stAt rows first os i).2) ++ [ptrV (stAt rows first os i).2] := by rw [List.range_succ, List.map_append, List.map_singleton]
    have lastM : atI ((List.range (i + 1)).map fun i => V.str (stAt rows first os i).1) (-1) = some (V.str (stAt rows first os i).1) := by rw [em]; exact L2.atI_last _ _
    have lastP : atI ((List.range (i + 1)).map fun i => ptrV (stAt rows first os i).2) (-1) = some (ptrV (stAt rows first os i).2) := by rw [ep]; exact L2.atI_last _ _
    refine ⟨_, rfl, _, rfl, _, rfl, ml, _, _, _, rfl, rfl, SqL.of jm, lastM, _, rfl, _, rfl, pl, _, _, _, rfl, rfl, SqL.of jp, lastP, _, rfl, a, p, _, _, rows, o, rfl, hrows.mono sJ, h60, SqT.of hp, fun t g out J1 s1 nt ng jt jtg pw mem => ?_⟩
    have sN := st_next (rows := rows) (first := first) ho
    have dN : doneAt rows first os i = doneV (endDone rows (stAt rows first os i).1 (stAt rows first os i).2 o) := by unfold doneAt; rw [ho]
    have gN : grantsAt rows first os i = endGrants rows (stAt rows first os i).1 (stAt rows first os i).2 o := by unfold grantsAt; rw [ho]
    refine ⟨t, _, rfl, SqT.of jt, rfl, _, _, rfl, _, _, rfl, _, _, rfl, _, _, rfl, rfl, ?_⟩
    have s2 := sJ.trans s1
    have jg1 := s1 _ _ jg
    have jd1 := s1 _ _ jd
    have jm1 := s1 _ _ jm
    have jp1 := s1 _ _ jp
    have ga1 := (ga.keep (fun c o _ e => s1 c o e)).add jtg pw (fun k => by rw [gN]; exact mem k)
    have small : ∀ n, n ≤ 901 → n < sizeLine := fun n h => small1000 (by omega)
    have k0 := lys
    have k1 : xs.length = rs.length := hR.1
    refine ⟨_, rfl, .inl ⟨rfl, _, SqL.of jg1⟩, _, rfl, gl, _, _, rfl, rfl, jg1, small _ (by rw [ga.1]; omega), ?_⟩
    have jd2 : upd J1 gl (.lst (gs ++ [V.ref g])) dl = some (.lst ((List.range i).map (doneAt rows first os))) := by rw [upd_ne d1]; exact jd1
    refine ⟨_, rfl, .inl ⟨rfl, _, SqL.of jd2⟩, _, rfl, dl, _, _, rfl, rfl, jd2, small _ (by rw [List.length_map, List.length_range]; omega), ?_⟩
    have jm2 : upd (upd J1 gl (.lst (gs ++ [V.ref g]))) dl (.lst ((List.range i).map (doneAt rows first os) ++ [doneV (endDone rows (stAt rows first os i).1 (stAt rows first os i).2 o)])) ml = some (.lst ((List.range (i + 1)).map fun i => V.str (stAt rows first os i).1)) := by
      rw [upd_ne d2, upd_ne d3]
      exact jm1
    refine ⟨_, rfl, .inl ⟨rfl, _, SqL.of jm2⟩, _, rfl, ml, _, _, rfl, rfl, jm2, small _ (by rw [List.length_map, List.length_range]; omega), ?_⟩
    generalize hJ2 : upd (upd J1 gl (.lst (gs ++ [V.ref g]))) dl (.lst ((List.range i).map (doneAt rows first os) ++ [doneV (endDone rows (stAt rows first os i).1 (stAt rows first os i).2 o)])) = J2 at jm2 ⊢
    have f2 : ∀ c, c ≠ gl → c ≠ dl → J2 c = J1 c := fun c h1 h2 => by rw [← hJ2, upd_ne h2, upd_ne h1]
    have g2 : J2 gl = some (.lst (gs ++ [V.ref g])) := by rw [← hJ2, upd_ne (Ne.symm d1), upd_same]
    have dd2 : J2 dl = some (.lst ((List.range (i + 1)).map (doneAt rows first os))) := by rw [← hJ2, upd_same, List.range_succ, List.map_append, List.map_singleton, dN]
    have jp3 : upd J2 ml (.lst (((List.range (i + 1)).map fun i => V.str (stAt rows first os i).1) ++ [V.str (endMode rows (stAt rows first os i).1 (stAt rows first os i).2 o)])) pl = some (.lst ((List.range (i + 1)).map fun i => ptrV (stAt rows first os i).2)) := by
      rw [upd_ne d4, f2 _ d6 d5]
      exact jp1
    refine ⟨_, rfl, .inl ⟨rfl, _, SqL.of jp3⟩, _, rfl, pl, _, _, rfl, rfl, jp3, small _ (by rw [List.length_map, List.length_range]; omega), ?_⟩
    have kp : Keep J1 (upd (upd J2 ml (.lst (((List.range (i + 1)).map fun i => V.str (stAt rows first os i).1) ++ [V.str (endMode rows (stAt rows first os i).1 (stAt rows first os i).2 o)]))) pl (.lst (((List.range (i + 1)).map fun i => ptrV (stAt rows first os i).2) ++ [ptrV (endPtr rows (stAt rows first os i).1 (stAt rows first os i).2 o)]))) := fun c u no e => by
      have n1 : c ≠ gl := fun z => by rw [z, jg1] at e; exact no _ (Option.some.inj e).symm
      have n2 : c ≠ dl := fun z => by rw [z, jd1] at e; exact no _ (Option.some.inj e).symm
      have n3 : c ≠ ml := fun z => by rw [z, jm1] at e; exact no _ (Option.some.inj e).symm
      have n4 : c ≠ pl := fun z => by rw [z, jp1] at e; exact no _ (Option.some.inj e).symm
      rw [upd_ne n4, upd_ne n3, f2 _ n1 n2]
      exact e
    refine ⟨_, _, _, _, _, _, rfl, fun c u e => ?_, ?_, (jo.keep (fun c o _ e => s1 c o e)).keep kp, gs ++ [V.ref g], us ++ [out], ?_, ga1.keep kp, ?_, ?_, ?_⟩
    · rw [upd_ne (ne_of_none e fpl), upd_ne (ne_of_none e fml), f2 _ (ne_of_none e fg) (ne_of_none e fdl)]
      exact s2 c u e
    · rw [upd_ne a4, upd_ne a3, f2 _ a1 a2]
      exact s1 _ _ jas
    · rw [upd_ne (Ne.symm d6), upd_ne (Ne.symm d3)]
      exact g2
    · rw [upd_ne (Ne.symm d5), upd_ne (Ne.symm d2)]
      exact dd2
    · rw [upd_ne (Ne.symm d4), upd_same, List.range_succ (n := i + 1), List.map_append, List.map_singleton, sN]
    · rw [upd_same, List.range_succ (n := i + 1), List.map_append, List.map_singleton, sN]
  · rintro σ J ⟨w8, w9, wa, wb, wc, wd, rfl, sJ, jas, jo, gs, us, jg, ga, jd, jm, jp⟩
    have lu : os.length = us.length := by rw [ln, ga.2.1, lys]
    refine ⟨_, rfl, _, rfl, as, gl, ys, gs, List.zipWith (fun o u : List Int => (o.length, u.length)) os us, rfl, SqL.of jas, SqL.of jg, ?_, ?_, ?_, fun t5 J5 s5 n5 j5 => ?_⟩
    · rw [(zip_len lu).1]
      refine ⟨by rw [List.length_map]; exact los.symm, fun i y e => ?_⟩
      obtain ⟨p, o, q1, q2, q3⟩ := jo.2 i y e
      exact ⟨p, o.map V.int, q1, SqT.of q2, by rw [List.getElem?_map, q3, List.length_map]; rfl⟩
    · rw [(zip_len lu).2]
      refine ⟨by rw [List.length_map, ga.1, ga.2.1], fun i y e => ?_⟩
      obtain ⟨p, o, q1, q3, q2, _⟩ := ga.2.2 i y e
      exact ⟨p, o.map V.int, q1, SqT.of q2, by rw [List.getElem?_map, q3, List.length_map]; rfl⟩
    · have k1 : xs.length = rs.length := hR.1
      have k2 : us.length ≤ 1000 := by rw [ga.2.1, lys]; omega
      rw [List.length_zipWith]
      omega
    have sA := sJ.trans s5
    refine ⟨_, rfl, gl, gs, rfl, .inl ⟨SqL.of (s5 _ _ jg), fun t1 n1 => ?_⟩⟩
    have z1 := s5.trans (new_same n1 (.tup gs))
    refine ⟨_, rfl, dl, _, rfl, .inl ⟨SqL.of (z1 _ _ jd), fun t2 n2 => ?_⟩⟩
    have z2 := z1.trans (new_same n2 (.tup ((List.range ys.length).map (doneAt rows first os))))
    refine ⟨_, rfl, ml, _, rfl, .inl ⟨SqL.of (z2 _ _ jm), fun t3 n3 => ?_⟩⟩
    have z3 := z2.trans (new_same n3 (.tup ((List.range (ys.length + 1)).map fun i => V.str (stAt rows first os i).1)))
    refine ⟨_, rfl, pl, _, rfl, .inl ⟨SqL.of (z3 _ _ jp), fun t4 n4 => ?_⟩⟩
    have z4 := z3.trans (new_same n4 (.tup ((List.range (ys.length + 1)).map fun i => ptrV (stAt rows first os i).2)))
    refine ⟨_, rfl, fun x dx nx ndx ne => ?_⟩
    refine ⟨x, dx, .ref t1, .ref t2, .ref t3, .ref t4, .ref t5, rfl, upd_same, rfl, ?_⟩
    rw [upd_upd]
    rw [lys] at ga z2 n3 z3 n4 z4 ndx nx ⊢
    have q2 := new_same n2 (.tup ((List.range rs.length).map (doneAt rows first os)))
    have q3 := new_same n3 (.tup ((List.range (rs.length + 1)).map fun i => V.str (stAt rows first os i).1))
    have q4 := new_same n4 (.tup ((List.range (rs.length + 1)).map fun i => ptrV (stAt rows first os i).2))
    have q5 := new_same ndx (.own x)
    have nx' : (upd (upd (upd (upd (upd J5 t1 (.tup gs)) t2 (.tup ((List.range rs.length).map (doneAt rows first os)))) t3 (.tup ((List.range (rs.length + 1)).map fun i => V.str (stAt rows first os i).1))) t4 (.tup ((List.range (rs.length + 1)).map fun i => ptrV (stAt rows first os i).2))) dx (.own x)) x = none := by
      rw [upd_ne (Ne.symm ne)]
      exact nx
    have q6 := new_same nx' (.ins CP dx (playFs (.ref t1) (.ref t2) (.ref t3) (.ref t4) (.ref t5)))
    have r4 := q5.trans q6
    have r3 := q4.trans r4
    have r2 := q3.trans r3
    have r1 := q2.trans r2
    have z5 := z4.trans q5
    have z6 := z5.trans q6
    exact q x _ (sB.on (sJ.trans z6)) (sB.free ((sJ.trans z5).free nx')) ⟨os, us, gs, dx, t1, t2, t3, t4, t5, ln, ordP, upd_same, r1 _ _ upd_same, ga.keep (fun c o _ e => z6 c o e), r2 _ _ upd_same, r3 _ _ upd_same, r4 _ _ upd_same, ((new_same n1 (.tup gs)).trans (r1)) _ _ j5⟩
end
end LT
namespace LT
open PySem L2
/-- one list of ints only is sorted and has these elements -/
theorem sorted_one : ∀ {a b : List Int}, a.Pairwise (· ≤ ·) → b.Pairwise (· ≤ ·) → a.Perm b → a = b
  | [], [], _, _, _ => rfl
  | [], _ :: _, _, _, p => absurd p.length_eq (by simp)
  | _ :: _, [], _, _, p => absurd p.length_eq (by simp)
  | x :: a, y :: b, ha, hb, p => by
    obtain ⟨a1, a2⟩ := List.pairwise_cons.mp ha
    obtain ⟨b1, b2⟩ := List.pairwise_cons.mp hb
    have e : x = y := by
      rcases List.mem_cons.mp (p.mem_iff.mp List.mem_cons_self) with z | z
      · exact z
      rcases List.mem_cons.mp (p.mem_iff.mpr List.mem_cons_self) with u | u
      · exact u.symm
      have h1 := b1 _ z
      have h2 := a1 _ u
      omega
    subst e
    rw [sorted_one a2 b2 p.cons_inv]
/-- a growing list of ints is one only, by its members -/
theorem lt_pairwise_one : ∀ {a b : List Int}, a.Pairwise (· < ·) → b.Pairwise (· < ·) → (∀ k, k ∈ a ↔ k ∈ b) → a = b
  | [], [], _, _, _ => rfl
  | [], y :: _, _, _, m => absurd ((m y).mpr List.mem_cons_self) (by simp)
  | x :: _, [], _, _, m => absurd ((m x).mp List.mem_cons_self) (by simp)
  | x :: a, y :: b, ha, hb, m => by
    obtain ⟨a1, a2⟩ := List.pairwise_cons.mp ha
    obtain ⟨b1, b2⟩ := List.pairwise_cons.mp hb
    have e : x = y := by
      rcases List.mem_cons.mp ((m x).mp List.mem_cons_self) with z | z
      · exact z
      rcases List.mem_cons.mp ((m y).mpr List.mem_cons_self) with u | u
      · exact u.symm
      have h1 := b1 _ z
      have h2 := a1 _ u
      omega
    subst e
    rw [lt_pairwise_one a2 b2 fun k => ⟨fun z => ?_, fun z => ?_⟩]
    · rcases List.mem_cons.mp ((m k).mp (List.mem_cons_of_mem _ z)) with u | u
      · have := a1 _ z
        omega
      · exact u
    · rcases List.mem_cons.mp ((m k).mpr (List.mem_cons_of_mem _ z)) with u | u
      · have := b1 _ z
        omega
      · exact u
end LT
namespace LT
open PySem L2
/-- an own error's making: one attribute named by x -/
def spErrA (C : Addr) (x : Str) : Sp := fun vs H Q _ => ∃ (a : Addr) (v : V), vs = [.ref a, v] ∧ H a = some (exo a C none) ∧
  ∀ dx, H dx = none → dx ≠ a → Q .non (upd (upd H dx (exd dx [(x, v)])) a (exo a C (some dx)))
section
variable {P : Program} {w : World} {K : PySem.W.Frag} {mg : Str → Option Value} {base : Heap}
theorem scErrW : FnScope ["self", "word"] ["self", "word"] (defScope sRuleErrI) := ⟨rfl, rfl, rfl, by decide +kernel, rfl, by decide +kernel, by decide +kernel⟩
theorem ok_errRule {C f : Addr} {fd : FuncData} {q : Str} (F : Fun K "__init__" q sRuleErrI f fd) (T : OexC K C) (no : PySem.W.findIn K (.ref C) "word" = some none) : FnOk P w K mg base CX0 1 f fd ["self", "word"] (spErrA C "word") := by
  refine F.ok scErrW (fun vs H Q E h => ?_) (fun cdv A outer s H vs Q E hr h => ?_)
  · obtain ⟨a, v, rfl, _⟩ := h
    rfl
  obtain ⟨a, v, rfl, ha, q⟩ := h
  refine ⟨_, pss_one (ps_ost (pv 0) (pv 1)), ?_⟩
  exact ⟨_, rfl, _, rfl, a, C, rfl, T, no, .inl ⟨ha, q⟩⟩
theorem scErrT : FnScope ["self", "at"] ["self", "at"] (defScope sTextErrI) := ⟨rfl, rfl, rfl, by decide +kernel, rfl, by decide +kernel, by decide +kernel⟩
theorem ok_errText {C f : Addr} {fd : FuncData} {q : Str} (F : Fun K "__init__" q sTextErrI f fd) (T : OexC K C) (no : PySem.W.findIn K (.ref C) "at" = some none) : FnOk P w K mg base CX0 1 f fd ["self", "at"] (spErrA C "at") := by
  refine F.ok scErrT (fun vs H Q E h => ?_) (fun cdv A outer s H vs Q E hr h => ?_)
  · obtain ⟨a, v, rfl, _⟩ := h
    rfl
  obtain ⟨a, v, rfl, ha, q⟩ := h
  refine ⟨_, pss_one (ps_ost (pv 0) (pv 1)), ?_⟩
  exact ⟨_, rfl, _, rfl, a, C, rfl, T, no, .inl ⟨ha, q⟩⟩
/-- the heap behind a made error: its own dict stands at d -/
theorem del_at {H : Hp} {a d C : Addr} {fs : List (Str × V)} (ha : H a = none) : upd (del (upd (upd (upd H a (exo a C none)) d (exd d fs)) a (exo a C (some d))) a) d (.xd fs) = upd H d (.xd fs) := del_word ha
theorem raise_okA {CE : Addr} {H : Hp} {E : XK} {x : Str} {v : V} {σ : L2.St} {t : TE} (ht : ∀ H1 Q, Q v H1 → t σ H1 Q) (kE : ∀ d, H d = none → E (.ref CE) (some d) (upd H d (.xd [(x, v)]))) :
    tMkO CE (spErrA CE x) [] (tCons t tNil) σ H (fun cls d H' => E cls d H') := by
  refine ht _ _ ⟨(by show 1 ≤ 1000; decide), fun a ha => ⟨a, v, rfl, upd_same, fun dx n ne => ?_⟩⟩
  have hd : H dx = none := by
    rw [upd_ne ne] at n
    exact n
  refine ⟨rfl, dx, [(x, v)], upd_same, by rw [upd_ne ne]; exact upd_same, hd, ?_⟩
  rw [del_word ha]
  exact kE dx hd
end
end LT
namespace LT
open PySem L2
/-- rows in a sequence -/
def RowsIn (C : Addr) (H : Hp) (xs : List V) (rows : List Row5) : Prop := xs.length = rows.length ∧ ∀ (i : Nat) (x : V), xs[i]? = some x → ∃ (b : Addr) (r : Row5), x = .ref b ∧ rows[i]? = some r ∧ (∃ dx, H b = some (.ins C dx r.fs)) ∧ Good r
theorem RowsIn.monoX {C : Addr} {H J : Hp} {xs : List V} {rows : List Row5} (s : L3.Ex H J) (h : RowsIn C H xs rows) : RowsIn C J xs rows :=
  ⟨h.1, fun i x e => by
    obtain ⟨b, r, e1, e2, ⟨dx, e3⟩, g⟩ := h.2 i x e
    exact ⟨b, r, e1, e2, ⟨dx, s _ _ e3⟩, g⟩⟩
theorem RowsIn.mono {C : Addr} {H J : Hp} {xs : List V} {rows : List Row5} (s : Same H J) (h : RowsIn C H xs rows) : RowsIn C J xs rows := h.monoX (L3.exOf s)
theorem seq_ty {K : PySem.W.Frag} {H : Hp} {a : Addr} {xs : List V} (h : Sq K H a xs) : ∃ t, (∀ J, Same H J → TyX K J (.ref a) t) ∧ PySem.W.kitAny K t [.type "list", .type "tuple"] = some true := by
  rcases h with h | h
  · exact ⟨_, fun J s => tyx_seqL (s.seq h), kit_list_seq⟩
  · exact ⟨_, fun J s => tyx_seqT (SqT.ext h s), kit_tuple_seq⟩
/-- what is handed as rows: no sequence, or one whose things are rows or not -/
def spIsRows (K : PySem.W.Frag) (C : Addr) : Sp := fun vs H Q _ => ∃ x : V, vs = [x] ∧
  ((∃ t, (∀ J, Same H J → TyX K J x t) ∧ PySem.W.kitAny K t [.type "list", .type "tuple"] = some false ∧ ∀ J, Same H J → Q (.bl false) J) ∨
   (∃ (a : Addr) (xs : List V) (bs : List Bool), x = .ref a ∧ Sq K H a xs ∧ xs.length ≤ 1000 ∧ xs.length = bs.length ∧
     (∀ (i : Nat) (v : V), xs[i]? = some v → ∃ t b, (∀ J, Same H J → TyX K J v t) ∧ PySem.W.kitOne K t (.ref C) = some b ∧ bs[i]? = some b) ∧ ∀ J, Same H J → Q (.bl (bs.all id)) J))
abbrev nIsRows : List Str := ["value", "thing"]
section
variable {P : Program} {w : World} {K : PySem.W.Frag} {mg : Str → Option Value} {base : Heap}
theorem scIsRows : FnScope nIsRows ["value"] (defScope sIsRows) := ⟨rfl, rfl, rfl, by decide +kernel, rfl, by decide +kernel, by decide +kernel⟩
theorem take_snoc {α : Type} {l : List α} {i : Nat} {x : α} (h : l[i]? = some x) : l.take (i + 1) = l.take i ++ [x] := by
  rw [List.take_add_one, h]
  rfl
theorem ok_isrows {C f g : Addr} {fd gd : FuncData} (F : Fun K "is_row_sequence" "is_row_sequence" sIsRows f fd) (U : Blt2 mg) (zAll : mg "all" = none) (mC : mg "Row" = some (.ref C))
    (Gs : FnOk P w K mg base CX0 1 g gd ["value"] (spSeq K)) (bS : Binds K gd ["value"] []) (kS : PySem.W.keepIn K (.ref g) = true) (mS : mg "is_sequence" = some (.ref g)) :
    FnOk P w K mg base CX0 2 f fd ["value"] (spIsRows K C) := by
  refine F.ok scIsRows (fun vs H Q E h => ?_) (fun cdv A outer s H vs Q E hr h => ?_)
  · obtain ⟨x, rfl, _⟩ := h
    rfl
  obtain ⟨x, rfl, h⟩ := h
  refine ⟨_, pss_one (ps_ret (pe_and (pe_call Gs hr (by rfl) mS kS bS .nil pass0 (pa_cons (pv 0) pa_nil))
    (pe_one (pe_callB (cr_all rfl) (by rfl) zAll (by decide +kernel) (pa_cons (pe_lc (own := [("thing", 1)]) (g := gName 1) (tt := tYes) (by rfl) scIsRows.nd (L2.pi_seq (pv 0)) (blkOk_by (N := nIsRows) (sc := defScope sIsRows) (own := [("thing", 1)]) (by decide +kernel)) (fun _ _ _ _ _ => pg_name (i := 1) scIsRows.nd rfl (Or.inl rfl)) (fun _ _ _ _ _ => pts_nil)
      (fun _ _ _ _ _ => pe_callB (r := rIsi K) call_isi (by rfl) U.isin boot_isin (pa_cons (pv 1) (pa_cons (pe_glob (by rfl) mC (v := .ref C) rfl) pa_nil)))) pa_nil))))), ?_⟩
  rcases h with ⟨t, ty, k1, q⟩ | ⟨a, xs, bs, rfl, hq, hz, hl, hb, q⟩
  · exact ⟨_, rfl, x, t, false, rfl, ty, k1, fun J s => ⟨false, rfl, iteF (q J s)⟩⟩
  · obtain ⟨t, ty, k1⟩ := seq_ty hq
    refine ⟨_, rfl, .ref a, t, true, rfl, ty, k1, fun J s0 => ⟨true, rfl, iteT ?_⟩⟩
    refine ⟨_, rfl, a, rfl, lc_seq (K := K) (a := a) (xs := xs) (hq.mono s0) (fun D i M => Same J M ∧ M D = some (.lst ((bs.take i).map V.bl))) (fun D hD => ⟨new_same hD _, upd_same⟩)
      (fun D i M _ ⟨z, _⟩ => same_both z) (fun D hD i v M hv ⟨z, e⟩ => ?_) (fun D hD M ⟨z, e⟩ => ?_)⟩
    · obtain ⟨tv, b, ty, kb, hb2⟩ := hb i v hv
      have hi : i < xs.length := (List.getElem?_eq_some_iff.mp hv).1
      refine ⟨rfl, _, rfl, v, .ref C, tv, _, b, rfl, .own C, ty M (s0.trans z), kb, _, e, ?_, fun c o h => ?_, ?_⟩
      · rw [List.length_map, List.length_take]
        exact small1000 (by omega)
      · rw [upd_ne (fun q => by rw [q, hD] at h; cases h)]
        exact z c o h
      · rw [upd_same, take_snoc hb2, List.map_append]
        rfl
    · refine ⟨D, bs, rfl, SqL.of ?_, q M (s0.trans z)⟩
      rw [e, hl, List.take_length]
end
end LT
namespace LT
open PySem L2
def namesOf (first : Str) (rows : List Row5) : List Str := first :: rows.flatMap fun r => [r.m, r.t]
theorem names_len (first : Str) (rows : List Row5) : (namesOf first rows).length = 2 * rows.length + 1 := by
  unfold namesOf
  rw [List.length_cons]
  congr 1
  induction rows with
  | nil => rfl
  | cons r rows ih =>
    rw [List.flatMap_cons, List.length_append, ih, List.length_cons (a := r)]
    show 2 + 2 * rows.length = 2 * (rows.length + 1)
    omega
theorem names_snoc {first : Str} {rows : List Row5} {i : Nat} {r : Row5} (h : rows[i]? = some r) : namesOf first (rows.take (i + 1)) = namesOf first (rows.take i) ++ [r.m] ++ [r.t] := by
  unfold namesOf
  rw [take_snoc h, List.flatMap_append]
  simp
theorem once_len (xs : List Str) : (onceOf xs).length ≤ xs.length := by
  have go : ∀ (xs ys : List Str), (xs.foldl put1 ys).length ≤ ys.length + xs.length := fun xs => by
    induction xs with
    | nil => intro ys; simp
    | cons x xs ih =>
      intro ys
      have h1 := ih (put1 ys x)
      have h2 := put1_len (ys := ys) (z := x)
      rw [List.foldl_cons, List.length_cons]
      omega
  have := go xs []
  simpa [onceOf] using this
/-- the modes of a rule -/
structure ModesOf (first : Str) (rows : List Row5) (zs : List Str) : Prop where
  perm : zs.Perm (onceOf (namesOf first rows))
  up : PyProof.Rows.sortedS zs = true
def spModes (K : PySem.W.Frag) (C : Addr) : Sp := fun vs H Q _ => ∃ (first : Str) (a : Addr) (xs : List V) (rows : List Row5), vs = [.str first, .ref a] ∧ Sq K H a xs ∧ RowsIn C H xs rows ∧ rows.length ≤ 31 ∧
  ∀ (zs : List Str) (t : Addr) (J : Hp), Same H J → H t = none → J t = some (.tup (zs.map V.str)) → ModesOf first rows zs → Q (.ref t) J
abbrev nModes : List Str := ["first", "rows", "names", "row"]
section
variable {P : Program} {w : World} {K : PySem.W.Frag} {mg : Str → Option Value} {base : Heap}
theorem scModes : FnScope nModes ["first", "rows"] (defScope sModesOf) := ⟨rfl, rfl, rfl, by decide +kernel, rfl, by decide +kernel, by decide +kernel⟩
theorem ok_modes {C f : Addr} {fd : FuncData} (F : Fun K "modes_of" "modes_of" sModesOf f fd) (T : Blt mg) (Z : Blt4 mg) (R : RowC K mg C) : FnOk P w K mg base CX0 1 f fd ["first", "rows"] (spModes K C) := by
  refine F.ok scModes (fun vs H Q E h => ?_) (fun cdv A outer s H vs Q E hr h => ?_)
  · obtain ⟨first, a, xs, rows, rfl, _⟩ := h
    rfl
  obtain ⟨first, a, xs, rows, rfl, hq, hR, h31, q⟩ := h
  refine ⟨_, (pss_cons (ps_set (i := 2) scModes.nd rfl (Or.inl rfl) (pe_lst (pa_cons (pv 0) pa_nil)))
    (pss_cons (ps_for PassesOwn.never rfl (L2.pi_seq (pv 1)) (pg_name (i := 3) scModes.nd rfl (Or.inl rfl))
      (pss_cons (ps_expr (pe_bm PySem.F.plainAttrs_list PySem.F.slot_list_append PySem.F.type_list_append mt_append (pv 2) (pa_cons (pe_fld (pv 3) rfl) pa_nil)))
      (pss_one (ps_expr (pe_bm PySem.F.plainAttrs_list PySem.F.slot_list_append PySem.F.type_list_append mt_append (pv 2) (pa_cons (pe_fld (pv 3) rfl) pa_nil))))))
    (pss_one (ps_ret (pe_callTy call_tuple_of (by rfl) T.tuple (by decide +kernel) (pa_cons (pe_callB (cr_sortedT rfl) (by rfl) Z.sorted (by decide +kernel) (pa_cons (pe_callTy (cr_setT rfl) (by rfl) Z.set (by decide +kernel) (pa_cons (pv 2) pa_nil)) pa_nil)) pa_nil)))))), ?_⟩
  refine ⟨_, rfl, (by show 1 ≤ sizeLine; decide), fun nl nnl => ?_⟩
  have s0 := new_same nnl (.lst [V.str first])
  have hlen := hR.1
  refine ⟨_, rfl, a, rfl, for_seq (K := K) (a := a) (xs := xs) hq (fun i σ J => ∃ v3, σ = [some (.str first), some (.ref a), some (.ref nl), v3] ∧ Same H J ∧ J nl = some (.lst ((namesOf first (rows.take i)).map V.str)))
    ⟨none, rfl, s0, upd_same⟩ (fun i σ J _ ⟨_, _, z, _⟩ => same_both z) ?_ ?_⟩
  · rintro i x σ J hx ⟨v3, rfl, z, e⟩
    obtain ⟨b, r, rfl, er, ⟨dx, hb⟩, gr⟩ := hR.2 i x hx
    have hi : i < xs.length := (List.getElem?_eq_some_iff.mp hx).1
    have f1 : r.fs.lookup ("mode" : Str) = some (V.str r.m) := by kernel_rfl
    have f4 : r.fs.lookup ("then" : Str) = some (V.str r.t) := by kernel_rfl
    have l0 : ((namesOf first (rows.take i)).map V.str).length ≤ 64 := by
      rw [List.length_map, names_len, List.length_take]
      omega
    have bn : b ≠ nl := fun q => by rw [← q, hb] at nnl; cases nnl
    refine ⟨_, rfl, .inl ⟨rfl, _, SqL.of e⟩, _, rfl, b, C, dx, _, _, rfl, z _ _ hb, R.cl, R.n1, f1, nl, _, _, rfl, rfl, e, small1000 (by omega), ?_⟩
    refine ⟨_, rfl, .inl ⟨rfl, _, SqL.of upd_same⟩, _, rfl, b, C, dx, _, _, rfl, ?_, R.cl, R.n4, f4, nl, _, _, rfl, rfl, upd_same, ?_, ?_⟩
    · rw [upd_ne bn]
      exact z _ _ hb
    · rw [List.length_append]
      exact small1000 (by simp only [List.length_cons, List.length_nil]; omega)
    · refine ⟨_, rfl, fun c o h => ?_, ?_⟩
      · have cn : c ≠ nl := ne_of_none h nnl
        rw [upd_ne cn, upd_ne cn]
        exact z c o h
      · rw [upd_same, names_snoc er, List.map_append, List.map_append]
        rfl
  · rintro σ J ⟨v3, rfl, z, e⟩
    rw [hlen, List.take_length] at e
    have l0 : (namesOf first rows).length ≤ 63 := by
      rw [names_len]
      omega
    refine ⟨_, rfl, nl, namesOf first rows, rfl, SqL.of e, by omega, fun p np => ?_⟩
    have s1 := new_same np (SetT w p (onceOf (namesOf first rows)))
    refine ⟨p, _, rfl, upd_same, Nat.lt_of_le_of_lt (once_len _) (by omega), fun zs d pm up nd => ?_⟩
    have s2 := new_same nd (.lst (zs.map V.str))
    refine ⟨d, _, rfl, .inl ⟨SqL.of upd_same, fun t nt => ?_⟩⟩
    have s3 := new_same nt (.tup (zs.map V.str))
    have all := (z.trans s1).trans s2
    exact q zs t _ (all.trans s3) (all.free nt) upd_same ⟨pm, up⟩
end
end LT
namespace LT
open PySem L2
def ruleFs (f r m : V) : List (Str × V) := [("first", f), ("rows", r), ("modes", m)]
/-- a rule stands at a -/
structure RuleAt (K : PySem.W.Frag) (C CR : Addr) (H : Hp) (a : Addr) (first : Str) (rows : List Row5) : Prop where
  ex : ∃ (dx tp tm : Addr) (xs : List V) (zs : List Str), H a = some (.ins CR dx (ruleFs (.str first) (.ref tp) (.ref tm))) ∧ SqT K H tp xs ∧ RowsIn C H xs rows ∧ H tm = some (.tup (zs.map V.str)) ∧ ModesOf first rows zs
  wd : nameP first = true
  few : rows.length ≤ 31
theorem RuleAt.monoX {K : PySem.W.Frag} {C CR : Addr} {H J : Hp} {a : Addr} {first : Str} {rows : List Row5} (s : L3.Ex H J) (h : RuleAt K C CR H a first rows) : RuleAt K C CR J a first rows := by
  obtain ⟨⟨dx, tp, tm, xs, zs, h1, h2, h3, h4, h5⟩, h6, h7⟩ := h
  exact ⟨⟨dx, tp, tm, xs, zs, s _ _ h1, s.seqT h2, h3.monoX s, s _ _ h4, h5⟩, h6, h7⟩
theorem RuleAt.mono {K : PySem.W.Frag} {C CR : Addr} {H J : Hp} {a : Addr} {first : Str} {rows : List Row5} (s : Same H J) (h : RuleAt K C CR H a first rows) : RuleAt K C CR J a first rows := h.monoX (L3.exOf s)
theorem Good.rowAt {C : Addr} {H : Hp} {b : Addr} {r : Row5} (g : Good r) (h : ∃ dx, H b = some (.ins C dx r.fs)) : RowAt C H b r := ⟨h, g.ok⟩
theorem RuleAt.rows {K : PySem.W.Frag} {C CR : Addr} {H : Hp} {a : Addr} {first : Str} {rows : List Row5} (h : RuleAt K C CR H a first rows) : RowsAt K C CR H a rows := by
  obtain ⟨dx, tp, tm, xs, zs, h1, h2, h3, h4, h5⟩ := h.ex
  refine ⟨dx, tp, _, xs, h1, by kernel_rfl, h2, h3.1, fun i x e => ?_⟩
  obtain ⟨b, r, e1, e2, e3, g⟩ := h3.2 i x e
  exact ⟨b, r, e1, e2, g.rowAt e3, g.p⟩
/-- rows that are wrong -/
def BadRows (K : PySem.W.Frag) (C : Addr) (H : Hp) (x : V) : Prop :=
  (∃ t, (∀ J, Same H J → TyX K J x t) ∧ PySem.W.kitAny K t [.type "list", .type "tuple"] = some false) ∨
  (∃ (a : Addr) (xs : List V) (bs : List Bool), x = .ref a ∧ Sq K H a xs ∧ xs.length ≤ 1000 ∧ xs.length = bs.length ∧
     (∀ (i : Nat) (v : V), xs[i]? = some v → ∃ t b, (∀ J, Same H J → TyX K J v t) ∧ PySem.W.kitOne K t (.ref C) = some b ∧ bs[i]? = some b) ∧ bs.all id = false)
def spRuleI (K : PySem.W.Frag) (C CR CE : Addr) : Sp := fun vs H Q E => ∃ (x dx : Addr) (f r : V), vs = [.ref x, f, r] ∧ H x = some (.ins CR dx []) ∧ Kind K H f ∧
  ((nameV nameP f = false ∧ ∀ d, H d = none → E (.ref CE) (some d) (upd H d (.xd [("word", .str "first")]))) ∨
   (nameV nameP f = true ∧ BadRows K C H r ∧ ∀ d J, Same H J → J d = none → E (.ref CE) (some d) (upd J d (.xd [("word", .str "rows")]))) ∨
   (∃ (z : Str) (a : Addr) (xs : List V) (rows : List Row5), f = .str z ∧ nameP z = true ∧ r = .ref a ∧ Sq K H a xs ∧ RowsIn C H xs rows ∧ rows.length ≤ 31 ∧
     ∀ J, (∀ c o, c ≠ x → H c = some o → J c = some o) → RuleAt K C CR J x z rows → Q .non J))
/-- all but x is kept -/
def Off (x : Addr) (H J : Hp) : Prop := ∀ c o, c ≠ x → H c = some o → J c = some o
theorem Off.of {x : Addr} {H J : Hp} (s : Same H J) : Off x H J := fun c o _ h => s c o h
theorem Off.trans {x : Addr} {H J L : Hp} (a : Off x H J) (b : Off x J L) : Off x H L := fun c o n h => b c o n (a c o n h)
theorem Off.put {x : Addr} {H : Hp} {o : HO} : Off x H (upd H x o) := fun c u n h => by rw [upd_ne n]; exact h
theorem SqT.off {K : PySem.W.Frag} {H J : Hp} {x C dx a : Addr} {fs : List (Str × V)} {xs : List V} (hx : H x = some (.ins C dx fs)) (k : Off x H J) (h : SqT K H a xs) : SqT K J a xs := by
  rcases h with (h | ⟨o, h⟩) | h
  · exact .inl (.inl (k _ _ (fun e => by rw [e, hx] at h; cases h) h))
  · exact .inl (.inr ⟨o, k _ _ (fun e => by rw [e, hx] at h; cases h) h⟩)
  · exact .inr h
theorem SqL.off {K : PySem.W.Frag} {H J : Hp} {x C dx a : Addr} {fs : List (Str × V)} {xs : List V} (hx : H x = some (.ins C dx fs)) (k : Off x H J) (h : SqL K H a xs) : SqL K J a xs := by
  rcases h with (h | ⟨o, h⟩) | h
  · exact .inl (.inl (k _ _ (fun e => by rw [e, hx] at h; cases h) h))
  · exact .inl (.inr ⟨o, k _ _ (fun e => by rw [e, hx] at h; cases h) h⟩)
  · exact .inr h
theorem Sq.off {K : PySem.W.Frag} {H J : Hp} {x C dx a : Addr} {fs : List (Str × V)} {xs : List V} (hx : H x = some (.ins C dx fs)) (k : Off x H J) (h : Sq K H a xs) : Sq K J a xs := h.elim (fun z => .inl (SqL.off hx k z)) fun z => .inr (SqT.off hx k z)
theorem RowsIn.off {C CR : Addr} {H J : Hp} {x dx : Addr} {xs : List V} {rows : List Row5} {fs : List (Str × V)} (hx : H x = some (.ins CR dx fs)) (nf : ∀ r : Row5, fs ≠ r.fs) (k : Off x H J) (h : RowsIn C H xs rows) : RowsIn C J xs rows :=
  ⟨h.1, fun i v e => by
    obtain ⟨b, r, e1, e2, ⟨dy, e3⟩, g⟩ := h.2 i v e
    refine ⟨b, r, e1, e2, ⟨dy, k _ _ (fun q => ?_) e3⟩, g⟩
    rw [q, hx] at e3
    injection e3 with e3
    injection e3 with _ _ e4
    exact nf r e4⟩
section
variable {P : Program} {w : World} {K : PySem.W.Frag} {mg : Str → Option Value} {base : Heap}
theorem scRuleI : FnScope ["self", "first", "rows"] ["self", "first", "rows"] (defScope sRuleInit) := ⟨rfl, rfl, rfl, by decide +kernel, rfl, by decide +kernel, by decide +kernel⟩
/-- what Rule.__init__ leans on -/
structure RuleG (P : Program) (w : World) (K : PySem.W.Frag) (mg : Str → Option Value) (base : Heap) (C CR CE : Addr) : Prop where
  row : RowC K mg C
  kc : PySem.W.kitOne K (.ref C) (.ref C) = some true
  cl : Cls K CR
  n0 : NoAttr K CR "first"
  n1 : NoAttr K CR "rows"
  n2 : NoAttr K CR "modes"
  nm : ∃ (f : Addr) (fd : FuncData), FnOk P w K mg base CX0 1 f fd ["value"] (spIsName K) ∧ Binds K fd ["value"] [] ∧ PySem.W.keepIn K (.ref f) = true ∧ mg "is_name" = some (.ref f)
  rs : ∃ (f : Addr) (fd : FuncData), FnOk P w K mg base CX0 2 f fd ["value"] (spIsRows K C) ∧ Binds K fd ["value"] [] ∧ PySem.W.keepIn K (.ref f) = true ∧ mg "is_row_sequence" = some (.ref f)
  mo : ∃ (f : Addr) (fd : FuncData), FnOk P w K mg base CX0 1 f fd ["first", "rows"] (spModes K C) ∧ Binds K fd ["first", "rows"] [] ∧ PySem.W.keepIn K (.ref f) = true ∧ mg "modes_of" = some (.ref f)
  err : ∃ (f : Addr) (fd : FuncData), FnOk P w K mg base CX0 1 f fd ["self", "word"] (spErrA CE "word") ∧ Binds K fd ["self", "word"] [] ∧ PySem.W.findIn K (.ref CE) "__init__" = some (some (.ref f)) ∧ PySem.W.typeIn K (.ref f) = some (.type "function")
  oex : OexC K CE
  mE : mg "InvalidRule" = some (.ref CE)
theorem name_len {z : Str} (h : nameP z = true) : z.length ≤ 4 := by
  unfold nameP at h
  simp only [Bool.and_eq_true, Bool.not_eq_true', decide_eq_false_iff_not] at h
  have := h.1.1
  omega
theorem ok_ruleI {C CR CE f : Addr} {fd : FuncData} {dvs : List V} {kws : List (Str × V)} (F : FunD K "__init__" "Rule.__init__" (defArgs sRuleInit) (defBody sRuleInit) (defScope sRuleInit) dvs kws f fd) (G : RuleG P w K mg base C CR CE) (T : Blt mg) :
    FnOk P w K mg base (L2.CX P w) 3 f fd ["self", "first", "rows"] (spRuleI K C CR CE) := by
  obtain ⟨fN, fdN, GN, bN, kN, mN⟩ := G.nm
  obtain ⟨fR, fdR, GR, bR, kR, mR⟩ := G.rs
  obtain ⟨fM, fdM, GM, bM, kM, mM⟩ := G.mo
  obtain ⟨fE, fdE, GE, bE, iE, tE⟩ := G.err
  refine F.ok scRuleI (fun vs H Q E h => ?_) (fun cdv A outer s H vs Q E hr h => ?_)
  · obtain ⟨x, dx, f, r, rfl, _⟩ := h
    rfl
  obtain ⟨x, dx, f, r, rfl, hx, kf, h⟩ := h
  have hr1 : Room 1 _ := hr.mono (by decide)
  refine ⟨_, pss_cons (ps_if (pt_not (pt_val (pe_call GN hr1 rfl mN kN bN .nil pass0 (pa_cons (pv 1) pa_nil))))
      (pss_one (ps_raise rfl (takes_of rfl rfl rfl rfl) (pmk_oex G.oex iE tE GE hr bE .nil pass0 rfl G.mE (pa_cons pe_str pa_nil)))) pss_nil)
    (pss_cons (ps_if (pt_not (pt_val (pe_call GR hr rfl mR kR bR .nil pass0 (pa_cons (pv 2) pa_nil))))
      (pss_one (ps_raise rfl (takes_of rfl rfl rfl rfl) (pmk_oex G.oex iE tE GE hr bE .nil pass0 rfl G.mE (pa_cons pe_str pa_nil)))) pss_nil)
    (pss_cons (ps_fld (pv 0) (pv 1) rfl)
    (pss_cons (ps_fld (pv 0) (pe_callTy call_tuple_of (by rfl) T.tuple (by decide +kernel) (pa_cons (pv 2) pa_nil)) rfl)
    (pss_one (ps_fld (pv 0) (pe_call GM hr1 rfl mM kM bM .nil pass0 (pa_cons (pv 1) (pa_cons (pv 2) pa_nil))) rfl))))), ?_⟩
  refine ⟨_, rfl, f, rfl, kf, _, rfl, ?_⟩
  rcases h with ⟨e, kE⟩ | ⟨e, bad, kE⟩ | ⟨z, a, xs, rows, rfl, e, rfl, hq, hR, h31, kQ⟩
  · rw [e]
    exact iteT (raise_okA (fun _ _ q => q) kE)
  · rw [e]
    refine iteF ⟨_, rfl, r, rfl, ?_⟩
    have out : ∀ J, Same H J → ∃ k, V.bl false = V.bl k ∧ (if (!k) = true then tMkO CE (spErrA CE "word") [] (tCons (tC (.str "rows")) tNil) (start ["self", "first", "rows"] [.ref x, f, r]) J (fun cls d H' => E cls d H') else False) := fun J s => ⟨false, rfl, iteT (raise_okA (fun _ _ q => q) fun d hd => kE d J s hd)⟩
    rcases bad with ⟨t, ty, k1⟩ | ⟨a, xs, bs, rfl, hq, hz, hl, hb, e2⟩
    · refine .inl ⟨t, ty, k1, fun J s => ⟨false, rfl, iteT ?_⟩⟩
      exact raise_okA (fun _ _ q => q) fun d hd => kE d J s hd
    · refine .inr ⟨a, xs, bs, rfl, hq, hz, hl, hb, fun J s => ⟨bs.all id, rfl, ?_⟩⟩
      rw [e2]
      exact iteT (raise_okA (fun _ _ q => q) fun d hd => kE d J s hd)
  · have e' : nameV nameP (.str z) = true := e
    rw [e']
    refine iteF ⟨_, rfl, .ref a, rfl, .inr ⟨a, xs, List.replicate xs.length true, rfl, hq, (by have := hR.1; omega), by rw [List.length_replicate], fun i v hv => ?_, fun J s => ⟨_, rfl, ?_⟩⟩⟩
    · obtain ⟨b, r, rfl, er, ⟨dy, hb⟩, g⟩ := hR.2 i v hv
      have hi : i < xs.length := (List.getElem?_eq_some_iff.mp hv).1
      exact ⟨_, true, fun J s => .base (.ins (s _ _ hb) G.row.cl G.row.ha G.row.hn G.row.ht G.row.hm), G.kc, by rw [List.getElem?_replicate, if_pos hi]⟩
    have eall : (List.replicate xs.length true).all id = true := List.all_eq_true.mpr fun b hb => (List.eq_of_mem_replicate hb)
    rw [eall]
    refine iteF ?_
    have l1 : putF "first" (V.str z) [] = ([("first", V.str z)] : List (Str × V)) := by kernel_rfl
    refine ⟨_, rfl, _, rfl, x, CR, dx, [], rfl, s _ _ hx, G.cl, G.n0, (by show 0 < 1000; decide), ?_⟩
    rw [l1]
    have nf0 : ∀ r : Row5, ([] : List (Str × V)) ≠ r.fs := fun r e => by cases e
    have o1 : Off x H (upd J x (.ins CR dx [("first", V.str z)])) := (Off.of s).trans Off.put
    have q1 := hq.off hx o1
    have R1 := hR.off hx nf0 o1
    have x1 : upd J x (.ins CR dx [("first", V.str z)]) x = some (.ins CR dx [("first", V.str z)]) := upd_same
    generalize upd J x (.ins CR dx [("first", V.str z)]) = J1 at o1 q1 R1 x1 ⊢
    have nf1 : ∀ r : Row5, ([("first", V.str z)] : List (Str × V)) ≠ r.fs := fun r e => by cases e
    have nf2 : ∀ r : Row5, ∀ tp, ([("first", V.str z), ("rows", V.ref tp)] : List (Str × V)) ≠ r.fs := fun r tp e => by cases e
    have q0 := q1
    refine ⟨_, rfl, a, xs, rfl, ?_⟩
    rcases q0 with q0 | q0
    · refine .inl ⟨q0, fun tp ntp => ?_⟩
      have s2 := new_same ntp (.tup xs)
      have hT : SqT K (upd J1 tp (.tup xs)) tp xs := SqT.of upd_same
      generalize upd J1 tp (.tup xs) = J2 at s2 hT ⊢
      have x2 := s2 _ _ x1
      have q2 := q1.mono s2
      have R2 := R1.mono s2
      have o2 : Off x H J2 := o1.trans (Off.of s2)
      refine ⟨_, rfl, x, CR, dx, _, rfl, x2, G.cl, G.n1, (by show 1 < 1000; decide), ?_⟩
      have l2 : putF "rows" (V.ref tp) [("first", V.str z)] = ([("first", V.str z), ("rows", V.ref tp)] : List (Str × V)) := by kernel_rfl
      rw [l2]
      have o3 : Off x H (upd J2 x (.ins CR dx [("first", V.str z), ("rows", V.ref tp)])) := o2.trans Off.put
      have q3 := q2.off x2 (Off.put (o := .ins CR dx [("first", V.str z), ("rows", V.ref tp)]))
      have R3 := R2.off x2 nf1 (Off.put (o := .ins CR dx [("first", V.str z), ("rows", V.ref tp)]))
      have T3 := SqT.off x2 (Off.put (o := .ins CR dx [("first", V.str z), ("rows", V.ref tp)])) hT
      have x3 : upd J2 x (.ins CR dx [("first", V.str z), ("rows", V.ref tp)]) x = some (.ins CR dx [("first", V.str z), ("rows", V.ref tp)]) := upd_same
      generalize upd J2 x (.ins CR dx [("first", V.str z), ("rows", V.ref tp)]) = J3 at o3 q3 R3 T3 x3 ⊢
      refine ⟨_, rfl, _, rfl, z, a, xs, rows, rfl, q3, R3, h31, fun zs tm J4 s4 n4 e4 mo => ?_⟩
      refine ⟨_, rfl, x, CR, dx, _, rfl, s4 _ _ x3, G.cl, G.n2, (by show 2 < 1000; decide), ?_⟩
      have l3 : putF "modes" (V.ref tm) [("first", V.str z), ("rows", V.ref tp)] = ruleFs (V.str z) (V.ref tp) (V.ref tm) := by kernel_rfl
      rw [l3]
      have x4 := s4 _ _ x3
      have put : Off x J4 (upd J4 x (.ins CR dx (ruleFs (V.str z) (V.ref tp) (V.ref tm)))) := Off.put
      refine kQ _ ((o3.trans (Off.of s4)).trans put) ⟨⟨dx, tp, tm, xs, zs, upd_same, SqT.off x4 put (SqT.ext T3 s4), (R3.mono s4).off x4 (fun r => nf2 r tp) put, put _ _ (fun e => by rw [e, x4] at e4; cases e4) e4, mo⟩, e, h31⟩
    · refine .inr ⟨q0, ?_⟩
      have s2 : Same J1 J1 := Same.refl _
      have hT : SqT K J1 a xs := q0
      have x2 := s2 _ _ x1
      have q2 := q1.mono s2
      have R2 := R1.mono s2
      have o2 : Off x H J1 := o1.trans (Off.of s2)
      refine ⟨_, rfl, x, CR, dx, _, rfl, x2, G.cl, G.n1, (by show 1 < 1000; decide), ?_⟩
      have l2 : putF "rows" (V.ref a) [("first", V.str z)] = ([("first", V.str z), ("rows", V.ref a)] : List (Str × V)) := by kernel_rfl
      rw [l2]
      have o3 : Off x H (upd J1 x (.ins CR dx [("first", V.str z), ("rows", V.ref a)])) := o2.trans Off.put
      have q3 := q2.off x2 (Off.put (o := .ins CR dx [("first", V.str z), ("rows", V.ref a)]))
      have R3 := R2.off x2 nf1 (Off.put (o := .ins CR dx [("first", V.str z), ("rows", V.ref a)]))
      have T3 := SqT.off x2 (Off.put (o := .ins CR dx [("first", V.str z), ("rows", V.ref a)])) hT
      have x3 : upd J1 x (.ins CR dx [("first", V.str z), ("rows", V.ref a)]) x = some (.ins CR dx [("first", V.str z), ("rows", V.ref a)]) := upd_same
      generalize upd J1 x (.ins CR dx [("first", V.str z), ("rows", V.ref a)]) = J3 at o3 q3 R3 T3 x3 ⊢
      refine ⟨_, rfl, _, rfl, z, a, xs, rows, rfl, q3, R3, h31, fun zs tm J4 s4 n4 e4 mo => ?_⟩
      refine ⟨_, rfl, x, CR, dx, _, rfl, s4 _ _ x3, G.cl, G.n2, (by show 2 < 1000; decide), ?_⟩
      have l3 : putF "modes" (V.ref tm) [("first", V.str z), ("rows", V.ref a)] = ruleFs (V.str z) (V.ref a) (V.ref tm) := by kernel_rfl
      rw [l3]
      have x4 := s4 _ _ x3
      have put : Off x J4 (upd J4 x (.ins CR dx (ruleFs (V.str z) (V.ref a) (V.ref tm)))) := Off.put
      refine kQ _ ((o3.trans (Off.of s4)).trans put) ⟨⟨dx, a, tm, xs, zs, upd_same, SqT.off x4 put (SqT.ext T3 s4), (R3.mono s4).off x4 (fun r => nf2 r a) put, put _ _ (fun e => by rw [e, x4] at e4; cases e4) e4, mo⟩, e, h31⟩
end
end LT
namespace LT
open PySem L2 TL
/-! ### names -/
theorem small_letter : ∀ c, c < 128 → Unicode.isAlpha c = true → (Unicode.isUpper c || Unicode.isTitle c) = false → c ∈ az := by decide +kernel
theorem name_wd {z : Str} (h : nameP z = true) : Wd z := by
  have hl := name_len h
  unfold nameP at h
  simp only [Bool.and_eq_true, Bool.not_eq_true', decide_eq_false_iff_not] at h
  obtain ⟨⟨_, h2⟩, h3, h4, h5⟩ := h
  unfold Txt.isalpha at h4
  unfold Txt.islower at h5
  rw [Bool.and_eq_true] at h4 h5
  refine ⟨?_, hl, fun c hc => ?_, fun e => h2 (by rw [e])⟩
  · have := h4.1
    rcases Nat.eq_zero_or_pos z.length with q | q
    · have q' : z.cps.size = 0 := q
      have w : 0 < z.length := by simpa using this
      omega
    · exact q
  · have hm : c ∈ z.cps := Array.mem_toList_iff.mp hc
    have a1 := Array.all_eq_true'.mp h3 c hm
    have a2 := Array.all_eq_true'.mp h4.2 c hm
    have a3 := h5.2
    rw [Bool.not_eq_true'] at a3
    have a4 := Array.any_eq_false'.mp a3 c hm
    exact small_letter c (by simpa using a1) a2 (by simpa using a4)
theorem pick_mem {l : List Str} {z : Str} (h : pickV l (.str z) = true) : z ∈ l := by
  obtain ⟨y, hy, e⟩ := List.any_eq_true.mp (show (l.any fun y => y == z) = true from h)
  rw [← (beq_iff_eq.mp e)]
  exact hy
theorem nf_true {b : Bool} (h : ¬ b = false) : b = true := by
  cases b
  · exact absurd rfl h
  · rfl
theorem due_good {m p mv t : Str} {al : Bool} (h : rowDue (.str m) (.str p) (.str mv) (.str t) (.bl al) = none) : Good ⟨m, p, mv, t, al⟩ := by
  unfold rowDue at h
  by_cases h1 : nameV nameP (.str m) = false
  · rw [if_pos h1] at h
    cases h
  rw [if_neg h1] at h
  by_cases h2 : pickV picks (.str p) = false
  · rw [if_pos h2] at h
    cases h
  rw [if_neg h2] at h
  by_cases h3 : pickV moves (.str mv) = false
  · rw [if_pos h3] at h
    cases h
  rw [if_neg h3] at h
  by_cases h4 : nameV nameP (.str t) = false
  · rw [if_pos h4] at h
    cases h
  exact ⟨name_wd (nf_true h1), pick_mem (nf_true h2), pick_mem (nf_true h3), name_wd (nf_true h4)⟩
/-! ### texts cut at one sign -/
def cutL (s : Nat) : List Nat → List Nat → List (List Nat)
  | acc, [] => [acc]
  | acc, c :: r => if c = s then acc :: cutL s [] r else cutL s (acc ++ [c]) r
theorem spl_cut (s : Nat) : ∀ (l acc : List Nat), spl [s] 0 acc l = cutL s acc l
  | [], acc => rfl
  | c :: r, acc => by
    unfold cutL
    by_cases h : c = s
    · have hp : pre [s] (c :: r) = true := by
        rw [h]
        exact pre_self [s] r
      rw [if_pos h, spl_hit hp]
      exact congrArg _ (spl_cut s r [])
    · rw [if_neg h, spl_miss (pre_of_head _ _ h)]
      exact spl_cut s r _
theorem cut_mem {s : Nat} : ∀ {l acc w : List Nat}, s ∉ acc → w ∈ cutL s acc l → (∀ c ∈ w, c ∈ acc ∨ c ∈ l) ∧ w.length ≤ acc.length + l.length ∧ s ∉ w
  | [], acc, w, na, h => by
    rw [cutL, List.mem_singleton] at h
    subst h
    exact ⟨fun c hc => .inl hc, by simp, na⟩
  | c :: r, acc, w, na, h => by
    rw [cutL] at h
    by_cases e : c = s
    · rw [if_pos e] at h
      rcases List.mem_cons.mp h with h | h
      · subst h
        exact ⟨fun c hc => .inl hc, by omega, na⟩
      · obtain ⟨h1, h2, h3⟩ := cut_mem (by simp) h
        refine ⟨fun d hd => .inr ?_, ?_, h3⟩
        · rcases h1 d hd with q | q
          · cases q
          · exact List.mem_cons_of_mem _ q
        · simp only [List.length_nil, List.length_cons] at h2 ⊢
          omega
    · rw [if_neg e] at h
      obtain ⟨h1, h2, h3⟩ := cut_mem (by
        rw [List.mem_append, List.mem_singleton]
        rintro (q | q)
        · exact na q
        · exact e q.symm) h
      refine ⟨fun d hd => ?_, ?_, h3⟩
      · rcases h1 d hd with q | q
        · rcases List.mem_append.mp q with q | q
          · exact .inl q
          · rw [List.mem_singleton] at q
            exact .inr (q ▸ List.mem_cons_self)
        · exact .inr (List.mem_cons_of_mem _ q)
      · rw [List.length_append] at h2
        simp only [List.length_cons, List.length_nil] at h2 ⊢
        omega
theorem cut_join (s : Nat) : ∀ (l acc : List Nat), joinL [s] (cutL s acc l) = acc ++ l
  | [], acc => by simp [cutL, joinL]
  | c :: r, acc => by
    rw [cutL]
    by_cases e : c = s
    · rw [if_pos e]
      have ih := cut_join s r []
      cases q : cutL s [] r with
      | nil =>
        exfalso
        cases r with
        | nil => simp [cutL] at q
        | cons d r =>
          rw [cutL] at q
          split at q
          · cases q
          · have : ∀ (r acc : List Nat), cutL s acc r ≠ [] := fun r => by
              induction r with
              | nil => intro acc; simp [cutL]
              | cons d r ih =>
                intro acc
                rw [cutL]
                split
                · simp
                · exact ih _
            exact this _ _ q
      | cons p ps =>
        rw [q] at ih
        show acc ++ ([s] ++ joinL [s] (p :: ps)) = _
        rw [ih, e]
        rfl
    · rw [if_neg e, cut_join s r, List.append_assoc]
      rfl
def sepOk (y : Str) (s : Nat) : Prop := tl y = [s] ∧ y.cps.all (· < 256) = true
theorem sp_ok : sepOk " " 32 := ⟨by decide +kernel, by decide +kernel⟩
theorem nl_ok : sepOk "\n" 10 := ⟨by decide +kernel, by decide +kernel⟩
theorem split_cut {x y : Str} {s : Nat} (h : sepOk y s) : (Txt.split x y).map tl = cutL s [] (tl x) := by
  rw [split_spl x y (by rw [h.1]; simp) (kind_ok h.2), h.1, spl_cut]
theorem split_mem {x y w : Str} {s : Nat} (h : sepOk y s) (hw : w ∈ Txt.split x y) : (∀ c ∈ tl w, c ∈ tl x) ∧ w.length ≤ x.length ∧ s ∉ tl w := by
  have m : tl w ∈ cutL s [] (tl x) := by
    rw [← split_cut h]
    exact List.mem_map.mpr ⟨w, hw, rfl⟩
  obtain ⟨h1, h2, h3⟩ := cut_mem (by simp) m
  refine ⟨fun c hc => (h1 c hc).elim (fun q => nomatch q) id, ?_, h3⟩
  rw [len_tl w, len_tl x]
  simpa using h2
theorem strOk_mem {x : Str} : PyData.strOk x = true ↔ ∀ c ∈ tl x, c < 0x110000 := by
  unfold PyData.strOk
  rw [Array.all_eq_true']
  exact ⟨fun h c hc => by simpa using h c (Array.mem_toList_iff.mp hc), fun h c hc => by simpa using h c (Array.mem_toList_iff.mpr hc)⟩
theorem split_strOk {x y w : Str} {s : Nat} (h : sepOk y s) (ok : PyData.strOk x = true) (hw : w ∈ Txt.split x y) : PyData.strOk w = true :=
  strOk_mem.mpr fun c hc => strOk_mem.mp ok c ((split_mem h hw).1 c hc)
/-! ### the row that a line tells -/
def parse5 (m p mv t : Str) (al : Bool) : Option Row5 := if rowDue (.str m) (.str p) (.str mv) (.str t) (.bl al) = none then some ⟨m, p, mv, t, al⟩ else none
def parseWs : List Str → Option Row5
  | [m, p, mv, t] => parse5 m p mv t false
  | [m, p, mv, t, a] => if a = "also" then parse5 m p mv t true else none
  | _ => none
def parseRow (z : Str) : Option Row5 := parseWs (Txt.split z " ")
theorem parse5_good {m p mv t : Str} {al : Bool} {r : Row5} (h : parse5 m p mv t al = some r) : Good r ∧ r = ⟨m, p, mv, t, al⟩ := by
  unfold parse5 at h
  split at h
  · rename_i e
    cases h
    exact ⟨due_good e, rfl⟩
  · cases h
theorem row_split {r : Row5} (g : Good r) : Txt.split r.text " " = if r.al then [r.m, r.p, r.mv, r.t, "also"] else [r.m, r.p, r.mv, r.t] := by
  refine map_tl_inj ?_
  rw [split_cut sp_ok, ← spl_cut]
  have f1 := fun c hc => (g.m.cs c hc).1
  have f2 := fun c hc => ((picks_ok _ g.p).2.1 c hc).1
  have f3 := fun c hc => ((moves_ok _ g.mv).2.1 c hc).1
  have f4 := fun c hc => (g.t.cs c hc).1
  have al : (32 : Nat) ∉ tl ("also" : Str) := by decide +kernel
  have e : tl r.text = joinL [32] ((if r.al then [r.m, r.p, r.mv, r.t, "also"] else [r.m, r.p, r.mv, r.t] : List Str).map tl) := by
    show r.text.cps.toList = _
    rw [text_c]
    cases r.al
    · simp [joinL, tailC]
    · have q : tl ("also" : Str) = [97, 108, 115, 111] := by decide +kernel
      simp only [if_true, List.map_cons, List.map_nil, joinL, tailC, q]
      simp
  rw [e]
  refine spl_join ?_ fun p hp => ?_
  · cases r.al <;> simp
  · obtain ⟨w, hw, rfl⟩ := List.mem_map.mp hp
    cases hal : r.al
    · rw [hal] at hw
      simp only [Bool.false_eq_true, if_false, List.mem_cons, List.not_mem_nil, or_false] at hw
      rcases hw with rfl | rfl | rfl | rfl
      · exact fun q => f1 _ q rfl
      · exact fun q => f2 _ q rfl
      · exact fun q => f3 _ q rfl
      · exact fun q => f4 _ q rfl
    · rw [hal] at hw
      simp only [if_true, List.mem_cons, List.not_mem_nil, or_false] at hw
      rcases hw with rfl | rfl | rfl | rfl | rfl
      · exact fun q => f1 _ q rfl
      · exact fun q => f2 _ q rfl
      · exact fun q => f3 _ q rfl
      · exact fun q => f4 _ q rfl
      · exact al
theorem parse_row {r : Row5} (g : Good r) : parseRow r.text = some r := by
  unfold parseRow
  rw [row_split g]
  cases hal : r.al
  · have q : parse5 r.m r.p r.mv r.t false = some r := by
      have d := g.due
      rw [hal] at d
      unfold parse5
      rw [if_pos d, ← hal]
    exact q
  · have q : parse5 r.m r.p r.mv r.t true = some r := by
      have d := g.due
      rw [hal] at d
      unfold parse5
      rw [if_pos d, ← hal]
    exact q
theorem row_len {r : Row5} (g : Good r) : r.text.length ≤ 50 := by
  have o := g.ok
  have o1 := o.m
  have o2 := o.p
  have o3 := o.mv
  have o4 := o.t
  unfold Row5.text rowText
  cases r.al
  · have := len_base4 r.m r.p r.mv r.t
    rw [if_neg Bool.false_ne_true]
    omega
  · have := len_base4 r.m r.p r.mv r.t
    rw [if_pos rfl, len_app]
    have e5 : (" also" : Str).length = 5 := rfl
    omega
end LT
namespace LT
open PySem L2
theorem int_dec (a b : Int) : decide (V.int a = V.int b) = decide (a = b) := by
  by_cases h : a = b
  · rw [decide_eq_true h, h]
    exact decide_eq_true rfl
  · rw [decide_eq_false h]
    exact decide_eq_false fun z => h (V.int.inj z)
theorem four {ws : List Str} (h : ws.length = 4) : ∃ a b c d, ws = [a, b, c, d] := by
  match ws, h with
  | [a, b, c, d], _ => exact ⟨a, b, c, d, rfl⟩
theorem five {ws : List Str} (h : ws.length = 5) : ∃ a b c d e, ws = [a, b, c, d, e] := by
  match ws, h with
  | [a, b, c, d, e], _ => exact ⟨a, b, c, d, e, rfl⟩
theorem parse_else {ws : List Str} (h4 : ¬ ws.length = 4) (h5 : ¬ ws.length = 5) : parseWs ws = none := by
  match ws, h4, h5 with
  | [], _, _ => rfl
  | [_], _, _ => rfl
  | [_, _], _, _ => rfl
  | [_, _, _], _, _ => rfl
  | [_, _, _, _], h, _ => exact absurd rfl h
  | [_, _, _, _, _], _, h => exact absurd rfl h
  | _ :: _ :: _ :: _ :: _ :: _ :: _, _, _ => rfl
def spReadRow (C : Addr) : Sp := fun vs H Q _ => ∃ z : Str, vs = [.str z] ∧ z.length ≤ 100 ∧ PyData.strOk z = true ∧ (parseRow z = none → ∀ J, Same H J → Q .non J) ∧
  (∀ r, parseRow z = some r → Good r → ∀ x dx J, Same H J → H x = none → J x = some (.ins C dx r.fs) → Q (.ref x) J)
def tW (K : PySem.W.Frag) (i : Int) : TE := tOp (rIxL K) (tVar 1) (tC (.int i))
section
variable {P : Program} {w : World} {K : PySem.W.Frag} {mg : Str → Option Value} {base : Heap}
theorem scReadRow : FnScope ["line", "words", "also"] ["line"] (defScope sReadRow) := ⟨rfl, rfl, rfl, by decide +kernel, rfl, by decide +kernel, by decide +kernel⟩
theorem ok_readrow {C CE f g : Addr} {fd gd : FuncData} (F : Fun K "read_row" "read_row" sReadRow f fd) (T : Blt mg) (R : RowC K mg C) (mE : mg "InvalidRow" = some (.ref CE)) (te : PySem.W.exmOne K (.ref CE) (.ref CE) = some true) (M : Mk K C g)
    (G : FnOk P w K mg base (L2.CX P w) 3 g gd ["self", "mode", "pick", "move", "then", "also"] (spRow K C CE)) (bG : Binds K gd ["self", "mode", "pick", "move", "then", "also"] []) :
    FnOk P w K mg base CX0 5 f fd ["line"] (spReadRow C) := by
  refine F.ok scReadRow (fun vs H Q E h => ?_) (fun cdv A outer s H vs Q E hr h => ?_)
  · obtain ⟨z, rfl, _⟩ := h
    rfl
  obtain ⟨z, rfl, hz, hok, qN, qS⟩ := h
  refine ⟨_, pss_cons (ps_set (i := 1) scReadRow.nd rfl (Or.inl rfl) (pe_split (pv 0) pe_str))
    (pss_cons (ps_set (i := 2) scReadRow.nd rfl (Or.inl rfl) (pe_and (pe_cmpR op_eq (pe_callB call_len_seq (by rfl) T.len PySem.boot_len (pa_cons (pv 1) pa_nil)) pe_int (nomark _)) (pe_one (pe_cmpR op_eq (pe_ix ix_list (pv 1) pe_int (fun _ _ => rfl)) pe_str (nomark _)))))
    (pss_cons (ps_if (PW.pt (pw_and (pt_cmpR op_ne (pe_callB call_len_seq (by rfl) T.len PySem.boot_len (pa_cons (pv 1) pa_nil)) pe_int (nomark _)) (pw_and1 (pt_not (pt_val (pv 2)))))) (pss_one (ps_ret pe_non)) pss_nil)
    (pss_one (ps_try_only (tb := fun W => tRet (tMakeS C (spRow K C CE) [] (WE W) (tCons (tW K 0) (tCons (tW K 1) (tCons (tW K 2) (tCons (tW K 3) (tCons (tVar 2) tNil))))))) (ts := fun _ _ _ => tRet (tC .non)) (Wout := fun _ _ _ _ => False) rfl rfl ⟨rfl, by decide, Or.inl mE⟩ takes0
      (fun W pn xe tk _ => pss_one (ps_ret (by exact (pe_makeS M G hr (by rfl) R.mgC bG .nil (fun σ => passAt tk σ)
        (pa_cons (pe_ix ix_list (pv 1) pe_int (fun _ _ => rfl)) (pa_cons (pe_ix ix_list (pv 1) pe_int (fun _ _ => rfl)) (pa_cons (pe_ix ix_list (pv 1) pe_int (fun _ _ => rfl)) (pa_cons (pe_ix ix_list (pv 1) pe_int (fun _ _ => rfl)) (pa_cons (pv 2) pa_nil)))))))))
      (fun b oe cls d pn hz hf => pss_one (ps_ret pe_non)))))), ?_⟩
  refine ⟨_, rfl, ⟨_, rfl⟩, z, " ", rfl, rfl, rfl, Nat.le_of_lt (small1000 (by omega)), fun wl nwl => ?_⟩
  have s0 := new_same nwl (.lst ((Txt.split z " ").map V.str))
  have hS : SqL K (upd H wl (.lst ((Txt.split z " ").map V.str))) wl ((Txt.split z " ").map V.str) := SqL.of upd_same
  have words : ∀ w ∈ Txt.split z " ", w.length ≤ 100 ∧ PyData.strOk w = true := fun w hw => ⟨Nat.le_trans (split_mem sp_ok hw).2.1 hz, split_strOk sp_ok hok hw⟩
  unfold parseRow at qN qS
  revert hS words qN qS
  generalize upd H wl (.lst ((Txt.split z " ").map V.str)) = H1 at s0 ⊢
  generalize Txt.split z " " = ws
  intro qN qS hS words
  refine ⟨_, rfl, wl, _, rfl, .inl hS, rfl, _, rfl, ?_⟩
  by_cases h4 : ws.length = 4
  · obtain ⟨m, p, mv, t, rfl⟩ := four h4
    refine iteF ?_
    refine ⟨_, rfl, wl, _, rfl, .inl hS, rfl, _, rfl, ?_⟩
    refine iteF ?_
    refine ⟨_, rfl, wl, _, _, _, rfl, rfl, hS, rfl, _, rfl, wl, _, _, _, rfl, rfl, hS, rfl, _, rfl, wl, _, _, _, rfl, rfl, hS, rfl, _, rfl, wl, _, _, _, rfl, rfl, hS, rfl, _, rfl, fun x dx nx ndx ne => ?_⟩
    have s1 : Same H1 (upd (upd H1 dx (.own x)) x (.ins C dx [])) := fun b o e => by
      rw [upd_ne (ne_of_none e nx), upd_ne (ne_of_none e ndx)]
      exact e
    obtain ⟨w1, w2⟩ := words m (by simp)
    obtain ⟨w3, w4⟩ := words p (by simp)
    obtain ⟨w5, w6⟩ := words mv (by simp)
    obtain ⟨w7, w8⟩ := words t (by simp)
    refine ⟨x, dx, .str m, .str p, .str mv, .str t, .bl false, rfl, upd_same, str_arg w2 w1, str_arg w4 w3, str_arg w6 w5, str_arg w8 w7, bl_arg, fun wd e d hd => ?_, fun e => ⟨rfl, ?_⟩⟩
    · refine ⟨true, te, fun _ a0 _ => ?_, fun z => Bool.noConfusion z⟩
      refine qN ?_ _ (s0.trans (s1.trans (new_same hd _)))
      show parse5 m p mv t false = _
      unfold parse5
      rw [if_neg (by rw [e]; exact fun z => nomatch z)]
    · have ep : parseWs [m, p, mv, t] = some ⟨m, p, mv, t, false⟩ := by
        show parse5 m p mv t false = _
        unfold parse5
        rw [if_pos e]
      refine qS _ ep (parse5_good (show parse5 m p mv t false = _ by unfold parse5; rw [if_pos e])).1 x dx _ (fun b o h => ?_) (s0.free nx) ?_
      · rw [upd_upd]
        have h1 := s0 b o h
        rw [upd_ne (ne_of_none h1 nx), upd_ne (ne_of_none h1 ndx)]
        exact h1
      · exact upd_same
  · by_cases h5 : ws.length = 5
    · obtain ⟨m, p, mv, t, a, rfl⟩ := five h5
      refine iteT ⟨_, rfl, wl, _, _, _, rfl, rfl, hS, rfl, rfl, ?_⟩
      refine ⟨_, rfl, wl, _, rfl, .inl hS, rfl, _, rfl, ?_⟩
      refine iteT ⟨_, rfl, ?_⟩
      rw [str_dec]
      by_cases ha : a = "also"
      · subst ha
        refine ⟨_, rfl, iteF ?_⟩
        refine ⟨_, rfl, wl, _, _, _, rfl, rfl, hS, rfl, _, rfl, wl, _, _, _, rfl, rfl, hS, rfl, _, rfl, wl, _, _, _, rfl, rfl, hS, rfl, _, rfl, wl, _, _, _, rfl, rfl, hS, rfl, _, rfl, fun x dx nx ndx ne => ?_⟩
        have s1 : Same H1 (upd (upd H1 dx (.own x)) x (.ins C dx [])) := fun b o e => by
          rw [upd_ne (ne_of_none e nx), upd_ne (ne_of_none e ndx)]
          exact e
        obtain ⟨w1, w2⟩ := words m (by simp)
        obtain ⟨w3, w4⟩ := words p (by simp)
        obtain ⟨w5, w6⟩ := words mv (by simp)
        obtain ⟨w7, w8⟩ := words t (by simp)
        refine ⟨x, dx, .str m, .str p, .str mv, .str t, .bl true, rfl, upd_same, str_arg w2 w1, str_arg w4 w3, str_arg w6 w5, str_arg w8 w7, bl_arg, fun wd e d hd => ?_, fun e => ⟨rfl, ?_⟩⟩
        · refine ⟨true, te, fun _ a0 _ => ?_, fun z => Bool.noConfusion z⟩
          refine qN ?_ _ (s0.trans (s1.trans (new_same hd _)))
          (show (if ("also" : Str) = "also" then parse5 m p mv t true else none) = _; rw [if_pos rfl])
          unfold parse5
          rw [if_neg (by rw [e]; exact fun z => nomatch z)]
        · have ep : parseWs [m, p, mv, t, "also"] = some ⟨m, p, mv, t, true⟩ := by
            (show (if ("also" : Str) = "also" then parse5 m p mv t true else none) = _; rw [if_pos rfl])
            unfold parse5
            rw [if_pos e]
          refine qS _ ep (parse5_good (show parse5 m p mv t true = _ by unfold parse5; rw [if_pos e])).1 x dx _ (fun b o h => ?_) (s0.free nx) ?_
          · rw [upd_upd]
            have h1 := s0 b o h
            rw [upd_ne (ne_of_none h1 nx), upd_ne (ne_of_none h1 ndx)]
            exact h1
          · exact upd_same
      · rw [decide_eq_false ha]
        refine ⟨_, rfl, iteT ?_⟩
        refine qN ?_ _ s0
        show (if a = "also" then parse5 m p mv t true else none) = none
        rw [if_neg ha]
    · have e5 : decide (V.int ((ws.map V.str).length : Nat) = V.int 5) = false := by
        rw [int_dec, List.length_map]
        exact decide_eq_false (by omega)
      rw [e5]
      refine iteF ?_
      refine ⟨_, rfl, wl, _, rfl, .inl hS, rfl, _, rfl, ?_⟩
      have e4 : (!decide (V.int ((ws.map V.str).length : Nat) = V.int 4)) = true := by
        rw [int_dec, List.length_map, decide_eq_false (by omega)]
        rfl
      rw [e4]
      refine iteT ⟨_, rfl, _, rfl, iteT ?_⟩
      exact qN (parse_else h4 h5) _ s0
end
end LT
namespace L2
open PySem PySem.Spec PyProof.Rows
/-- c(e, ..): the i-th slot holds the class at C -/
def tMakeL (i : Nat) (C : Addr) (sp : Sp) (dvs : List V) (E : St → XK) (t : TA) : TE := fun σ H Q => σ[i]? = some (some (.ref C)) ∧ tMakeS C sp dvs E t σ H Q
theorem pe_makeL {X : Cx} {CX : CXT} {k i : Nat} {f C : Addr} {fd : FuncData} {ps : List Str} {sp : Sp} {E : St → XK} {x : Str} {p pos : Pos} {e : Expr} {es : List Expr} {t : TA} {ds : List Value} {dvs : List V}
    (M : Mk X.K C f) (F : FnOk X.prog X.w X.K X.mg X.base CX k f fd ps sp) (hr : Room (k + 1) X.A) (hN : X.N[i]? = some x) (hv : Vis X.env.scope x) (hb : Binds X.K fd ps ds) (hd : Vals dvs ds)
    (hx : ∀ σ, PassesAt CX X σ (E σ)) (ha : PA X (e :: es) t) (hdb : (x == ("__debug__" : Str)) = false := by decide) (hcd : (x == ("__classdict__" : Str)) = false := by decide)
    (he : starEach (e :: es) X.env = (false, eval e X.env) :: starEach es X.env := by rfl) (hpl : (backTo pos (starEach es X.env)).any (·.1) = false := by rfl) :
    PE X (.Call (.Name x p) (e :: es) [] pos) (tMakeL i C sp dvs E t) := by
  refine ⟨fun pins s σ H Q I ⟨slot, h⟩ => ?_⟩
  refine wpAny_Call_Name_kw (thn ((pe_var (pos := p) hN hv hdb hcd).run pins s σ H (fun v J => v = .ref C ∧ J = H) I ⟨.ref C, slot, rfl, rfl⟩) fun u s1 hh => ?_)
  obtain ⟨v, J, I1, rv, rfl, rfl⟩ := hh
  cases rv
  refine PySem.W.callWith_K (h₀ := X.base) I.ok.mod.kin M.kp (thn (ha.run pos pins s1 σ _ _ I1 h) fun us s2 hh => ?_) he hpl
  obtain ⟨vs, H2, I2, r, q⟩ := hh
  exact ⟨I2.kIn, run_makeS M F hr hb hd (hx σ) I2 r q⟩
end L2
namespace LT
open PySem L2
/-- the first mode that a line tells -/
def lineFirst (z : Str) : Option Str := match Txt.partition z " " with
  | (w, _, f) => if w = "first" ∧ nameP f = true then some f else none
theorem par_tail {S : List Nat} : ∀ {l acc a b : List Nat}, TL.par S acc l = some (a, b) → (∀ c ∈ b, c ∈ l) ∧ b.length ≤ l.length
  | [], acc, a, b, h => by cases h
  | c :: r, acc, a, b, h => by
    cases hp : TL.pre S (c :: r) with
    | true =>
      rw [TL.par_hit hp] at h
      have e : (c :: r).drop S.length = b := by
        have := Option.some.inj h
        exact (Prod.mk.inj this).2
      rw [← e]
      exact ⟨fun d hd => List.mem_of_mem_drop hd, by rw [List.length_drop]; omega⟩
    | false =>
      rw [TL.par_miss hp] at h
      obtain ⟨h1, h2⟩ := par_tail h
      exact ⟨fun d hd => List.mem_cons_of_mem _ (h1 d hd), by rw [List.length_cons]; omega⟩
theorem part_tail {x : Str} (ok : PyData.strOk x = true) (hl : x.length ≤ 100) : PyData.strOk (Txt.partition x " ").2.2 = true ∧ (Txt.partition x " ").2.2.length ≤ 100 := by
  rw [TL.partition_par x " " (by rw [sp_ok.1]; simp)]
  cases h : TL.par (TL.tl " ") [] (TL.tl x) with
  | none => exact ⟨(by decide +kernel : PyData.strOk Str.empty = true), (by decide +kernel : Str.empty.length ≤ 100)⟩
  | some p =>
    obtain ⟨a, b⟩ := p
    obtain ⟨h1, h2⟩ := par_tail h
    refine ⟨strOk_mem.mpr fun c hc => strOk_mem.mp ok c (h1 c hc), ?_⟩
    have e : (⟨b.toArray⟩ : Str).length = b.length := TL.len_tl _
    show (⟨b.toArray⟩ : Str).length ≤ 100
    rw [e]
    rw [TL.len_tl x] at hl
    omega
structure Parsed (ls : List Str) (rs : List Row5) (n : Nat) : Prop where
  len : rs.length = n
  each : ∀ j, j < n → ∃ l r, ls[j + 1]? = some l ∧ rs[j]? = some r ∧ parseRow l = some r
def spRead (K : PySem.W.Frag) (C CR CT : Addr) : Sp := fun vs H Q E => ∃ (z l0 : Str), vs = [.ref CR, .str z] ∧ z.length ≤ 10000 ∧ PyData.strOk z = true ∧ (Txt.split z "\n")[0]? = some l0 ∧ (∀ l ∈ Txt.split z "\n", l.length ≤ 100) ∧ (Txt.split z "\n").length ≤ 32 ∧
  (lineFirst l0 = none → ∀ d J, Same H J → J d = none → E (.ref CT) (some d) (upd J d (.xd [("at", .int 0)]))) ∧
  (∀ f, lineFirst l0 = some f → ∀ (i : Nat) l rs, (Txt.split z "\n")[i + 1]? = some l → parseRow l = none → Parsed (Txt.split z "\n") rs i → ∀ d J, Same H J → J d = none → E (.ref CT) (some d) (upd J d (.xd [("at", .int ((i + 1 : Nat) : Int))]))) ∧
  (∀ f rs, lineFirst l0 = some f → Parsed (Txt.split z "\n") rs ((Txt.split z "\n").length - 1) → ∀ x J, Same H J → H x = none → RuleAt K C CR J x f rs → Q (.ref x) J)
abbrev nRead : List Str := ["cls", "text", "lines", "word", "_", "first", "rows", "at", "row"]
section
variable {P : Program} {w : World} {K : PySem.W.Frag} {mg : Str → Option Value} {base : Heap}
theorem scRead : FnScope nRead ["cls", "text"] (defScope sRuleRead) := ⟨rfl, rfl, rfl, by decide +kernel, rfl, by decide +kernel, by decide +kernel⟩
/-- what Rule.read leans on -/
structure ReadG (P : Program) (w : World) (K : PySem.W.Frag) (mg : Str → Option Value) (base : Heap) (C CR CE CT : Addr) : Prop where
  row : RowC K mg C
  nm : ∃ (f : Addr) (fd : FuncData), FnOk P w K mg base CX0 1 f fd ["value"] (spIsName K) ∧ Binds K fd ["value"] [] ∧ PySem.W.keepIn K (.ref f) = true ∧ mg "is_name" = some (.ref f)
  rr : ∃ (f : Addr) (fd : FuncData), FnOk P w K mg base CX0 5 f fd ["line"] (spReadRow C) ∧ Binds K fd ["line"] [] ∧ PySem.W.keepIn K (.ref f) = true ∧ mg "read_row" = some (.ref f)
  ini : ∃ (f : Addr) (fd : FuncData), Mk K CR f ∧ FnOk P w K mg base (L2.CX P w) 3 f fd ["self", "first", "rows"] (spRuleI K C CR CE) ∧ Binds K fd ["self", "first", "rows"] []
  err : ∃ (f : Addr) (fd : FuncData), FnOk P w K mg base CX0 1 f fd ["self", "at"] (spErrA CT "at") ∧ Binds K fd ["self", "at"] [] ∧ PySem.W.findIn K (.ref CT) "__init__" = some (some (.ref f)) ∧ PySem.W.typeIn K (.ref f) = some (.type "function")
  oex : OexC K CT
  mT : mg "InvalidText" = some (.ref CT)
theorem ok_read {C CR CE CT f : Addr} {fd : FuncData} (F : Fun K "read" "Rule.read" sRuleRead f fd) (G : ReadG P w K mg base C CR CE CT) (T : Blt mg) :
    FnOk P w K mg base (L2.CX P w) 6 f fd ["cls", "text"] (spRead K C CR CT) := by
  obtain ⟨fN, fdN, GN, bN, kN, mN⟩ := G.nm
  obtain ⟨fR, fdR, GR, bR, kR, mR⟩ := G.rr
  obtain ⟨fI, fdI, MI, GI, bI⟩ := G.ini
  obtain ⟨fE, fdE, GE, bE, iE, tE⟩ := G.err
  refine F.okX scRead (fun vs H Q E h => ?_) (fun cdv A outer s H vs Q E hr h => ?_)
  · obtain ⟨z, l0, rfl, _⟩ := h
    rfl
  obtain ⟨z, l0, rfl, hz, hok, h0, hl, hn, kF, kB, kQ⟩ := h
  have hr1 : Room 1 _ := hr.mono (by decide)
  have hr2 : Room 2 _ := hr.mono (by decide)
  have hr4 : Room 4 _ := hr.mono (by decide)
  refine ⟨_, pss_cons (ps_set (i := 2) scRead.nd rfl (Or.inl rfl) (pe_split (pv 1) pe_str))
    (pss_cons (ps_asg (pe_partition (pe_ix ix_list (pv 2) pe_int (fun _ _ => rfl)) pe_str) (pg_tup rfl (pgs_cons (pg_name (i := 3) scRead.nd rfl (Or.inl rfl)) (pgs_cons (pg_name (i := 4) scRead.nd rfl (Or.inl rfl)) (pgs_cons (pg_name (i := 5) scRead.nd rfl (Or.inl rfl)) pgs_nil)))))
    (pss_cons (ps_if (PW.pt (pw_or (pt_cmpR op_ne (pv 3) pe_str (nomark _)) (pw_or1 (pt_not (pt_val (pe_call GN hr1 rfl mN kN bN .nil pass0 (pa_cons (pv 5) pa_nil)))))))
      (pss_one (ps_raise rfl (takes_of rfl rfl rfl rfl) (pmk_oex G.oex iE tE GE hr2 bE .nil pass0 rfl G.mT (pa_cons pe_int pa_nil)))) pss_nil)
    (pss_cons (ps_set (i := 6) scRead.nd rfl (Or.inl rfl) (pe_lst pa_nil))
    (pss_cons (ps_for PassesOwn.leaving rfl (pi_range2 (by rfl) T.range (pa_cons pe_int (pa_cons (pe_callB call_len_seq (by rfl) T.len PySem.boot_len (pa_cons (pv 2) pa_nil)) pa_nil))) (pg_name (i := 7) scRead.nd rfl (Or.inl rfl))
      (pss_cons (ps_set (i := 8) scRead.nd rfl (Or.inl rfl) (pe_call GR hr rfl mR kR bR .nil pass0 (pa_cons (pe_ix ix_list (pv 2) (pv 7) (fun _ _ => rfl)) pa_nil)))
      (pss_cons (ps_if (pt_cmpR op_isN (pv 8) pe_non (nomark _)) (pss_one (ps_raise rfl (takes_of rfl rfl rfl rfl) (pmk_oex G.oex iE tE GE hr2 bE .nil pass0 rfl G.mT (pa_cons (pv 7) pa_nil)))) pss_nil)
      (pss_one (ps_expr (pe_bm PySem.F.plainAttrs_list PySem.F.slot_list_append PySem.F.type_list_append mt_append (pv 6) (pa_cons (pv 8) pa_nil)))))))
    (pss_one (ps_ret (pe_makeL (i := 0) MI GI hr4 rfl (by first | exact Or.inl rfl | exact Or.inr (Or.inl rfl)) bI .nil (fun σ => passAt (takes_of rfl rfl rfl rfl) σ) (pa_cons (pv 5) (pa_cons (pv 6) pa_nil))))))))), ?_⟩
  refine ⟨_, rfl, ⟨_, rfl⟩, z, "\n", rfl, rfl, rfl, Nat.le_trans (Nat.add_le_add_right hz 2) (by decide), fun wl nwl => ?_⟩
  have s0 := new_same nwl (.lst ((Txt.split z "\n").map V.str))
  have w0 : upd H wl (.lst ((Txt.split z "\n").map V.str)) wl = some (.lst ((Txt.split z "\n").map V.str)) := upd_same
  have oks : ∀ l ∈ Txt.split z "\n", PyData.strOk l = true := fun l hw => split_strOk nl_ok hok hw
  revert w0 s0 h0 hl hn oks kF kB kQ
  generalize upd H wl (.lst ((Txt.split z "\n").map V.str)) = H1
  generalize Txt.split z "\n" = ls
  intro h0 hl hn kF kB kQ s0 w0 oks
  have at0 : atI (ls.map V.str) 0 = some (.str l0) := atI_nat (j := 0) (by rw [List.getElem?_map, h0]; rfl)
  have ml0 : l0 ∈ ls := List.mem_of_getElem? h0
  have ll0 := hl l0 ml0
  refine ⟨_, rfl, wl, _, _, _, rfl, rfl, SqL.of w0, at0, ⟨_, rfl⟩, l0, " ", rfl, rfl, rfl, Nat.le_of_lt (small1000 (by omega)), fun pt npt => ?_⟩
  have hok0 := oks l0 ml0
  have lf : lineFirst l0 = if (Txt.partition l0 " ").1 = "first" ∧ nameP (Txt.partition l0 " ").2.2 = true then some (Txt.partition l0 " ").2.2 else none := rfl
  have fok : PyData.strOk (Txt.partition l0 " ").2.2 = true ∧ (Txt.partition l0 " ").2.2.length ≤ 100 := part_tail hok0 (by omega)
  revert lf fok
  generalize Txt.partition l0 " " = pr
  obtain ⟨wd, us, f⟩ := pr
  intro lf fok
  dsimp only at lf fok
  have s1 := s0.trans (new_same npt (.tup [.str wd, .str us, .str f]))
  have w1 := new_same npt (.tup [V.str wd, .str us, .str f]) _ _ w0
  have p1 : upd H1 pt (.tup [.str wd, .str us, .str f]) pt = some (.tup [.str wd, .str us, .str f]) := upd_same
  refine ⟨pt, _, rfl, SqT.of p1, rfl, _, _, rfl, _, _, rfl, _, _, rfl, rfl, ?_⟩
  generalize upd H1 pt (.tup [.str wd, .str us, .str f]) = H2 at s1 w1 p1 ⊢
  refine ⟨_, rfl, rfl, _, rfl, ?_⟩
  rw [str_dec]
  by_cases c1 : wd = "first"
  · rw [decide_eq_true c1]
    refine iteF ⟨_, rfl, .str f, rfl, (str_arg fok.1 fok.2).kind G.row (C := C), _, rfl, ?_⟩
    have ef : nameV nameP (.str f) = nameP f := rfl
    rw [ef]
    cases c2 : nameP f with
    | false =>
      refine iteT ?_
      have e : lineFirst l0 = none := by rw [lf, if_neg (by rw [c2]; exact fun q => nomatch q.2)]
      exact raise_okA (fun _ _ q => q) fun d hd => kF e d H2 s1 hd
    | true =>
      have e : lineFirst l0 = some f := by rw [lf, if_pos ⟨c1, c2⟩]
      refine iteF ⟨(by show 0 ≤ sizeLine; decide), fun rl nrl => ?_⟩
      have s2 := s1.trans (new_same nrl (.lst []))
      have w2 := new_same nrl (.lst []) _ _ w1
      have wr : wl ≠ rl := fun q => by rw [← q, w1] at nrl; cases nrl
      have frl : H rl = none := s1.free nrl
      have r2 : upd H2 rl (.lst []) rl = some (.lst []) := upd_same
      generalize upd H2 rl (.lst []) = H3 at s2 w2 r2 ⊢
      refine ⟨_, rfl, wl, _, rfl, .inl (SqL.of w2), 1, _, rfl, ⟨by decide, by decide, by rw [List.length_map]; omega, by rw [List.length_map]; omega⟩,
        for_range (lo := 1) (n := (((ls.map V.str).length : Nat) - 1 : Int).toNat) (fun i σ J => ∃ v7 v8 rs xs, σ = [some (.ref CR), some (.str z), some (.ref wl), some (.str wd), some (.str us), some (.str f), some (.ref rl), v7, v8] ∧ Same H J ∧ J wl = some (.lst (ls.map V.str)) ∧
          Parsed ls rs i ∧ J rl = some (.lst xs) ∧ RowsIn C J xs rs) ?_ ?_ ?_⟩
      · exact ⟨none, none, [], [], rfl, s2, w2, ⟨rfl, fun j hj => absurd hj (Nat.not_lt_zero _)⟩, r2, rfl, fun i x q => nomatch q⟩
      · rintro i σ J hi ⟨v7, v8, rs, xs, rfl, sJ, jw, pa, jr, jR⟩
        have hi' : i + 1 < ls.length := by
          rw [List.length_map] at hi
          omega
        obtain ⟨l, el⟩ : ∃ l, ls[i + 1]? = some l := ⟨_, List.getElem?_eq_getElem hi'⟩
        have ati : atI (ls.map V.str) (1 + (i : Nat)) = some (.str l) := by
          have := atI_nat (xs := ls.map V.str) (j := i + 1) (v := .str l) (by rw [List.getElem?_map, el]; rfl)
          rwa [show ((i + 1 : Nat) : Int) = 1 + (i : Nat) by omega] at this
        have ml := List.mem_of_getElem? el
        refine ⟨_, rfl, _, rfl, wl, _, _, _, rfl, rfl, SqL.of jw, ati, l, rfl, hl l ml, oks l ml, fun pn J2 s3 => ?_, fun r pr gr x dx J2 s3 nx jx => ?_⟩
        · refine ⟨_, rfl, rfl, _, rfl, iteT ?_⟩
          refine raise_okA (v := .int (1 + (i : Nat))) (fun _ _ q => ⟨_, rfl, q⟩) fun d hd => ?_
          have k := kB f e i l rs el pn pa d J2 (sJ.trans s3) hd
          rwa [show ((i + 1 : Nat) : Int) = 1 + (i : Nat) by omega] at k
        · refine ⟨_, rfl, rfl, _, rfl, iteF ?_⟩
          have jr2 := s3 _ _ jr
          have lx : xs.length = i := by rw [jR.1, pa.len]
          refine ⟨_, rfl, .inl ⟨rfl, _, SqL.of jr2⟩, _, rfl, rl, _, _, rfl, rfl, jr2, small1000 (by omega), ?_⟩
          have sE : Same H J2 := sJ.trans s3
          have xr : x ≠ rl := fun q => by rw [q, jr2] at jx; cases jx
          refine ⟨_, _, rs ++ [r], xs ++ [.ref x], rfl, fun c o h => ?_, ?_, ⟨by rw [List.length_append, pa.len]; rfl, fun j hj => ?_⟩, upd_same, by rw [List.length_append, List.length_append, jR.1]; rfl, fun j y ey => ?_⟩
          · rw [upd_ne (ne_of_none h frl)]
            exact sE c o h
          · rw [upd_ne wr]
            exact s3 _ _ jw
          · rcases Nat.lt_succ_iff_lt_or_eq.mp hj with hj | hj
            · obtain ⟨l', r', q1, q2, q3⟩ := pa.each j hj
              exact ⟨l', r', q1, by rw [List.getElem?_append_left (by rw [pa.len]; exact hj)]; exact q2, q3⟩
            · subst hj
              exact ⟨l, r, el, by rw [← pa.len]; exact List.getElem?_concat_length, pr⟩
          · rcases get_snoc ey with q | ⟨q, rfl⟩
            · obtain ⟨b, r', q1, q2, ⟨dy, q3⟩, g'⟩ := jR.2 j y q
              refine ⟨b, r', q1, ?_, ⟨dy, ?_⟩, g'⟩
              · rw [List.getElem?_append_left (List.getElem?_eq_some_iff.mp q2).1]
                exact q2
              · have hb : b ≠ rl := fun q => by rw [q, jr] at q3; cases q3
                rw [upd_ne hb]
                exact s3 _ _ q3
            · refine ⟨x, r, rfl, ?_, ⟨dx, ?_⟩, gr⟩
              · rw [q, jR.1]
                exact List.getElem?_concat_length
              · rw [upd_ne xr]
                exact jx
      · rintro σ J ⟨v7, v8, rs, xs, rfl, sJ, jw, pa, jr, jR⟩
        have en : (((ls.map V.str).length : Nat) - 1 : Int).toNat = ls.length - 1 := by
          rw [List.length_map]
          omega
        rw [en] at pa
        have l31 : rs.length ≤ 31 := by
          rw [pa.len]
          omega
        refine ⟨rfl, _, rfl, _, rfl, fun x dx nx ndx ne => ?_⟩
        have s3 : Same J (upd (upd J dx (.own x)) x (.ins CR dx [])) := fun b o e => by
          rw [upd_ne (ne_of_none e nx), upd_ne (ne_of_none e ndx)]
          exact e
        refine ⟨x, dx, .str f, .ref rl, rfl, upd_same, (str_arg fok.1 fok.2).kind G.row (C := C), .inr (.inr ⟨f, rl, xs, rs, rfl, c2, rfl, .inl (SqL.of (s3 _ _ jr)), jR.mono s3, l31, fun L off ru => ⟨rfl, ?_⟩⟩)⟩
        have fx : H x = none := sJ.free nx
        refine kQ f rs e pa x L (fun c o h => ?_) fx ru
        exact off c o (ne_of_none h fx) ((sJ.trans s3) c o h)
  · rw [decide_eq_false c1]
    refine iteT ?_
    have e : lineFirst l0 = none := by rw [lf, if_neg (fun q => c1 q.1)]
    exact raise_okA (fun _ _ q => q) fun d hd => kF e d H2 s1 hd
end
end LT
namespace LT
open PySem L2
/-! ### lists of ints in order, each once -/
def insI (a : Int) : List Int → List Int
  | [] => [a]
  | b :: l => if a ≤ b then a :: b :: l else b :: insI a l
def sortI (l : List Int) : List Int := l.foldr insI []
def putI (a : Int) : List Int → List Int
  | [] => [a]
  | b :: l => if a < b then a :: b :: l else if a = b then b :: l else b :: putI a l
def canonI (l : List Int) : List Int := l.foldr putI []
theorem ins_perm (a : Int) : ∀ l : List Int, (insI a l).Perm (a :: l)
  | [] => List.Perm.refl _
  | b :: l => by
    unfold insI
    split
    · exact List.Perm.refl _
    · exact ((ins_perm a l).cons b).trans (List.Perm.swap a b l)
theorem ins_up {a : Int} : ∀ {l : List Int}, l.Pairwise (· ≤ ·) → (insI a l).Pairwise (· ≤ ·)
  | [], _ => List.pairwise_singleton _ _
  | b :: l, h => by
    obtain ⟨h1, h2⟩ := List.pairwise_cons.mp h
    unfold insI
    split
    · rename_i c
      refine List.pairwise_cons.mpr ⟨fun x hx => ?_, h⟩
      rcases List.mem_cons.mp hx with q | q
      · omega
      · have := h1 x q
        omega
    · rename_i c
      refine List.pairwise_cons.mpr ⟨fun x hx => ?_, ins_up h2⟩
      rcases List.mem_cons.mp ((ins_perm a l).mem_iff.mp hx) with q | q
      · omega
      · exact h1 x q
theorem sort_perm : ∀ l : List Int, (sortI l).Perm l
  | [] => List.Perm.refl _
  | a :: l => (ins_perm a (sortI l)).trans ((sort_perm l).cons a)
theorem sort_up : ∀ l : List Int, (sortI l).Pairwise (· ≤ ·)
  | [] => .nil
  | a :: l => ins_up (sort_up l)
theorem put_mem {a k : Int} : ∀ {l : List Int}, k ∈ putI a l ↔ k = a ∨ k ∈ l
  | [] => by simp [putI]
  | b :: l => by
    unfold putI
    split
    · simp
    · split
      · rename_i e
        subst e
        simp
      · rw [List.mem_cons, put_mem, List.mem_cons]
        exact ⟨fun h => h.elim (fun e => .inr (.inl e)) (fun h => h.elim .inl fun h => .inr (.inr h)), fun h => h.elim (fun e => .inr (.inl e)) fun h => h.elim .inl fun h => .inr (.inr h)⟩
theorem put_up {a : Int} : ∀ {l : List Int}, l.Pairwise (· < ·) → (putI a l).Pairwise (· < ·)
  | [], _ => List.pairwise_singleton _ _
  | b :: l, h => by
    obtain ⟨h1, h2⟩ := List.pairwise_cons.mp h
    unfold putI
    split
    · rename_i c
      refine List.pairwise_cons.mpr ⟨fun x hx => ?_, h⟩
      rcases List.mem_cons.mp hx with q | q
      · omega
      · have := h1 x q
        omega
    · split
      · exact h
      · refine List.pairwise_cons.mpr ⟨fun x hx => ?_, put_up h2⟩
        rcases put_mem.mp hx with q | q
        · omega
        · exact h1 x q
theorem canon_mem {k : Int} : ∀ {l : List Int}, k ∈ canonI l ↔ k ∈ l
  | [] => Iff.rfl
  | a :: l => by
    show k ∈ putI a (canonI l) ↔ _
    rw [put_mem, canon_mem, List.mem_cons]
theorem canon_up : ∀ l : List Int, (canonI l).Pairwise (· < ·)
  | [] => .nil
  | a :: l => put_up (canon_up l)
/-! ### what play tells, in one form -/
def osOf (rs : List (List Int)) : List (List Int) := rs.map sortI
def grantsL (rows : List Row5) (first : Str) (rs : List (List Int)) : List (List Int) := (List.range rs.length).map fun i => canonI (grantsAt rows first (osOf rs) i)
def doneL (rows : List Row5) (first : Str) (rs : List (List Int)) : List V := (List.range rs.length).map (doneAt rows first (osOf rs))
def modesL (rows : List Row5) (first : Str) (rs : List (List Int)) : List Str := (List.range (rs.length + 1)).map fun i => (stAt rows first (osOf rs) i).1
def ptrsL (rows : List Row5) (first : Str) (rs : List (List Int)) : List (Option Int) := (List.range (rs.length + 1)).map fun i => (stAt rows first (osOf rs) i).2
def faultsL (rows : List Row5) (first : Str) (rs : List (List Int)) : List V := faultsV (List.zipWith (fun o u : List Int => (o.length, u.length)) (osOf rs) (grantsL rows first rs))
/-- tuples of ints in a tuple -/
def GsAt (J : Hp) (gs : List V) (us : List (List Int)) : Prop := gs.length = us.length ∧ ∀ (j : Nat) (v : V), gs[j]? = some v → ∃ (q : Addr) (out : List Int), v = .ref q ∧ us[j]? = some out ∧ J q = some (.tup (out.map V.int))
theorem GsAt.monoX {J L : Hp} {gs : List V} {us : List (List Int)} (s : L3.Ex J L) (h : GsAt J gs us) : GsAt L gs us :=
  ⟨h.1, fun j v e => by
    obtain ⟨q, out, e1, e2, e3⟩ := h.2 j v e
    exact ⟨q, out, e1, e2, s _ _ e3⟩⟩
theorem GsAt.mono {J L : Hp} {gs : List V} {us : List (List Int)} (s : Same J L) (h : GsAt J gs us) : GsAt L gs us := h.monoX (L3.exOf s)
structure PlayedN (J : Hp) (CP x : Addr) (rows : List Row5) (first : Str) (rs : List (List Int)) : Prop where
  ex : ∃ (gs : List V) (dx t1 t2 t3 t4 t5 : Addr), J x = some (.ins CP dx (playFs (.ref t1) (.ref t2) (.ref t3) (.ref t4) (.ref t5))) ∧ J t1 = some (.tup gs) ∧ GsAt J gs (grantsL rows first rs) ∧ J t2 = some (.tup (doneL rows first rs)) ∧
    J t3 = some (.tup ((modesL rows first rs).map V.str)) ∧ J t4 = some (.tup ((ptrsL rows first rs).map ptrV)) ∧ J t5 = some (.tup (faultsL rows first rs))
theorem PlayedN.monoX {J L : Hp} {CP x : Addr} {rows : List Row5} {first : Str} {rs : List (List Int)} (s : L3.Ex J L) (h : PlayedN J CP x rows first rs) : PlayedN L CP x rows first rs := by
  obtain ⟨gs, dx, t1, t2, t3, t4, t5, h0, h1, h2, h3, h4, h5, h6⟩ := h.ex
  exact ⟨gs, dx, t1, t2, t3, t4, t5, s _ _ h0, s _ _ h1, h2.monoX s, s _ _ h3, s _ _ h4, s _ _ h5, s _ _ h6⟩
theorem PlayedN.mono {J L : Hp} {CP x : Addr} {rows : List Row5} {first : Str} {rs : List (List Int)} (s : Same J L) (h : PlayedN J CP x rows first rs) : PlayedN L CP x rows first rs := h.monoX (L3.exOf s)
theorem ext_get {α : Type} {a b : List α} (hl : a.length = b.length) (h : ∀ (i : Nat) x y, a[i]? = some x → b[i]? = some y → x = y) : a = b := by
  refine List.ext_getElem hl fun i h1 h2 => ?_
  exact h i _ _ (List.getElem?_eq_getElem h1) (List.getElem?_eq_getElem h2)
theorem PlayedAt.norm {J : Hp} {CP x : Addr} {rows : List Row5} {first : Str} {rs : List (List Int)} (h : PlayedAt J CP x rows first rs) : PlayedN J CP x rows first rs := by
  obtain ⟨os, us, gs, dx, t1, t2, t3, t4, t5, ln, op, h0, h1, hg, h2, h3, h4, h5⟩ := h.ex
  have eo : os = osOf rs := by
    refine ext_get (by rw [ln, osOf, List.length_map]) fun i o y e1 e2 => ?_
    obtain ⟨ns, er, pm, up⟩ := op i o e1
    rw [osOf, List.getElem?_map, er] at e2
    obtain rfl := Option.some.inj e2
    exact sorted_one up (sort_up ns) (pm.trans (sort_perm ns).symm)
  subst eo
  obtain ⟨g1, g2, g3⟩ := hg
  have eu : us = grantsL rows first rs := by
    refine ext_get (by rw [g2, grantsL, List.length_map, List.length_range]) fun i u y e1 e2 => ?_
    have hi : i < gs.length := by
      rw [g1, ← g2]
      exact (List.getElem?_eq_some_iff.mp e1).1
    obtain ⟨q, out, _, e4, _, up, mem⟩ := g3 i _ (List.getElem?_eq_getElem hi)
    rw [e1] at e4
    cases e4
    have hi' : i < rs.length := by omega
    rw [grantsL, List.getElem?_map, List.getElem?_range hi'] at e2
    obtain rfl := Option.some.inj e2
    exact lt_pairwise_one up (canon_up _) fun k => by rw [mem k, canon_mem]
  subst eu
  refine ⟨gs, dx, t1, t2, t3, t4, t5, h0, h1, ⟨by rw [g1, g2], fun j v e => ?_⟩, h2, ?_, ?_, h5⟩
  · obtain ⟨q, out, e1, e2, e3, _⟩ := g3 j v e
    exact ⟨q, out, e1, e2, e3⟩
  · rw [modesL, List.map_map]
    exact h3
  · rw [ptrsL, List.map_map]
    exact h4
/-! ### nested ints as data -/
def intsD (l : List Int) : PyData := .tuple (l.map .int)
def gsD (us : List (List Int)) : PyData := .tuple (us.map intsD)
theorem dp_ints {K : PySem.W.Frag} {H : Hp} : ∀ l : List Int, DpAll K H (l.map V.int) (l.map PyData.int)
  | [] => .nil
  | x :: l => .cons (.int x) (dp_ints l)
theorem dp_intsT {K : PySem.W.Frag} {H : Hp} {q : Addr} {l : List Int} (h : SqT K H q (l.map V.int)) : Dp K H (.ref q) (intsD l) := .tup h (dp_ints l)
theorem dp_all {K : PySem.W.Frag} {H : Hp} {α : Type} {f : α → PyData} : ∀ {gs : List V} {us : List α}, gs.length = us.length → (∀ (j : Nat) (v : V), gs[j]? = some v → ∃ u, us[j]? = some u ∧ Dp K H v (f u)) → DpAll K H gs (us.map f)
  | [], [], _, _ => .nil
  | [], _ :: _, h, _ => absurd h (by simp)
  | _ :: _, [], h, _ => absurd h (by simp)
  | g :: gs, u :: us, h, e => by
    obtain ⟨u', e1, e2⟩ := e 0 g rfl
    have : u = u' := by simpa using e1
    subst this
    exact .cons e2 (dp_all (by simpa using h) fun j v q => by
      obtain ⟨w, e3, e4⟩ := e (j + 1) v (by simpa using q)
      exact ⟨w, by simpa using e3, e4⟩)
theorem dp_gs {K : PySem.W.Frag} {H : Hp} {t : Addr} {gs : List V} {us : List (List Int)} (h : SqT K H t gs) (g : GsAt H gs us) : Dp K H (.ref t) (gsD us) :=
  .tup h (dp_all g.1 fun j v e => by
    obtain ⟨q, out, rfl, e2, e3⟩ := g.2 j v e
    exact ⟨out, e2, dp_intsT (SqT.of e3)⟩)
theorem ints_lay : ∀ l : List Int, PyData.canLayAll0 (l.map PyData.int) = true ∧ PyData.depthAll (l.map PyData.int) ≤ 1
  | [] => by simp [PyData.canLayAll0, PyData.depthAll]
  | x :: l => by
    obtain ⟨h1, h2⟩ := ints_lay l
    refine ⟨by simp [PyData.canLayAll0, PyData.canLay0, h1], ?_⟩
    show max (PyData.depth (.int x)) (PyData.depthAll (l.map PyData.int)) ≤ 1
    exact Nat.max_le.mpr ⟨by simp [PyData.depth], h2⟩
theorem gs_lay : ∀ us : List (List Int), PyData.canLayAll0 (us.map intsD) = true ∧ PyData.depthAll (us.map intsD) ≤ 3
  | [] => by simp [PyData.canLayAll0, PyData.depthAll]
  | u :: us => by
    obtain ⟨h1, h2⟩ := gs_lay us
    obtain ⟨k1, k2⟩ := ints_lay u
    refine ⟨by simp [PyData.canLayAll0, intsD, PyData.canLay0, h1, k1], ?_⟩
    show max (PyData.depth (.tuple (u.map PyData.int))) (PyData.depthAll (us.map intsD)) ≤ 3
    refine Nat.max_le.mpr ⟨?_, h2⟩
    simp only [PyData.depth]
    omega
theorem shaped_gs (us : List (List Int)) : SeqAt.shaped (gsD us) = true := by
  obtain ⟨h1, h2⟩ := gs_lay us
  show ((PyData.tuple (us.map intsD)).canLay0 && decide ((PyData.tuple (us.map intsD)).depth ≤ 64)) = true
  rw [Bool.and_eq_true, decide_eq_true_eq]
  refine ⟨by simpa [PyData.canLay0] using h1, ?_⟩
  simp only [PyData.depth]
  omega
theorem shaped_ints (l : List Int) : SeqAt.shaped (intsD l) = true := by
  obtain ⟨h1, h2⟩ := ints_lay l
  show ((PyData.tuple (l.map PyData.int)).canLay0 && decide ((PyData.tuple (l.map PyData.int)).depth ≤ 64)) = true
  rw [Bool.and_eq_true, decide_eq_true_eq]
  refine ⟨by simpa [PyData.canLay0] using h1, ?_⟩
  simp only [PyData.depth]
  omega
end LT
namespace LT
open PySem L2
/-! ### written data, as it is made -/
mutual
def Dt (H : Hp) : PyData → V → Prop
  | .none, v => v = .non
  | .bool b, v => v = .bl b
  | .int i, v => v = .int i
  | .str s, v => v = .str s
  | .list ds, v => ∃ a vs, v = .ref a ∧ H a = some (.lst vs) ∧ DtAll H ds vs
  | .tuple ds, v => ∃ a vs, v = .ref a ∧ H a = some (.tup vs) ∧ DtAll H ds vs
  | .dict _, _ => False
def DtAll (H : Hp) : List PyData → List V → Prop
  | [], vs => vs = []
  | d :: ds, vs => ∃ v ws, vs = v :: ws ∧ Dt H d v ∧ DtAll H ds ws
end
mutual
theorem dt_monoX {H J : Hp} (s : L3.Ex H J) : ∀ (d : PyData) (v : V), Dt H d v → Dt J d v
  | .none, _, h => h
  | .bool _, _, h => h
  | .int _, _, h => h
  | .str _, _, h => h
  | .list ds, _, ⟨a, vs, e, h, k⟩ => ⟨a, vs, e, s _ _ h, dtAll_monoX s ds vs k⟩
  | .tuple ds, _, ⟨a, vs, e, h, k⟩ => ⟨a, vs, e, s _ _ h, dtAll_monoX s ds vs k⟩
  | .dict _, _, h => h.elim
theorem dtAll_monoX {H J : Hp} (s : L3.Ex H J) : ∀ (ds : List PyData) (vs : List V), DtAll H ds vs → DtAll J ds vs
  | [], _, h => h
  | d :: ds, _, ⟨v, ws, e, h, k⟩ => ⟨v, ws, e, dt_monoX s d v h, dtAll_monoX s ds ws k⟩
end
theorem dt_mono {H J : Hp} (s : Same H J) : ∀ (d : PyData) (v : V), Dt H d v → Dt J d v := dt_monoX (L3.exOf s)
theorem dtAll_mono {H J : Hp} (s : Same H J) : ∀ (ds : List PyData) (vs : List V), DtAll H ds vs → DtAll J ds vs := dtAll_monoX (L3.exOf s)
mutual
theorem dt_dp {K : PySem.W.Frag} {H : Hp} : ∀ (d : PyData) (v : V), Dt H d v → Dp K H v d
  | .none, _, h => by
    have e : _ = V.non := h
    rw [e]
    exact .non
  | .bool b, _, h => by
    have e : _ = V.bl b := h
    rw [e]
    exact .bl b
  | .int i, _, h => by
    have e : _ = V.int i := h
    rw [e]
    exact .int i
  | .str x, _, h => by
    have e : _ = V.str x := h
    rw [e]
    exact .str x
  | .list ds, _, ⟨a, vs, e, h, k⟩ => by
    rw [e]
    exact .lst (SqL.of h) (dtAll_dp ds vs k)
  | .tuple ds, _, ⟨a, vs, e, h, k⟩ => by
    rw [e]
    exact .tup (SqT.of h) (dtAll_dp ds vs k)
  | .dict _, _, h => h.elim
theorem dtAll_dp {K : PySem.W.Frag} {H : Hp} : ∀ (ds : List PyData) (vs : List V), DtAll H ds vs → DpAll K H vs ds
  | [], _, h => by
    have e : _ = ([] : List V) := h
    rw [e]
    exact .nil
  | d :: ds, _, ⟨v, ws, e, h, k⟩ => by
    rw [e]
    exact .cons (dt_dp d v h) (dtAll_dp ds ws k)
end
theorem dtAll_len {H : Hp} : ∀ {ds : List PyData} {vs : List V}, DtAll H ds vs → vs.length = ds.length
  | [], _, h => by
    have e : _ = ([] : List V) := h
    rw [e]
    rfl
  | _ :: _, _, ⟨v, ws, e, _, k⟩ => by
    rw [e, List.length_cons, List.length_cons, dtAll_len k]
theorem dtAll_app {H : Hp} : ∀ {ds es : List PyData} {vs us : List V}, DtAll H ds vs → DtAll H es us → DtAll H (ds ++ es) (vs ++ us)
  | [], _, _, _, h, k => by
    have e : _ = ([] : List V) := h
    rw [e]
    exact k
  | _ :: _, _, _, _, ⟨v, ws, e, h, g⟩, k => by
    rw [e]
    exact ⟨v, _, rfl, h, dtAll_app g k⟩
theorem dtAll_drop {H : Hp} : ∀ {n : Nat} {ds : List PyData} {vs : List V}, DtAll H ds vs → DtAll H (ds.drop n) (vs.drop n)
  | 0, _, _, h => h
  | n + 1, [], _, h => by
    have e : _ = ([] : List V) := h
    rw [e]
    exact rfl
  | n + 1, _ :: _, _, ⟨v, ws, e, _, k⟩ => by
    rw [e]
    exact dtAll_drop (n := n) k
theorem dtAll_take {H : Hp} : ∀ {n : Nat} {ds : List PyData} {vs : List V}, DtAll H ds vs → DtAll H (ds.take n) (vs.take n)
  | 0, _, _, _ => rfl
  | n + 1, [], _, h => by
    have e : _ = ([] : List V) := h
    rw [e]
    exact rfl
  | n + 1, _ :: _, _, ⟨v, ws, e, h, k⟩ => by
    rw [e]
    exact ⟨v, _, rfl, h, dtAll_take (n := n) k⟩
theorem dtAll_rep {H : Hp} {d : PyData} {v : V} (h : Dt H d v) : ∀ n, DtAll H (List.replicate n d) (List.replicate n v)
  | 0 => rfl
  | n + 1 => ⟨v, _, rfl, h, dtAll_rep h n⟩
theorem dtAll_at {H : Hp} : ∀ {ds : List PyData} {vs : List V} {i : Nat} {d : PyData}, DtAll H ds vs → ds[i]? = some d → ∃ v, vs[i]? = some v ∧ Dt H d v
  | [], _, _, _, _, e => by simp at e
  | _ :: _, _, 0, _, ⟨v, ws, e1, h, _⟩, e => by
    rw [e1]
    have : _ = _ := Option.some.inj e
    subst this
    exact ⟨v, rfl, h⟩
  | _ :: _, _, i + 1, _, ⟨v, ws, e1, _, k⟩, e => by
    rw [e1]
    obtain ⟨u, q1, q2⟩ := dtAll_at (i := i) k (by simpa using e)
    exact ⟨u, by simpa using q1, q2⟩
/-- what is seen of a heap: all, or all but a list that grows -/
structure View (vw : Hp → Hp) (ok : Hp → Prop) : Prop where
  same : ∀ {H J : Hp}, ok H → Same H J → Same (vw H) (vw J) ∧ ok J
  new : ∀ {H : Hp} {p : Addr} {o : HO}, ok H → H p = none → vw (upd H p o) p = some o
theorem viewAll : View (fun H => H) (fun _ => True) := ⟨fun _ s => ⟨s, trivial⟩, fun _ _ => upd_same⟩
theorem viewOff (b : Addr) : View (fun H => offB H b) (fun H => ∃ o, H b = some o) :=
  ⟨fun ⟨o, h⟩ s => ⟨fun c u e => by
      obtain ⟨n, e⟩ := offB_some e
      show offB _ b c = some u
      rw [offB_ne n]
      exact s _ _ e, ⟨o, s _ _ h⟩⟩, fun {H p o} ⟨u, h⟩ n => by
      have : p ≠ b := fun q => by rw [q, h] at n; cases n
      show offB (upd H p o) b p = some o
      rw [offB_ne this]
      exact upd_same⟩
theorem off_put {H : Hp} {b : Addr} {o : HO} : offB (upd H b o) b = offB H b := by
  funext c
  by_cases h : c = b
  · simp [offB, h]
  · rw [offB_ne h, offB_ne h, upd_ne h]
def LitR (vw : Hp → Hp) (ok : Hp → Prop) (pre : L2.St → Hp → Prop) (t : TE) (d : PyData) : Prop := ∀ σ H (Q : VK), pre σ H → ok H → (∀ v J, Same H J → Dt (vw J) d v → Q v J) → t σ H Q
def LitA (vw : Hp → Hp) (ok : Hp → Prop) (pre : L2.St → Hp → Prop) (t : TA) (ds : List PyData) : Prop := ∀ σ H (Q : List V → Hp → Prop), pre σ H → ok H → (∀ vs J, Same H J → DtAll (vw J) ds vs → Q vs J) → t σ H Q
section
variable {vw : Hp → Hp} {ok : Hp → Prop} {pre : L2.St → Hp → Prop} {K : PySem.W.Frag}
theorem lit_int {n : Int} : LitR vw ok pre (tC (.int n)) (.int n) := fun _ _ _ _ _ q => q _ _ (Same.refl _) rfl
theorem lit_str {z : Str} : LitR vw ok pre (tC (.str z)) (.str z) := fun _ _ _ _ _ q => q _ _ (Same.refl _) rfl
theorem lit_non : LitR vw ok pre (tC .non) .none := fun _ _ _ _ _ q => q _ _ (Same.refl _) rfl
theorem la_nil : LitA vw ok pre tNil [] := fun _ _ _ _ _ q => q _ _ (Same.refl _) rfl
theorem la_cons (V0 : View vw ok) (mono : ∀ σ H J, pre σ H → Same H J → pre σ J) {t : TE} {ts : TA} {d : PyData} {ds : List PyData} (h : LitR vw ok pre t d) (hs : LitA vw ok pre ts ds) : LitA vw ok pre (tCons t ts) (d :: ds) :=
  fun σ H Q p o q => h σ H _ p o fun v J s1 h1 => hs σ J _ (mono _ _ _ p s1) (V0.same o s1).2 fun vs L s2 h2 =>
    q _ _ (s1.trans s2) ⟨v, vs, rfl, dt_mono (V0.same (V0.same o s1).2 s2).1 d v h1, h2⟩
theorem lit_tup (V0 : View vw ok) {t : TA} {ds : List PyData} (few : ds.length ≤ 1000) (h : LitA vw ok pre t ds) : LitR vw ok pre (tTup t) (.tuple ds) :=
  fun σ H Q p o q => h σ H _ p o fun vs J s1 h1 => ⟨by rw [dtAll_len h1]; exact Nat.le_of_lt (small1000 few), fun a na =>
    q _ _ (s1.trans (new_same na _)) ⟨a, vs, rfl, V0.new (V0.same o s1).2 na, dtAll_mono (V0.same (V0.same o s1).2 (new_same na _)).1 ds vs h1⟩⟩
theorem lit_lst (V0 : View vw ok) {t : TA} {ds : List PyData} (few : ds.length ≤ 1000) (h : LitA vw ok pre t ds) : LitR vw ok pre (tLst t) (.list ds) :=
  fun σ H Q p o q => h σ H _ p o fun vs J s1 h1 => ⟨by rw [dtAll_len h1]; exact Nat.le_of_lt (small1000 few), fun a na =>
    q _ _ (s1.trans (new_same na _)) ⟨a, vs, rfl, V0.new (V0.same o s1).2 na, dtAll_mono (V0.same (V0.same o s1).2 (new_same na _)).1 ds vs h1⟩⟩
theorem lit_cat (V0 : View vw ok) (sub : ∀ H, Same (vw H) H) (mono : ∀ σ H J, pre σ H → Same H J → pre σ J) {t u : TE} {ds es : List PyData} (few : ds.length + es.length ≤ 1000) (h : LitR vw ok pre t (.list ds)) (k : LitR vw ok pre u (.list es)) :
    LitR vw ok pre (tOp rCat t u) (.list (ds ++ es)) :=
  fun σ H Q p o q => h σ H _ p o fun v J s1 h1 => k σ J _ (mono _ _ _ p s1) (V0.same o s1).2 fun w L s2 h2 => by
    have o1 := (V0.same o s1).2
    have o2 := (V0.same o1 s2).2
    obtain ⟨a, vs, rfl, ha, g1⟩ := dt_mono (V0.same o1 s2).1 _ v h1
    obtain ⟨b, us, rfl, hb, g2⟩ := h2
    refine ⟨a, b, vs, us, rfl, rfl, sub _ _ _ ha, sub _ _ _ hb, ?_, fun c nc => ?_⟩
    · rw [dtAll_len g1, dtAll_len g2]
      exact Nat.le_of_lt (small1000 few)
    · have sc := new_same nc (.lst (vs ++ us))
      exact q _ _ ((s1.trans s2).trans sc) ⟨c, _, rfl, V0.new o2 nc, dtAll_mono (V0.same o2 sc).1 _ _ (dtAll_app g1 g2)⟩
theorem lit_var {i : Nat} {d : PyData} (h : ∀ σ H, pre σ H → ok H → ∃ v, σ[i]? = some (some v) ∧ Dt (vw H) d v) : LitR vw ok pre (tVar i) d := fun σ H Q p o q => by
  obtain ⟨v, e, g⟩ := h σ H p o
  exact ⟨v, e, q _ _ (Same.refl _) g⟩
end
end LT
namespace LT
open PySem L2
/-- what some slots hold -/
def SlotsD (vw : Hp → Hp) (ok : Hp → Prop) (L : List (Nat × PyData)) (σ : L2.St) (H : Hp) : Prop := ok H ∧ ∀ p ∈ L, ∃ v, σ[p.1]? = some (some v) ∧ Dt (vw H) p.2 v
section
variable {vw : Hp → Hp} {ok : Hp → Prop} {L : List (Nat × PyData)}
theorem slots_mono (V0 : View vw ok) : ∀ σ H J, SlotsD vw ok L σ H → Same H J → SlotsD vw ok L σ J := fun σ H J ⟨o, h⟩ s => ⟨(V0.same o s).2, fun p hp => by
  obtain ⟨v, e, g⟩ := h p hp
  exact ⟨v, e, dt_mono (V0.same o s).1 _ v g⟩⟩
theorem slots_set (V0 : View vw ok) {σ : L2.St} {H : Hp} {i : Nat} {d : PyData} {v : V} (h : SlotsD vw ok L σ H) (g : Dt (vw H) d v) (hi : i < σ.length) (nw : (L.all fun p => p.1 != i) = true) : SlotsD vw ok ((i, d) :: L) (σ.set i (some v)) H :=
  ⟨h.1, fun p hp => by
    rcases List.mem_cons.mp hp with rfl | hp
    · exact ⟨v, by simp [hi], g⟩
    · obtain ⟨u, e, k⟩ := h.2 p hp
      have n : p.1 ≠ i := by simpa using List.all_eq_true.mp nw p hp
      exact ⟨u, by rw [List.getElem?_set_ne (Ne.symm n)]; exact e, k⟩⟩
theorem lit_slot {i : Nat} {d : PyData} (m : (i, d) ∈ L) : LitR vw ok (SlotsD vw ok L) (tVar i) d := lit_var fun σ H p _ => p.2 (i, d) m
theorem lit_rep (V0 : View vw ok) (sub : ∀ H, Same (vw H) H) {t : TE} {d : PyData} {n : Nat} (few : n ≤ 1000) (h : LitR vw ok (SlotsD vw ok L) t (.list [d])) : LitR vw ok (SlotsD vw ok L) (tOp rRep t (tC (.int (n : Nat)))) (.list (List.replicate n d)) :=
  fun σ H Q p o q => h σ H _ p o fun v J s1 ⟨a, vs, e, ha, u, ws, e2, g, e3⟩ => by
    have e3' : ws = [] := e3
    subst e3' e2
    refine ⟨a, (n : Nat), _, e, rfl, sub _ _ _ ha, by omega, by omega, ?_, fun c nc => ?_⟩
    · show 1 * (n : Int).toNat ≤ sizeLine
      exact Nat.le_of_lt (small1000 (by omega))
    · have sc := new_same nc (.lst (List.replicate (n : Int).toNat [u]).flatten)
      have o1 := (V0.same o s1).2
      have er : (List.replicate (n : Int).toNat [u]).flatten = List.replicate n u := by simp
      refine q _ _ (s1.trans sc) ⟨c, _, rfl, V0.new o1 nc, ?_⟩
      rw [er]
      rw [er] at sc
      exact dtAll_rep (dt_mono (V0.same o1 sc).1 _ _ g) n
theorem lit_from1 (V0 : View vw ok) (sub : ∀ H, Same (vw H) H) {K : PySem.W.Frag} {t : TE} {d : PyData} {ds : List PyData} (h : LitR vw ok (SlotsD vw ok L) t (.list (d :: ds))) : LitR vw ok (SlotsD vw ok L) (tSl (rSlL K) t (tPart (tC (.int 1))) tNoPart) (.list ds) :=
  fun σ H Q p o q => h σ H _ p o fun v J s1 ⟨a, vs, e, ha, u, ws, e2, g, k⟩ => by
    subst e2
    refine ⟨1, rfl, a, u :: ws, e, SqL.of (sub _ _ _ ha), fun c nc => ?_⟩
    have ec : cutV (u :: ws) (some 1) none = ws := by
      have e1 : HT.sIx (u :: ws).length 0 (some 1) = 1 := by
        have := HT.sIx_nat (u :: ws).length 0 1
        rw [List.length_cons] at this ⊢
        exact this.trans (Nat.min_eq_left (by omega))
      have e2 : HT.sIx (u :: ws).length (u :: ws).length none = (u :: ws).length := rfl
      unfold cutV
      rw [e1, e2]
      simp
    rw [ec]
    have sc := new_same nc (.lst ws)
    have o1 := (V0.same o s1).2
    exact q _ _ (s1.trans sc) ⟨c, _, rfl, V0.new o1 nc, dtAll_mono (V0.same o1 sc).1 _ _ k⟩
end
/-- what is new since H0; all, or all but a list that grows -/
def okN (H0 : Hp) : Hp → Prop := fun J => Same H0 J
def okG (H0 : Hp) (b : Addr) : Hp → Prop := fun J => (∃ o, J b = some o) ∧ Same H0 J
def vwG (H0 : Hp) (b : Addr) : Hp → Hp := fun J => offB (frs H0 J) b
theorem viewN (H0 : Hp) : View (frs H0) (okN H0) :=
  ⟨fun o s => ⟨fun c u e => by
      obtain ⟨n, e⟩ := frs_some e
      rw [frs_of n]
      exact s _ _ e, Same.trans o s⟩, fun o n => by
      rw [frs_of (Same.free o n)]
      exact upd_same⟩
theorem viewG (H0 : Hp) (b : Addr) : View (vwG H0 b) (okG H0 b) :=
  ⟨fun ⟨⟨o, h⟩, k⟩ s => ⟨fun c u e => by
      obtain ⟨n, e⟩ := offB_some e
      obtain ⟨m, e⟩ := frs_some e
      show offB _ b c = some u
      rw [offB_ne n, frs_of m]
      exact s _ _ e, ⟨o, s _ _ h⟩, Same.trans k s⟩, fun {H p o} ⟨⟨u, h⟩, k⟩ n => by
      have : p ≠ b := fun q => by rw [q, h] at n; cases n
      show offB _ b p = some o
      rw [offB_ne this, frs_of (Same.free k n)]
      exact upd_same⟩
theorem subN (H0 : Hp) : ∀ H, Same (frs H0 H) H := fun _ => frs_sub
theorem subG (H0 : Hp) (b : Addr) : ∀ H, Same (vwG H0 b H) H := fun _ => Same.trans offB_sub frs_sub
theorem vwG_put {H0 H : Hp} {b : Addr} {o : HO} : vwG H0 b (upd H b o) = vwG H0 b H := by
  funext c
  show offB (frs H0 (upd H b o)) b c = offB (frs H0 H) b c
  by_cases h : c = b
  · simp [offB, h]
  · rw [offB_ne h, offB_ne h]
    unfold frs
    split
    · rfl
    · rw [upd_ne h]
/-- a list that grows, of written data -/
structure FoundAt (H0 H : Hp) (σ : L2.St) (fl : Addr) (xs : List V) (ds : List PyData) (L : List (Nat × PyData)) (n : Nat) : Prop where
  slot : σ[1]? = some (some (.ref fl))
  len : σ.length = n
  at_ : H fl = some (.lst xs)
  all : DtAll (vwG H0 fl H) ds xs
  pre : SlotsD (vwG H0 fl) (okG H0 fl) L σ H
  new : H0 fl = none
theorem FoundAt.same {H0 H : Hp} {σ : L2.St} {fl : Addr} {xs : List V} {ds : List PyData} {L : List (Nat × PyData)} {n : Nat} (h : FoundAt H0 H σ fl xs ds L n) : Same H0 H := h.pre.1.2
theorem FoundAt.more {H0 H J : Hp} {σ : L2.St} {fl : Addr} {xs : List V} {ds : List PyData} {L : List (Nat × PyData)} {n : Nat} (h : FoundAt H0 H σ fl xs ds L n) (s : Same H J) : FoundAt H0 J σ fl xs ds L n :=
  ⟨h.slot, h.len, s _ _ h.at_, dtAll_mono ((viewG H0 fl).same h.pre.1 s).1 _ _ h.all, slots_mono (viewG H0 fl) _ _ _ h.pre s, h.new⟩
theorem FoundAt.app {H0 H J : Hp} {σ : L2.St} {fl : Addr} {xs : List V} {ds : List PyData} {L : List (Nat × PyData)} {n : Nat} {d : PyData} {v : V} (h0 : FoundAt H0 H σ fl xs ds L n) (s : Same H J) (g : Dt (vwG H0 fl J) d v) :
    FoundAt H0 (upd J fl (.lst (xs ++ [v]))) σ fl (xs ++ [v]) (ds ++ [d]) L n := by
  have h := h0.more s
  refine ⟨h.slot, h.len, upd_same, ?_, ⟨⟨⟨_, upd_same⟩, fun c o e => ?_⟩, fun p hp => ?_⟩, h.new⟩
  · rw [vwG_put]
    exact dtAll_app h.all ⟨v, [], rfl, g, rfl⟩
  · rw [upd_ne (ne_of_none e h.new)]
    exact h.same _ _ e
  · obtain ⟨u, e, k⟩ := h.pre.2 p hp
    refine ⟨u, e, ?_⟩
    rw [vwG_put]
    exact k
theorem FoundAt.set {H0 H J : Hp} {σ : L2.St} {fl : Addr} {xs : List V} {ds : List PyData} {L : List (Nat × PyData)} {n : Nat} {d : PyData} {v : V} {i : Nat} (h0 : FoundAt H0 H σ fl xs ds L n) (s : Same H J) (g : Dt (vwG H0 fl J) d v) (hi : i < n) (h1 : i ≠ 1) (nw : (L.all fun p => p.1 != i) = true) :
    FoundAt H0 J (σ.set i (some v)) fl xs ds ((i, d) :: L) n := by
  have h := h0.more s
  exact ⟨by rw [List.getElem?_set_ne h1]; exact h.slot, by rw [List.length_set]; exact h.len, h.at_, h.all, slots_set (viewG H0 fl) h.pre g (by rw [h.len]; exact hi) nw, h.new⟩
theorem FoundAt.few {H0 H : Hp} {σ : L2.St} {fl : Addr} {xs : List V} {ds : List PyData} {L : List (Nat × PyData)} {n : Nat} (h : FoundAt H0 H σ fl xs ds L n) (hd : ds.length ≤ 100) : xs.length < sizeLine := by
  rw [dtAll_len h.all]
  exact small1000 (by omega)
theorem found_start {H0 J : Hp} {σ : L2.St} {fl : Addr} {vs : List V} {ds : List PyData} {L : List (Nat × PyData)} {m : Nat} (n : J fl = none) (g : DtAll (frs H0 J) ds vs) (p : SlotsD (frs H0) (okN H0) L σ J) (nw : (L.all fun p => p.1 != 1) = true) (hl : σ.length = m) (hm : 1 < m) :
    FoundAt H0 (upd J fl (.lst vs)) (σ.set 1 (some (.ref fl))) fl vs ds L m := by
  have s : Same H0 J := p.1
  have sub : Same (frs H0 J) (vwG H0 fl (upd J fl (.lst vs))) := fun c o e => by
    obtain ⟨e0, e⟩ := frs_some e
    have : c ≠ fl := ne_of_none e n
    show offB (frs H0 (upd J fl (.lst vs))) fl c = some o
    rw [offB_ne this, frs_of e0, upd_ne this]
    exact e
  refine ⟨by simp [hl, hm], by rw [List.length_set]; exact hl, upd_same, dtAll_mono sub _ _ g, ⟨⟨⟨_, upd_same⟩, s.trans (new_same n _)⟩, fun p' hp => ?_⟩, s.free n⟩
  obtain ⟨v, e, k⟩ := p.2 p' hp
  have m : p'.1 ≠ 1 := by simpa using List.all_eq_true.mp nw p' hp
  exact ⟨v, by rw [List.getElem?_set_ne (Ne.symm m)]; exact e, dt_mono sub _ _ k⟩
theorem FoundAt.news {H0 H : Hp} {σ : L2.St} {fl : Addr} {xs : List V} {ds : List PyData} {L : List (Nat × PyData)} {n : Nat} (h : FoundAt H0 H σ fl xs ds L n) : DtAll (frs H0 H) ds xs := dtAll_mono offB_sub _ _ h.all
theorem seq_set {t : TE} {i : Nat} {r : TS} {D : Ends} {σ : L2.St} {H : Hp} (h : t σ H fun v J => r D (σ.set i (some v)) J) : tSeq (tAsg t (gName i)) r D σ H := h
theorem seq_lst {t : TA} {i : Nat} {r : TS} {D : Ends} {σ : L2.St} {H : Hp} (h : t σ H fun vs J => vs.length ≤ sizeLine ∧ ∀ p, J p = none → r D (σ.set i (some (.ref p))) (upd J p (.lst vs))) : tSeq (tAsg (tLst t) (gName i)) r D σ H := h
theorem seq_drop {t : TE} {r : TS} {D : Ends} {σ : L2.St} {H : Hp} (h : t σ H fun _ J => r D σ J) : tSeq (tDrop t) r D σ H := h
end LT
namespace LT
open PySem L2 TL
/-! ### the text of a rule -/
def firstLine (first : Str) : Str := "first " ++ first
def ruleText (first : Str) (rows : List Row5) : Str := Txt.join "\n" (firstLine first :: rows.map Row5.text)
theorem az_small : ∀ c ∈ az, c ≠ 10 ∧ c ≠ 32 ∧ c < 128 := by decide +kernel
theorem picks_small : ∀ z ∈ picks, ∀ c ∈ z.cps.toList, c ≠ 10 ∧ c < 128 := by decide +kernel
theorem moves_small : ∀ z ∈ moves, ∀ c ∈ z.cps.toList, c ≠ 10 ∧ c < 128 := by decide +kernel
theorem row_signs {r : Row5} (g : Good r) : ∀ c ∈ tl r.text, c ≠ 10 ∧ c < 128 := by
  intro c hc
  have hc' : c ∈ r.text.cps.toList := hc
  rw [text_c] at hc'
  have tail : ∀ c ∈ tailC r.al, c ≠ 10 ∧ c < 128 := by
    cases r.al <;> decide +kernel
  simp only [List.mem_append, List.mem_cons] at hc'
  rcases hc' with h | rfl | h | rfl | h | rfl | h | h
  · have := az_small c (g.m.az c h)
    exact ⟨this.1, this.2.2⟩
  · decide
  · exact picks_small _ g.p c h
  · decide
  · exact moves_small _ g.mv c h
  · decide
  · have := az_small c (g.t.az c h)
    exact ⟨this.1, this.2.2⟩
  · exact tail c h
theorem first_signs {first : Str} (h : Wd first) : ∀ c ∈ tl (firstLine first), c ≠ 10 ∧ c < 128 := by
  intro c hc
  unfold firstLine at hc
  rw [tl_append, List.mem_append] at hc
  rcases hc with hc | hc
  · exact (by decide +kernel : ∀ c ∈ tl ("first " : Str), c ≠ 10 ∧ c < 128) c hc
  · have := az_small c (h.az c hc)
    exact ⟨this.1, this.2.2⟩
theorem first_len {first : Str} (h : Wd first) : (firstLine first).length ≤ 10 := by
  unfold firstLine
  rw [len_app]
  have e : ("first " : Str).length = 6 := rfl
  have := h.len
  omega
theorem join_mem {y : Str} : ∀ {ps : List Str} {c : Nat}, c ∈ tl (Txt.join y ps) → c ∈ tl y ∨ ∃ p ∈ ps, c ∈ tl p := by
  intro ps c h
  rw [join_eq, tl_join] at h
  have go : ∀ (ls : List (List Nat)) (c : Nat), c ∈ joinL (tl y) ls → c ∈ tl y ∨ ∃ p ∈ ls, c ∈ p := by
    intro ls
    induction ls with
    | nil => intro c h; cases h
    | cons p ls ih =>
      intro c h
      cases ls with
      | nil => exact .inr ⟨p, List.mem_cons_self, h⟩
      | cons q ls =>
        have h' : c ∈ p ++ (tl y ++ joinL (tl y) (q :: ls)) := h
        rw [List.mem_append, List.mem_append] at h'
        rcases h' with h | h | h
        · exact .inr ⟨p, List.mem_cons_self, h⟩
        · exact .inl h
        · rcases ih c h with k | ⟨p', m, k⟩
          · exact .inl k
          · exact .inr ⟨p', List.mem_cons_of_mem _ m, k⟩
  rcases go _ _ h with k | ⟨p, m, k⟩
  · exact .inl k
  · obtain ⟨q, mq, rfl⟩ := List.mem_map.mp m
    exact .inr ⟨q, mq, k⟩
theorem join_len {y : Str} {n : Nat} : ∀ {ps : List Str}, (∀ p ∈ ps, p.length ≤ n) → (Txt.join y ps).length ≤ ps.length * (n + y.length) := by
  intro ps h
  rw [join_eq]
  refine Nat.le_trans (StrLaws.join_length_le y ps) ?_
  induction ps with
  | nil => simp
  | cons p ps ih =>
    have h1 := h p List.mem_cons_self
    have h2 := ih fun q m => h q (List.mem_cons_of_mem _ m)
    simp only [List.map_cons, List.sum_cons, List.length_cons, Nat.succ_mul] at h2 ⊢
    omega
structure TextOk (first : Str) (rows : List Row5) (z : Str) : Prop where
  len : z.length ≤ 10000
  ok : PyData.strOk z = true
  cut : Txt.split z "\n" = firstLine first :: rows.map Row5.text
  fst : lineFirst (firstLine first) = some first
  each : ∀ l ∈ firstLine first :: rows.map Row5.text, l.length ≤ 100
theorem text_ok {first : Str} {rows : List Row5} (hf : Wd first) (hr : ∀ r ∈ rows, Good r) (few : rows.length ≤ 31) : TextOk first rows (ruleText first rows) := by
  have lens : ∀ l ∈ firstLine first :: rows.map Row5.text, l.length ≤ 50 := fun l hl => by
    rcases List.mem_cons.mp hl with rfl | hl
    · have := first_len hf
      omega
    · obtain ⟨r, m, rfl⟩ := List.mem_map.mp hl
      exact row_len (hr r m)
  have signs : ∀ l ∈ firstLine first :: rows.map Row5.text, ∀ c ∈ tl l, c ≠ 10 ∧ c < 128 := fun l hl => by
    rcases List.mem_cons.mp hl with rfl | hl
    · exact first_signs hf
    · obtain ⟨r, m, rfl⟩ := List.mem_map.mp hl
      exact row_signs (hr r m)
  refine ⟨?_, ?_, ?_, ?_, fun l hl => Nat.le_trans (lens l hl) (by decide)⟩
  · refine Nat.le_trans (join_len (n := 50) lens) ?_
    rw [List.length_cons, List.length_map]
    have e : ("\n" : Str).length = 1 := rfl
    rw [e]
    omega
  · refine strOk_mem.mpr fun c hc => ?_
    rcases join_mem hc with k | ⟨p, m, k⟩
    · exact (by decide +kernel : ∀ c ∈ tl ("\n" : Str), c < 0x110000) c k
    · have := (signs p m c k).2
      omega
  · exact split_join nl_ok.1 nl_ok.2 (by simp) fun p m q => (signs p m 10 q).1 rfl
  · unfold lineFirst firstLine
    have e : ("first " : Str) ++ first = "first" ++ " " ++ first := by
      have : ("first " : Str) = "first" ++ " " := by decide +kernel
      rw [this]
    rw [e, partition_app sp_ok.1 (by decide +kernel)]
    exact if_pos ⟨rfl, hf.name⟩
theorem parsed_one {first : Str} {rows rs : List Row5} (hr : ∀ r ∈ rows, Good r) (h : Parsed (firstLine first :: rows.map Row5.text) rs ((firstLine first :: rows.map Row5.text).length - 1)) : rs = rows := by
  have hl := h.len
  rw [List.length_cons, List.length_map] at hl
  refine ext_get (by omega) fun i r s e1 e2 => ?_
  have hi := (List.getElem?_eq_some_iff.mp e2).1
  obtain ⟨l, r', q1, q2, q3⟩ := h.each i (by rw [List.length_cons, List.length_map]; omega)
  rw [List.getElem?_cons_succ, List.getElem?_map, e2] at q1
  obtain rfl := Option.some.inj q1
  rw [parse_row (hr s (List.mem_of_getElem? e2))] at q3
  rw [e1] at q2
  cases q2
  cases q3
  rfl
/-- what a call of Rule.read with such a text asks -/
structure ReadOk (first : Str) (rows : List Row5) (z : Str) : Prop where
  l0 : (Txt.split z "\n")[0]? = some (firstLine first)
  each : ∀ l ∈ Txt.split z "\n", l.length ≤ 100
  few : (Txt.split z "\n").length ≤ 32
  no0 : lineFirst (firstLine first) = none → False
  noB : ∀ f, lineFirst (firstLine first) = some f → ∀ (i : Nat) l rs, (Txt.split z "\n")[i + 1]? = some l → parseRow l = none → Parsed (Txt.split z "\n") rs i → False
  one : ∀ f rs, lineFirst (firstLine first) = some f → Parsed (Txt.split z "\n") rs ((Txt.split z "\n").length - 1) → f = first ∧ rs = rows
theorem read_ok {first : Str} {rows : List Row5} {z : Str} (t : TextOk first rows z) (hr : ∀ r ∈ rows, Good r) (few : rows.length ≤ 31) : ReadOk first rows z := by
  refine ⟨by rw [t.cut]; rfl, by rw [t.cut]; exact t.each, by rw [t.cut, List.length_cons, List.length_map]; omega, fun e => ?_, fun f e i l rs el pn _ => ?_, fun f rs e pa => ?_⟩
  · rw [t.fst] at e
    cases e
  · rw [t.cut, List.getElem?_cons_succ, List.getElem?_map] at el
    cases er : rows[i]? with
    | none =>
      rw [er] at el
      cases el
    | some r =>
      rw [er] at el
      obtain rfl := Option.some.inj el
      rw [parse_row (hr r (List.mem_of_getElem? er))] at pn
      cases pn
  · rw [t.fst] at e
    cases e
    rw [t.cut] at pa
    exact ⟨rfl, parsed_one hr pa⟩
end LT
namespace LT
open PySem L2
/-! ### the beginning of a play -/
theorem grants_len {rows : List Row5} {first : Str} {rs : List (List Int)} : (grantsL rows first rs).length = rs.length := by simp [grantsL]
theorem done_len {rows : List Row5} {first : Str} {rs : List (List Int)} : (doneL rows first rs).length = rs.length := by simp [doneL]
theorem modes_len {rows : List Row5} {first : Str} {rs : List (List Int)} : (modesL rows first rs).length = rs.length + 1 := by simp [modesL]
theorem ptrs_len {rows : List Row5} {first : Str} {rs : List (List Int)} : (ptrsL rows first rs).length = rs.length + 1 := by simp [ptrsL]
theorem st_take {rows : List Row5} {first : Str} {os : List (List Int)} {n : Nat} : ∀ i, i ≤ n → stAt rows first (os.take n) i = stAt rows first os i
  | 0, _ => rfl
  | i + 1, h => by
    have e : (os.take n)[i]? = os[i]? := by rw [List.getElem?_take, if_pos (by omega)]
    show (match (os.take n)[i]? with | none => _ | some o => _) = (match os[i]? with | none => _ | some o => _)
    rw [e, st_take i (by omega)]
theorem os_take {rs : List (List Int)} {n : Nat} : osOf (rs.take n) = (osOf rs).take n := by
  unfold osOf
  rw [List.map_take]
theorem grants_take {rows : List Row5} {first : Str} {rs : List (List Int)} {n : Nat} : grantsL rows first (rs.take n) = (grantsL rows first rs).take n := by
  refine ext_get (by simp [grantsL]) fun i x y e1 e2 => ?_
  have h1 := (List.getElem?_eq_some_iff.mp e1).1
  simp only [grantsL, List.length_map, List.length_range, List.length_take] at h1
  rw [List.getElem?_take, if_pos (by omega)] at e2
  unfold grantsL at e1 e2
  rw [List.getElem?_map, List.getElem?_range (by rw [List.length_take]; omega)] at e1
  rw [List.getElem?_map, List.getElem?_range (by omega)] at e2
  have q1 := Option.some.inj e1
  have q2 := Option.some.inj e2
  rw [← q1, ← q2]
  show canonI (grantsAt rows first (osOf (rs.take n)) i) = canonI (grantsAt rows first (osOf rs) i)
  congr 1
  unfold grantsAt
  rw [os_take, st_take i (by omega), List.getElem?_take, if_pos (by omega)]
theorem ptrs_take {rows : List Row5} {first : Str} {rs : List (List Int)} {n : Nat} (hn : n ≤ rs.length) : ptrsL rows first (rs.take n) = (ptrsL rows first rs).take (n + 1) := by
  refine ext_get (by rw [List.length_take, ptrs_len, ptrs_len, List.length_take]; omega) fun i x y e1 e2 => ?_
  have h1 := (List.getElem?_eq_some_iff.mp e1).1
  simp only [ptrsL, List.length_map, List.length_range, List.length_take] at h1
  rw [List.getElem?_take, if_pos (by omega)] at e2
  unfold ptrsL at e1 e2
  rw [List.getElem?_map, List.getElem?_range (by rw [List.length_take]; omega)] at e1
  rw [List.getElem?_map, List.getElem?_range (by omega)] at e2
  have q1 := Option.some.inj e1
  have q2 := Option.some.inj e2
  rw [← q1, ← q2]
  show (stAt rows first (osOf (rs.take n)) i).2 = _
  rw [os_take, st_take i (by omega)]
theorem modes_take {rows : List Row5} {first : Str} {rs : List (List Int)} {n : Nat} (hn : n ≤ rs.length) : modesL rows first (rs.take n) = (modesL rows first rs).take (n + 1) := by
  refine ext_get (by rw [List.length_take, modes_len, modes_len, List.length_take]; omega) fun i x y e1 e2 => ?_
  have h1 := (List.getElem?_eq_some_iff.mp e1).1
  simp only [modesL, List.length_map, List.length_range, List.length_take] at h1
  rw [List.getElem?_take, if_pos (by omega)] at e2
  unfold modesL at e1 e2
  rw [List.getElem?_map, List.getElem?_range (by rw [List.length_take]; omega)] at e1
  rw [List.getElem?_map, List.getElem?_range (by omega)] at e2
  have q1 := Option.some.inj e1
  have q2 := Option.some.inj e2
  rw [← q1, ← q2]
  show (stAt rows first (osOf (rs.take n)) i).1 = _
  rw [os_take, st_take i (by omega)]
theorem done_take {rows : List Row5} {first : Str} {rs : List (List Int)} {n : Nat} : doneL rows first (rs.take n) = (doneL rows first rs).take n := by
  refine ext_get (by simp [doneL]) fun i x y e1 e2 => ?_
  have h1 := (List.getElem?_eq_some_iff.mp e1).1
  simp only [doneL, List.length_map, List.length_range, List.length_take] at h1
  rw [List.getElem?_take, if_pos (by omega)] at e2
  unfold doneL at e1 e2
  rw [List.getElem?_map, List.getElem?_range (by rw [List.length_take]; omega)] at e1
  rw [List.getElem?_map, List.getElem?_range (by omega)] at e2
  have q1 := Option.some.inj e1
  have q2 := Option.some.inj e2
  rw [← q1, ← q2]
  unfold doneAt
  rw [os_take, st_take i (by omega), List.getElem?_take, if_pos (by omega)]
/-! ### what is no list stays where a list changes -/
theorem Keep.of {J L : Hp} (s : Same J L) : Keep J L := fun c o _ h => s c o h
theorem Keep.trans {J L M : Hp} (a : Keep J L) (b : Keep L M) : Keep J M := fun c o n h => b c o n (a c o n h)
theorem Keep.box {J : Hp} {b : Addr} {xs : List V} {o : HO} (h : J b = some (.lst xs)) : Keep J (upd J b o) := fun c u n e => by
  have : c ≠ b := fun q => by rw [q, h] at e; exact n _ (Option.some.inj e).symm
  rw [upd_ne this]
  exact e
theorem SqT.keep {K : PySem.W.Frag} {J L : Hp} {a : Addr} {xs : List V} (k : Keep J L) (h : SqT K J a xs) : SqT K L a xs := by
  rcases h with (h | ⟨o, h⟩) | h
  · exact .inl (.inl (k _ _ (fun _ q => nomatch q) h))
  · exact .inl (.inr ⟨o, k _ _ (fun _ q => nomatch q) h⟩)
  · exact .inr h
theorem RowsIn.keep {C : Addr} {J L : Hp} {xs : List V} {rows : List Row5} (k : Keep J L) (h : RowsIn C J xs rows) : RowsIn C L xs rows :=
  ⟨h.1, fun i x e => by
    obtain ⟨b, r, e1, e2, ⟨dx, e3⟩, g⟩ := h.2 i x e
    exact ⟨b, r, e1, e2, ⟨dx, k _ _ (fun _ q => nomatch q) e3⟩, g⟩⟩
theorem RuleAt.keep {K : PySem.W.Frag} {C CR : Addr} {J L : Hp} {a : Addr} {first : Str} {rows : List Row5} (k : Keep J L) (h : RuleAt K C CR J a first rows) : RuleAt K C CR L a first rows := by
  obtain ⟨⟨dx, tp, tm, xs, zs, h1, h2, h3, h4, h5⟩, h6, h7⟩ := h
  exact ⟨⟨dx, tp, tm, xs, zs, k _ _ (fun _ q => nomatch q) h1, SqT.keep k h2, h3.keep k, k _ _ (fun _ q => nomatch q) h4, h5⟩, h6, h7⟩
theorem GsAt.keep {J L : Hp} {gs : List V} {us : List (List Int)} (k : Keep J L) (h : GsAt J gs us) : GsAt L gs us :=
  ⟨h.1, fun j v e => by
    obtain ⟨q, out, e1, e2, e3⟩ := h.2 j v e
    exact ⟨q, out, e1, e2, k _ _ (fun _ q => nomatch q) e3⟩⟩
theorem PlayedN.keep {J L : Hp} {CP x : Addr} {rows : List Row5} {first : Str} {rs : List (List Int)} (k : Keep J L) (h : PlayedN J CP x rows first rs) : PlayedN L CP x rows first rs := by
  obtain ⟨gs, dx, t1, t2, t3, t4, t5, h0, h1, h2, h3, h4, h5, h6⟩ := h.ex
  exact ⟨gs, dx, t1, t2, t3, t4, t5, k _ _ (fun _ q => nomatch q) h0, k _ _ (fun _ q => nomatch q) h1, h2.keep k, k _ _ (fun _ q => nomatch q) h3, k _ _ (fun _ q => nomatch q) h4, k _ _ (fun _ q => nomatch q) h5, k _ _ (fun _ q => nomatch q) h6⟩
/-- what a call of play asks of a rule -/
theorem RuleAt.play {K : PySem.W.Frag} {C CR a : Addr} {first : Str} {rows : List Row5} {H : Hp} (ru : RuleAt K C CR H a first rows) : ∃ (dx : Addr) (fs : List (Str × V)), RowsAt K C CR H a rows ∧ rows.length < 60 ∧ H a = some (.ins CR dx fs) ∧ fs.lookup ("first" : Str) = some (V.str first) := by
  obtain ⟨dx, tp, tm, ys, zs, h1, h2, h3, h4, h5⟩ := ru.ex
  exact ⟨dx, _, ru.rows, by have := ru.few; omega, h1, by kernel_rfl⟩
/-- rounds that are written data -/
theorem rounds_dt {K : PySem.W.Frag} {n : Int} {H : Hp} {rs : List (List Int)} {xs : List V} (g : ∀ ns ∈ rs, goodRound n ns = true ∧ ns.length ≤ 1000) (h : DtAll H (rs.map intsD) xs) : RoundsAt K n H xs rs := by
  refine ⟨by rw [dtAll_len h, List.length_map], fun i x e => ?_⟩
  have hi : i < rs.length := by
    have := (List.getElem?_eq_some_iff.mp e).1
    rw [dtAll_len h, List.length_map] at this
    exact this
  obtain ⟨v, e1, a, vs, rfl, ha, hv⟩ := dtAll_at (i := i) (d := intsD rs[i]) h (by rw [List.getElem?_map, List.getElem?_eq_getElem hi]; rfl)
  rw [e] at e1
  cases e1
  have : vs = rs[i].map V.int := by
    have go : ∀ (l : List Int) (us : List V), DtAll H (l.map PyData.int) us → us = l.map V.int := fun l => by
      induction l with
      | nil => intro us h; exact h
      | cons k l ih =>
        rintro us ⟨v, ws, e, h1, h2⟩
        rw [e, ih ws h2, show v = V.int k from h1]
        rfl
    exact go _ _ hv
  rw [this] at ha
  have m := g rs[i] (List.getElem_mem hi)
  exact ⟨a, rs[i], rfl, List.getElem?_eq_getElem hi, .inr (SqT.of ha), m.2, m.1⟩
theorem RoundsAt.take {K : PySem.W.Frag} {n : Int} {H : Hp} {rs : List (List Int)} {xs : List V} {k : Nat} (h : RoundsAt K n H xs rs) : RoundsAt K n H (xs.take k) (rs.take k) :=
  ⟨by rw [List.length_take, List.length_take, h.1], fun i x e => by
    have hi := (List.getElem?_eq_some_iff.mp e).1
    rw [List.length_take] at hi
    rw [List.getElem?_take, if_pos (by omega)] at e
    obtain ⟨a, ns, q1, q2, q3, q4, q5⟩ := h.2 i x e
    exact ⟨a, ns, q1, by rw [List.getElem?_take, if_pos (by omega)]; exact q2, q3, q4, q5⟩⟩
end LT
namespace LT
open PySem L2
/-- row tuples -/
def RowTs (J : Hp) (xs : List V) (rows : List Row5) : Prop := xs.length = rows.length ∧ ∀ (i : Nat) (v : V), xs[i]? = some v → ∃ (p : Addr) (r : Row5), v = .ref p ∧ rows[i]? = some r ∧ J p = some (.tup r.vs) ∧ Good r
theorem RowTs.keep {J L : Hp} {xs : List V} {rows : List Row5} (k : Keep J L) (h : RowTs J xs rows) : RowTs L xs rows :=
  ⟨h.1, fun i x e => by
    obtain ⟨p, r, e1, e2, e3, g⟩ := h.2 i x e
    exact ⟨p, r, e1, e2, k _ _ (fun _ q => nomatch q) e3, g⟩⟩
theorem RowTs.nil {J : Hp} : RowTs J [] [] := ⟨rfl, fun i v e => nomatch e⟩
theorem RowTs.add {J : Hp} {xs : List V} {rows : List Row5} {p : Addr} {r : Row5} (h : RowTs J xs rows) (e : J p = some (.tup r.vs)) (g : Good r) : RowTs J (xs ++ [.ref p]) (rows ++ [r]) :=
  ⟨by rw [List.length_append, List.length_append, h.1]; rfl, fun j v z => by
    rcases get_snoc z with z9 | ⟨z9, rfl⟩
    · obtain ⟨p', r', e1, e2, e3, g'⟩ := h.2 j v z9
      exact ⟨p', r', e1, by rw [List.getElem?_append_left (List.getElem?_eq_some_iff.mp e2).1]; exact e2, e3, g'⟩
    · exact ⟨p, r, rfl, by rw [z9, h.1]; exact List.getElem?_concat_length, e, g⟩⟩
theorem RowTs.app {J : Hp} {xs ys : List V} {rows more : List Row5} (h : RowTs J xs rows) (k : RowTs J ys more) : RowTs J (xs ++ ys) (rows ++ more) :=
  ⟨by rw [List.length_append, List.length_append, h.1, k.1], fun j v z => by
    by_cases c : j < xs.length
    · rw [List.getElem?_append_left c] at z
      obtain ⟨p', r', e1, e2, e3⟩ := h.2 j v z
      exact ⟨p', r', e1, by rw [List.getElem?_append_left (by rw [← h.1]; exact c)]; exact e2, e3⟩
    · rw [List.getElem?_append_right (by omega)] at z
      obtain ⟨p', r', e1, e2, e3⟩ := k.2 _ v z
      exact ⟨p', r', e1, by rw [List.getElem?_append_right (by rw [← h.1]; omega), ← h.1]; exact e2, e3⟩⟩
theorem RowTs.take {J : Hp} {xs : List V} {rows : List Row5} {n : Nat} (h : RowTs J xs rows) : RowTs J (xs.take n) (rows.take n) :=
  ⟨by rw [List.length_take, List.length_take, h.1], fun i x e => by
    have hi := (List.getElem?_eq_some_iff.mp e).1
    rw [List.length_take] at hi
    rw [List.getElem?_take, if_pos (by omega)] at e
    obtain ⟨p, r, q1, q2, q3⟩ := h.2 i x e
    exact ⟨p, r, q1, by rw [List.getElem?_take, if_pos (by omega)]; exact q2, q3⟩⟩
theorem RowTs.drop {J : Hp} {xs : List V} {rows : List Row5} {n : Nat} (h : RowTs J xs rows) : RowTs J (xs.drop n) (rows.drop n) :=
  ⟨by rw [List.length_drop, List.length_drop, h.1], fun i x e => by
    rw [List.getElem?_drop] at e
    obtain ⟨p, r, q1, q2, q3⟩ := h.2 _ x e
    exact ⟨p, r, q1, by rw [List.getElem?_drop]; exact q2, q3⟩⟩
theorem RowTs.good {J : Hp} {xs : List V} {rows : List Row5} (h : RowTs J xs rows) : ∀ r ∈ rows, Good r := fun r hr => by
  obtain ⟨i, hi, rfl⟩ := List.getElem_of_mem hr
  have hi' : i < xs.length := by
    rw [h.1]
    exact hi
  obtain ⟨p, r', _, e2, _, g⟩ := h.2 i xs[i] (List.getElem?_eq_getElem hi')
  rw [List.getElem?_eq_getElem hi] at e2
  cases e2
  exact g
end LT
namespace LT
open PySem L2
theorem Kd.keep {d l : Addr} {J L : Hp} (k : Kd d l J L) (h : Deal J d l) : Keep J L := fun c o n e => by
  have x := h.off e n
  exact k c o x.1 x.2 e
theorem pick_lit {K : PySem.W.Frag} {J : Hp} {d l l1 : Addr} {zs : List Str} {Q : VK} (hd : Deal J d l) (n : J l1 = none) (p0 : 0 < zs.length) (p1 : zs.length ≤ 1000) (q : ∀ z ∈ zs, ∀ L, Kd d l J L → Deal L d l → Q (.str z) L) :
    spPick K [.ref d, .ref l1] (upd J l1 (.lst (zs.map V.str))) Q E0 := by
  have x := hd.new n
  refine ⟨d, l, l1, zs.map V.str, rfl, hd.mono (new_same n _), x.1, x.2, SqL.of upd_same, by rw [List.length_map]; exact p0, by rw [List.length_map]; exact p1, fun i v L ev k h => ?_⟩
  obtain ⟨z, hz, rfl⟩ := str_at_ ev
  exact q z (List.mem_of_getElem? hz) L ((Kd.of (new_same n _)).trans k) h
/-- the names at hand -/
structure NmAt (K : PySem.W.Frag) (J : Hp) (d l s : Addr) (ws : List Str) : Prop where
  sq : SqL K J s (ws.map V.str)
  n1 : s ≠ d
  n2 : s ≠ l
  p0 : 0 < ws.length
  p1 : ws.length ≤ 4
  wd : ∀ z ∈ ws, Wd z
theorem NmAt.kd {K : PySem.W.Frag} {J L : Hp} {d l s : Addr} {ws : List Str} (h : NmAt K J d l s ws) (k : Kd d l J L) : NmAt K L d l s ws := ⟨k.seq ⟨h.n1, h.n2⟩ h.sq, h.n1, h.n2, h.p0, h.p1, h.wd⟩
theorem pick_nm {K : PySem.W.Frag} {J : Hp} {d l s : Addr} {ws : List Str} {Q : VK} (hd : Deal J d l) (nm : NmAt K J d l s ws) (q : ∀ z ∈ ws, ∀ L, Kd d l J L → Deal L d l → Q (.str z) L) :
    spPick K [.ref d, .ref s] J Q E0 := by
  have lw : (ws.map V.str).length = ws.length := List.length_map _
  have p0 := nm.p0
  have p1 := nm.p1
  refine ⟨d, l, s, _, rfl, hd, nm.n1, nm.n2, nm.sq, by omega, by omega, fun i v L ev k h => ?_⟩
  obtain ⟨z, hz, rfl⟩ := str_at_ ev
  exact q z (List.mem_of_getElem? hz) L k h
/-- rows whose modes are among these -/
def RowsW (ws : List Str) (rows : List Row5) : Prop := ∀ r ∈ rows, r.m ∈ ws ∧ r.t ∈ ws
/-- a list of rows that grows while the deal is drawn from -/
structure GrowD (H : Hp) (d l fl : Addr) (ws : List Str) (lo n : Nat) (J : Hp) : Prop where
  ex : ∃ (xs : List V) (rows : List Row5), J fl = some (.lst xs) ∧ RowTs J xs rows ∧ lo ≤ rows.length ∧ rows.length ≤ n ∧ RowsW ws rows
  kd : Kd d l H J
  deal : Deal J d l
  new : H fl = none
  x : fl ≠ d ∧ fl ≠ l
theorem GrowD.on {H J L : Hp} {d l fl : Addr} {ws : List Str} {lo n : Nat} (g : GrowD H d l fl ws lo n J) (k : Kd d l J L) (h : Deal L d l) : GrowD H d l fl ws lo n L := by
  obtain ⟨⟨xs, rows, e, r, h1, h2, h3⟩, k0, d0, nw, x⟩ := g
  exact ⟨⟨xs, rows, k _ _ x.1 x.2 e, r.keep (k.keep d0), h1, h2, h3⟩, k0.trans k, h, nw, x⟩
theorem GrowD.step {H J : Hp} {d l fl p : Addr} {ws : List Str} {lo n : Nat} {r : Row5} (g : GrowD H d l fl ws lo n J) (np : J p = none) (gr : Good r) (hm : r.m ∈ ws ∧ r.t ∈ ws) (few : n ≤ 900) :
    ∃ xs, upd J p (.tup r.vs) fl = some (.lst xs) ∧ xs.length < sizeLine ∧ GrowD H d l fl ws (lo + 1) (n + 1) (upd (upd J p (.tup r.vs)) fl (.lst (xs ++ [V.ref p]))) := by
  obtain ⟨⟨xs, rows, e, rt, h1, h2, h3⟩, k0, d0, nw, x⟩ := g
  have s := new_same np (.tup r.vs)
  have e' := s _ _ e
  have lx := rt.1
  refine ⟨xs, e', small1000 (by omega), ⟨xs ++ [.ref p], rows ++ [r], upd_same, ((rt.keep (Keep.of s)).add upd_same gr).keep (Keep.box e'), by rw [List.length_append, List.length_singleton]; omega, by rw [List.length_append, List.length_singleton]; omega, fun z hz => ?_⟩, (k0.then s).fresh nw, (d0.mono s).put x, nw, x⟩
  rcases List.mem_append.mp hz with h | h
  · exact h3 z h
  · rw [List.mem_singleton.mp h]
    exact hm
def spLinesD (K : PySem.W.Frag) : Sp := fun vs H Q _ => ∃ (d l s : Addr) (ws : List Str), vs = [.ref d, .ref s] ∧ Deal H d l ∧ NmAt K H d l s ws ∧
  ∀ (fl : Addr) (J : Hp), GrowD H d l fl ws (2 * ws.length) (3 * ws.length) J → Q (.ref fl) J
theorem keep_ok : ("keep" : Str) ∈ picks := by decide +kernel
theorem sm_ok : ∀ z ∈ ([("stay" : Str), "on"] : List Str), z ∈ moves := by decide +kernel
theorem spk_ok : ∀ z ∈ ([("past" : Str), "past", "at", "under"] : List Str), z ∈ picks := by decide +kernel
theorem sn_ok : ∀ z ∈ ([("on" : Str), "on", "on", "stay", "home"] : List Str), z ∈ moves := by decide +kernel
theorem sa_ok : ∀ z ∈ ([("all" : Str), "all", "all", "under"] : List Str), z ∈ picks := by decide +kernel
theorem so_ok : ∀ z ∈ ([("on" : Str), "on", "on", "home"] : List Str), z ∈ moves := by decide +kernel
abbrev nLines : List Str := ["_law_deal_here", "_law_names_here", "_law_found", "_law_mode", "_law_move", "_law_then", "_law_pick_here"]
section
variable {P : Program} {w : World} {K : PySem.W.Frag} {mg : Str → Option Value} {base : Heap}
theorem scLines : FnScope nLines ["_law_deal_here", "_law_names_here"] (defScope sx_lines) := ⟨rfl, rfl, rfl, by decide +kernel, rfl, by decide +kernel, by decide +kernel⟩
theorem ok_linesD {f gd gp : Addr} {fd dd dp : FuncData} (F : Fun K "_law_lines" "_law_lines" sx_lines f fd)
    (GP : FnOk P w K mg base CX0 2 gp dp ["_law_deal_here", "_law_some"] (spPick K)) (bP : Binds K dp ["_law_deal_here", "_law_some"] []) (kP : PySem.W.keepIn K (.ref gp) = true) (mP : mg "_law_pick" = some (.ref gp))
    (GD : FnOk P w K mg base CX0 1 gd dd ["_law_deal_here", "_law_many"] spDraw) (bD : Binds K dd ["_law_deal_here", "_law_many"] []) (kD : PySem.W.keepIn K (.ref gd) = true) (mD : mg "_law_draw" = some (.ref gd)) :
    FnOk P w K mg base CX0 3 f fd ["_law_deal_here", "_law_names_here"] (spLinesD K) := by
  refine F.ok scLines (fun vs H Q E h => ?_) (fun cdv A outer s H vs Q E hr h => ?_)
  · obtain ⟨d, l, a, ws, rfl, _⟩ := h
    rfl
  obtain ⟨d, l, a, ws, rfl, hd, nm, q⟩ := h
  have hr2 := hr
  have hr1 : Room 1 _ := hr.mono (by decide)
  have lw : (ws.map V.str).length = ws.length := List.length_map _
  have w1 := nm.p1
  refine ⟨_, (pss_cons (ps_set (i := 2) scLines.nd rfl (Or.inl rfl) (pe_lst pa_nil))
    (pss_cons (ps_for PassesOwn.never rfl (pi_list (pv 1)) (pg_name (i := 3) scLines.nd rfl (Or.inl rfl))
    (pss_cons (ps_if (pt_cmpR op_eq (pe_call GD hr1 (by rfl) mD kD bD .nil pass0 (pa_cons (pv 0) (pa_cons pe_int pa_nil))) pe_int (nomark _)) (pss_cons (ps_par (i := 4) (j := 5) rfl scLines.nd rfl rfl (by decide) rfl rfl (pa_cons (pe_call GP hr2 (by rfl) mP kP bP .nil pass0 (pa_cons (pv 0) (pa_cons (pe_lst (pa_cons pe_str (pa_cons pe_str pa_nil))) pa_nil))) (pa_cons (pe_call GP hr2 (by rfl) mP kP bP .nil pass0 (pa_cons (pv 0) (pa_cons (pv 1) pa_nil))) pa_nil)) rfl)
        (pss_one (ps_expr (pe_bm PySem.F.plainAttrs_list PySem.F.slot_list_append PySem.F.type_list_append mt_append (pv 2) (pa_cons (pe_tup (pa_cons (pv 3) (pa_cons pe_str (pa_cons (pv 4) (pa_cons (pv 5) (pa_cons (pe_cmpR op_eq (pe_call GD hr1 (by rfl) mD kD bD .nil pass0 (pa_cons (pv 0) (pa_cons pe_int pa_nil))) pe_int (nomark _)) pa_nil)))))) pa_nil))))) pss_nil)
      (pss_cons (ps_set (i := 6) scLines.nd rfl (Or.inl rfl) (pe_call GP hr2 (by rfl) mP kP bP .nil pass0 (pa_cons (pv 0) (pa_cons (pe_lst (pa_cons pe_str (pa_cons pe_str (pa_cons pe_str (pa_cons pe_str pa_nil))))) pa_nil))))
      (pss_cons (ps_set (i := 4) scLines.nd rfl (Or.inl rfl) (pe_call GP hr2 (by rfl) mP kP bP .nil pass0 (pa_cons (pv 0) (pa_cons (pe_lst (pa_cons pe_str (pa_cons pe_str (pa_cons pe_str (pa_cons pe_str (pa_cons pe_str pa_nil)))))) pa_nil))))
      (pss_cons (ps_expr (pe_bm PySem.F.plainAttrs_list PySem.F.slot_list_append PySem.F.type_list_append mt_append (pv 2) (pa_cons (pe_tup (pa_cons (pv 3) (pa_cons (pv 6) (pa_cons (pv 4) (pa_cons (pe_call GP hr2 (by rfl) mP kP bP .nil pass0 (pa_cons (pv 0) (pa_cons (pv 1) pa_nil))) (pa_cons pe_bl pa_nil)))))) pa_nil)))
      (pss_cons (ps_par (i := 6) (j := 4) rfl scLines.nd rfl rfl (by decide) rfl rfl (pa_cons (pe_call GP hr2 (by rfl) mP kP bP .nil pass0 (pa_cons (pv 0) (pa_cons (pe_lst (pa_cons pe_str (pa_cons pe_str (pa_cons pe_str (pa_cons pe_str pa_nil))))) pa_nil))) (pa_cons (pe_call GP hr2 (by rfl) mP kP bP .nil pass0 (pa_cons (pv 0) (pa_cons (pe_lst (pa_cons pe_str (pa_cons pe_str (pa_cons pe_str (pa_cons pe_str pa_nil))))) pa_nil))) pa_nil)) rfl)
      (pss_one (ps_expr (pe_bm PySem.F.plainAttrs_list PySem.F.slot_list_append PySem.F.type_list_append mt_append (pv 2) (pa_cons (pe_tup (pa_cons (pv 3) (pa_cons (pv 6) (pa_cons (pv 4) (pa_cons (pe_call GP hr2 (by rfl) mP kP bP .nil pass0 (pa_cons (pv 0) (pa_cons (pv 1) pa_nil))) (pa_cons (pe_cmpR op_eq (pe_call GD hr1 (by rfl) mD kD bD .nil pass0 (pa_cons (pv 0) (pa_cons pe_int pa_nil))) pe_int (nomark _)) pa_nil)))))) pa_nil))))))))))
    (pss_one (ps_ret (pv 2))))), ?_⟩
  refine ⟨(by show 0 ≤ sizeLine; decide), fun fl nfl => ?_⟩
  have s1 := new_same nfl (.lst [])
  have g0 : GrowD H d l fl ws (2 * 0) (3 * 0) (upd H fl (.lst [])) := ⟨⟨[], [], upd_same, RowTs.nil, Nat.le_refl _, Nat.le_refl _, fun r h => nomatch h⟩, Kd.of s1, hd.mono s1, nfl, hd.new nfl⟩
  refine ⟨_, rfl, a, rfl, ⟨_, (nm.kd (Kd.of s1)).sq⟩, for_list (K := K) (a := a) (xs := ws.map V.str) (fun i σ J => ∃ v3 v4 v5 v6, σ = [some (.ref d), some (.ref a), some (.ref fl), v3, v4, v5, v6] ∧ ∃ lo, 2 * i ≤ lo ∧ GrowD H d l fl ws lo (3 * i) J) ⟨_, _, _, _, rfl, 0, Nat.le_refl _, g0⟩ (fun i σ J _ ⟨_, _, _, _, _, _, _, g⟩ => (nm.kd g.kd).sq) ?_ ?_⟩
  · rintro i x σ J hx ⟨v3, v4, v5, v6, rfl, lo, hlo, g⟩
    obtain ⟨mo, hmo, rfl⟩ := str_at_ hx
    have mm := List.mem_of_getElem? hmo
    have hi := (List.getElem?_eq_some_iff.mp hmo).1
    refine seq_kd (fun τ L => ∃ u4 u5 u6, τ = [some (.ref d), some (.ref a), some (.ref fl), some (.str mo), u4, u5, u6] ∧ ∃ lo, 2 * i ≤ lo ∧ GrowD H d l fl ws lo (3 * i + 1) L) ?_ fun k => ?_
    rotate_left
    · refine ⟨_, rfl, d, l, _, rfl, g.deal, by decide, by decide, fun k1 J1 _ _ kd1 hd1 => ⟨rfl, _, rfl, ?_⟩⟩
      have g1 := g.on kd1 hd1
      refine ite2 (fun _ => ?_) (fun _ => k _ _ ⟨_, _, _, rfl, lo, hlo, ⟨by
        obtain ⟨xs, rows, e, rt, h1, h2, h3⟩ := g1.ex
        exact ⟨xs, rows, e, rt, h1, by omega, h3⟩, g1.kd, g1.deal, g1.new, g1.x⟩⟩)
      refine ⟨_, rfl, (by show 2 ≤ sizeLine; decide), fun l1 m1 => pick_lit (zs := ["stay", "on"]) g1.deal m1 (by decide) (by decide) fun z1 hz1 J2 kd2 hd2 => ?_⟩
      have g2 := g1.on kd2 hd2
      refine ⟨_, rfl, _, rfl, pick_nm hd2 (nm.kd g2.kd) fun z2 hz2 J3 kd3 hd3 => ⟨_, _, rfl, ?_⟩⟩
      have g3 := g2.on kd3 hd3
      obtain ⟨xs0, rows0, ef0, -⟩ := g3.ex
      refine ⟨_, rfl, .inl ⟨rfl, _, SqL.of ef0⟩, ?_⟩
      refine ⟨_, rfl, _, rfl, _, rfl, _, rfl, d, l, _, rfl, hd3, by decide, by decide, fun k4 J4 _ _ kd4 hd4 => ⟨rfl, (by show 5 ≤ sizeLine; decide), fun p np => ?_⟩⟩
      have g4 := g3.on kd4 hd4
      obtain ⟨xs1, e1, l1', g5⟩ := g4.step (r := ⟨mo, "keep", z1, z2, decide (V.int k4 = V.int 0)⟩) np ⟨nm.wd _ mm, keep_ok, sm_ok _ hz1, nm.wd _ hz2⟩ ⟨mm, hz2⟩ (by omega)
      exact ⟨fl, _, _, rfl, rfl, e1, l1', k _ _ ⟨_, _, _, rfl, _, by omega, g5⟩⟩
    · rintro τ L ⟨u4, u5, u6, rfl, lo1, hlo1, g1⟩
      refine ⟨_, rfl, (by show 4 ≤ sizeLine; decide), fun l1 m1 => pick_lit (zs := ["past", "past", "at", "under"]) g1.deal m1 (by decide) (by decide) fun z1 hz1 J2 kd2 hd2 => ?_⟩
      have g2 := g1.on kd2 hd2
      refine ⟨_, rfl, (by show 5 ≤ sizeLine; decide), fun l2 m2 => pick_lit (zs := ["on", "on", "on", "stay", "home"]) hd2 m2 (by decide) (by decide) fun z2 hz2 J3 kd3 hd3 => ?_⟩
      have g3 := g2.on kd3 hd3
      obtain ⟨xs0, rows0, ef0, -⟩ := g3.ex
      refine ⟨_, rfl, .inl ⟨rfl, _, SqL.of ef0⟩, ?_⟩
      refine ⟨_, rfl, _, rfl, _, rfl, _, rfl, _, rfl, pick_nm hd3 (nm.kd g3.kd) fun z3 hz3 J4 kd4 hd4 => ⟨(by show 5 ≤ sizeLine; decide), fun p np => ?_⟩⟩
      have g4 := g3.on kd4 hd4
      obtain ⟨xs1, e1, l1', g5⟩ := g4.step (r := ⟨mo, z1, z2, z3, false⟩) np ⟨nm.wd _ mm, spk_ok _ hz1, sn_ok _ hz2, nm.wd _ hz3⟩ ⟨mm, hz3⟩ (by omega)
      refine ⟨fl, _, _, rfl, rfl, e1, l1', ?_⟩
      clear g1 g2 g3 g4 ef0 e1 l1'
      refine ⟨_, rfl, (by show 4 ≤ sizeLine; decide), fun l3 m3 => pick_lit (zs := ["all", "all", "all", "under"]) g5.deal m3 (by decide) (by decide) fun z4 hz4 J6 kd6 hd6 => ?_⟩
      have g6 := g5.on kd6 hd6
      refine ⟨_, rfl, (by show 4 ≤ sizeLine; decide), fun l4 m4 => pick_lit (zs := ["on", "on", "on", "home"]) hd6 m4 (by decide) (by decide) fun z5 hz5 J7 kd7 hd7 => ⟨_, _, rfl, ?_⟩⟩
      have g7 := g6.on kd7 hd7
      obtain ⟨xs2, rows2, ef2, -⟩ := g7.ex
      refine ⟨_, rfl, .inl ⟨rfl, _, SqL.of ef2⟩, ?_⟩
      refine ⟨_, rfl, _, rfl, _, rfl, _, rfl, _, rfl, pick_nm hd7 (nm.kd g7.kd) fun z6 hz6 J8 kd8 hd8 => ⟨_, rfl, d, l, _, rfl, hd8, by decide, by decide, fun k9 J9 _ _ kd9 hd9 => ⟨rfl, (by show 5 ≤ sizeLine; decide), fun p2 np2 => ?_⟩⟩⟩
      have g9 := (g7.on kd8 hd8).on kd9 hd9
      obtain ⟨xs3, e3, l3', gA⟩ := g9.step (r := ⟨mo, z4, z5, z6, decide (V.int k9 = V.int 0)⟩) np2 ⟨nm.wd _ mm, sa_ok _ hz4, so_ok _ hz5, nm.wd _ hz6⟩ ⟨mm, hz6⟩ (by omega)
      exact ⟨fl, _, _, rfl, rfl, e3, l3', _, _, _, _, rfl, _, by omega, gA⟩
  · rintro σ J ⟨v3, v4, v5, v6, rfl, lo, hlo, g⟩
    rw [lw] at hlo g
    obtain ⟨⟨xs, rows, e, rt, h1, h2, h3⟩, k0, d0, nw, x⟩ := g
    exact ⟨_, rfl, q fl J ⟨⟨xs, rows, e, rt, by omega, h2, h3⟩, k0, d0, nw, x⟩⟩
end
end LT
namespace LT
open PySem L2
/-! ### parts of tuples and lists, put together -/
theorem cutT {l : List V} (n : Nat) : cutV l none (some ((n : Nat) : Int)) = l.take n := by
  unfold cutV
  rw [HT.sIx_none, HT.sIx_nat, List.drop_zero, Nat.sub_zero]
  by_cases h : n ≤ l.length
  · rw [Nat.min_eq_left h]
  · rw [Nat.min_eq_right (by omega), List.take_length, List.take_of_length_le (by omega)]
theorem cutD {l : List V} (n : Nat) : cutV l (some ((n : Nat) : Int)) none = l.drop n := by
  unfold cutV
  rw [HT.sIx_none, HT.sIx_nat]
  by_cases h : n ≤ l.length
  · rw [Nat.min_eq_left h, List.take_of_length_le (by rw [List.length_drop]; omega)]
  · rw [Nat.min_eq_right (by omega), List.drop_eq_nil_of_le (Nat.le_refl _), List.drop_eq_nil_of_le (by omega), List.take_nil]
theorem cutM {l : List V} (a b : Nat) : cutV l (some ((a : Nat) : Int)) (some ((b : Nat) : Int)) = (l.take b).drop a := by
  unfold cutV
  rw [HT.sIx_nat, HT.sIx_nat, List.drop_take]
  by_cases ha : a ≤ l.length
  · rw [Nat.min_eq_left ha]
    by_cases hb : b ≤ l.length
    · rw [Nat.min_eq_left hb]
    · rw [Nat.min_eq_right (by omega), List.take_of_length_le (by rw [List.length_drop]; omega), List.take_of_length_le (by rw [List.length_drop]; omega)]
  · rw [Nat.min_eq_right (a := a) (by omega), List.drop_eq_nil_of_le (Nat.le_refl _), List.drop_eq_nil_of_le (by omega), List.take_nil, List.take_nil]
theorem cut_wholeT {xs : List V} {lo hi : Option Int} (h : HT.sIx xs.length 0 lo = 0 ∧ HT.sIx xs.length xs.length hi = xs.length) : cutV xs lo hi = xs := by
  unfold cutV
  rw [h.1, h.2, List.drop_zero, Nat.sub_zero, List.take_length]
section
variable {K : PySem.W.Frag} {a b : Addr} {H : Hp} {Q : VK}
theorem slT {xs : List V} {lo hi : Option Int} (h : H a = some (.tup xs)) (q : ∀ p J, Same H J → J p = some (.tup (cutV xs lo hi)) → Q (.ref p) J) : rSlA K (.ref a) lo hi H Q :=
  ⟨a, xs, rfl, SqT.of h, fun w => q a H (Same.refl _) (by rw [cut_wholeT w]; exact h), fun _ p np => q p _ (new_same np _) upd_same⟩
theorem catT {xs ys : List V} (ha : H a = some (.tup xs)) (hb : H b = some (.tup ys)) (l : xs.length + ys.length ≤ 1000) (q : ∀ p J, Same H J → J p = some (.tup (xs ++ ys)) → Q (.ref p) J) : rCatA K (.ref a) (.ref b) H Q :=
  ⟨a, b, xs, ys, rfl, rfl, SqT.of ha, SqT.of hb, Nat.le_of_lt (small1000 l), fun e => q b H (Same.refl _) (by rw [e]; exact hb), fun _ e => q a H (Same.refl _) (by rw [e, List.append_nil]; exact ha), fun _ _ p np => q p _ (new_same np _) upd_same⟩
end
end LT
namespace L2
open PySem PySem.Spec PyProof.Rows
def tPar3 (i j k : Nat) (ta : TA) : TS := fun D σ H => ta σ H fun vs H1 => ∃ v w z, vs = [v, w, z] ∧ D.nx (((List.set σ k (some z)).set j (some w)).set i (some v)) H1
theorem vals3 {v w z : V} {us : List Value} (r : Vals [v, w, z] us) : ∃ a b c, us = [a, b, c] ∧ RelV v a ∧ RelV w b ∧ RelV z c := by
  cases r with
  | cons p q =>
    cases q with
    | cons p' q' =>
      cases q' with
      | cons p2 q2 =>
        cases q2
        exact ⟨_, _, _, rfl, p, p', p2⟩
theorem un3 {prog : Program} {w : World} {A : Around} {E : Value → Shared → Prop} {s : Shared} {t : Addr} {a b c : Value} {Q : List Value → Shared → Prop} (hh : A.handled = none) (ht : IsTup s.heap t #[a, b, c])
    (h : ∀ h' : Heap, Heap.ExtBut s.heap.objs.size s.heap h' → Q [a, b, c] { s with heap := h' }) : wpAny (model prog w) A (unpackItems (.ref t) 3 none) Q E s :=
  unpackItems_tuple (items := #[a, b, c]) hh ht h
theorem ps_par3 {X : Cx} {pos : Pos} {i j k : Nat} {x y z : Str} {a b c : Expr} {ta : TA} {px py pz pt : Pos} {kt k2 : Nat} {pt2 : Pos} (hc : X.calm = true) (hN : X.N.Nodup)
    (hi : X.N[i]? = some x) (hj : X.N[j]? = some y) (hk : X.N[k]? = some z) (hx : List.lookup x X.env.scope.names = some NameKind.local) (hy : List.lookup y X.env.scope.names = some NameKind.local) (hz : List.lookup z X.env.scope.names = some NameKind.local)
    (ha : PA X [a, b, c] ta)
    (hw : swappedStores [Expr.Tuple [Expr.Name x px, Expr.Name y py, Expr.Name z pz] kt pt] (Expr.Tuple [a, b, c] k2 pt2) X.env = pure (some [x, y, z]))
    (hs : swapsWithSole [Expr.Tuple [Expr.Name x px, Expr.Name y py, Expr.Name z pz] kt pt] (Expr.Tuple [a, b, c] k2 pt2) pos.line X.env = pure false := by rfl) :
    PS X (Stmt.Assign [Expr.Tuple [Expr.Name x px, Expr.Name y py, Expr.Name z pz] kt pt] (Expr.Tuple [a, b, c] k2 pt2) pos) (tPar3 i j k ta) := by
  refine ⟨fun pins s σ H D I h => ?_⟩
  rw [exec_Assign_arm]
  refine wpAny_bind (wpAny_standAt ?_)
  rw [hs]
  refine wpAny_bind (wpAny_pure ?_)
  rw [if_neg (by decide)]
  refine wpAny_bind (Tuple_ (thn (ha.run pt2 pins s σ H _ I h) fun us s1 hh => ?_))
  obtain ⟨vs, H1, I1, r1, v, w, u, rfl, q⟩ := hh
  obtain ⟨u1, u2, u3, rfl, rv, rw', ru⟩ := vals3 r1
  have I2 : Inv X pins σ H1 { s1 with heap := s1.heap.push { cls := .type "tuple", data := .seq #[u1, u2, u3] } } := I1.kept fun b o e => Heap.get?_push_of_some _ e
  have sz : sizeOk (Data.seq #[u1, u2, u3]) := by show 3 ≤ _; decide
  refine wpAny_newObj_type ?_ sz
  rw [hw]
  refine wpAny_bind (wpAny_pure ?_)
  unfold assignStores
  dsimp only
  have hd : X.A.handled = none := I.ok.hd hc
  have tp := IsTup.new s1.heap #[u1, u2, u3]
  refine wpAny_bind (wpAny_rule ?_)
  refine wpAny_bind (un3 hd tp fun h' hx' => ?_)
  have I3 := I2.kept (t' := s1.toks) fun b o e => hx' b o (Nat.ne_of_lt (Heap.lt_size e)) e
  show wpAny _ _ (assignInOrder [bindName X.env z, bindName X.env y, bindName X.env x] [u3, u2, u1] >>= fun _ => pure Flow.next) _ _ _
  refine wpAny_bind (assignInOrder_cons (wpAny_bindName (store_ok I3 hN hk (Or.inl hz) ru (fun s2 I4 => ?_) (Or.inr hz))))
  refine assignInOrder_cons (wpAny_bindName (store_ok I4 hN hj (Or.inl hy) rw' (fun s3 I5 => ?_) (Or.inr hy)))
  refine assignInOrder_cons (wpAny_bindName (store_ok I5 hN hi (Or.inl hx) rv (fun s4 I6 => ?_) (Or.inr hx)))
  exact wpAny_pure (wpAny_pure ⟨_, _, I6, q⟩)
end L2
namespace LT
open PySem L2
/-- a row with one thing of another one -/
def mixR (r f : Row5) : Nat → Row5
  | 0 => { r with m := f.m }
  | 1 => { r with p := f.p }
  | 2 => { r with mv := f.mv }
  | 3 => { r with t := f.t }
  | _ => { r with al := f.al }
theorem mix_vs (r f : Row5) : ∀ k, k < 5 → (r.vs.take k ++ (f.vs.take (k + 1)).drop k) ++ r.vs.drop (k + 1) = (mixR r f k).vs
  | 0, _ => rfl
  | 1, _ => rfl
  | 2, _ => rfl
  | 3, _ => rfl
  | 4, _ => rfl
  | k + 5, h => by omega
theorem mix_good {r f : Row5} (gr : Good r) (gf : Good f) : ∀ k, Good (mixR r f k)
  | 0 => ⟨gf.m, gr.p, gr.mv, gr.t⟩
  | 1 => ⟨gr.m, gf.p, gr.mv, gr.t⟩
  | 2 => ⟨gr.m, gr.p, gf.mv, gr.t⟩
  | 3 => ⟨gr.m, gr.p, gr.mv, gf.t⟩
  | _ + 4 => ⟨gr.m, gr.p, gr.mv, gr.t⟩
theorem mix_w {r f : Row5} {ws : List Str} (hr : r.m ∈ ws ∧ r.t ∈ ws) (hf : f.m ∈ ws ∧ f.t ∈ ws) : ∀ k, (mixR r f k).m ∈ ws ∧ (mixR r f k).t ∈ ws
  | 0 => ⟨hf.1, hr.2⟩
  | 1 => hr
  | 2 => hr
  | 3 => ⟨hr.1, hf.2⟩
  | _ + 4 => hr
theorem RowsW.take {ws : List Str} {rows : List Row5} (h : RowsW ws rows) (n : Nat) : RowsW ws (rows.take n) := fun r hr => h r (List.mem_of_mem_take hr)
theorem RowsW.drop {ws : List Str} {rows : List Row5} (h : RowsW ws rows) (n : Nat) : RowsW ws (rows.drop n) := fun r hr => h r (List.mem_of_mem_drop hr)
theorem RowsW.app {ws : List Str} {r s : List Row5} (h : RowsW ws r) (k : RowsW ws s) : RowsW ws (r ++ s) := fun z hz => (List.mem_append.mp hz).elim (h z) (k z)
theorem RowsW.one {ws : List Str} {r : Row5} (h : r.m ∈ ws ∧ r.t ∈ ws) : RowsW ws [r] := fun z hz => by
  rw [List.mem_singleton.mp hz]
  exact h
theorem RowTs.one {J : Hp} {p : Addr} {r : Row5} (e : J p = some (.tup r.vs)) (g : Good r) : RowTs J [.ref p] [r] := ⟨rfl, fun i v h => by
  match i, h with
  | 0, h =>
    cases h
    exact ⟨p, r, rfl, rfl, e, g⟩
  | i + 1, h => exact nomatch h⟩
theorem next_kd {D : Ends} {σ : L2.St} {H : Hp} (h : D.nx σ H) : tNext D σ H := h
def spBentD (K : PySem.W.Frag) : Sp := fun vs H Q _ => ∃ (d l f0 s : Addr) (ws : List Str) (xs : List V) (rows : List Row5), vs = [.ref d, .ref f0, .ref s] ∧ Deal H d l ∧ NmAt K H d l s ws ∧ H f0 = some (.lst xs) ∧ RowTs H xs rows ∧ RowsW ws rows ∧ 1 ≤ rows.length ∧ rows.length ≤ 40 ∧ (f0 ≠ d ∧ f0 ≠ l) ∧
  ∀ (fl : Addr) (J : Hp), GrowD H d l fl ws 1 (rows.length + 1) J → Q (.ref fl) J
abbrev nBent : List Str := ["_law_deal_here", "_law_rows", "_law_names_here", "_law_at", "_law_form", "_law_fresh", "_law_spot", "_law_row"]
section
variable {P : Program} {w : World} {K : PySem.W.Frag} {mg : Str → Option Value} {base : Heap}
theorem scBent : FnScope nBent ["_law_deal_here", "_law_rows", "_law_names_here"] (defScope sx_bent) := ⟨rfl, rfl, rfl, by decide +kernel, rfl, by decide +kernel, by decide +kernel⟩
theorem ok_bentD {f gd ga : Addr} {fd dd da : FuncData} (F : Fun K "_law_bent" "_law_bent" sx_bent f fd) (T : Blt mg)
    (GA : FnOk P w K mg base CX0 3 ga da ["_law_deal_here", "_law_names_here"] (spAnyRowD K)) (bA : Binds K da ["_law_deal_here", "_law_names_here"] []) (kA : PySem.W.keepIn K (.ref ga) = true) (mA : mg "_law_any_row" = some (.ref ga))
    (GD : FnOk P w K mg base CX0 1 gd dd ["_law_deal_here", "_law_many"] spDraw) (bD : Binds K dd ["_law_deal_here", "_law_many"] []) (kD : PySem.W.keepIn K (.ref gd) = true) (mD : mg "_law_draw" = some (.ref gd)) :
    FnOk P w K mg base CX0 4 f fd ["_law_deal_here", "_law_rows", "_law_names_here"] (spBentD K) := by
  refine F.ok scBent (fun vs H Q E h => ?_) (fun cdv A outer s H vs Q E hr h => ?_)
  · obtain ⟨d, l, f0, s, ws, xs, rows, rfl, _⟩ := h
    rfl
  obtain ⟨d, l, f0, a, ws, xs, rows, rfl, hd, nm, hf, rt, rw0, lo, few, xf, q⟩ := h
  have hr3 := hr
  have hr1 : Room 1 _ := hr.mono (by decide)
  have lx := rt.1
  refine ⟨_, (pss_cons (ps_par (i := 3) (j := 4) rfl scBent.nd rfl rfl (by decide) rfl rfl (pa_cons (pe_call GD hr1 (by rfl) mD kD bD .nil pass0 (pa_cons (pv 0) (pa_cons (pe_callB call_len_seq (by rfl) T.len PySem.boot_len (pa_cons (pv 1) pa_nil)) pa_nil))) (pa_cons (pe_call GD hr1 (by rfl) mD kD bD .nil pass0 (pa_cons (pv 0) (pa_cons pe_int pa_nil))) pa_nil)) rfl)
    (pss_cons (ps_if (pt_cmpR op_eq (pv 4) pe_int (nomark _)) (pss_one (ps_ret (pe_op op_cat (pe_op op_cat (pe_slice sl_list (pv 1) po_none (po_some (pv 3))) (pe_lst (pa_cons (pe_call GA hr3 (by rfl) mA kA bA .nil pass0 (pa_cons (pv 0) (pa_cons (pv 2) pa_nil))) pa_nil))) (pe_slice sl_list (pv 1) (po_some (pv 3)) po_none)))) pss_nil)
    (pss_cons (ps_if (PW.pt (pw_and (pt_cmpR op_eq (pv 4) pe_int (nomark _)) (pw_and1 (pt_cmpR op_gt (pe_callB call_len_seq (by rfl) T.len PySem.boot_len (pa_cons (pv 1) pa_nil)) pe_int (nomark _))))) (pss_one (ps_ret (pe_op op_cat (pe_slice sl_list (pv 1) po_none (po_some (pv 3))) (pe_slice sl_list (pv 1) (po_some (pe_op op_add (pv 3) pe_int)) po_none)))) pss_nil)
    (pss_cons (ps_par3 (i := 5) (j := 6) (k := 7) rfl scBent.nd rfl rfl rfl rfl rfl rfl (pa_cons (pe_call GA hr3 (by rfl) mA kA bA .nil pass0 (pa_cons (pv 0) (pa_cons (pv 2) pa_nil))) (pa_cons (pe_call GD hr1 (by rfl) mD kD bD .nil pass0 (pa_cons (pv 0) (pa_cons pe_int pa_nil))) (pa_cons (pe_ix ix_list (pv 1) (pv 3) (fun _ _ => rfl)) pa_nil))) rfl)
    (pss_cons (ps_set (i := 7) scBent.nd rfl (Or.inl rfl) (pe_op (r := rCatA K) op_catA (pe_op (r := rCatA K) op_catA (pe_slice (r := rSlA K) sl_tupA (pv 7) po_none (po_some (pv 6))) (pe_slice (r := rSlA K) sl_tupA (pv 5) (po_some (pv 6)) (po_some (pe_op op_add (pv 6) pe_int)))) (pe_slice (r := rSlA K) sl_tupA (pv 7) (po_some (pe_op op_add (pv 6) pe_int)) po_none)))
    (pss_one (ps_ret (pe_op op_cat (pe_op op_cat (pe_slice sl_list (pv 1) po_none (po_some (pv 3))) (pe_lst (pa_cons (pv 7) pa_nil))) (pe_slice sl_list (pv 1) (po_some (pe_op op_add (pv 3) pe_int)) po_none))))))))), ?_⟩
  refine ⟨_, rfl, _, rfl, f0, _, rfl, .inl (SqL.of hf), d, l, _, rfl, hd, by omega, by omega, fun k J1 k0 k1 kd1 hd1 => ⟨_, rfl, d, l, _, rfl, hd1, by decide, by decide, fun m J2 _ _ kd2 hd2 => ⟨_, _, rfl, ?_⟩⟩⟩
  obtain ⟨j, rfl⟩ : ∃ j : Nat, k = (j : Int) := ⟨k.toNat, by omega⟩
  have kd12 := kd1.trans kd2
  have hf2 := kd12 _ _ xf.1 xf.2 hf
  have rt2 := rt.keep (kd12.keep hd)
  have nm2 := nm.kd kd12
  have hj : j < rows.length := by omega
  clear kd1 kd2 hd1 k0 k1
  have kdH : Kd d l H J2 := kd12
  refine ⟨_, rfl, rfl, _, rfl, ?_⟩
  refine ite2 (fun _ => ?_) (fun _ => ?_)
  · -- a row more
    refine ⟨_, rfl, _, rfl, _, rfl, f0, _, rfl, SqL.of hf2, fun p1 n1 => ?_⟩
    rw [cutT]
    have s1 := new_same n1 (.lst (xs.take j))
    have x1 := hd2.new n1
    have e1 : upd J2 p1 (.lst (xs.take j)) p1 = some (.lst (xs.take j)) := upd_same
    generalize upd J2 p1 (.lst (xs.take j)) = J3 at s1 e1 ⊢
    have nm3 := nm2.kd (Kd.of s1 : Kd d l J2 J3)
    refine ⟨_, rfl, _, rfl, d, l, a, ws, rfl, hd2.mono s1, nm3.n1, nm3.n2, nm3.sq, nm3.p0, nm3.p1, nm3.wd, fun p r J4 gr m1 m2 kd4 hd4 np ep => ?_⟩
    have e1' := kd4 _ _ x1.1 x1.2 e1
    have kd5 : Kd d l J2 J4 := (Kd.of s1).trans kd4
    refine ⟨(by show 1 ≤ sizeLine; decide), fun u nu => ⟨p1, u, _, _, rfl, rfl, new_same nu _ _ _ e1', upd_same, Nat.le_of_lt (small1000 (by rw [List.length_take, List.length_singleton]; omega)), fun c nc => ?_⟩⟩
    have s6 := (new_same nu (.lst [V.ref p])).trans (new_same nc (.lst (xs.take j ++ [V.ref p])))
    have ec : upd (upd J4 u (.lst [V.ref p])) c (.lst (xs.take j ++ [V.ref p])) c = some (.lst (xs.take j ++ [V.ref p])) := upd_same
    generalize upd (upd J4 u (.lst [V.ref p])) c (.lst (xs.take j ++ [V.ref p])) = J5 at s6 ec ⊢
    have hf5 := s6 _ _ (kd5 _ _ xf.1 xf.2 hf2)
    refine ⟨_, rfl, _, rfl, _, rfl, f0, _, rfl, SqL.of hf5, fun p2 n2 => ?_⟩
    rw [cutD]
    refine ⟨c, p2, _, _, rfl, rfl, new_same n2 _ _ _ ec, upd_same, Nat.le_of_lt (small1000 (by rw [List.length_append, List.length_take, List.length_drop, List.length_singleton]; omega)), fun fl nfl => ?_⟩
    have s7 := (s6.trans (new_same n2 (.lst (xs.drop j)))).trans (new_same nfl (.lst (xs.take j ++ [V.ref p] ++ xs.drop j)))
    have kd7 : Kd d l J2 (upd (upd J5 p2 (.lst (xs.drop j))) fl (.lst (xs.take j ++ [V.ref p] ++ xs.drop j))) := kd5.then s7
    have hd7 := hd4.mono s7
    have rt7 := rt2.keep (kd7.keep hd2)
    have kdF := kdH.trans kd7
    have xfl := (hd4.mono (s6.trans (new_same n2 (.lst (xs.drop j))))).new nfl
    refine q fl _ ⟨⟨_, rows.take j ++ [r] ++ rows.drop j, upd_same, (rt7.take.app (RowTs.one (s7 _ _ ep) gr)).app rt7.drop, by simp only [List.length_append, List.length_take, List.length_drop, List.length_singleton]; omega, by simp only [List.length_append, List.length_take, List.length_drop, List.length_singleton]; omega, ((rw0.take j).app (RowsW.one ⟨m1, m2⟩)).app (rw0.drop j)⟩, kdF, hd7, ?_, xfl⟩
    exact (kdH.trans (kd5.then (s6.trans (new_same n2 (.lst (xs.drop j)))))).free nfl xfl
  refine next_kd ?_
  dsimp only
  refine seq_kd (fun τ L => τ = [some (.ref d), some (.ref f0), some (.ref a), some (.int (j : Nat)), some (.int m), none, none, none] ∧ L = J2) ?_ fun k => ?_
  rotate_left
  · refine ⟨_, rfl, rfl, _, rfl, ?_⟩
    refine ite2 (fun _ => ?_) (fun _ => k _ _ ⟨rfl, rfl⟩)
    refine ⟨_, rfl, f0, _, rfl, .inl (SqL.of hf2), _, _, rfl, rfl, _, rfl, ?_⟩
    refine ite2 (fun c1 => ?_) (fun _ => k _ _ ⟨rfl, rfl⟩)
    have l2 : 1 < xs.length := by
      have := of_decide_eq_true c1
      omega
    refine ⟨_, rfl, _, rfl, _, rfl, f0, _, rfl, SqL.of hf2, fun p1 n1 => ?_⟩
    rw [cutT]
    have s1 := new_same n1 (.lst (xs.take j))
    have e1 : upd J2 p1 (.lst (xs.take j)) p1 = some (.lst (xs.take j)) := upd_same
    generalize upd J2 p1 (.lst (xs.take j)) = J3 at s1 e1 ⊢
    refine ⟨_, rfl, _, rfl, _, _, rfl, rfl, _, rfl, f0, _, rfl, SqL.of (s1 _ _ hf2), fun p2 n2 => ?_⟩
    have ec : cutV xs (some ((j : Nat) + 1 : Int)) none = xs.drop (j + 1) := cutD (j + 1)
    rw [ec]
    refine ⟨p1, p2, _, _, rfl, rfl, new_same n2 _ _ _ e1, upd_same, Nat.le_of_lt (small1000 (by rw [List.length_take, List.length_drop]; omega)), fun fl nfl => ?_⟩
    have s7 := (s1.trans (new_same n2 (.lst (xs.drop (j + 1))))).trans (new_same nfl (.lst (xs.take j ++ xs.drop (j + 1))))
    have xfl := (hd2.mono (s1.trans (new_same n2 (.lst (xs.drop (j + 1)))))).new nfl
    have rt7 := rt2.keep (Keep.of s7)
    exact q fl _ ⟨⟨_, rows.take j ++ rows.drop (j + 1), upd_same, rt7.take.app rt7.drop, by rw [List.length_append, List.length_take, List.length_drop]; omega, by rw [List.length_append, List.length_take, List.length_drop]; omega, (rw0.take j).app (rw0.drop (j + 1))⟩, kdH.then s7, hd2.mono s7, (kdH.then (s1.trans (new_same n2 (.lst (xs.drop (j + 1)))))).free nfl xfl, xfl⟩
  rintro τ L ⟨rfl, rfl⟩
  refine ⟨_, rfl, _, rfl, d, l, a, ws, rfl, hd2, nm2.n1, nm2.n2, nm2.sq, nm2.p0, nm2.p1, nm2.wd, fun p r J4 gr m1 m2 kd4 hd4 np ep => ?_⟩
  refine ⟨_, rfl, d, l, _, rfl, hd4, by decide, by decide, fun g J5 g0 g1 kd5 hd5 => ?_⟩
  have kd45 := kd4.trans kd5
  have hf5 := kd45 _ _ xf.1 xf.2 hf2
  have ep5 : J5 p = some (.tup r.vs) := (kd5.keep hd4) p (.tup r.vs) (fun _ z => nomatch z) ep
  have rt5 := rt2.keep (kd45.keep hd2)
  obtain ⟨v0, ev0⟩ : ∃ v, xs[j]? = some v := ⟨_, List.getElem?_eq_getElem (by omega)⟩
  obtain ⟨rp, r0, rfl, hr0, hrp, gr0⟩ := rt5.2 j v0 ev0
  refine ⟨_, rfl, _, rfl, f0, _, _, _, rfl, rfl, SqL.of hf5, atI_nat ev0, _, _, _, rfl, ?_⟩
  obtain ⟨y, rfl⟩ : ∃ y : Nat, g = (y : Int) := ⟨g.toNat, by omega⟩
  have hy : y < 5 := by omega
  dsimp only
  simp only [List.set_cons_succ, List.set_cons_zero]
  -- the row with one thing of the fresh one
  refine ⟨_, rfl, _, rfl, _, rfl, slT hrp fun t1 J6 s6 h6 => ?_⟩
  rw [cutT] at h6
  refine ⟨_, rfl, _, rfl, _, rfl, _, rfl, _, _, rfl, rfl, _, rfl, slT (s6 _ _ ep5) fun t2 J7 s7 h7 => ?_⟩
  have ec2 : cutV r.vs (some ((y : Nat) : Int)) (some ((y : Nat) + 1 : Int)) = (r.vs.take (y + 1)).drop y := cutM y (y + 1)
  rw [ec2] at h7
  have l5 : r.vs.length = 5 := rfl
  have l50 : r0.vs.length = 5 := rfl
  refine catT (s7 _ _ h6) h7 (by rw [List.length_take, List.length_drop, List.length_take]; omega) fun t3 J8 s8 h8 => ?_
  refine ⟨_, rfl, _, rfl, _, _, rfl, rfl, _, rfl, ?_⟩
  dsimp only [tNoPart]
  refine slT (s8 _ _ (s7 _ _ (s6 _ _ hrp))) fun t4 J9 s9 h9 => ?_
  have ec3 : cutV r0.vs (some ((y : Nat) + 1 : Int)) none = r0.vs.drop (y + 1) := cutD (y + 1)
  rw [ec3] at h9
  refine catT (s9 _ _ h8) h9 (by rw [List.length_append, List.length_take, List.length_drop, List.length_take, List.length_drop]; omega) fun t5 JA sA hA => ?_
  rw [mix_vs r0 r y hy] at hA
  have s5A := (((s6.trans s7).trans s8).trans s9).trans sA
  clear h6 h7 h8 h9 s6 s7 s8 s9 sA ec2 ec3
  have hdA := hd5.mono s5A
  have kdA := (kdH.trans kd45).then s5A
  have hfA := s5A _ _ hf5
  have rtA := rt5.keep (Keep.of s5A)
  have e1 : (j : Int) + 1 = ((j + 1 : Nat) : Int) := rfl
  refine ⟨_, rfl, _, rfl, _, rfl, f0, _, rfl, SqL.of hfA, fun p1 n1 => ?_⟩
  rw [cutT]
  refine ⟨_, rfl, (by show 1 ≤ sizeLine; decide), fun u nu => ⟨p1, u, _, _, rfl, rfl, new_same nu _ _ _ upd_same, upd_same, Nat.le_of_lt (small1000 (by rw [List.length_take, List.length_singleton]; omega)), fun c nc => ?_⟩⟩
  have sB := ((new_same n1 (.lst (xs.take j))).trans (new_same nu (.lst [V.ref t5]))).trans (new_same nc (.lst (xs.take j ++ [V.ref t5])))
  have eB : upd (upd (upd JA p1 (.lst (xs.take j))) u (.lst [V.ref t5])) c (.lst (xs.take j ++ [V.ref t5])) c = some (.lst (xs.take j ++ [V.ref t5])) := upd_same
  generalize upd (upd (upd JA p1 (.lst (xs.take j))) u (.lst [V.ref t5])) c (.lst (xs.take j ++ [V.ref t5])) = JB at sB eB ⊢
  refine ⟨_, rfl, _, rfl, _, _, rfl, rfl, _, rfl, f0, _, rfl, SqL.of (sB _ _ hfA), fun p2 n2 => ?_⟩
  have ec : cutV xs (some ((j : Nat) + 1 : Int)) none = xs.drop (j + 1) := cutD (j + 1)
  rw [ec]
  refine ⟨c, p2, _, _, rfl, rfl, new_same n2 _ _ _ eB, upd_same, Nat.le_of_lt (small1000 (by rw [List.length_append, List.length_take, List.length_drop, List.length_singleton]; omega)), fun fl nfl => ?_⟩
  have s0 := sB.trans (new_same n2 (.lst (xs.drop (j + 1))))
  have sF := s0.trans (new_same nfl (.lst (xs.take j ++ [V.ref t5] ++ xs.drop (j + 1))))
  have xfl := (hdA.mono s0).new nfl
  have rtF := rtA.keep (Keep.of sF)
  exact q fl _ ⟨⟨_, rows.take j ++ [mixR r0 r y] ++ rows.drop (j + 1), upd_same, (rtF.take.app (RowTs.one (sF _ _ hA) (mix_good gr0 gr y))).app rtF.drop, by simp only [List.length_append, List.length_take, List.length_drop, List.length_singleton]; omega, by simp only [List.length_append, List.length_take, List.length_drop, List.length_singleton]; omega, ((rw0.take j).app (RowsW.one (mix_w (rw0 _ (List.mem_of_getElem? hr0)) ⟨m1, m2⟩ y))).app (rw0.drop (j + 1))⟩, kdA.then sF, hdA.mono sF, (kdA.then s0).free nfl xfl, xfl⟩
end
end LT
namespace LT
open PySem L2
theorem seq_if_k {tt : TT} {a1 a2 b : TS} {D : Ends} {σ : L2.St} {H : Hp} (P : L2.St → Hp → Prop) (r : ∀ τ L, P τ L → b D τ L) (m : (∀ τ L, P τ L → b D τ L) → tSeq (tIfS tt a1 a2) b D σ H) : tSeq (tIfS tt a1 a2) b D σ H := m r
theorem name_k {i : Nat} {v : V} {σ : L2.St} {H : Hp} {Q : L2.St → Hp → Prop} (h : Q (σ.set i (some v)) H) : gName i v σ H Q := h
theorem cut_take' {l : List V} (n : Nat) : cutV l none (some ((n : Nat) : Int)) = l.take n := by
  unfold cutV
  rw [HT.sIx_none, HT.sIx_nat, List.drop_zero, Nat.sub_zero]
  by_cases h : n ≤ l.length
  · rw [Nat.min_eq_left h]
  · rw [Nat.min_eq_right (by omega), List.take_length, List.take_of_length_le (by omega)]
theorem cut_drop {l : List V} (n : Nat) : cutV l (some ((n : Nat) : Int)) none = l.drop n := by
  unfold cutV
  rw [HT.sIx_none, HT.sIx_nat]
  by_cases h : n ≤ l.length
  · rw [Nat.min_eq_left h, List.take_of_length_le (by rw [List.length_drop]; omega)]
  · rw [Nat.min_eq_right (by omega), List.drop_eq_nil_of_le (Nat.le_refl _), List.drop_eq_nil_of_le (by omega), List.take_nil]
end LT
namespace LT
open PySem L2
theorem passR {X : Cx} : Passes (L2.CX X.prog X.w) X (fun _ _ _ => False) := passes_call takes0 (fun _ _ _ _ h => h)
theorem shaped_tup {ds : List PyData} {n : Nat} (h : PyData.canLayAll0 ds = true ∧ PyData.depthAll ds ≤ n) (hn : n ≤ 60) : SeqAt.shaped (.tuple ds) = true := by
  show ((PyData.tuple ds).canLay0 && decide ((PyData.tuple ds).depth ≤ 64)) = true
  rw [Bool.and_eq_true, decide_eq_true_eq]
  refine ⟨by simpa [PyData.canLay0] using h.1, ?_⟩
  simp only [PyData.depth]
  have := h.2
  omega
theorem shaped_lst {ds : List PyData} {n : Nat} (h : PyData.canLayAll0 ds = true ∧ PyData.depthAll ds ≤ n) (hn : n ≤ 60) : SeqAt.shaped (.list ds) = true := by
  show ((PyData.list ds).canLay0 && decide ((PyData.list ds).depth ≤ 64)) = true
  rw [Bool.and_eq_true, decide_eq_true_eq]
  refine ⟨by simpa [PyData.canLay0] using h.1, ?_⟩
  simp only [PyData.depth]
  have := h.2
  omega
theorem shaped_ok {d : PyData} (h : SeqAt.shaped d = true) : PyData.eqv d d = true := SeqAt.eqv_refl d (by
  have : (d.canLay0 && decide (d.depth ≤ 64)) = true := h
  rw [Bool.and_eq_true] at this
  exact this.1)
structure BltL (mg : Str → Option Value) : Prop where
  list : mg "list" = none
/-- a drawn rule, as the law has it: first mode and rows -/
def RuleT (J : Hp) (p : Addr) (first : Str) (rows : List Row5) : Prop := ∃ (t : Addr) (xs : List V), J p = some (.tup [.str first, .ref t]) ∧ J t = some (.tup xs) ∧ RowTs J xs rows
theorem texts_len {first : Str} {rows : List Row5} (tok : TextOk first rows (ruleText first rows)) (few : rows.length ≤ 31) : ((firstLine first :: rows.map Row5.text).map (·.length)).sum + (firstLine first :: rows.map Row5.text).length * ("\n" : Str).length ≤ 10000 := by
  have lens : ∀ l ∈ firstLine first :: rows.map Row5.text, l.length ≤ 100 := tok.each
  have e1 : ("\n" : Str).length = 1 := rfl
  have go : ∀ ls : List Str, (∀ l ∈ ls, l.length ≤ 100) → (ls.map (·.length)).sum ≤ ls.length * 100 := fun ls => by
    induction ls with
    | nil => intro _; simp
    | cons l ls ih =>
      intro h
      have h1 := h l List.mem_cons_self
      have h2 := ih fun l m => h l (List.mem_cons_of_mem _ m)
      simp only [List.map_cons, List.sum_cons, List.length_cons, Nat.succ_mul]
      omega
  have := go _ lens
  rw [e1]
  rw [List.length_cons, List.length_map] at this ⊢
  omega
end LT
namespace LT
open PySem L2
/-- a drawn rule, as the law has it: first mode, and the list of rows -/
structure RuleL (J : Hp) (p fl : Addr) (first : Str) (xs : List V) (rows : List Row5) : Prop where
  p : J p = some (.tup [.str first, .ref fl])
  fl : J fl = some (.lst xs)
  rt : RowTs J xs rows
theorem RuleL.on {J L : Hp} {d l p fl : Addr} {first : Str} {xs : List V} {rows : List Row5} (h : RuleL J p fl first xs rows) (k : Kd d l J L) (hd : Deal J d l) (x : fl ≠ d ∧ fl ≠ l) : RuleL L p fl first xs rows :=
  ⟨(k.keep hd) p _ (fun _ z => nomatch z) h.p, k _ _ x.1 x.2 h.fl, h.rt.keep (k.keep hd)⟩
theorem RuleL.mono {J L : Hp} {p fl : Addr} {first : Str} {xs : List V} {rows : List Row5} (h : RuleL J p fl first xs rows) (s : Same J L) : RuleL L p fl first xs rows := ⟨s _ _ h.p, s _ _ h.fl, h.rt.keep (Keep.of s)⟩
def spLRuleD (K : PySem.W.Frag) : Sp := fun vs H Q _ => ∃ (d l : Addr) (mo most : Nat), vs = [.ref d, .int (mo : Nat), .int (most : Nat)] ∧ Deal H d l ∧ 1 ≤ mo ∧ mo ≤ 4 ∧ most ≤ 31 ∧
  ∀ (p fl : Addr) (first : Str) (xs : List V) (rows : List Row5) (J : Hp), RuleL J p fl first xs rows → Wd first → rows.length ≤ most → Kd d l H J → Deal J d l → H p = none → H fl = none → (fl ≠ d ∧ fl ≠ l) → (∃ w4 ∈ namesD, first ∈ w4 ∧ RowsW w4 rows) → Q (.ref p) J
def spLTextD : Sp := fun vs H Q _ => ∃ (p fl : Addr) (first : Str) (xs : List V) (rows : List Row5), vs = [.ref p] ∧ RuleL H p fl first xs rows ∧ Wd first ∧ rows.length ≤ 31 ∧ ∀ J, Same H J → Q (.str (ruleText first rows)) J
def spMadeD (K : PySem.W.Frag) (C CR : Addr) : Sp := fun vs H Q _ => ∃ (p fl : Addr) (first : Str) (xs : List V) (rows : List Row5), vs = [.ref p] ∧ RuleL H p fl first xs rows ∧ Wd first ∧ rows.length ≤ 31 ∧ ∀ x J, Same H J → H x = none → RuleAt K C CR J x first rows → Q (.ref x) J
abbrev nLRule : List Str := ["_law_deal_here", "_law_modes", "_law_most", "_law_names_here", "_law_found", "_law_turn"]
abbrev nLText : List Str := ["_law_rule_here", "_law_lines_here", "_law_mode", "_law_pick_here", "_law_move", "_law_then", "_law_also"]
theorem row_join5 (r : Row5) : Txt.join " " ([r.m, r.p, r.mv, r.t] ++ (if r.al then [("also" : Str)] else [])) = r.text := by
  rw [← row_join r]
  cases r.al
  · refine str_of ?_
    rw [tl_app]
    have z : (("" : Str)).cps.toList = [] := rfl
    rw [if_neg (by decide), if_neg (by decide), z, List.append_nil, List.append_nil]
  · refine str_of ?_
    rw [tl_app, if_pos rfl, if_pos rfl]
    show (r.m.cps ++ (" " : Str).cps ++ r.p.cps ++ (" " : Str).cps ++ r.mv.cps ++ (" " : Str).cps ++ r.t.cps ++ (" " : Str).cps ++ ("also" : Str).cps).toList = (r.m.cps ++ (" " : Str).cps ++ r.p.cps ++ (" " : Str).cps ++ r.mv.cps ++ (" " : Str).cps ++ r.t.cps).toList ++ _
    have e : (" also" : Str).cps.toList = (" " : Str).cps.toList ++ ("also" : Str).cps.toList := by decide +kernel
    rw [e]
    simp only [Array.toList_append, List.append_assoc]
theorem ifT {c : Prop} [Decidable c] {σ : L2.St} {J : Hp} {t u : TE} {K : VK} (P : VK) (ht : c → ∀ K : VK, (∀ v L, P v L → K v L) → t σ J K) (hu : ¬ c → ∀ K : VK, (∀ v L, P v L → K v L) → u σ J K) (k : ∀ v L, P v L → K v L) : if c then t σ J K else u σ J K := by
  by_cases h : c
  · rw [if_pos h]
    exact ht h K k
  · rw [if_neg h]
    exact hu h K k
section
variable {P : Program} {w : World} {K : PySem.W.Frag} {mg : Str → Option Value} {base : Heap}
theorem scLRule : FnScope nLRule ["_law_deal_here", "_law_modes", "_law_most"] (defScope sLRule) := ⟨rfl, rfl, rfl, by decide +kernel, rfl, by decide +kernel, by decide +kernel⟩
theorem scLText : FnScope nLText ["_law_rule_here"] (defScope sx_text) := ⟨rfl, rfl, rfl, by decide +kernel, rfl, by decide +kernel, by decide +kernel⟩
theorem scMade : FnScope ["_law_rule_here"] ["_law_rule_here"] (defScope sMade) := ⟨rfl, rfl, rfl, by decide +kernel, rfl, by decide +kernel, by decide +kernel⟩
theorem ok_lruleD {f gd gn gl gb : Addr} {fd dd dn dl db : FuncData} (F : Fun K "_law_rule" "_law_rule" sLRule f fd) (T : Blt mg)
    (GD : FnOk P w K mg base CX0 1 gd dd ["_law_deal_here", "_law_many"] spDraw) (bD : Binds K dd ["_law_deal_here", "_law_many"] []) (kD : PySem.W.keepIn K (.ref gd) = true) (mD : mg "_law_draw" = some (.ref gd))
    (GN : FnOk P w K mg base CX0 3 gn dn ["_law_deal_here", "_law_many"] spNamesD) (bN : Binds K dn ["_law_deal_here", "_law_many"] []) (kN : PySem.W.keepIn K (.ref gn) = true) (mN : mg "_law_names" = some (.ref gn))
    (GL : FnOk P w K mg base CX0 3 gl dl ["_law_deal_here", "_law_names_here"] (spLinesD K)) (bL : Binds K dl ["_law_deal_here", "_law_names_here"] []) (kL : PySem.W.keepIn K (.ref gl) = true) (mL : mg "_law_lines" = some (.ref gl))
    (GB : FnOk P w K mg base CX0 4 gb db ["_law_deal_here", "_law_rows", "_law_names_here"] (spBentD K)) (bB : Binds K db ["_law_deal_here", "_law_rows", "_law_names_here"] []) (kB : PySem.W.keepIn K (.ref gb) = true) (mB : mg "_law_bent" = some (.ref gb)) :
    FnOk P w K mg base CX0 5 f fd ["_law_deal_here", "_law_modes", "_law_most"] (spLRuleD K) := by
  refine F.ok scLRule (fun vs H Q E h => ?_) (fun cdv A outer s H vs Q E hr h => ?_)
  · obtain ⟨d, l, mo, most, rfl, _⟩ := h
    rfl
  obtain ⟨d, l, mo, most, rfl, hd, m0, m1, hmost, q⟩ := h
  have hr4 := hr
  have hr3 : Room 3 _ := hr.mono (by decide)
  have hr1 : Room 1 _ := hr.mono (by decide)
  refine ⟨_, (pss_cons (ps_set (i := 3) scLRule.nd rfl (Or.inl rfl) (pe_call GN hr3 (by rfl) mN kN bN .nil pass0 (pa_cons (pv 0) (pa_cons (pe_op op_add pe_int (pe_call GD hr1 (by rfl) mD kD bD .nil pass0 (pa_cons (pv 0) (pa_cons (pv 1) pa_nil)))) pa_nil))))
    (pss_cons (ps_set (i := 4) scLRule.nd rfl (Or.inl rfl) (pe_call GL hr3 (by rfl) mL kL bL .nil pass0 (pa_cons (pv 0) (pa_cons (pv 3) pa_nil))))
    (pss_cons (ps_for PassesOwn.never rfl (pi_range1 (by rfl) T.range (pa_cons (pe_call GD hr1 (by rfl) mD kD bD .nil pass0 (pa_cons (pv 0) (pa_cons pe_int pa_nil))) pa_nil)) (pg_name (i := 5) scLRule.nd rfl (Or.inl rfl))
    (pss_one (ps_set (i := 4) scLRule.nd rfl (Or.inl rfl) (pe_call GB hr4 (by rfl) mB kB bB .nil pass0 (pa_cons (pv 0) (pa_cons (pv 4) (pa_cons (pv 3) pa_nil)))))))
    (pss_one (ps_ret (pe_tup (pa_cons (pe_ix ix_list (pv 3) pe_int (fun _ _ => rfl)) (pa_cons (pe_slice sl_list (pv 4) po_none (po_some (pv 2))) pa_nil)))))))), ?_⟩
  refine ⟨_, rfl, _, rfl, _, rfl, d, l, _, rfl, hd, by omega, by omega, fun k J1 k0 k1 kd1 hd1 => ?_⟩
  obtain ⟨j, rfl⟩ : ∃ j : Nat, k = (j : Int) := ⟨k.toNat, by omega⟩
  refine ⟨_, _, rfl, rfl, d, l, 1 + j, rfl, hd1, by omega, by omega, fun ns ws J2 kd2 hd2 nns ens lws nok => ?_⟩
  have xns := hd1.new nns
  have lwm : (ws.map V.str).length = ws.length := List.length_map _
  have nm2 : NmAt K J2 d l ns ws := ⟨SqL.of ens, xns.1, xns.2, by omega, by omega, nok.wd⟩
  obtain ⟨first, hf0⟩ : ∃ first, ws[0]? = some first := ⟨_, List.getElem?_eq_getElem (by omega)⟩
  have kdH2 : Kd d l H J2 := kd1.trans kd2
  refine ⟨_, rfl, _, rfl, d, l, ns, ws, rfl, hd2, nm2, fun fl J3 g3 => ?_⟩
  refine ⟨_, rfl, d, l, 3, rfl, g3.deal, by decide, by decide, fun k2 J4 k20 k21 kd4 hd4 => ?_⟩
  have g4 := g3.on kd4 hd4
  clear g3 kd4 hd4
  refine ⟨k2, rfl, by omega, by omega, for_range (lo := 0) (n := k2.toNat) (fun i σ J => ∃ fl v5, σ = [some (.ref d), some (.int (mo : Nat)), some (.int (most : Nat)), some (.ref ns), some (.ref fl), v5] ∧ GrowD J2 d l fl ws 1 (12 + i) J) ⟨fl, _, rfl, ?_⟩ ?_ ?_⟩
  · obtain ⟨⟨xs, rows, e, rt, h1, h2, h3⟩, k0, d0, nw, x⟩ := g4
    exact ⟨⟨xs, rows, e, rt, by omega, by omega, h3⟩, k0, d0, nw, x⟩
  · rintro i σ J hi ⟨fl, v5, rfl, g⟩
    obtain ⟨xs, rows, e, rt, h1, h2, h3⟩ := g.ex
    refine ⟨_, rfl, _, rfl, _, rfl, d, l, fl, ns, ws, xs, rows, rfl, g.deal, nm2.kd g.kd, e, rt, h3, h1, by omega, g.x, fun fl2 J5 g5 => ?_⟩
    refine ⟨fl2, _, rfl, ⟨?_, g.kd.trans g5.kd, g5.deal, g.kd.free g5.new g5.x, g5.x⟩⟩
    obtain ⟨xs2, rows2, e2, rt2, l1, l2, l3⟩ := g5.ex
    exact ⟨xs2, rows2, e2, rt2, l1, by omega, l3⟩
  · rintro σ J ⟨fl, v5, rfl, g⟩
    obtain ⟨xs, rows, e, rt, h1, h2, h3⟩ := g.ex
    have e0 : (ws.map V.str)[0]? = some (V.str first) := by
      rw [List.getElem?_map, hf0]
      rfl
    refine ⟨_, rfl, ns, _, 0, _, rfl, rfl, (nm2.kd g.kd).sq, atI_nat (j := 0) e0, _, rfl, _, rfl, _, rfl, fl, _, rfl, SqL.of e, fun f2 nf2 => ?_⟩
    rw [cutT]
    have s1 := new_same nf2 (.lst (xs.take most))
    have ef : upd J f2 (.lst (xs.take most)) f2 = some (.lst (xs.take most)) := upd_same
    have kdF := kdH2.trans g.kd
    have xf2 := g.deal.new nf2
    have nfH := kdF.free nf2 xf2
    have hdF := g.deal.mono s1
    have rtF := rt.keep (Keep.of s1)
    have kdG := kdF.then s1
    generalize upd J f2 (.lst (xs.take most)) = L at s1 ef hdF rtF kdG ⊢
    refine ⟨(by show 2 ≤ sizeLine; decide), fun p np => ?_⟩
    have s2 := new_same np (.tup [V.str first, .ref f2])
    obtain ⟨w4, hw4, hsub⟩ := nok.sub
    refine q p f2 first _ (rows.take most) _ ⟨upd_same, s2 _ _ ef, (rtF.take).keep (Keep.of s2)⟩ (nok.wd _ (List.mem_of_getElem? hf0)) (by rw [List.length_take]; omega) (kdG.then s2) (hdF.mono s2) (kdG.free np (hdF.new np)) nfH xf2 ⟨w4, hw4, hsub _ (List.mem_of_getElem? hf0), fun r hr => ?_⟩
    have := h3 r (List.mem_of_mem_take hr)
    exact ⟨hsub _ this.1, hsub _ this.2⟩
theorem ok_ltextD {f : Addr} {fd : FuncData} (F : Fun K "_law_text" "_law_text" sx_text f fd) : FnOk P w K mg base CX0 1 f fd ["_law_rule_here"] spLTextD := by
  refine F.ok scLText (fun vs H Q E h => ?_) (fun cdv A outer s H vs Q E hr h => ?_)
  · obtain ⟨p, fl, first, xs, rows, rfl, _⟩ := h
    rfl
  obtain ⟨p, fl, first, xs, rows, rfl, ru, wf, few, q⟩ := h
  have tok := text_ok wf ru.rt.good few
  have lx := ru.rt.1
  refine ⟨_, (pss_cons (ps_set (i := 1) scLText.nd rfl (Or.inl rfl) (pe_lst (pa_cons (pe_op op_add_str pe_str (pe_ix ix_tup (pv 0) pe_int (fun _ _ => rfl))) pa_nil)))
    (pss_cons (ps_for PassesOwn.never rfl (pi_list (pe_ix ix_tup (pv 0) pe_int (fun _ _ => rfl))) (pg_tup rfl (pgs_cons (pg_name (i := 2) scLText.nd rfl (Or.inl rfl)) (pgs_cons (pg_name (i := 3) scLText.nd rfl (Or.inl rfl)) (pgs_cons (pg_name (i := 4) scLText.nd rfl (Or.inl rfl)) (pgs_cons (pg_name (i := 5) scLText.nd rfl (Or.inl rfl)) (pgs_cons (pg_name (i := 6) scLText.nd rfl (Or.inl rfl)) pgs_nil))))))
    (pss_one (ps_expr (pe_bm PySem.F.plainAttrs_list PySem.F.slot_list_append PySem.F.type_list_append mt_append (pv 1) (pa_cons (pe_join pe_str (pe_op op_cat (pe_lst (pa_cons (pv 2) (pa_cons (pv 3) (pa_cons (pv 4) (pa_cons (pv 5) pa_nil))))) (pe_ifExp (pt_val (pv 6)) (pe_lst (pa_cons pe_str pa_nil)) (pe_lst pa_nil)))) pa_nil)))))
    (pss_one (ps_ret (pe_join pe_str (pv 1)))))), ?_⟩
  refine ⟨_, rfl, p, _, 0, .str first, rfl, rfl, SqT.of ru.p, rfl, _, _, rfl, rfl, ?_, (by show 1 ≤ sizeLine; decide), fun l nl => ?_⟩
  · have := first_len wf
    unfold firstLine at this
    rw [len_app] at this
    exact Nat.le_of_lt (small1000 (by omega))
  have s1 := new_same nl (.lst [V.str ("first " ++ first)])
  have hl1 : upd H l (.lst [V.str ("first " ++ first)]) l = some (.lst [V.str ("first " ++ first)]) := upd_same
  have lfl : l ≠ fl := fun e => by
    rw [e, ru.fl] at nl
    cases nl
  generalize upd H l (.lst [V.str ("first " ++ first)]) = J1 at s1 hl1 ⊢
  have r1 := ru.mono s1
  refine ⟨_, rfl, p, _, 1, .ref fl, rfl, rfl, SqT.of r1.p, rfl, fl, rfl, ⟨_, SqL.of r1.fl⟩, for_list (K := K) (a := fl) (xs := xs) (fun i σ J => ∃ v2 v3 v4 v5 v6, σ = [some (.ref p), some (.ref l), v2, v3, v4, v5, v6] ∧ RuleL J p fl first xs rows ∧ J l = some (.lst (((firstLine first :: rows.map Row5.text).take (i + 1)).map V.str)) ∧ Same H J) ⟨_, _, _, _, _, rfl, r1, hl1, s1⟩ (fun i σ J _ ⟨_, _, _, _, _, _, r, _⟩ => SqL.of r.fl) ?_ ?_⟩
  · rintro i x σ J hx ⟨v2, v3, v4, v5, v6, rfl, r, el, sJ⟩
    obtain ⟨rp, rw, rfl, hri, hrp, gr⟩ := r.rt.2 i x hx
    have hi := (List.getElem?_eq_some_iff.mp hri).1
    refine ⟨rp, _, rfl, SqT.of hrp, rfl, _, _, rfl, _, _, rfl, _, _, rfl, _, _, rfl, _, _, rfl, rfl, ?_⟩
    simp only [List.set_cons_succ, List.set_cons_zero]
    refine ⟨_, rfl, .inl ⟨rfl, _, SqL.of el⟩, ⟨_, rfl⟩, _, rfl, _, rfl, _, rfl, _, rfl, (by show 4 ≤ sizeLine; decide), fun a1 n1 => ?_⟩
    have sa := new_same n1 (.lst [V.str rw.m, .str rw.p, .str rw.mv, .str rw.t])
    have ea : upd J a1 (.lst [V.str rw.m, .str rw.p, .str rw.mv, .str rw.t]) a1 = some (.lst [V.str rw.m, .str rw.p, .str rw.mv, .str rw.t]) := upd_same
    generalize upd J a1 (.lst [V.str rw.m, .str rw.p, .str rw.mv, .str rw.t]) = J2 at sa ea ⊢
    refine ⟨_, rfl, rw.al, rfl, ?_⟩
    refine ifT (fun v L => ∃ b, v = .ref b ∧ Same J2 L ∧ L b = some (.lst ((if rw.al then [("also" : Str)] else []).map V.str))) (fun c K' k => ?_) (fun c K' k => ?_) ?_
    · refine ⟨(by show 1 ≤ sizeLine; decide), fun b nb => k _ _ ⟨b, rfl, new_same nb _, ?_⟩⟩
      rw [upd_same, if_pos c]
      rfl
    · refine ⟨(by show 0 ≤ sizeLine; decide), fun b nb => k _ _ ⟨b, rfl, new_same nb _, ?_⟩⟩
      rw [upd_same, if_neg c]
      rfl
    rintro v L ⟨b, rfl, sL, eb⟩
    have ea2 := sL _ _ ea
    refine ⟨a1, b, _, _, rfl, rfl, ea2, eb, Nat.le_of_lt (small1000 (by rw [List.length_map]; split <;> (simp only [List.length_cons, List.length_nil]; omega))), fun c nc => ?_⟩
    have sc := (sa.trans sL).trans (new_same nc (.lst ([V.str rw.m, .str rw.p, .str rw.mv, .str rw.t] ++ (if rw.al then [("also" : Str)] else []).map V.str)))
    have ec : upd L c (.lst ([V.str rw.m, .str rw.p, .str rw.mv, .str rw.t] ++ (if rw.al then [("also" : Str)] else []).map V.str)) c = some (.lst (([rw.m, rw.p, rw.mv, rw.t] ++ (if rw.al then [("also" : Str)] else [])).map V.str)) := by
      rw [upd_same, List.map_append]
      rfl
    generalize upd L c (.lst ([V.str rw.m, .str rw.p, .str rw.mv, .str rw.t] ++ (if rw.al then [("also" : Str)] else []).map V.str)) = J3 at sc ec ⊢
    have r3 := r.mono sc
    have el3 := sc _ _ el
    refine ⟨" ", c, _, rfl, rfl, .inl (SqL.of ec), ?_, ?_⟩
    · have o := gr.ok
      have o1 := o.m
      have o2 := o.p
      have o3 := o.mv
      have o4 := o.t
      have e5 : ("also" : Str).length = 4 := rfl
      have e6 : (" " : Str).length = 1 := rfl
      have ez : (10000 : Nat) ≤ sizeLine := by decide
      cases rw.al
      · simp only [Bool.false_eq_true, if_false, List.append_nil, List.map_cons, List.map_nil, List.sum_cons, List.sum_nil, List.length_cons, List.length_nil, e6]
        omega
      · simp only [if_true, List.cons_append, List.nil_append, List.map_cons, List.map_nil, List.sum_cons, List.sum_nil, List.length_cons, List.length_nil, e5, e6]
        omega
    rw [row_join5]
    have lt : ((firstLine first :: rows.map Row5.text).take (i + 1)).length = i + 1 := by
      rw [List.length_take, List.length_cons, List.length_map]
      omega
    refine ⟨l, _, _, rfl, rfl, el3, small1000 (by rw [List.length_map, lt]; omega), _, _, _, _, _, rfl, ⟨?_, ?_, ?_⟩, ?_, fun u o e => ?_⟩
    · rw [upd_ne (fun q => by rw [← q, r3.p] at el3; cases el3)]
      exact r3.p
    · rw [upd_ne (Ne.symm lfl)]
      exact r3.fl
    · exact r3.rt.keep (Keep.box el3)
    · rw [upd_same, take_snoc (l := firstLine first :: rows.map Row5.text) (i := i + 1) (x := rw.text) (by rw [List.getElem?_cons_succ, List.getElem?_map, hri]; rfl), List.map_append]
      rfl
    · rw [upd_ne (fun q => by rw [q, nl] at e; cases e)]
      exact sc _ _ (sJ _ _ e)
  · rintro σ J ⟨v2, v3, v4, v5, v6, rfl, r, el, sJ⟩
    rw [List.take_of_length_le (by rw [List.length_cons, List.length_map]; omega)] at el
    refine ⟨⟨_, rfl⟩, _, rfl, "\n", l, firstLine first :: rows.map Row5.text, rfl, rfl, .inl (SqL.of el), ?_, q _ sJ⟩
    have := texts_len tok few
    have e0 : (10000 : Nat) ≤ sizeLine := by decide
    omega
theorem ok_madeD {C CR CT f ft gR pR : Addr} {mc : Value} {fd dt : FuncData} (F : Fun K "_law_made" "_law_made" sMade f fd) (mCR : mg "Rule" = some (.ref CR))
    (rR : ClX.CRead K CR mc) (cR : ClX.CMet K CR mc "read" pR gR) (FR : FnR P w K mg base (L2.CX P w) 6 gR (spRead K C CR CT))
    (GT : FnOk P w K mg base CX0 1 ft dt ["_law_rule_here"] spLTextD) (bT : Binds K dt ["_law_rule_here"] []) (kT : PySem.W.keepIn K (.ref ft) = true) (mT : mg "_law_text" = some (.ref ft)) :
    FnOk P w K mg base CX0 7 f fd ["_law_rule_here"] (spMadeD K C CR) := by
  refine F.ok scMade (fun vs H Q E h => ?_) (fun cdv A outer s H vs Q E hr h => ?_)
  · obtain ⟨p, fl, first, xs, rows, rfl, _⟩ := h
    rfl
  obtain ⟨p, fl, first, xs, rows, rfl, rt, hf, few, q⟩ := h
  have hgood := rt.rt.good
  have hr1 : Room 1 _ := hr.mono (by decide)
  have tok := text_ok hf hgood few
  have rok := read_ok tok hgood few
  refine ⟨_, (pss_one (ps_ret (ClX.pe_cmeth (pe_glob (by rfl) mCR (v := .ref CR) rfl) rR cR FR hr passR (pa_cons (pe_call GT hr1 (by rfl) mT kT bT .nil pass0 (pa_cons (pv 0) pa_nil)) pa_nil)))), ?_⟩
  refine ⟨rfl, _, rfl, p, fl, first, xs, rows, rfl, rt, hf, few, fun J s0 => ?_⟩
  refine ⟨_, _, rfl, tok.len, tok.ok, rok.l0, rok.each, rok.few, fun e => (rok.no0 e).elim, fun f e i l rs el pn pa => (rok.noB f e i l rs el pn pa).elim, fun f rs e pz ru J4 s4 nru rat => ?_⟩
  obtain ⟨rfl, rfl⟩ := rok.one f rs e pz
  exact q ru J4 (s0.trans s4) (s0.free nru) rat
end
end LT
namespace LT
open PySem L2
/-! ### a law's own region of a row -/
def ptrO (p : Int) : Option Int := if p < 0 then none else some p
def lineL (n : Int) : List Int := (List.range n.toNat).map fun i => ((i : Nat) : Int)
def regL (pick : Str) (p n : Int) : List Int := (lineL n).filter (inReg pick (ptrO p))
theorem rg_line (n : Int) : rgV 0 n = (lineL n).map V.int := by
  unfold rgV lineL
  rw [List.map_map, show n - 0 = n by omega]
  exact List.map_congr_left fun i _ => by
    show V.int (0 + (i : Int)) = V.int (i : Int)
    rw [Int.zero_add]
theorem line_mem {n k : Int} (h : k ∈ lineL n) : 0 ≤ k ∧ k < n := by
  obtain ⟨i, hi, rfl⟩ := List.mem_map.mp h
  have := List.mem_range.mp hi
  omega
theorem line_len {n : Int} : (lineL n).length = n.toNat := by
  unfold lineL
  rw [List.length_map, List.length_range]
theorem line_filter (q : Int → Bool) (n : Nat) : (lineL ((n + 1 : Nat) : Int)).filter q = (lineL (n : Int)).filter q ++ if q (n : Int) then [(n : Int)] else [] := by
  unfold lineL
  rw [Int.toNat_natCast, Int.toNat_natCast, List.range_succ, List.map_append, List.filter_append]
  congr 1
  show List.filter q [((n : Nat) : Int)] = _
  cases e : q (n : Int) <;> simp [e]
theorem reg_keep {p : Int} (p0 : 0 ≤ p) : ∀ n : Nat, (lineL (n : Int)).filter (fun a => decide (a = p)) = if p < (n : Int) then [p] else []
  | 0 => by
    rw [if_neg (by omega)]
    rfl
  | n + 1 => by
    rw [line_filter, reg_keep p0 n]
    by_cases c : p < (n : Int)
    · rw [if_pos c, if_neg (by simp; omega), if_pos (by omega)]
      rfl
    · rw [if_neg c]
      by_cases e : (n : Int) = p
      · rw [if_pos (decide_eq_true e), if_pos (by omega), e]
        rfl
      · rw [if_neg (by simp [e]), if_neg (by omega)]
        rfl
theorem reg_under {p : Int} : ∀ n : Nat, (lineL (n : Int)).filter (fun a => decide (a < p)) = lineL (if p < (n : Int) then p else (n : Int))
  | 0 => by
    show ([] : List Int) = _
    split
    · unfold lineL
      rw [show p.toNat = 0 by omega]
      rfl
    · rfl
  | n + 1 => by
    rw [line_filter, reg_under n]
    by_cases c : p < (n : Int)
    · rw [if_pos c, if_neg (by simp; omega), if_pos (by omega), List.append_nil]
    · rw [if_neg c]
      by_cases e : (n : Int) = p
      · rw [if_neg (by simp; omega), if_pos (by omega), e, List.append_nil]
      · rw [if_pos (by simp; omega)]
        have : (if p < ((n + 1 : Nat) : Int) then p else ((n + 1 : Nat) : Int)) = ((n + 1 : Nat) : Int) := by
          split <;> omega
        rw [this]
        unfold lineL
        rw [Int.toNat_natCast, Int.toNat_natCast, List.range_succ, List.map_append]
        rfl
end LT
namespace LT
open PySem L2
theorem inV_ints {k : Int} : ∀ {ns : List Int}, inV (.int k) (ns.map V.int) = decide (k ∈ ns)
  | [] => by simp [inV]
  | a :: ns => by
    have ih : inV (.int k) (ns.map V.int) = decide (k ∈ ns) := inV_ints
    have e : inV (.int k) ((a :: ns).map V.int) = ((a == k) || inV (.int k) (ns.map V.int)) := rfl
    rw [e, ih]
    by_cases c : a = k
    · subst c
      simp
    · have c' : ¬ k = a := fun q => c q.symm
      simp [c, c']
theorem ints_flat : ∀ ns : List Int, (ns.map V.int).all flatV = true
  | [] => rfl
  | _ :: ns => by
    show (true && (ns.map V.int).all flatV) = true
    rw [ints_flat ns]
    rfl
theorem filter_head {q : Int → Bool} : ∀ l : List Int, (l.filter q)[0]? = l.find? q
  | [] => rfl
  | a :: l => by
    rw [List.filter_cons, List.find?_cons]
    cases q a with
    | true => rfl
    | false => exact filter_head l
theorem line_up (n : Int) : (lineL n).Pairwise (· < ·) := by
  unfold lineL
  refine List.Pairwise.map _ (fun a b h => ?_) List.pairwise_lt_range
  omega
theorem sort_lt {ns : List Int} (nd : ns.Nodup) : (sortI ns).Pairwise (· < ·) := by
  have h1 := sort_up ns
  have h2 : (sortI ns).Pairwise (· ≠ ·) := (sort_perm ns).nodup_iff.mpr nd
  exact (h1.and h2).imp fun ⟨a, b⟩ => by omega
theorem good_nd {n : Int} {ns : List Int} (g : goodRound n ns = true) : ns.Nodup := by
  unfold goodRound at g
  rw [Bool.and_eq_true] at g
  exact of_decide_eq_true g.2
theorem good_in {n : Int} {ns : List Int} (h : goodRound n ns = true) : ∀ k ∈ ns, 0 ≤ k ∧ k < n := fun k hk => by
  unfold goodRound at h
  rw [Bool.and_eq_true] at h
  have := List.all_eq_true.mp h.1 k hk
  rw [Bool.and_eq_true, decide_eq_true_eq, decide_eq_true_eq] at this
  exact this
def someL (pick : Str) (p n : Int) (ns : List Int) : List Int := (regL pick p n).filter fun a => decide (a ∈ ns)
theorem some_eq {pick : Str} {p n : Int} {ns : List Int} (g : goodRound n ns = true) : someL pick p n ns = (sortI ns).filter (inReg pick (ptrO p)) := by
  refine lt_pairwise_one (((line_up n).filter _).filter _) ((sort_lt (good_nd g)).filter _) fun k => ?_
  unfold someL regL
  rw [List.mem_filter, List.mem_filter, List.mem_filter, decide_eq_true_eq, (sort_perm ns).mem_iff]
  constructor
  · rintro ⟨⟨h1, h2⟩, h3⟩
    exact ⟨h3, h2⟩
  · rintro ⟨h3, h2⟩
    refine ⟨⟨?_, h2⟩, h3⟩
    have := good_in g k h3
    unfold lineL
    exact List.mem_map.mpr ⟨k.toNat, List.mem_range.mpr (by omega), by omega⟩
/-- where a law's own round stands behind the first rows -/
structure RndSt (rows : List Row5) (mode : Str) (p n : Int) (os : List Int) (i : Nat) (dn : Int) (gs : List Int) (m' : Str) (p' : Int) : Prop where
  dn0 : dn = match (scanR rows mode (ptrO p) os i).1 with | none => -1 | some d => (d : Int)
  nd : gs.Nodup
  mem : ∀ k, k ∈ gs ↔ k ∈ (scanR rows mode (ptrO p) os i).2
  mm : m' = match (scanR rows mode (ptrO p) os i).1 with | none => mode | some d => (rows[d]?.map (·.t)).getD mode
  pp : ptrO p' = match (scanR rows mode (ptrO p) os i).1 with
    | none => ptrO p
    | some d => match rows[d]?, (scanR rows mode (ptrO p) os i).2[0]? with
      | some r, some g => movedP r.mv (ptrO p) g
      | _, _ => ptrO p
  pn : p' < n
theorem scan_next {rows : List Row5} {mode : Str} {p : Option Int} {os : List Int} {i : Nat} {r : Row5} (h : rows[i]? = some r) : scanR rows mode p os (i + 1) = stepR mode p os i r (scanR rows mode p os i) := by
  show (match rows[i]? with | none => _ | some r => _) = _
  rw [h]
theorem RndSt.start {rows : List Row5} {mode : Str} {p n : Int} {os : List Int} (h : p < n) : RndSt rows mode p n os 0 (-1) [] mode p :=
  ⟨rfl, List.nodup_nil, fun k => Iff.rfl, rfl, rfl, h⟩
theorem dn_some {rows : List Row5} {mode : Str} {p n : Int} {os : List Int} {i : Nat} {dn : Int} {gs : List Int} {m' : Str} {p' : Int} (h : RndSt rows mode p n os i dn gs m' p') : (scanR rows mode (ptrO p) os i).1.isSome = true ↔ 0 ≤ dn := by
  have := h.dn0
  cases e : (scanR rows mode (ptrO p) os i).1 with
  | none =>
    rw [e] at this
    dsimp only at this
    simp only [Option.isSome_none]
    constructor
    · intro q
      cases q
    · intro q
      omega
  | some d =>
    rw [e] at this
    dsimp only at this
    simp only [Option.isSome_some, true_iff]
    rw [this]
    exact Int.natCast_nonneg d
theorem RndSt.skip {rows : List Row5} {mode : Str} {p n : Int} {os : List Int} {i : Nat} {dn : Int} {gs : List Int} {m' : Str} {p' : Int} {r : Row5} (h : RndSt rows mode p n os i dn gs m' p') (hr : rows[i]? = some r)
    (s : r.m ≠ mode ∨ os.filter (inReg r.p (ptrO p)) = [] ∨ (0 ≤ dn ∧ r.al = false)) : RndSt rows mode p n os (i + 1) dn gs m' p' := by
  have e : scanR rows mode (ptrO p) os (i + 1) = scanR rows mode (ptrO p) os i := by
    rw [scan_next hr]
    unfold stepR
    by_cases c : (scanR rows mode (ptrO p) os i).1.isSome = true ∧ r.al = false
    · rw [if_pos c]
    · rw [if_neg c]
      have : grantedBy r mode (ptrO p) os = none := by
        unfold grantedBy
        rcases s with s | s | s
        · rw [if_neg s]
        · split
          · rw [← filter_head, s]
            rfl
          · rfl
        · exact absurd ⟨(dn_some h).mpr s.1, s.2⟩ c
      rw [this]
  obtain ⟨h1, h2, h3, h4, h5, h6⟩ := h
  exact ⟨by rw [e]; exact h1, h2, by rw [e]; exact h3, by rw [e]; exact h4, by rw [e]; exact h5, h6⟩
theorem step_take {rows : List Row5} {mode : Str} {p n : Int} {os : List Int} {i : Nat} {dn : Int} {gs : List Int} {m' : Str} {p' : Int} {r : Row5} {g0 : Int} (h : RndSt rows mode p n os i dn gs m' p') (hr : rows[i]? = some r)
    (hm : r.m = mode) (hs : (os.filter (inReg r.p (ptrO p)))[0]? = some g0) (nc : ¬ (0 ≤ dn ∧ r.al = false)) :
    scanR rows mode (ptrO p) os (i + 1) = (match (scanR rows mode (ptrO p) os i).1 with | none => some i | some d => some d, (scanR rows mode (ptrO p) os i).2 ++ [g0]) := by
  rw [scan_next hr]
  have hg : grantedBy r mode (ptrO p) os = some g0 := by
    unfold grantedBy
    rw [if_pos hm, ← filter_head]
    exact hs
  have nc' : ¬ ((scanR rows mode (ptrO p) os i).1.isSome = true ∧ r.al = false) := fun q => nc ⟨(dn_some h).mp q.1, q.2⟩
  unfold stepR
  rw [if_neg nc', hg] <;> rfl
/-- the grants behind a row that grants -/
def putE (g0 : Int) (gs : List Int) : List Int := if g0 ∈ gs then gs else gs ++ [g0]
theorem put_nd {g0 : Int} {gs : List Int} (h : gs.Nodup) : (putE g0 gs).Nodup := by
  unfold putE
  split
  · exact h
  · rename_i c
    refine List.nodup_append.mpr ⟨h, by simp, fun a ha b hb => ?_⟩
    rw [List.mem_singleton.mp hb]
    exact fun e => c (e ▸ ha)
theorem putE_mem {g0 k : Int} {gs : List Int} : k ∈ putE g0 gs ↔ k ∈ gs ∨ k = g0 := by
  unfold putE
  split
  · rename_i c
    constructor
    · exact .inl
    · rintro (q | q)
      · exact q
      · rw [q]
        exact c
  · rw [List.mem_append, List.mem_singleton]
theorem RndSt.first {rows : List Row5} {mode : Str} {p n : Int} {os : List Int} {i : Nat} {dn : Int} {gs : List Int} {m' : Str} {p' q' : Int} {r : Row5} {g0 : Int} (h : RndSt rows mode p n os i dn gs m' p') (hr : rows[i]? = some r)
    (hm : r.m = mode) (hs : (os.filter (inReg r.p (ptrO p)))[0]? = some g0) (d0 : dn < 0) (ok : ScanOk rows.length i (scanR rows mode (ptrO p) os i)) (hq : ptrO q' = movedP r.mv (ptrO p) g0) (qn : q' < n) :
    RndSt rows mode p n os (i + 1) (i : Int) (putE g0 gs) r.t q' := by
  have e := step_take h hr hm hs (fun q => by omega)
  have n1 : (scanR rows mode (ptrO p) os i).1 = none := by
    cases w : (scanR rows mode (ptrO p) os i).1 with
    | none => rfl
    | some d =>
      have := (dn_some h).mp (by rw [w]; rfl)
      omega
  have n2 := ok.no n1
  rw [n1, n2] at e
  refine ⟨by rw [e], put_nd h.nd, fun k => ?_, by rw [e]; show r.t = (rows[i]?.map (·.t)).getD mode; rw [hr]; rfl, by rw [e]; show ptrO q' = match rows[i]?, ([] ++ [g0])[0]? with | some r, some g => movedP r.mv (ptrO p) g | _, _ => ptrO p; rw [hr]; exact hq, qn⟩
  rw [putE_mem, h.mem k, n2, e]
  simp
theorem RndSt.later {rows : List Row5} {mode : Str} {p n : Int} {os : List Int} {i : Nat} {dn : Int} {gs : List Int} {m' : Str} {p' : Int} {r : Row5} {g0 : Int} (h : RndSt rows mode p n os i dn gs m' p') (hr : rows[i]? = some r)
    (hm : r.m = mode) (hs : (os.filter (inReg r.p (ptrO p)))[0]? = some g0) (nc : ¬ (0 ≤ dn ∧ r.al = false)) (d0 : 0 ≤ dn) (ok : ScanOk rows.length i (scanR rows mode (ptrO p) os i)) :
    RndSt rows mode p n os (i + 1) dn (putE g0 gs) m' p' := by
  have e := step_take h hr hm hs nc
  obtain ⟨d, w⟩ : ∃ d, (scanR rows mode (ptrO p) os i).1 = some d := by
    have := (dn_some h).mpr d0
    cases w : (scanR rows mode (ptrO p) os i).1 with
    | none =>
      rw [w] at this
      cases this
    | some d => exact ⟨d, rfl⟩
  have ne := (ok.yes d w).2
  obtain ⟨h1, h2, h3, h4, h5, h6⟩ := h
  rw [w] at h1 h4 h5 e
  refine ⟨by rw [e]; exact h1, put_nd h2, fun k => ?_, by rw [e]; exact h4, ?_, h6⟩
  · rw [putE_mem, h3 k, e]
    simp
  · rw [e]
    rw [h5]
    dsimp only
    rw [List.getElem?_append_left (List.length_pos_iff.mpr ne)]
end LT
namespace LT
open PySem L2
theorem reg_from {q : Int} (q0 : 0 ≤ q) (n : Int) : (lineL n).filter (fun a => decide (q ≤ a)) = (List.range (n - q).toNat).map (fun i => q + ((i : Nat) : Int)) := by
  refine lt_pairwise_one ((line_up n).filter _) ?_ fun k => ?_
  · refine List.pairwise_map.mpr ((List.pairwise_lt_range).imp fun {a b} h => ?_)
    omega
  · rw [List.mem_filter, List.mem_map, decide_eq_true_eq]
    constructor
    · rintro ⟨h1, h2⟩
      have := line_mem h1
      exact ⟨(k - q).toNat, List.mem_range.mpr (by omega), by omega⟩
    · rintro ⟨i, hi, rfl⟩
      have := List.mem_range.mp hi
      refine ⟨?_, by omega⟩
      unfold lineL
      exact List.mem_map.mpr ⟨(q + (i : Int)).toNat, List.mem_range.mpr (by omega), by omega⟩
def spLRegD : Sp := fun vs H Q _ => ∃ (pick : Str) (p n : Int), vs = [.str pick, .int p, .int n] ∧ pick ∈ picks ∧ p < n ∧ 0 ≤ n ∧ n ≤ 900 ∧
  ∀ (l : Addr) (J : Hp), Same H J → H l = none → J l = some (.lst ((regL pick p n).map V.int)) → Q (.ref l) J
abbrev nLRegD : List Str := ["_law_pick_here", "_law_pointer", "_law_many"]
section
variable {P : Program} {w : World} {K : PySem.W.Frag} {mg : Str → Option Value} {base : Heap}
theorem scLRegD : FnScope nLRegD ["_law_pick_here", "_law_pointer", "_law_many"] (defScope sLRegion) := ⟨rfl, rfl, rfl, by decide +kernel, rfl, by decide +kernel, by decide +kernel⟩
theorem ok_lregD {f : Addr} {fd : FuncData} (F : Fun K "_law_region" "_law_region" sLRegion f fd) (T : Blt mg) (T2 : BltD mg) : FnOk P w K mg base CX0 1 f fd ["_law_pick_here", "_law_pointer", "_law_many"] spLRegD := by
  refine F.ok scLRegD (fun vs H Q E h => ?_) (fun cdv A outer s H vs Q E hr h => ?_)
  · obtain ⟨pick, p, n, rfl, _⟩ := h
    rfl
  obtain ⟨pick, p, n, rfl, hp, pn, n0, n1, q⟩ := h
  refine ⟨_, (pss_cons (ps_if (PW.pt (pw_or (pt_cmpR op_eq (pv 0) pe_str (nomark _)) (pw_or1 (PW.pt (pw_and (pt_cmpR op_lt (pv 1) pe_int (nomark _)) (pw_and1 (pt_cmpR (r := rIn K false) op_in_seq (pv 0) (pe_tup (pa_cons pe_str (pa_cons pe_str pa_nil))) (by rfl)))))))) (pss_one (ps_ret (pe_listRg rfl (by rfl) T2.list (prg_1 (by rfl) T.range (pv 2))))) pss_nil)
    (pss_cons (ps_if (pt_cmpR op_lt (pv 1) pe_int (nomark _)) (pss_one (ps_ret (pe_lst pa_nil))) pss_nil)
    (pss_cons (ps_if (pt_cmpR op_eq (pv 0) pe_str (nomark _)) (pss_one (ps_ret (pe_lst (pa_cons (pv 1) pa_nil)))) pss_nil)
    (pss_cons (ps_if (pt_cmpR op_eq (pv 0) pe_str (nomark _)) (pss_one (ps_ret (pe_listRg rfl (by rfl) T2.list (prg_1 (by rfl) T.range (pv 1))))) pss_nil)
    (pss_one (ps_ret (pe_listRg rfl (by rfl) T2.list (prg_2 (by rfl) T.range (pe_op op_add (pv 1) (pe_callTy call_int1 (by rfl) T.int (by decide +kernel) (pa_cons (pe_cmpR op_eq (pv 0) pe_str (nomark _)) pa_nil))) (pv 2))))))))), ?_⟩
  have rg : ∀ m : Int, 0 ≤ m → m ≤ 900 → RgOk 0 m := fun m a b => ⟨by omega, by omega, by omega, by omega, by
    have : (900 : Nat) ≤ 2 ^ 24 := by decide
    omega⟩
  have all : ∀ J, Same H J → (lineL n).filter (inReg pick (ptrO p)) = lineL n → ∀ l, J l = none → Q (.ref l) (upd J l (.lst (rgV 0 n))) := fun J s e l hl => by
    refine q l _ (s.trans (new_same hl _)) (s.free hl) ?_
    rw [upd_same, rg_line]
    unfold regL
    rw [e]
  have picks5 : pick = "keep" ∨ pick = "at" ∨ pick = "past" ∨ pick = "under" ∨ pick = "all" := by
    have : pick ∈ (["keep", "at", "past", "under", "all"] : List Str) := hp
    simpa using this
  refine seq_if_k (fun τ L => τ = [some (.str pick), some (.int p), some (.int n)] ∧ Same H L ∧ pick ≠ "all" ∧ (p < 0 → pick ≠ "at" ∧ pick ≠ "past")) (fun τ L ⟨et, s, na, nb⟩ => ?rest) (fun k => ?main)
  case main =>
    refine ⟨_, rfl, rfl, _, rfl, ite2 (fun h1 => ?_) (fun h1 => ?_)⟩
    · refine ⟨_, rfl, n, rfl, rg n n0 n1, fun l hl => all H (Same.refl _) ?_ l hl⟩
      have e : pick = "all" := V.str.inj (of_decide_eq_true h1)
      refine List.filter_eq_self.mpr fun x _ => ?_
      unfold inReg
      rw [if_pos e]
    have na : pick ≠ "all" := fun e => by rw [e] at h1; exact absurd h1 (by simp)
    refine ⟨_, rfl, _, _, rfl, rfl, _, rfl, ite2 (fun h2 => ?_) (fun h2 => ?_)⟩
    · have p0 : p < 0 := of_decide_eq_true h2
      refine ⟨_, rfl, (by show 2 ≤ sizeLine; decide), fun t nt => ?_⟩
      have st := new_same nt (.tup [V.str "at", .str "past"])
      refine ⟨t, _, rfl, .inr (SqT.of upd_same), rfl, rfl, _, rfl, ite2 (fun h3 => ?_) (fun h3 => ?_)⟩
      · refine ⟨_, rfl, n, rfl, rg n n0 n1, fun l hl => all _ st ?_ l hl⟩
        have e : pick = "at" ∨ pick = "past" := by
          rcases picks5 with e | e | e | e | e
          · subst e
            exact absurd h3 (by decide +kernel)
          · exact .inl e
          · exact .inr e
          · subst e
            exact absurd h3 (by decide +kernel)
          · exact absurd e na
        refine List.filter_eq_self.mpr fun x _ => ?_
        unfold inReg ptrO
        rw [if_neg na, if_pos p0]
        rcases e with e | e <;> rw [e] <;> rfl
      · exact k _ _ ⟨rfl, st, na, fun _ => ⟨fun e => h3 (by rw [e]; decide +kernel), fun e => h3 (by rw [e]; decide +kernel)⟩⟩
    · have p0 : ¬ p < 0 := fun q => h2 (decide_eq_true q)
      exact k _ _ ⟨rfl, Same.refl _, na, fun q => absurd q p0⟩
  case rest =>
    subst et
    refine ⟨_, rfl, _, _, rfl, rfl, _, rfl, ite2 (fun h2 => ?_) (fun h2 => ?_)⟩
    · have p0 : p < 0 := of_decide_eq_true h2
      refine ⟨(by show 0 ≤ sizeLine; decide), fun l hl => q l _ (s.trans (new_same hl _)) (s.free hl) ?_⟩
      rw [upd_same]
      have : regL pick p n = [] := by
        unfold regL
        refine List.filter_eq_nil_iff.mpr fun x _ => ?_
        unfold inReg ptrO
        rw [if_neg na, if_pos p0]
        have := nb p0
        simp [this.1, this.2]
      rw [this]
      rfl
    have p0 : ¬ p < 0 := fun q => h2 (decide_eq_true q)
    have rO : ∀ a, inReg pick (ptrO p) a = if pick = "keep" then decide (a = p) else if pick = "at" then decide (p ≤ a) else if pick = "past" then decide (p < a) else decide (a < p) := fun a => by
      unfold inReg ptrO
      rw [if_neg na, if_neg p0]
    have en : ((n.toNat : Nat) : Int) = n := by omega
    refine ⟨_, rfl, rfl, _, rfl, ite2 (fun h3 => ?_) (fun h3 => ?_)⟩
    · have e : pick = "keep" := V.str.inj (of_decide_eq_true h3)
      refine ⟨_, rfl, (by show 1 ≤ sizeLine; decide), fun l hl => q l _ (s.trans (new_same hl _)) (s.free hl) ?_⟩
      rw [upd_same]
      have : regL pick p n = [p] := by
        unfold regL
        have e2 : inReg pick (ptrO p) = fun a => decide (a = p) := funext fun a => by rw [rO, if_pos e]
        have := reg_keep (p := p) (by omega) n.toNat
        rw [en, if_pos pn] at this
        rw [e2, this]
      rw [this]
      rfl
    have nk : pick ≠ "keep" := fun e => by rw [e] at h3; exact absurd h3 (by simp)
    refine ⟨_, rfl, rfl, _, rfl, ite2 (fun h4 => ?_) (fun h4 => ?_)⟩
    · have e : pick = "under" := V.str.inj (of_decide_eq_true h4)
      refine ⟨_, rfl, p, rfl, rg p (by omega) (by omega), fun l hl => q l _ (s.trans (new_same hl _)) (s.free hl) ?_⟩
      rw [upd_same, rg_line]
      have : regL pick p n = lineL p := by
        unfold regL
        have e2 : inReg pick (ptrO p) = fun a => decide (a < p) := funext fun a => by
          rw [rO, if_neg nk, e]
          rfl
        have := reg_under (p := p) n.toNat
        rw [en, if_pos pn] at this
        rw [e2, this]
      rw [this]
    have nu : pick ≠ "under" := fun e => by rw [e] at h4; exact absurd h4 (by simp)
    have eAt : pick = "at" ∨ pick = "past" := by
      rcases picks5 with e | e | e | e | e
      · exact absurd e nk
      · exact .inl e
      · exact .inr e
      · exact absurd e nu
      · exact absurd e na
    obtain ⟨st, hst, s0, s1⟩ : ∃ st : Int, regL pick p n = (List.range (n - st).toNat).map (fun i => st + ((i : Nat) : Int)) ∧ 0 ≤ st ∧ st = p + (if pick = "past" then 1 else 0) := by
      rcases eAt with e | e
      · refine ⟨p, ?_, by omega, by rw [e, if_neg (by decide +kernel)]; omega⟩
        rw [← reg_from (by omega) n]
        unfold regL
        have e2 : inReg pick (ptrO p) = fun a => decide (p ≤ a) := funext fun a => by
          rw [rO, if_neg nk, if_pos e]
        rw [e2]
      · refine ⟨p + 1, ?_, by omega, by rw [if_pos e]⟩
        rw [← reg_from (by omega) n]
        unfold regL
        have e2 : inReg pick (ptrO p) = fun a => decide (p + 1 ≤ a) := funext fun a => by
          rw [rO, if_neg nk, if_neg (by rw [e]; decide +kernel), if_pos e]
          exact decide_eq_decide.mpr (by omega)
        rw [e2]
    have e9 : p + (if decide (V.str pick = V.str "past") = true then 1 else 0) = st := by
      rw [s1]
      congr 1
      by_cases c : pick = "past"
      · rw [if_pos c, if_pos (by rw [c]; exact decide_eq_true rfl)]
      · rw [if_neg c, if_neg (by
          rw [decide_eq_true_eq]
          exact fun z => c (V.str.inj z))]
    have e10 : (V.int (p + (if decide (V.str pick = V.str "past") = true then 1 else 0))) = V.int st := by rw [e9]
    refine ⟨_, rfl, _, rfl, rfl, .inr ⟨_, rfl, _, _, rfl, rfl, _, rfl, st, n, e10, rfl, ⟨by omega, by omega, by omega, by omega, by
      have : (900 : Nat) ≤ 2 ^ 24 := by decide
      omega⟩, fun l hl => q l _ (s.trans (new_same hl _)) (s.free hl) ?_⟩⟩
    rw [upd_same, hst, List.map_map]
    rfl
/-- a drawn round -/
def RoundAt (J : Hp) (q : Addr) (isL : Bool) (ns : List Int) : Prop := if isL then J q = some (.lst (ns.map V.int)) else J q = some (.tup (ns.map V.int))
def unI : V → Int
  | .int z => z
  | _ => 0
theorem ints_of_perm {ys : List V} {ns : List Int} (h : ys.Perm (ns.map V.int)) : ∃ zs : List Int, ys = zs.map V.int ∧ zs.Perm ns := by
  refine ⟨ys.map unI, ?_, ?_⟩
  · have all : ∀ v ∈ ys, V.int (unI v) = v := fun v hv => by
      obtain ⟨z, _, rfl⟩ := List.mem_map.mp (h.mem_iff.mp hv)
      rfl
    clear h
    induction ys with
    | nil => rfl
    | cons y ys ih =>
      rw [List.map_cons, List.map_cons, all y List.mem_cons_self, ← ih fun v hv => all v (List.mem_cons_of_mem _ hv)]
  · have e : (ns.map V.int).map unI = ns := by
      rw [List.map_map]
      exact List.map_id' ns
    rw [← e]
    exact h.map unI
def spDrawn : Sp := fun vs H Q _ => ∃ (d l : Addr) (n : Nat), vs = [.ref d, .int (n : Nat)] ∧ Deal H d l ∧ n ≤ 40 ∧
  ∀ (q : Addr) (isL : Bool) (ns : List Int) (J : Hp), Kd d l H J → Deal J d l → H q = none → (q ≠ d ∧ q ≠ l) → RoundAt J q isL ns → goodRound (n : Int) ns = true → ns.length ≤ 40 → Q (.ref q) J
abbrev nDrawn : List Str := ["_law_deal_here", "_law_many", "_law_found", "_law_one"]
theorem bt_tuple : bootBuiltins "tuple" = some (.type "tuple") := by decide +kernel
theorem scDrawn : FnScope nDrawn ["_law_deal_here", "_law_many"] (defScope sx_drawn_round) := ⟨rfl, rfl, rfl, by decide +kernel, rfl, by decide +kernel, by decide +kernel⟩
theorem ok_drawn {f gd gm : Addr} {fd dd dm : FuncData} (F : Fun K "_law_drawn_round" "_law_drawn_round" sx_drawn_round f fd) (T : Blt mg)
    (GD : FnOk P w K mg base CX0 1 gd dd ["_law_deal_here", "_law_many"] spDraw) (bD : Binds K dd ["_law_deal_here", "_law_many"] []) (kD : PySem.W.keepIn K (.ref gd) = true) (mD : mg "_law_draw" = some (.ref gd))
    (GM : FnOk P w K mg base CX0 2 gm dm ["_law_deal_here", "_law_some"] (spMixed K)) (bM : Binds K dm ["_law_deal_here", "_law_some"] []) (kM : PySem.W.keepIn K (.ref gm) = true) (mM : mg "_law_mixed" = some (.ref gm)) :
    FnOk P w K mg base CX0 3 f fd ["_law_deal_here", "_law_many"] spDrawn := by
  refine F.ok scDrawn (fun vs H Q E h => ?_) (fun cdv A outer s H vs Q E hr h => ?_)
  · obtain ⟨d, l, n, rfl, _⟩ := h
    rfl
  obtain ⟨d, l, n, rfl, hd, hn, q⟩ := h
  have hr2 := hr
  have hr1 : Room 1 _ := hr.mono (by decide)
  refine ⟨_, (pss_cons (ps_set (i := 2) scDrawn.nd rfl (Or.inl rfl) (pe_call GM hr2 (by rfl) mM kM bM .nil pass0 (pa_cons (pv 0) (pa_cons (pe_lc (own := [("_law_one", 3)]) (g := gName 3) (by rfl) scDrawn.nd (pi_range1 (by rfl) T.range (pa_cons (pv 1) pa_nil)) (blkOk_by (N := nDrawn) (sc := defScope sx_drawn_round) (own := [("_law_one", 3)]) (by decide +kernel)) (fun _ _ _ _ _ => pg_name (i := 3) scDrawn.nd rfl (Or.inl rfl)) (fun _ _ _ _ _ => (pts_one (pt_cmpR op_eq (pe_call GD hr1 (by rfl) mD kD bD .nil pass0 (pa_cons (pv 0) (pa_cons pe_int pa_nil))) pe_int (nomark _)))) (fun _ _ _ _ _ => (pv 3))) pa_nil))))
    (pss_one (ps_ret (pe_ifExp (pt_cmpR op_eq (pe_call GD hr1 (by rfl) mD kD bD .nil pass0 (pa_cons (pv 0) (pa_cons pe_int pa_nil))) pe_int (nomark _)) (pv 2) (pe_callTy (r := rTupOf K) call_tuple_of (by rfl) T.tuple bt_tuple (pa_cons (pv 2) pa_nil)))))), ?_⟩
  refine ⟨_, rfl, _, rfl, n, rfl, by omega, by omega, fun D hD => lc_range (lo := 0) (n := n) (fun i M => Kd d l H M ∧ Deal M d l ∧ ∃ ns : List Int, M D = some (.lst (ns.map V.int)) ∧ ns.length ≤ i ∧ ns.Nodup ∧ ∀ k ∈ ns, 0 ≤ k ∧ k < (i : Int)) ⟨Kd.of (new_same hD _), hd.mono (new_same hD _), [], upd_same, Nat.le_refl _, .nil, fun k h => nomatch h⟩ (fun i M hi z => ?_) (fun M z => ?_)⟩
  · obtain ⟨kd, hdM, ns, e, l1, nd, bd⟩ := z
    have xD := hd.new hD
    refine ⟨rfl, _, rfl, d, l, 3, rfl, hdM, by decide, by decide, fun k J _ _ kd2 hd2 => ⟨rfl, _, rfl, ?_⟩⟩
    have e2 := kd2 _ _ xD.1 xD.2 e
    have kd3 := kd.trans kd2
    refine ite2 (fun _ => ?_) (fun _ => ⟨kd3, hd2, ns, e2, by omega, nd, fun k hk => by have := bd k hk; omega⟩)
    refine ⟨_, rfl, _, e2, small1000 (by rw [List.length_map]; omega), kd3.fresh hD, hd2.put xD, ns ++ [0 + (i : Int)], ?_, by rw [List.length_append, List.length_singleton]; omega, ?_, fun k hk => ?_⟩
    · rw [upd_same, List.map_append]
      rfl
    · refine List.nodup_append.mpr ⟨nd, List.nodup_cons.mpr ⟨(fun h => nomatch h), List.Pairwise.nil⟩, fun a ha b hb => ?_⟩
      rw [List.mem_singleton.mp hb]
      have := bd a ha
      omega
    · rcases List.mem_append.mp hk with h | h
      · have := bd k h
        omega
      · rw [List.mem_singleton.mp h]
        omega
  · obtain ⟨kd, hdM, ns, e, l1, nd, bd⟩ := z
    refine ⟨d, l, D, _, rfl, hdM, SqL.of e, by rw [List.length_map]; omega, fun r ys J kd2 hd2 nr er pm => ?_⟩
    obtain ⟨zs, rfl, pz⟩ := ints_of_perm pm
    have xr := hdM.new nr
    have kd3 := kd.trans kd2
    have nrH := kd.free nr xr
    have good : goodRound (n : Int) zs = true := by
      unfold goodRound
      rw [Bool.and_eq_true, decide_eq_true_eq, List.all_eq_true]
      refine ⟨fun k hk => ?_, pz.nodup_iff.mpr nd⟩
      have := bd k (pz.mem_iff.mp hk)
      rw [decide_eq_true (by omega), decide_eq_true (by omega)]
      rfl
    have lz : zs.length ≤ 40 := by
      rw [pz.length_eq]
      omega
    refine ⟨_, rfl, d, l, 2, rfl, hd2, by decide, by decide, fun k J2 _ _ kd4 hd4 => ⟨rfl, _, rfl, ?_⟩⟩
    have er2 := kd4 _ _ xr.1 xr.2 er
    have kd5 := kd3.trans kd4
    refine ite2 (fun _ => ⟨_, rfl, q r true zs J2 kd5 hd4 nrH xr er2 good lz⟩) (fun _ => ⟨_, rfl, r, _, rfl, .inl ⟨SqL.of er2, fun t nt => ?_⟩⟩)
    have st := new_same nt (.tup (zs.map V.int))
    have xt := hd4.new nt
    exact q t false zs _ (kd5.then st) (hd4.mono st) (kd5.free nt xt) xt upd_same good lz
end
end LT
namespace LT
open PySem L2
/-- what a law's own round tells -/
structure RndEnd (rows : List Row5) (mode : Str) (p n : Int) (os : List Int) (dn : Int) (out : List Int) (m' : Str) (p' : Int) : Prop where
  done : dn = match endDone rows mode (ptrO p) os with | none => -1 | some d => (d : Int)
  grants : out = canonI (endGrants rows mode (ptrO p) os)
  md : m' = endMode rows mode (ptrO p) os
  ptr : ptrO p' = endPtr rows mode (ptrO p) os
  pn : p' < n
def doneD (dn : Int) : V := if dn < 0 then .non else .int dn
theorem doneD_non {dn : Int} : (decide (doneD dn = .non)) = decide (dn < 0) := by
  unfold doneD
  by_cases h : dn < 0
  · rw [if_pos h, decide_eq_true h]
    rfl
  · rw [if_neg h, decide_eq_false h]
    exact decide_eq_false (fun z => nomatch z)
def spLRndD : Sp := fun vs H Q _ => ∃ (rp fl sp ap : Addr) (n p : Int) (first mode : Str) (xs : List V) (rows : List Row5) (ns : List Int), vs = [.ref rp, .ref sp, .int n, .ref ap] ∧ RuleL H rp fl first xs rows ∧ rows.length ≤ 31 ∧ H sp = some (.tup [.str mode, .int p]) ∧ p < n ∧ 0 ≤ n ∧ n ≤ 900 ∧
  (H ap = some (.lst (ns.map V.int)) ∨ H ap = some (.tup (ns.map V.int))) ∧ goodRound n ns = true ∧ ns.length ≤ 1000 ∧
  ∀ (q gq sq : Addr) (dn : Int) (out : List Int) (m' : Str) (p' : Int) (J : Hp), Same H J → RndEnd rows mode p n (sortI ns) dn out m' p' → J q = some (.tup [doneD dn, .ref gq, .ref sq]) → J gq = some (.tup (out.map V.int)) → J sq = some (.tup [.str m', .int p']) → Q (.ref q) J
section
variable {P : Program} {w : World} {K : PySem.W.Frag} {mg : Str → Option Value} {base : Heap}
abbrev nLRndD : List Str := ["_law_rule_here", "_law_state", "_law_many", "_law_asking", "_law_mode", "_law_pointer", "_law_done", "_law_grants", "_law_later", "_law_at", "_law_name", "_law_pick_here", "_law_move", "_law_then", "_law_also", "_law_some", "_law_one"]
theorem scLRndD : FnScope nLRndD ["_law_rule_here", "_law_state", "_law_many", "_law_asking"] (defScope sLRound) := ⟨rfl, rfl, rfl, by decide +kernel, rfl, by decide +kernel, by decide +kernel⟩
theorem ok_lrndD {f g : Addr} {fd gd : FuncData} (F : Fun K "_law_round" "_law_round" sLRound f fd) (T : Blt mg) (Z : Blt4 mg)
    (GR : FnOk P w K mg base CX0 1 g gd ["_law_pick_here", "_law_pointer", "_law_many"] spLRegD) (bR : Binds K gd ["_law_pick_here", "_law_pointer", "_law_many"] []) (kR : PySem.W.keepIn K (.ref g) = true) (mR : mg "_law_region" = some (.ref g)) :
    FnOk P w K mg base CX0 2 f fd ["_law_rule_here", "_law_state", "_law_many", "_law_asking"] spLRndD := by
  refine F.ok scLRndD (fun vs H Q E h => ?_) (fun cdv A outer s H vs Q E hr h => ?_)
  · obtain ⟨rp, fl, sp, ap, n, p, first, mode, xs, rows, ns, rfl, _⟩ := h
    rfl
  obtain ⟨rp, fl, sp, ap, n, p, first, mode, xs, rows, ns, rfl, ru, few, hsp, pn, n0, n1, hap, gns, lns, q⟩ := h
  have hr1 := hr
  refine ⟨_, (pss_cons (ps_asg (pv 1) (pg_tup rfl (pgs_cons (pg_name (i := 4) scLRndD.nd rfl (Or.inl rfl)) (pgs_cons (pg_name (i := 5) scLRndD.nd rfl (Or.inl rfl)) pgs_nil))))
    (pss_cons (ps_par3 (i := 6) (j := 7) (k := 8) rfl scLRndD.nd rfl rfl rfl rfl rfl rfl (pa_cons pe_non (pa_cons (pe_lst pa_nil) (pa_cons (pv 1) pa_nil))) rfl)
    (pss_cons (ps_for PassesOwn.never rfl (pi_enum (by rfl) Z.enumerate (pa_cons (pe_ix ix_tup (pv 0) pe_int (fun _ _ => rfl)) pa_nil)) (pg_tup rfl (pgs_cons (pg_name (i := 9) scLRndD.nd rfl (Or.inl rfl)) (pgs_cons (pg_tup rfl (pgs_cons (pg_name (i := 10) scLRndD.nd rfl (Or.inl rfl)) (pgs_cons (pg_name (i := 11) scLRndD.nd rfl (Or.inl rfl)) (pgs_cons (pg_name (i := 12) scLRndD.nd rfl (Or.inl rfl)) (pgs_cons (pg_name (i := 13) scLRndD.nd rfl (Or.inl rfl)) (pgs_cons (pg_name (i := 14) scLRndD.nd rfl (Or.inl rfl)) pgs_nil)))))) pgs_nil)))
    (pss_cons (ps_if (PW.pt (pw_or (pt_cmpR op_ne (pv 10) (pv 4) (nomark _)) (pw_or1 (PW.pt (pw_and (pt_cmpR op_notN (pv 6) pe_non (nomark _)) (pw_and1 (pt_not (pt_val (pv 14))))))))) (pss_one ps_continue) pss_nil)
      (pss_cons (ps_setLc (i := 15) (own := [("_law_one", 16)]) (g := gName 16) rfl scLRndD.nd rfl rfl (sw_true rfl rfl rfl (by decide +kernel)) (pi_list (pe_call GR hr1 (by rfl) mR kR bR .nil pass0 (pa_cons (pv 11) (pa_cons (pv 5) (pa_cons (pv 2) pa_nil))))) (blkOk_by (N := nLRndD) (sc := defScope sLRound) (own := [("_law_one", 16)]) (by decide +kernel)) (fun _ _ _ _ _ => pg_name (i := 16) scLRndD.nd rfl (Or.inl rfl)) (fun _ _ _ _ _ => (pts_one (pt_cmpR (r := rIn K false) op_in_seq (pv 16) (pv 3) (by rfl)))) (fun _ _ _ _ _ => (pv 16)))
      (pss_cons (ps_if (PW.pt (pw_and (pt_cmpR (op_neL hr.units) (pv 15) (pe_lst pa_nil) (nomark _)) (pw_and1 (pt_cmpR (r := rIn K true) op_notIn_seq (pe_ix ix_list (pv 15) pe_int (fun _ _ => rfl)) (pv 7) (by rfl))))) (pss_one (ps_expr (pe_bm PySem.F.plainAttrs_list PySem.F.slot_list_append PySem.F.type_list_append mt_append (pv 7) (pa_cons (pe_ix ix_list (pv 15) pe_int (fun _ _ => rfl)) pa_nil)))) pss_nil)
      (pss_one (ps_if (PW.pt (pw_and (pt_cmpR (op_neL hr.units) (pv 15) (pe_lst pa_nil) (nomark _)) (pw_and1 (pt_cmpR op_isN (pv 6) pe_non (nomark _))))) (pss_cons (ps_set (i := 6) scLRndD.nd rfl (Or.inl rfl) (pv 9))
        (pss_one (ps_set (i := 8) scLRndD.nd rfl (Or.inl rfl) (pe_tup (pa_cons (pv 13) (pa_cons (pe_ifExp (pt_cmpR op_eq (pv 12) pe_str (nomark _)) (pv 5) (pe_ifExp (pt_cmpR op_eq (pv 12) pe_str (nomark _)) (pe_ix ix_list (pv 15) pe_int (fun _ _ => rfl)) (pe_op op_sub pe_int pe_int))) pa_nil)))))) pss_nil))))))
    (pss_one (ps_ret (pe_tup (pa_cons (pv 6) (pa_cons (pe_callTy (r := rTupOf K) call_tuple_of (by rfl) T.tuple bt_tuple (pa_cons (pe_callB (r := rSortedA K) cr_sortedA (by rfl) Z.sorted (by decide +kernel) (pa_cons (pe_lc (own := [("_law_one", 16)]) (g := gName 16) (tt := tYes) (by rfl) scLRndD.nd (pi_list (pv 7)) (blkOk_by (N := nLRndD) (sc := defScope sLRound) (own := [("_law_one", 16)]) (by decide +kernel)) (fun _ _ _ _ _ => pg_name (i := 16) scLRndD.nd rfl (Or.inl rfl)) (fun _ _ _ _ _ => pts_nil) (fun _ _ _ _ _ => (pe_callTy call_int1 (by rfl) T.int (by decide +kernel) (pa_cons (pv 16) pa_nil)))) pa_nil)) pa_nil)) (pa_cons (pv 8) pa_nil))))))))), ?_⟩
  refine ⟨_, rfl, sp, _, rfl, SqT.of hsp, rfl, _, _, rfl, _, _, rfl, rfl, ?_⟩
  refine ⟨(by show 0 ≤ sizeLine; decide), fun gl ngl => ⟨_, rfl, _, _, _, rfl, ?_⟩⟩
  have sg := new_same ngl (.lst [])
  have hg0 : upd H gl (.lst []) gl = some (.lst (([] : List Int).map V.int)) := upd_same
  generalize upd H gl (.lst []) = J1 at sg hg0 ⊢
  have gds := ru.rt.good
  have so : ∀ (r : Row5), someL r.p p n ns = (sortI ns).filter (inReg r.p (ptrO p)) := fun r => some_eq gns
  refine ⟨_, rfl, rp, _, 1, .ref fl, rfl, rfl, SqT.of (sg _ _ ru.p), rfl, fl, xs, rfl, SqL.of (sg _ _ ru.fl), for_it (walk_enum (K := K) (a := fl) (xs := xs)) (fun i σ J => ∃ v9 va vb vc vd ve vf vg dn gs m' p' bq, σ = [some (.ref rp), some (.ref sp), some (.int n), some (.ref ap), some (.str mode), some (.int p), some (doneD dn), some (.ref gl), some (.ref bq), v9, va, vb, vc, vd, ve, vf, vg] ∧ Same H J ∧ J gl = some (.lst (gs.map V.int)) ∧ J bq = some (.tup [.str m', .int p']) ∧ RndSt rows mode p n (sortI ns) i dn gs m' p')
    ⟨_, _, _, _, _, _, _, _, -1, [], mode, p, sp, rfl, sg, hg0, sg _ _ hsp, RndSt.start pn⟩ (fun i σ J _ ⟨_, _, _, _, _, _, _, _, _, _, _, _, _, _, s, _⟩ => SqL.of (s _ _ ru.fl)) ?_ ?_⟩
  · rintro i x σ J J2 hi ⟨v9, va, vb, vc, vd, ve, vf, vg, dn, gs, m', p', bq, rfl, sJ, hgl, hbq, st⟩ ⟨W, x1, e, rfl, nW, rfl, ex1, ee⟩
    cases ex1
    replace ee : xs[i]? = some e := ee
    obtain ⟨rw, r, rfl, hri, hrw, gr⟩ := ru.rt.2 i e ee
    have hi31 : i < rows.length := (List.getElem?_eq_some_iff.mp hri).1
    have s2 := sJ.trans (new_same nW (.tup [V.int (i : Nat), V.ref rw]))
    have hgl2 := new_same nW (.tup [V.int (i : Nat), V.ref rw]) _ _ hgl
    have hbq2 := new_same nW (.tup [V.int (i : Nat), V.ref rw]) _ _ hbq
    have hW : upd J W (.tup [V.int (i : Nat), V.ref rw]) W = some (.tup [V.int (i : Nat), V.ref rw]) := upd_same
    have hrw3 := new_same nW (.tup [V.int (i : Nat), V.ref rw]) _ _ (sJ _ _ hrw)
    generalize upd J W (.tup [V.int (i : Nat), V.ref rw]) = J3 at s2 hgl2 hbq2 hW hrw3 ⊢
    refine ⟨W, _, rfl, SqT.of hW, rfl, _, _, rfl, _, _, rfl, rw, _, rfl, SqT.of hrw3, rfl, _, _, rfl, _, _, rfl, _, _, rfl, _, _, rfl, _, _, rfl, rfl, rfl, ?_⟩
    clear hW hgl hbq sJ nW hrw3
    simp only [List.set_cons_succ, List.set_cons_zero]
    refine seq_if_k (fun τ L => τ = [some (.ref rp), some (.ref sp), some (.int n), some (.ref ap), some (.str mode), some (.int p), some (doneD dn), some (.ref gl), some (.ref bq), some (.int (i : Nat)), some (.str r.m), some (.str r.p), some (.str r.mv), some (.str r.t), some (.bl r.al), vf, vg] ∧ L = J3 ∧ r.m = mode ∧ ¬ (0 ≤ dn ∧ r.al = false)) (fun τ L ⟨et, eL, c1, c3⟩ => ?rest) (fun k => ?main)
    case main =>
      refine ⟨_, rfl, _, rfl, rfl, _, rfl, ite2 (fun h1 => ?_) (fun h1 => ?_)⟩
      · have c : r.m ≠ mode := fun q => by rw [q] at h1; simp at h1
        exact ⟨_, _, _, _, _, _, _, _, dn, gs, m', p', bq, rfl, s2, hgl2, hbq2, st.skip hri (.inl c)⟩
      have c1 : r.m = mode := Classical.byContradiction fun q => h1 (by simp [q])
      refine ⟨_, rfl, rfl, _, rfl, ite2 (fun h3 => ?_) (fun h3 => ?_)⟩
      · rw [doneD_non] at h3
        have d0 : 0 ≤ dn := by
          by_cases c : dn < 0
          · rw [decide_eq_true c] at h3
            cases h3
          · omega
        refine ⟨_, rfl, r.al, rfl, ?_⟩
        cases hal : r.al with
        | false => exact iteT ⟨_, _, _, _, _, _, _, _, dn, gs, m', p', bq, rfl, s2, hgl2, hbq2, st.skip hri (.inr (.inr ⟨d0, hal⟩))⟩
        | true => exact iteF (k _ _ ⟨by rw [← hal], rfl, c1, fun q => by rw [hal] at q; cases q.2⟩)
      · rw [doneD_non] at h3
        have d0 : dn < 0 := by
          by_cases c : dn < 0
          · exact c
          · rw [decide_eq_false c] at h3
            exact absurd rfl h3
        exact k _ _ ⟨rfl, rfl, c1, fun q => by omega⟩
    case rest =>
    subst et
    subst eL
    refine ⟨_, rfl, _, rfl, _, rfl, r.p, p, n, rfl, gr.p, pn, n0, n1, fun l J4 s4 nl hl => ⟨l, rfl, ⟨_, SqL.of hl⟩, fun D hD => lc_list (fun i5 M => Same J4 M ∧ M D = some (.lst ((((regL r.p p n).take i5).filter fun a => decide (a ∈ ns)).map V.int))) ⟨new_same hD _, upd_same⟩
      (fun i5 M _ ⟨z, _⟩ => SqL.of (z _ _ hl)) (fun i5 v M hv ⟨z, e⟩ => ?_) (fun M ⟨z, e⟩ => ?_)⟩⟩
    · obtain ⟨k, hk, rfl⟩ := get_int hv
      have lr : (regL r.p p n).length ≤ 900 := Nat.le_trans (List.length_filter_le _ _) (by rw [line_len]; omega)
      have hi5 : i5 < 900 := by
        have := (List.getElem?_eq_some_iff.mp hk).1
        omega
      have step : ∀ b : Bool, decide (k ∈ ns) = b → ((regL r.p p n).take (i5 + 1)).filter (fun a => decide (a ∈ ns)) = ((regL r.p p n).take i5).filter (fun a => decide (a ∈ ns)) ++ if b then [k] else [] := fun b hb => by
        rw [take_snoc hk, List.filter_append]
        congr 1
        rw [List.filter_cons, hb]
        cases b <;> rfl
      have lf : (((regL r.p p n).take i5).filter (fun a => decide (a ∈ ns))).length ≤ 900 := Nat.le_trans (List.length_filter_le _ _) (by rw [List.length_take]; omega)
      have z2 := (s2.trans s4).trans z
      refine ⟨rfl, _, rfl, _, rfl, ap, ns.map V.int, rfl, hap.elim (fun h => .inl (SqL.of (z2 _ _ h))) (fun h => .inr (SqT.of (z2 _ _ h))), rfl, ints_flat _, _, rfl, ite2 (fun h => ⟨_, rfl, _, e, ?_, fun c o h => ?_, ?_⟩) (fun h => ⟨z, ?_⟩)⟩
      · rw [List.length_map]
        exact small1000 (by omega)
      · rw [upd_ne (fun q => by rw [q, hD] at h; cases h)]
        exact z c o h
      · have h' : decide (k ∈ ns) = true := by
          rw [← inV_ints]
          exact h
        rw [upd_same, step true h', List.map_append]
        rfl
      · have h' : decide (k ∈ ns) = false := by
          rw [← inV_ints]
          exact Bool.eq_false_iff.mpr h
        rw [step false h']
        show _ = some (HO.lst ((_ ++ []).map V.int))
        rw [List.append_nil]
        exact e
    have hD5 : M D = some (.lst (((sortI ns).filter (inReg r.p (ptrO p))).map V.int)) := by
      rw [e, ← so r]
      unfold someL
      rw [List.take_of_length_le (by rw [List.length_map]; exact Nat.le_refl _)]
    clear e
    have s5 := (s2.trans s4).trans z
    have hgl5 := z _ _ (s4 _ _ hgl2)
    have hbq5 := z _ _ (s4 _ _ hbq2)
    have nDg : D ≠ gl := fun q => by
      rw [q, s4 _ _ hgl2] at hD
      cases hD
    generalize hso : (sortI ns).filter (inReg r.p (ptrO p)) = sl at hD5
    clear hgl2 hbq2 hl nl hD
    refine name_k ?_
    dsimp only
    cases sl with
    | nil =>
      have skip := st.skip hri (.inr (.inl hso))
      refine seq_if_k (fun τ L => τ = [some (.ref rp), some (.ref sp), some (.int n), some (.ref ap), some (.str mode), some (.int p), some (doneD dn), some (.ref gl), some (.ref bq), some (.int (i : Nat)), some (.str r.m), some (.str r.p), some (.str r.mv), some (.str r.t), some (.bl r.al), some (.ref D), vg] ∧ Same H L ∧ L gl = some (.lst (gs.map V.int)) ∧ L bq = some (.tup [.str m', .int p']) ∧ L D = some (.lst [])) (fun τ L ⟨et, sL, hglL, hbqL, hDL⟩ => ?rest0) (fun k => ?main0)
      case main0 =>
        refine ⟨_, rfl, (by show 0 ≤ sizeLine; decide), fun e ne => ?_⟩
        have s6 := new_same ne (.lst [])
        refine ⟨D, e, [], [], rfl, rfl, SqL.of (s6 _ _ hD5), SqL.of upd_same, .inl ⟨rfl, rfl⟩, _, rfl, iteF (k _ _ ⟨rfl, s5.trans s6, s6 _ _ hgl5, s6 _ _ hbq5, s6 _ _ hD5⟩)⟩
      case rest0 =>
        subst et
        refine ⟨_, rfl, (by show 0 ≤ sizeLine; decide), fun e ne => ?_⟩
        have s6 := new_same ne (.lst [])
        exact ⟨D, e, [], [], rfl, rfl, SqL.of (s6 _ _ hDL), SqL.of upd_same, .inl ⟨rfl, rfl⟩, _, rfl, iteF ⟨_, _, _, _, _, _, _, _, dn, gs, m', p', bq, rfl, sL.trans s6, s6 _ _ hglL, s6 _ _ hbqL, skip⟩⟩
    | cons g0 sl' =>
    have g0n : 0 ≤ g0 ∧ g0 < n := by
      have : g0 ∈ (sortI ns).filter (inReg r.p (ptrO p)) := by
        rw [hso]
        exact List.mem_cons_self
      exact good_in gns g0 ((sort_perm ns).mem_iff.mp (List.mem_filter.mp this).1)
    have hs0 : ((sortI ns).filter (inReg r.p (ptrO p)))[0]? = some g0 := by
      rw [hso]
      rfl
    have ok := scan_ok rows mode (ptrO p) (sortI ns) i
    have lgs : gs.length ≤ 31 := by
      have h1 := (nodup_len st.nd st.mem).1
      have h2 := ok.len
      omega
    have at0 : atI ((g0 :: sl').map V.int) 0 = some (.int g0) := atI_nat (j := 0) rfl
    refine seq_if_k (fun τ L2 => τ = [some (.ref rp), some (.ref sp), some (.int n), some (.ref ap), some (.str mode), some (.int p), some (doneD dn), some (.ref gl), some (.ref bq), some (.int (i : Nat)), some (.str r.m), some (.str r.p), some (.str r.mv), some (.str r.t), some (.bl r.al), some (.ref D), vg] ∧ Same H L2 ∧ L2 D = some (.lst ((g0 :: sl').map V.int)) ∧ L2 gl = some (.lst ((putE g0 gs).map V.int)) ∧ L2 bq = some (.tup [.str m', .int p'])) (fun τ L2 ⟨et, s8, hD8, hgl8, hbq8⟩ => ?rest2) (fun k => ?main2)
    case main2 =>
      refine ⟨_, rfl, (by show 0 ≤ sizeLine; decide), fun e ne => ?_⟩
      have s6 := new_same ne (.lst [])
      have hD7 := s6 _ _ hD5
      have hgl7 := s6 _ _ hgl5
      have hbq7 := s6 _ _ hbq5
      have s7 := s5.trans s6
      refine ⟨D, e, _, [], rfl, rfl, SqL.of hD7, SqL.of upd_same, .inr (fun z => nomatch z), _, rfl, iteT ?_⟩
      clear hD5 hgl5 hbq5
      generalize upd M e (.lst []) = L at s6 hD7 hgl7 hbq7 s7 ⊢
      refine ⟨_, rfl, D, _, 0, .int g0, rfl, rfl, SqL.of hD7, at0, _, rfl, gl, gs.map V.int, rfl, .inl (SqL.of hgl7), rfl, ints_flat _, _, rfl, ite2 (fun h => ?_) (fun h => ?_)⟩
      · have c : g0 ∉ gs := fun q => by
          have h' : (!inV (.int g0) (gs.map V.int)) = true := h
          rw [inV_ints, decide_eq_true q] at h'
          cases h'
        refine ⟨_, rfl, .inl ⟨rfl, _, SqL.of hgl7⟩, _, rfl, D, _, 0, .int g0, rfl, rfl, SqL.of hD7, at0, gl, _, _, rfl, rfl, hgl7, ?_, k _ _ ⟨rfl, fun c o h => ?_, ?_, ?_, ?_⟩⟩
        · rw [List.length_map]
          exact small1000 (by omega)
        · rw [upd_ne (fun q => by rw [q, ngl] at h; cases h)]
          exact s7 c o h
        · rw [upd_ne nDg]
          exact hD7
        · rw [upd_same]
          unfold putE
          rw [if_neg c, List.map_append]
          rfl
        · rw [upd_ne (fun q => by rw [q, hgl7] at hbq7; cases hbq7)]
          exact hbq7
      · have c : g0 ∈ gs := Classical.byContradiction fun q => h (by
          show (!inV (.int g0) (gs.map V.int)) = true
          rw [inV_ints, decide_eq_false q]
          rfl)
        exact k _ _ ⟨rfl, s7, hD7, by unfold putE; rw [if_pos c]; exact hgl7, hbq7⟩
    case rest2 =>
      subst et
      refine ⟨_, rfl, (by show 0 ≤ sizeLine; decide), fun e ne => ?_⟩
      have s6 := new_same ne (.lst [])
      refine ⟨D, e, _, [], rfl, rfl, SqL.of (s6 _ _ hD8), SqL.of upd_same, .inr (fun z => nomatch z), _, rfl, iteT ?_⟩
      refine ⟨_, rfl, rfl, _, rfl, ite2 (fun h => ?_) (fun h => ?_)⟩
      · rw [doneD_non] at h
        have d0 : dn < 0 := of_decide_eq_true h
        refine ⟨_, rfl, ?_⟩
        have mv3 : r.mv = "stay" ∨ r.mv = "on" ∨ r.mv = "home" := by
          have : r.mv ∈ (["stay", "on", "home"] : List Str) := gr.mv
          simpa using this
        refine ⟨_, rfl, _, rfl, rfl, _, rfl, ifT (fun v L3 => ∃ q' : Int, v = .int q' ∧ L3 = (upd L2 e (.lst [])) ∧ ptrO q' = movedP r.mv (ptrO p) g0 ∧ q' < n) (fun h4 K' k => ?_) (fun h4 K' k => ?_) ?_⟩
        · have c : r.mv = "stay" := V.str.inj (of_decide_eq_true h4)
          refine ⟨_, rfl, k _ _ ⟨p, rfl, rfl, ?_, pn⟩⟩
          unfold movedP
          rw [c, if_neg (by decide +kernel), if_neg (by decide +kernel)]
        · have nst : r.mv ≠ "stay" := fun q => h4 (by rw [q]; exact decide_eq_true rfl)
          refine ⟨_, rfl, rfl, _, rfl, ite2 (fun h5 => ?_) (fun h5 => ?_)⟩
          · have c : r.mv = "on" := V.str.inj (of_decide_eq_true h5)
            refine ⟨_, rfl, D, _, 0, .int g0, rfl, rfl, SqL.of (s6 _ _ hD8), at0, k _ _ ⟨g0, rfl, rfl, ?_, g0n.2⟩⟩
            unfold ptrO movedP
            rw [if_neg (by omega), if_pos c]
          · have c : r.mv = "home" := by
              rcases mv3 with q | q | q
              · exact absurd q nst
              · exact absurd (by rw [q]; exact decide_eq_true rfl) h5
              · exact q
            refine ⟨_, _, rfl, rfl, k _ _ ⟨0 - 1, rfl, rfl, ?_, by omega⟩⟩
            unfold ptrO movedP
            rw [if_pos (by omega), c, if_neg (by decide +kernel), if_pos rfl]
        · rintro v L3 ⟨q', rfl, rfl, hq1, hq2⟩
          refine ⟨(by show 2 ≤ sizeLine; decide), fun nb nnb => ?_⟩
          have s9 := new_same nnb (.tup [V.str r.t, .int q'])
          exact ⟨_, _, _, _, _, _, _, _, (i : Int), putE g0 gs, r.t, q', nb, by rw [show doneD (i : Int) = V.int (i : Int) from if_neg (by omega)]; rfl, (s8.trans s6).trans s9, s9 _ _ (s6 _ _ hgl8), upd_same, st.first hri c1 hs0 d0 ok hq1 hq2⟩
      · rw [doneD_non] at h
        have d0 : 0 ≤ dn := by
          have : ¬ dn < 0 := fun q => h (decide_eq_true q)
          omega
        exact ⟨_, _, _, _, _, _, _, _, dn, putE g0 gs, m', p', bq, rfl, s8.trans s6, s6 _ _ hgl8, s6 _ _ hbq8, st.later hri c1 hs0 c3 d0 ok⟩
  · rintro σ J ⟨v9, va, vb, vc, vd, ve, vf, vg, dn, gs, m', p', bq, rfl, sJ, hgl, hbq, st⟩
    have lx : xs.length = rows.length := ru.rt.1
    rw [lx] at st
    have lgs : gs.length ≤ 31 := by
      have h1 := (nodup_len st.nd st.mem).1
      have h2 := (scan_ok rows mode (ptrO p) (sortI ns) rows.length).len
      omega
    refine ⟨_, rfl, _, rfl, gl, rfl, ⟨_, SqL.of hgl⟩, fun D hD => lc_list (fun i5 M => Same J M ∧ M D = some (.lst ((gs.take i5).map V.int))) ⟨new_same hD _, upd_same⟩
      (fun i5 M _ ⟨z, _⟩ => SqL.of (z _ _ hgl)) (fun i5 v M hv ⟨z, e⟩ => ?_) (fun M ⟨z, e⟩ => ?_)⟩
    · obtain ⟨k, hk, rfl⟩ := get_int hv
      refine ⟨rfl, _, rfl, .inl ⟨k, rfl, _, e, ?_, fun c o h => ?_, ?_⟩⟩
      · rw [List.length_map, List.length_take]
        exact small1000 (by omega)
      · rw [upd_ne (fun q => by rw [q, hD] at h; cases h)]
        exact z c o h
      · rw [upd_same, take_snoc hk, List.map_append]
        rfl
    have e' : M D = some (.lst (gs.map V.int)) := by
      rw [e, List.take_of_length_le (by rw [List.length_map]; exact Nat.le_refl _)]
    refine ⟨D, gs, rfl, .inl (SqL.of e'), fun out p2 perm up2 np2 => ⟨p2, _, rfl, .inl ⟨SqL.of upd_same, fun gq ngq => ⟨_, rfl, (by show 3 ≤ sizeLine; decide), fun fq nfq => ?_⟩⟩⟩⟩
    have t1 := new_same np2 (.lst (out.map V.int))
    have t2 := new_same ngq (.tup (out.map V.int))
    have t3 := new_same nfq (.tup [doneD dn, .ref gq, .ref bq])
    have sF := (sJ.trans z).trans ((t1.trans t2).trans t3)
    have hout : out = canonI (endGrants rows mode (ptrO p) (sortI ns)) := by
      have nd2 : out.Nodup := perm.nodup_iff.mpr st.nd
      refine lt_pairwise_one ((up2.and (show out.Pairwise (· ≠ ·) from nd2)).imp fun ⟨a, b⟩ => by omega) (canon_up _) fun k => ?_
      rw [canon_mem, perm.mem_iff]
      exact st.mem k
    refine q fq gq bq dn out m' p' _ sF ⟨st.dn0, hout, ?_, ?_, st.pn⟩ upd_same (t3 _ _ upd_same) ((z.trans ((t1.trans t2).trans t3)) _ _ hbq)
    · rw [st.mm]
      rfl
    · rw [st.pp]
      rfl
end
end LT
namespace L2
open PySem PySem.Spec PyProof.Rows
section
variable {X : Cx} {CX : CXT} {C f : Addr} {fd : FuncData} {ps : List Str} {E : XK} {k : Nat} {sp : Sp}
/-- len(x), x an instance of the class at C with an own __len__ -/
def rLenOwn (C : Addr) (sp : Sp) (E : XK) : List V → Hp → VK → Prop := fun xs H Q => ∃ (a dx : Addr) (fs : List (Str × V)), xs = [.ref a] ∧ H a = some (.ins C dx fs) ∧ sp [.ref a] H (fun v J => ∃ n : Int, v = .int n ∧ 0 ≤ n ∧ n < 2 ^ 63 ∧ Q v J) E
theorem call_lenOwn (F : FnOk X.prog X.w X.K X.mg X.base CX k f fd ps sp) (hr : Room (k + 1) X.A) (hs : PySem.W.findIn X.K (.ref C) "__len__" = some (some (.ref f))) (hf : PySem.W.isFn X.K (.ref f) = true)
    (bn : Binds X.K fd ps []) (hx : Passes CX X E) : CallR X (.builtin "len") (rLenOwn C sp E) := by
  intro pins s σ H xs us Q I r h
  obtain ⟨a, dx, fs, rfl, ha, q⟩ := h
  obtain ⟨u, rfl, ru⟩ := vals1 r
  cases ru
  obtain ⟨od, K1⟩ := ins_look I ha
  obtain ⟨m, hF⟩ := I.fr
  refine PySem.W.len_K hF I.ok.mod.kin K1 hs hf (run_own F ⟨hr.in1, rfl⟩ bn hx I (show Vals [V.ref a] [Value.ref a] from .cons rfl .nil) q fun u s' v J rv I' z => ?_)
  obtain ⟨n, rfl, h0, h1, q⟩ := z
  obtain ⟨t, rfl⟩ := rv
  exact ⟨⟨h0, h1⟩, .int n, J, I'.tok _, ⟨_, rfl⟩, q⟩
/-- x + y, both of the class at C with an own __add__ -/
def rAddOwn (C : Addr) (sp : Sp) (E : XK) : R2 := fun x y H Q => ∃ (a b dx dy : Addr) (fs gs : List (Str × V)), x = .ref a ∧ y = .ref b ∧ H a = some (.ins C dx fs) ∧ H b = some (.ins C dy gs) ∧ sp [x, y] H (fun v J => (∃ c, v = .ref c) ∧ Q v J) E
theorem op_addOwn (F : FnOk X.prog X.w X.K X.mg X.base CX k f fd ps sp) (hr : Room k X.A) (hc : PySem.W.selfFirst X.K C = true) (hs : PySem.W.findIn X.K (.ref C) "__add__" = some (some (.ref f))) (hf : PySem.W.isFn X.K (.ref f) = true)
    (bn : Binds X.K fd ps []) (hx : Passes CX X E) : OpR X (binaryOp .Add) (rAddOwn C sp E) := by
  intro pins s σ H x y v u Q I rx ry h
  obtain ⟨a, b, dx, dy, fs, gs, rfl, rfl, ha, hb, q⟩ := h
  cases rx
  cases ry
  obtain ⟨od, K1⟩ := ins_look I ha
  obtain ⟨oe, K2⟩ := ins_look I hb
  obtain ⟨m, hF⟩ := I.fr
  have hs2 : PySem.W.findIn X.K (.ref C) (PySem.dunder Operator.Add.info.2) = some (some (.ref f)) := by
    have e : PySem.dunder Operator.Add.info.2 = ("__add__" : Str) := by decide +kernel
    rw [e]
    exact hs
  refine PySem.W.binop_K (op := .Add) hF I.ok.mod.kin K1 K2.type hc hs2 hf (run_own F ⟨hr, rfl⟩ bn hx I (show Vals [V.ref a, V.ref b] [Value.ref a, Value.ref b] from .cons rfl (.cons rfl .nil)) q fun u s' v J rv I' z => ?_)
  obtain ⟨⟨c, rfl⟩, q⟩ := z
  cases rv
  exact ⟨.ref c, J, I', rfl, q⟩
/-- x[y], x an instance of the class at C with an own __getitem__ -/
def rIxOwn (C : Addr) (sp : Sp) (E : XK) : R2 := fun x y H Q => ∃ (a dx : Addr) (fs : List (Str × V)), x = .ref a ∧ H a = some (.ins C dx fs) ∧ sp [x, y] H Q E
theorem pe_ixOwn {a b : Expr} {ta tb : TE} {pos : Pos} (ha : PE X a ta) (hb : PE X b tb) (F : FnOk X.prog X.w X.K X.mg X.base CX k f fd ps sp) (hr : Room (k + 1) X.A) (hs : PySem.W.findIn X.K (.ref C) "__getitem__" = some (some (.ref f))) (hf : PySem.W.isFn X.K (.ref f) = true)
    (hfi : PySem.W.fnIn X.K f = true) (bn : Binds X.K fd ps []) (hx : Passes CX X E) (hsl : ∀ (c : Addr) (u : Value), subscripted b true (.ref c) u = runValue (.builtin "lifetime.subscript" ⟨[.ref c, u], []⟩) := by intro _ _; with_unfolding_all rfl) :
    PE X (.Subscript a b pos) (tOp (rIxOwn C sp E) ta tb) := by
  refine ⟨fun pins s σ H Q I h => ?_⟩
  refine Subscript_ (binT ha hb I h fun v u s2 x y H2 I2 rx ry q => ?_)
  obtain ⟨c, dx, fs, rfl, hc, q⟩ := q
  cases rx
  obtain ⟨od, K1⟩ := ins_look I2 hc
  obtain ⟨m, hF⟩ := I2.fr
  exact PySem.W.sub_K hF I2.ok.mod.kin K1 hs hfi hf (run_own F ⟨hr.in1, rfl⟩ bn hx I2 (show Vals [V.ref c, y] [Value.ref c, u] from .cons rfl (.cons ry .nil)) q fun u s' v J rv I' z => ⟨v, J, I', rv, z⟩) (hsl c u)
end
end L2
namespace LT
open PySem L2
/-! ### Rule's len, [], without, + (where they refuse nothing) -/
theorem passRm {X : Cx} : Passes (L2.CX X.prog X.w) X (fun _ _ _ => False) := passes_call takes0 (fun _ _ _ _ h => h)
theorem wd_strOk {z : Str} (h : Wd z) : PyData.strOk z = true := strOk_mem.mpr fun c hc => by
  have := az_small c (h.az c hc)
  omega
theorem rows_len {C : Addr} {H : Hp} {xs : List V} {rows : List Row5} (h : RowsIn C H xs rows) : xs.length = rows.length := h.1
theorem RowsIn.take {C : Addr} {H : Hp} {xs : List V} {rows : List Row5} {n : Nat} (h : RowsIn C H xs rows) : RowsIn C H (xs.take n) (rows.take n) :=
  ⟨by rw [List.length_take, List.length_take, h.1], fun i x e => by
    have hi := (List.getElem?_eq_some_iff.mp e).1
    rw [List.length_take] at hi
    rw [List.getElem?_take, if_pos (by omega)] at e
    obtain ⟨b, r, q1, q2, q3⟩ := h.2 i x e
    exact ⟨b, r, q1, by rw [List.getElem?_take, if_pos (by omega)]; exact q2, q3⟩⟩
theorem RowsIn.drop {C : Addr} {H : Hp} {xs : List V} {rows : List Row5} {n : Nat} (h : RowsIn C H xs rows) : RowsIn C H (xs.drop n) (rows.drop n) :=
  ⟨by rw [List.length_drop, List.length_drop, h.1], fun i x e => by
    rw [List.getElem?_drop] at e
    obtain ⟨b, r, q1, q2, q3⟩ := h.2 _ x e
    exact ⟨b, r, q1, by rw [List.getElem?_drop]; exact q2, q3⟩⟩
theorem RowsIn.app {C : Addr} {H : Hp} {xs ys : List V} {rows more : List Row5} (h : RowsIn C H xs rows) (k : RowsIn C H ys more) : RowsIn C H (xs ++ ys) (rows ++ more) :=
  ⟨by rw [List.length_append, List.length_append, h.1, k.1], fun j v z => by
    by_cases c : j < xs.length
    · rw [List.getElem?_append_left c] at z
      obtain ⟨b, r, e1, e2, e3⟩ := h.2 j v z
      exact ⟨b, r, e1, by rw [List.getElem?_append_left (by rw [← h.1]; exact c)]; exact e2, e3⟩
    · rw [List.getElem?_append_right (by omega)] at z
      obtain ⟨b, r, e1, e2, e3⟩ := k.2 _ v z
      exact ⟨b, r, e1, by rw [List.getElem?_append_right (by rw [← h.1]; omega), ← h.1]; exact e2, e3⟩⟩
def spRLen (K : PySem.W.Frag) (C CR : Addr) : Sp := fun vs H Q _ => ∃ (a : Addr) (first : Str) (rows : List Row5), vs = [.ref a] ∧ RuleAt K C CR H a first rows ∧ Q (.int (rows.length : Nat)) H
def spRItem (K : PySem.W.Frag) (C CR : Addr) : Sp := fun vs H Q _ => ∃ (a : Addr) (n : Nat) (first : Str) (rows : List Row5) (r : Row5), vs = [.ref a, .int (n : Nat)] ∧ RuleAt K C CR H a first rows ∧ rows[n]? = some r ∧
  ∀ (b dx : Addr) (J : Hp), Same H J → J b = some (.ins C dx r.fs) → Q (.ref b) J
def spRWithout (K : PySem.W.Frag) (C CR : Addr) : Sp := fun vs H Q _ => ∃ (a : Addr) (n : Nat) (first : Str) (rows : List Row5), vs = [.ref a, .int (n : Nat)] ∧ RuleAt K C CR H a first rows ∧ n < rows.length ∧
  ∀ (x : Addr) (J : Hp), Same H J → H x = none → RuleAt K C CR J x first (rows.take n ++ rows.drop (n + 1)) → Q (.ref x) J
def spRAdd (K : PySem.W.Frag) (C CR : Addr) : Sp := fun vs H Q _ => ∃ (a b : Addr) (first other : Str) (rows more : List Row5), vs = [.ref a, .ref b] ∧ RuleAt K C CR H a first rows ∧ RuleAt K C CR H b other more ∧ rows.length + more.length ≤ 31 ∧
  ∀ (x : Addr) (J : Hp), Same H J → H x = none → RuleAt K C CR J x first (rows ++ more) → Q (.ref x) J
section
variable {P : Program} {w : World} {K : PySem.W.Frag} {mg : Str → Option Value} {base : Heap}
/-- what these lean on -/
structure MethG (P : Program) (w : World) (K : PySem.W.Frag) (mg : Str → Option Value) (base : Heap) (C CR CE : Addr) : Prop where
  cl : Cls K CR
  n0 : NoAttr K CR "first"
  n1 : NoAttr K CR "rows"
  ha : PySem.W.findIn K (.ref CR) "__class__" = some (some (.builtin "object.__class__"))
  hn : PySem.W.specialIn K (.builtin "object.__class__") "__get__" = some (some (.builtin "getset_descriptor.__get__"))
  ht : PySem.W.takesIn K (.builtin "object.__class__") = some true
  hm : PySem.W.mroIn K CR (.type "object") = some true
  kR : PySem.W.kitOne K (.ref CR) (.ref CR) = some true
  mR : mg "Rule" = some (.ref CR)
  row : RowC K mg C
  ini : ∃ (f : Addr) (fd : FuncData), Mk K CR f ∧ FnOk P w K mg base (L2.CX P w) 3 f fd ["self", "first", "rows"] (spRuleI K C CR CE) ∧ Binds K fd ["self", "first", "rows"] []
  bel : ∃ (f : Addr) (fd : FuncData), FnOk P w K mg base CX0 2 f fd ["value", "bound"] (spBelow K) ∧ Binds K fd ["value", "bound"] [] ∧ PySem.W.keepIn K (.ref f) = true ∧ mg "is_below" = some (.ref f)
theorem scRLen : FnScope ["self"] ["self"] (defScope sRuleLen) := ⟨rfl, rfl, rfl, by decide +kernel, rfl, by decide +kernel, by decide +kernel⟩
theorem scRItem : FnScope ["self", "at"] ["self", "at"] (defScope sRuleItem) := ⟨rfl, rfl, rfl, by decide +kernel, rfl, by decide +kernel, by decide +kernel⟩
theorem scRAdd : FnScope ["self", "other"] ["self", "other"] (defScope sRuleAdd) := ⟨rfl, rfl, rfl, by decide +kernel, rfl, by decide +kernel, by decide +kernel⟩
theorem RuleAt.fld {C CR a : Addr} {first : Str} {rows : List Row5} {H : Hp} (ru : RuleAt K C CR H a first rows) : ∃ (dx tp : Addr) (fs : List (Str × V)) (xs : List V), H a = some (.ins CR dx fs) ∧ fs.lookup ("first" : Str) = some (V.str first) ∧ fs.lookup ("rows" : Str) = some (V.ref tp) ∧ SqT K H tp xs ∧ RowsIn C H xs rows := by
  obtain ⟨dx, tp, tm, xs, zs, h1, h2, h3, h4, h5⟩ := ru.ex
  exact ⟨dx, tp, _, xs, h1, by kernel_rfl, by kernel_rfl, h2, h3⟩
theorem ok_rlen {C CR CE f : Addr} {fd : FuncData} (F : Fun K "__len__" "Rule.__len__" sRuleLen f fd) (G : MethG P w K mg base C CR CE) (T : Blt mg) : FnOk P w K mg base CX0 1 f fd ["self"] (spRLen K C CR) := by
  refine F.ok scRLen (fun vs H Q E h => ?_) (fun cdv A outer s H vs Q E hr h => ?_)
  · obtain ⟨a, first, rows, rfl, _⟩ := h
    rfl
  obtain ⟨a, first, rows, rfl, ru, q⟩ := h
  obtain ⟨dx, tp, fs, xs, h1, h2, h3, h4, h5⟩ := ru.fld
  refine ⟨_, pss_one (ps_ret (pe_callB call_len_seq (by rfl) T.len PySem.boot_len (pa_cons (pe_fld (pv 0) rfl) pa_nil))), ?_⟩
  refine ⟨_, rfl, a, CR, dx, _, _, rfl, h1, G.cl, G.n1, h3, tp, xs, rfl, .inr h4, ?_⟩
  rw [h5.1]
  exact q
theorem ok_ritem {C CR CE f : Addr} {fd : FuncData} (F : Fun K "__getitem__" "Rule.__getitem__" sRuleItem f fd) (G : MethG P w K mg base C CR CE) (T : Blt mg) : FnOk P w K mg base CX0 3 f fd ["self", "at"] (spRItem K C CR) := by
  obtain ⟨fB, dB, GB, bB, kB, mB⟩ := G.bel
  refine F.ok scRItem (fun vs H Q E h => ?_) (fun cdv A outer s H vs Q E hr h => ?_)
  · obtain ⟨a, n, first, rows, r, rfl, _⟩ := h
    rfl
  obtain ⟨a, n, first, rows, r, rfl, ru, er, q⟩ := h
  obtain ⟨dx, tp, fs, xs, h1, h2, h3, h4, h5⟩ := ru.fld
  have few := ru.few
  have hn : n < rows.length := (List.getElem?_eq_some_iff.mp er).1
  refine ⟨_, pss_cons (ps_if (pt_not (pt_val (pe_call GB hr (by rfl) mB kB bB .nil pass0 (pa_cons (pv 1) (pa_cons (pe_callB call_len_seq (by rfl) T.len PySem.boot_len (pa_cons (pe_fld (pv 0) rfl) pa_nil)) pa_nil))))) (pss_one ps_nev) pss_nil)
    (pss_one (ps_ret (pe_ix ix_tup (pe_fld (pv 0) rfl) (pv 1) (fun _ _ => rfl)))), ?_⟩
  refine ⟨_, rfl, _, rfl, a, CR, dx, _, _, rfl, h1, G.cl, G.n1, h3, tp, xs, rfl, .inr h4, .int (n : Nat), _, true, false, _, rfl, fun _ _ => .base (.int _), kit_int_int, kit_int_bool, fun J s => ⟨(fun z => nomatch z), fun _ => ⟨_, rfl, true, ?_, iteF ?_⟩⟩⟩
  · rw [decide_eq_true (by omega), decide_eq_true (by rw [h5.1]; omega)]
    rfl
  obtain ⟨v, ev⟩ : ∃ v, xs[n]? = some v := ⟨_, List.getElem?_eq_getElem (by rw [h5.1]; exact hn)⟩
  obtain ⟨b, r', rfl, er', ⟨dy, hb⟩, g⟩ := h5.2 n v ev
  rw [er] at er'
  cases er'
  exact ⟨_, rfl, a, CR, dx, _, _, rfl, s _ _ h1, G.cl, G.n1, h3, _, rfl, tp, xs, _, .ref b, rfl, rfl, SqT.ext h4 s, atI_nat ev, q b dy J s (s _ _ hb)⟩
theorem ok_radd {C CR CE f : Addr} {fd : FuncData} (F : Fun K "__add__" "Rule.__add__" sRuleAdd f fd) (G : MethG P w K mg base C CR CE) (U : Blt2 mg) : FnOk P w K mg base CX0 5 f fd ["self", "other"] (spRAdd K C CR) := by
  obtain ⟨fU, dU, MU, GU, bU⟩ := G.ini
  refine F.ok scRAdd (fun vs H Q E h => ?_) (fun cdv A outer s H vs Q E hr h => ?_)
  · obtain ⟨a, b, first, other, rows, more, rfl, _⟩ := h
    rfl
  obtain ⟨a, b, first, other, rows, more, rfl, ru, ru', few, q⟩ := h
  obtain ⟨dx, tp, fs, xs, h1, h2, h3, h4, h5⟩ := ru.fld
  obtain ⟨dx', tp', fs', xs', h1', h2', h3', h4', h5'⟩ := ru'.fld
  refine ⟨_, pss_cons (ps_if (pt_not (pt_val (pe_callB call_isi (by rfl) U.isin boot_isin (pa_cons (pv 1) (pa_cons (pe_glob (by rfl) G.mR (v := .ref CR) rfl) pa_nil))))) (pss_one ps_nev) pss_nil)
    (pss_one (ps_ret (pe_make MU GU hr (by rfl) G.mR bU .nil passRm (pa_cons (pe_fld (pv 0) rfl) (pa_cons (pe_tup (StX.pa_star (pe_fld (pv 0) rfl) (StX.pa_star (pe_fld (pv 1) rfl) pa_nil))) pa_nil))))), ?_⟩
  refine ⟨_, rfl, .ref b, .ref CR, _, _, true, rfl, .own CR, .base (.ins h1' G.cl G.ha G.hn G.ht G.hm), G.kR, true, rfl, iteF ?_⟩
  refine ⟨_, rfl, a, CR, dx, _, _, rfl, h1, G.cl, G.n0, h2, _, rfl, a, CR, dx, _, _, rfl, h1, G.cl, G.n1, h3, tp, xs, rfl, .inl h4, _, rfl, b, CR, dx', _, _, rfl, h1', G.cl, G.n1, h3', tp', xs', rfl, .inl h4', ?_, fun p3 np3 => ?_⟩
  · rw [List.append_nil, List.length_append, h5.1, h5'.1]
    exact Nat.le_of_lt (small1000 (by omega))
  rw [List.append_nil]
  have s3 := new_same np3 (.tup (xs ++ xs'))
  have g3 : upd H p3 (.tup (xs ++ xs')) p3 = some (.tup (xs ++ xs')) := upd_same
  generalize upd H p3 (.tup (xs ++ xs')) = J3 at s3 g3 ⊢
  intro x dy nx ndy ne
  have wd := name_wd ru.wd
  have s4 : Same J3 (upd (upd J3 dy (.own x)) x (.ins CR dy [])) := fun b o e => by
    rw [upd_ne (ne_of_none e nx), upd_ne (ne_of_none e ndy)]
    exact e
  have R1 := h5.mono (s3.trans s4)
  have R2 := h5'.mono (s3.trans s4)
  refine ⟨x, dy, .str first, .ref p3, rfl, upd_same, (str_arg (wd_strOk wd) (by have := wd.len; omega)).kind G.row (C := C), .inr (.inr ⟨first, p3, _, _, rfl, ru.wd, rfl, .inr (SqT.of (s4 _ _ g3)), R1.app R2, ?_, fun L off ru2 => ⟨rfl, ?_⟩⟩)⟩
  · rw [List.length_append]
    omega
  · refine q x L (fun c o e => off c o (fun z => ?_) ((s3.trans s4) _ _ e)) (s3.free nx) ru2
    rw [z, s3.free nx] at e
    cases e
end
end LT
namespace LT
open PySem L2
/-! ### live lines -/
def lineFs (ru n mode ptr la lm : V) : List (Str × V) := [("rule", ru), ("askers", n), ("mode", mode), ("pointer", ptr), ("asked", la), ("marks", lm)]
/-- what was so ahead of something: rule, mode, pointer, how many rounds -/
structure MarkS where
  ru : Addr
  mode : Str
  ptr : Option Int
  k : Nat
def MarkS.vs (m : MarkS) : List V := [.ref m.ru, .str m.mode, ptrV m.ptr, .int (m.k : Nat)]
/-- tuples of these numbers -/
def TupsAt (J : Hp) (as : List V) (rs : List (List Int)) : Prop := as.length = rs.length ∧ ∀ (i : Nat) (v : V), as[i]? = some v → ∃ (t : Addr) (r : List Int), v = .ref t ∧ rs[i]? = some r ∧ J t = some (.tup (r.map V.int))
def MarksAt (J : Hp) (mks : List V) (ms : List MarkS) : Prop := mks.length = ms.length ∧ ∀ (i : Nat) (v : V), mks[i]? = some v → ∃ (t : Addr) (m : MarkS), v = .ref t ∧ ms[i]? = some m ∧ J t = some (.tup m.vs)
theorem TupsAt.keep {J L : Hp} {as : List V} {rs : List (List Int)} (k : ∀ c xs, J c = some (.tup xs) → L c = some (.tup xs)) (h : TupsAt J as rs) : TupsAt L as rs := ⟨h.1, fun i v e => by
  obtain ⟨t, r, e1, e2, e3⟩ := h.2 i v e
  exact ⟨t, r, e1, e2, k _ _ e3⟩⟩
theorem MarksAt.keep {J L : Hp} {as : List V} {rs : List MarkS} (k : ∀ c xs, J c = some (.tup xs) → L c = some (.tup xs)) (h : MarksAt J as rs) : MarksAt L as rs := ⟨h.1, fun i v e => by
  obtain ⟨t, r, e1, e2, e3⟩ := h.2 i v e
  exact ⟨t, r, e1, e2, k _ _ e3⟩⟩
theorem TupsAt.nil {J : Hp} : TupsAt J [] [] := ⟨rfl, fun i v e => nomatch e⟩
theorem MarksAt.nil {J : Hp} : MarksAt J [] [] := ⟨rfl, fun i v e => nomatch e⟩
theorem TupsAt.snoc {J : Hp} {as : List V} {rs : List (List Int)} {t : Addr} {r : List Int} (h : TupsAt J as rs) (e : J t = some (.tup (r.map V.int))) : TupsAt J (as ++ [.ref t]) (rs ++ [r]) :=
  ⟨by rw [List.length_append, List.length_append, h.1]; rfl, fun i v z => by
    rcases get_snoc z with z9 | ⟨z9, rfl⟩
    · obtain ⟨t', r', e1, e2, e3⟩ := h.2 i v z9
      exact ⟨t', r', e1, by rw [List.getElem?_append_left (List.getElem?_eq_some_iff.mp e2).1]; exact e2, e3⟩
    · exact ⟨t, r, rfl, by rw [z9, h.1]; exact List.getElem?_concat_length, e⟩⟩
theorem MarksAt.snoc {J : Hp} {as : List V} {rs : List MarkS} {t : Addr} {r : MarkS} (h : MarksAt J as rs) (e : J t = some (.tup r.vs)) : MarksAt J (as ++ [.ref t]) (rs ++ [r]) :=
  ⟨by rw [List.length_append, List.length_append, h.1]; rfl, fun i v z => by
    rcases get_snoc z with z9 | ⟨z9, rfl⟩
    · obtain ⟨t', r', e1, e2, e3⟩ := h.2 i v z9
      exact ⟨t', r', e1, by rw [List.getElem?_append_left (List.getElem?_eq_some_iff.mp e2).1]; exact e2, e3⟩
    · exact ⟨t, r, rfl, by rw [z9, h.1]; exact List.getElem?_concat_length, e⟩⟩
/-- a line stands at a, its lists at la and lm -/
structure LineAt (CL : Addr) (J : Hp) (a la lm : Addr) (ru : Addr) (n : Int) (mode : Str) (ptr : Option Int) (rs : List (List Int)) (ms : List MarkS) : Prop where
  at_ : ∃ dx, J a = some (.ins CL dx (lineFs (.ref ru) (.int n) (.str mode) (ptrV ptr) (.ref la) (.ref lm)))
  asked : ∃ as, J la = some (.lst as) ∧ TupsAt J as rs
  marks : ∃ mks, J lm = some (.lst mks) ∧ MarksAt J mks ms
  ne : la ≠ lm
/-- all but a line is kept -/
def Kl (a la lm : Addr) (H J : Hp) : Prop := ∀ c o, c ≠ a → c ≠ la → c ≠ lm → H c = some o → J c = some o
theorem Kl.refl {a la lm : Addr} {H : Hp} : Kl a la lm H H := fun _ _ _ _ _ e => e
theorem Kl.of {a la lm : Addr} {H J : Hp} (s : Same H J) : Kl a la lm H J := fun c o _ _ _ e => s c o e
theorem Kl.trans {a la lm : Addr} {H J L : Hp} (x : Kl a la lm H J) (y : Kl a la lm J L) : Kl a la lm H L := fun c o n1 n2 n3 e => y c o n1 n2 n3 (x c o n1 n2 n3 e)
theorem Kl.put {a la lm c : Addr} {H : Hp} {o : HO} (h : c = a ∨ c = la ∨ c = lm) : Kl a la lm H (upd H c o) := fun d u n1 n2 n3 e => by
  rw [upd_ne (fun q => by
    rw [q] at n1 n2 n3
    rcases h with h | h | h
    · exact n1 h
    · exact n2 h
    · exact n3 h)]
  exact e
theorem LineAt.mono {CL : Addr} {J L : Hp} {a la lm ru : Addr} {n : Int} {mode : Str} {ptr : Option Int} {rs : List (List Int)} {ms : List MarkS} (s : Same J L) (h : LineAt CL J a la lm ru n mode ptr rs ms) : LineAt CL L a la lm ru n mode ptr rs ms := by
  obtain ⟨⟨dx, e1⟩, ⟨as, e2, t2⟩, ⟨mks, e3, t3⟩, ne⟩ := h
  exact ⟨⟨dx, s _ _ e1⟩, ⟨as, s _ _ e2, t2.keep fun c xs e => s _ _ e⟩, ⟨mks, s _ _ e3, t3.keep fun c xs e => s _ _ e⟩, ne⟩
/-- what is no list and no instance is none of the line -/
theorem LineAt.off {CL : Addr} {J : Hp} {a la lm ru : Addr} {n : Int} {mode : Str} {ptr : Option Int} {rs : List (List Int)} {ms : List MarkS} (h : LineAt CL J a la lm ru n mode ptr rs ms) {c : Addr} {o : HO} (e : J c = some o)
    (n1 : ∀ xs, o ≠ .lst xs) (n2 : ∀ dx fs, o ≠ .ins CL dx fs) : c ≠ a ∧ c ≠ la ∧ c ≠ lm := by
  obtain ⟨⟨dx, e1⟩, ⟨as, e2, t2⟩, ⟨mks, e3, t3⟩, ne⟩ := h
  refine ⟨fun q => ?_, fun q => ?_, fun q => ?_⟩
  · rw [q, e1] at e
    exact n2 _ _ (Option.some.inj e).symm
  · rw [q, e2] at e
    exact n1 _ (Option.some.inj e).symm
  · rw [q, e3] at e
    exact n1 _ (Option.some.inj e).symm
theorem Kl.tup {CL : Addr} {J L : Hp} {a la lm ru : Addr} {n : Int} {mode : Str} {ptr : Option Int} {rs : List (List Int)} {ms : List MarkS} (k : Kl a la lm J L) (h : LineAt CL J a la lm ru n mode ptr rs ms) : ∀ c xs, J c = some (.tup xs) → L c = some (.tup xs) := fun c xs e => by
  have x := h.off e (fun _ z => nomatch z) (fun _ _ z => nomatch z)
  exact k c _ x.1 x.2.1 x.2.2 e
theorem LineAt.new {CL : Addr} {J : Hp} {a la lm ru : Addr} {n : Int} {mode : Str} {ptr : Option Int} {rs : List (List Int)} {ms : List MarkS} (h : LineAt CL J a la lm ru n mode ptr rs ms) {c : Addr} (e : J c = none) : c ≠ a ∧ c ≠ la ∧ c ≠ lm := by
  obtain ⟨⟨dx, e1⟩, ⟨as, e2, t2⟩, ⟨mks, e3, t3⟩, ne⟩ := h
  refine ⟨fun q => ?_, fun q => ?_, fun q => ?_⟩
  · rw [q, e1] at e
    cases e
  · rw [q, e2] at e
    cases e
  · rw [q, e3] at e
    cases e
/-- what the class of lines is -/
structure LineC (K : PySem.W.Frag) (CL : Addr) : Prop where
  cl : Cls K CL
  n0 : NoAttr K CL "rule"
  n1 : NoAttr K CL "askers"
  n2 : NoAttr K CL "mode"
  n3 : NoAttr K CL "pointer"
  n4 : NoAttr K CL "asked"
  n5 : NoAttr K CL "marks"
section
variable {ru n mode ptr la lm : V}
theorem lk0 : (lineFs ru n mode ptr la lm).lookup ("rule" : Str) = some ru := by kernel_rfl
theorem lk1 : (lineFs ru n mode ptr la lm).lookup ("askers" : Str) = some n := by kernel_rfl
theorem lk2 : (lineFs ru n mode ptr la lm).lookup ("mode" : Str) = some mode := by kernel_rfl
theorem lk3 : (lineFs ru n mode ptr la lm).lookup ("pointer" : Str) = some ptr := by kernel_rfl
theorem lk4 : (lineFs ru n mode ptr la lm).lookup ("asked" : Str) = some la := by kernel_rfl
theorem lk5 : (lineFs ru n mode ptr la lm).lookup ("marks" : Str) = some lm := by kernel_rfl
theorem pf0 (v : V) : putF "rule" v (lineFs ru n mode ptr la lm) = lineFs v n mode ptr la lm := by kernel_rfl
theorem pf2 (v : V) : putF "mode" v (lineFs ru n mode ptr la lm) = lineFs ru n v ptr la lm := by kernel_rfl
theorem pf3 (v : V) : putF "pointer" v (lineFs ru n mode ptr la lm) = lineFs ru n mode v la lm := by kernel_rfl
end
def spLineI (K : PySem.W.Frag) (C CR CL : Addr) : Sp := fun vs H Q _ => ∃ (x dx ru : Addr) (n : Int) (first : Str) (rows : List Row5), vs = [.ref x, .ref ru, .int n] ∧ H x = some (.ins CL dx []) ∧ RuleAt K C CR H ru first rows ∧
  ∀ (la lm : Addr) (J : Hp), Off x H J → H la = none → H lm = none → LineAt CL J x la lm ru n first none [] [] → Q .non J
def spLRounds (CL : Addr) : Sp := fun vs H Q _ => ∃ (a la lm ru : Addr) (n : Int) (mode : Str) (ptr : Option Int) (rs : List (List Int)) (ms : List MarkS), vs = [.ref a] ∧ LineAt CL H a la lm ru n mode ptr rs ms ∧
  ∀ (t : Addr) (as : List V) (J : Hp), Same H J → H t = none → J t = some (.tup as) → TupsAt J as rs → Q (.ref t) J
def spLLen (CL : Addr) : Sp := fun vs H Q _ => ∃ (a la lm ru : Addr) (n : Int) (mode : Str) (ptr : Option Int) (rs : List (List Int)) (ms : List MarkS), vs = [.ref a] ∧ LineAt CL H a la lm ru n mode ptr rs ms ∧ Q (.int (ms.length : Nat)) H
def spLMark (CL : Addr) : Sp := fun vs H Q _ => ∃ (a la lm ru : Addr) (n : Int) (mode : Str) (ptr : Option Int) (rs : List (List Int)) (ms : List MarkS), vs = [.ref a] ∧ LineAt CL H a la lm ru n mode ptr rs ms ∧ ms.length ≤ 900 ∧
  ∀ J, Kl a la lm H J → (∀ c, J c = none → H c = none) → LineAt CL J a la lm ru n mode ptr rs (ms ++ [⟨ru, mode, ptr, rs.length⟩]) → Q .non J
section
variable {P : Program} {w : World} {K : PySem.W.Frag} {mg : Str → Option Value} {base : Heap}
theorem scLineI : FnScope ["self", "rule", "askers"] ["self", "rule", "askers"] (defScope sLineInit) := ⟨rfl, rfl, rfl, by decide +kernel, rfl, by decide +kernel, by decide +kernel⟩
theorem scLRounds : FnScope ["self"] ["self"] (defScope sLineRounds) := ⟨rfl, rfl, rfl, by decide +kernel, rfl, by decide +kernel, by decide +kernel⟩
theorem scLLen : FnScope ["self"] ["self"] (defScope sLineLen) := ⟨rfl, rfl, rfl, by decide +kernel, rfl, by decide +kernel, by decide +kernel⟩
theorem scLMark : FnScope ["self"] ["self"] (defScope sLineMark) := ⟨rfl, rfl, rfl, by decide +kernel, rfl, by decide +kernel, by decide +kernel⟩
theorem ok_llen {CL f : Addr} {fd : FuncData} (F : Fun K "__len__" "Line.__len__" sLineLen f fd) (T : Blt mg) (LC : LineC K CL) : FnOk P w K mg base CX0 1 f fd ["self"] (spLLen CL) := by
  refine F.ok scLLen (fun vs H Q E h => ?_) (fun cdv A outer s H vs Q E hr h => ?_)
  · obtain ⟨a, la, lm, ru, n, mode, ptr, rs, ms, rfl, _⟩ := h
    rfl
  obtain ⟨a, la, lm, ru, n, mode, ptr, rs, ms, rfl, ⟨⟨dx, e1⟩, ⟨as, e2, t2⟩, ⟨mks, e3, t3⟩, ne⟩, q⟩ := h
  refine ⟨_, pss_one (ps_ret (pe_callB call_len_seq (by rfl) T.len PySem.boot_len (pa_cons (pe_fld (pv 0) rfl) pa_nil))), ?_⟩
  refine ⟨_, rfl, a, CL, dx, _, _, rfl, e1, LC.cl, LC.n5, lk5, lm, mks, rfl, .inl (SqL.of e3), ?_⟩
  rw [t3.1]
  exact q
theorem ok_lrounds {CL f : Addr} {fd : FuncData} (F : Fun K "rounds" "Line.rounds" sLineRounds f fd) (T : Blt mg) (LC : LineC K CL) : FnOk P w K mg base CX0 1 f fd ["self"] (spLRounds CL) := by
  refine F.ok scLRounds (fun vs H Q E h => ?_) (fun cdv A outer s H vs Q E hr h => ?_)
  · obtain ⟨a, la, lm, ru, n, mode, ptr, rs, ms, rfl, _⟩ := h
    rfl
  obtain ⟨a, la, lm, ru, n, mode, ptr, rs, ms, rfl, ⟨⟨dx, e1⟩, ⟨as, e2, t2⟩, ⟨mks, e3, t3⟩, ne⟩, q⟩ := h
  refine ⟨_, (pss_one (ps_ret (pe_callTy (r := rTupOf K) call_tuple_of (by rfl) T.tuple (by decide +kernel) (pa_cons (pe_fld (pv 0) rfl) pa_nil)))), ?_⟩
  refine ⟨_, rfl, a, CL, dx, _, _, rfl, e1, LC.cl, LC.n4, lk4, la, as, rfl, .inl ⟨SqL.of e2, fun t nt => ?_⟩⟩
  exact q t as _ (new_same nt _) nt upd_same (t2.keep fun c xs e => new_same nt _ _ _ e)
theorem ok_lineI {C CR CL f : Addr} {fd : FuncData} (F : Fun K "__init__" "Line.__init__" sLineInit f fd) (LC : LineC K CL) (cR : Cls K CR) (nR : NoAttr K CR "first") : FnOk P w K mg base CX0 1 f fd ["self", "rule", "askers"] (spLineI K C CR CL) := by
  refine F.ok scLineI (fun vs H Q E h => ?_) (fun cdv A outer s H vs Q E hr h => ?_)
  · obtain ⟨x, dx, ru, n, first, rows, rfl, _⟩ := h
    rfl
  obtain ⟨x, dx, ru, n, first, rows, rfl, hx, rat, q⟩ := h
  obtain ⟨dr, tp, tm, xs, zs, h1, -⟩ := rat.ex
  have lf : (ruleFs (.str first) (.ref tp) (.ref tm)).lookup ("first" : Str) = some (.str first) := by kernel_rfl
  refine ⟨_, (pss_cons (ps_fld (pv 0) (pv 1) rfl)
    (pss_cons (ps_fld (pv 0) (pv 2) rfl)
    (pss_cons (ps_fld (pv 0) (pe_fld (pv 1) rfl) rfl)
    (pss_cons (ps_fld (pv 0) pe_non rfl)
    (pss_cons (ps_fld (pv 0) (pe_lst pa_nil) rfl)
    (pss_one (ps_fld (pv 0) (pe_lst pa_nil) rfl))))))), ?_⟩
  have l1 : putF "rule" (V.ref ru) [] = ([("rule", V.ref ru)] : List (Str × V)) := by kernel_rfl
  have l2 : putF "askers" (V.int n) [("rule", V.ref ru)] = ([("rule", V.ref ru), ("askers", .int n)] : List (Str × V)) := by kernel_rfl
  have l3 : putF "mode" (V.str first) [("rule", V.ref ru), ("askers", .int n)] = ([("rule", V.ref ru), ("askers", .int n), ("mode", .str first)] : List (Str × V)) := by kernel_rfl
  have l4 : putF "pointer" V.non [("rule", V.ref ru), ("askers", .int n), ("mode", .str first)] = ([("rule", V.ref ru), ("askers", .int n), ("mode", .str first), ("pointer", .non)] : List (Str × V)) := by kernel_rfl
  have l5 : ∀ la : V, putF "asked" la [("rule", V.ref ru), ("askers", .int n), ("mode", .str first), ("pointer", .non)] = ([("rule", V.ref ru), ("askers", .int n), ("mode", .str first), ("pointer", .non), ("asked", la)] : List (Str × V)) := fun la => by kernel_rfl
  have l6 : ∀ la lm : V, putF "marks" lm [("rule", V.ref ru), ("askers", .int n), ("mode", .str first), ("pointer", .non), ("asked", la)] = lineFs (.ref ru) (.int n) (.str first) .non la lm := fun la lm => by kernel_rfl
  have rx : ru ≠ x := fun e => by
    rw [e, hx] at h1
    cases h1
  refine ⟨_, rfl, _, rfl, x, CL, dx, [], rfl, hx, LC.cl, LC.n0, (by show 0 < 1000; decide), ?_⟩
  rw [l1]
  refine ⟨_, rfl, _, rfl, x, CL, dx, _, rfl, upd_same, LC.cl, LC.n1, (by show 1 < 1000; decide), ?_⟩
  rw [l2, upd_upd]
  refine ⟨_, rfl, ru, CR, dr, _, _, rfl, by rw [upd_ne rx]; exact h1, cR, nR, lf, _, rfl, x, CL, dx, _, rfl, upd_same, LC.cl, LC.n2, (by show 2 < 1000; decide), ?_⟩
  rw [l3, upd_upd]
  refine ⟨_, rfl, x, CL, dx, _, rfl, upd_same, LC.cl, LC.n3, (by show 3 < 1000; decide), ?_⟩
  rw [l4, upd_upd]
  refine ⟨(by show 0 ≤ sizeLine; decide), fun la nla => ⟨_, rfl, x, CL, dx, _, rfl, new_same nla _ _ _ upd_same, LC.cl, LC.n4, (by show 4 < 1000; decide), ?_⟩⟩
  rw [l5]
  have lax : la ≠ x := fun e => by
    rw [e, upd_same] at nla
    cases nla
  refine ⟨(by show 0 ≤ sizeLine; decide), fun lm nlm => ⟨_, rfl, x, CL, dx, _, rfl, new_same nlm _ _ _ upd_same, LC.cl, LC.n5, (by show 5 < 1000; decide), ?_⟩⟩
  rw [l6]
  have lmx : lm ≠ x := fun e => by
    rw [e, upd_same] at nlm
    cases nlm
  have lml : lm ≠ la := fun e => by
    rw [e, upd_ne lax, upd_same] at nlm
    cases nlm
  rw [upd_ne lax] at nla
  rw [upd_ne lmx, upd_ne lml, upd_ne lmx] at nlm
  refine q la lm _ (fun c o n e => ?_) nla nlm ⟨⟨dx, upd_same⟩, ⟨[], ?_, .nil⟩, ⟨[], ?_, .nil⟩, Ne.symm lml⟩
  · rw [upd_ne n, upd_ne (ne_of_none e nlm), upd_ne n, upd_ne (ne_of_none e nla), upd_ne n]
    exact e
  · rw [upd_ne lax, upd_ne (Ne.symm lml), upd_ne lax, upd_same]
  · rw [upd_ne lmx, upd_same]
theorem ok_lmark {CL f : Addr} {fd : FuncData} (F : Fun K "mark" "Line.mark" sLineMark f fd) (T : Blt mg) (LC : LineC K CL) : FnOk P w K mg base CX0 1 f fd ["self"] (spLMark CL) := by
  refine F.ok scLMark (fun vs H Q E h => ?_) (fun cdv A outer s H vs Q E hr h => ?_)
  · obtain ⟨a, la, lm, ru, n, mode, ptr, rs, ms, rfl, _⟩ := h
    rfl
  obtain ⟨a, la, lm, ru, n, mode, ptr, rs, ms, rfl, LA, few, q⟩ := h
  obtain ⟨⟨dx, e1⟩, ⟨as, e2, t2⟩, ⟨mks, e3, t3⟩, ne⟩ := LA
  refine ⟨_, (pss_one (ps_expr (pe_bm PySem.F.plainAttrs_list PySem.F.slot_list_append PySem.F.type_list_append mt_append (pe_fld (pv 0) rfl) (pa_cons (pe_tup (pa_cons (pe_fld (pv 0) rfl) (pa_cons (pe_fld (pv 0) rfl) (pa_cons (pe_fld (pv 0) rfl) (pa_cons (pe_callB call_len_seq (by rfl) T.len PySem.boot_len (pa_cons (pe_fld (pv 0) rfl) pa_nil)) pa_nil))))) pa_nil)))), ?_⟩
  refine ⟨_, rfl, a, CL, dx, _, _, rfl, e1, LC.cl, LC.n5, lk5, .inl ⟨rfl, _, SqL.of e3⟩, ?_⟩
  refine ⟨_, rfl, a, CL, dx, _, _, rfl, e1, LC.cl, LC.n0, lk0, _, rfl, a, CL, dx, _, _, rfl, e1, LC.cl, LC.n2, lk2, _, rfl, a, CL, dx, _, _, rfl, e1, LC.cl, LC.n3, lk3, _, rfl, a, CL, dx, _, _, rfl, e1, LC.cl, LC.n4, lk4, la, as, rfl, .inl (SqL.of e2), (by show 4 ≤ sizeLine; decide), fun t nt => ?_⟩
  rw [t2.1]
  have s1 := new_same nt (.tup (MarkS.vs ⟨ru, mode, ptr, rs.length⟩))
  have et : upd H t (.tup (MarkS.vs ⟨ru, mode, ptr, rs.length⟩)) t = some (.tup (MarkS.vs ⟨ru, mode, ptr, rs.length⟩)) := upd_same
  have l3 := t3.1
  have alm : a ≠ lm := fun e => by
    rw [e, e3] at e1
    cases e1
  have nlm : t ≠ lm := fun e => by
    rw [e, e3] at nt
    cases nt
  refine ⟨lm, mks, _, rfl, rfl, s1 _ _ e3, small1000 (by omega), ?_⟩
  have nt' : ∀ c xs, H c = some (.tup xs) → upd (upd H t (.tup (MarkS.vs ⟨ru, mode, ptr, rs.length⟩))) lm (.lst (mks ++ [.ref t])) c = some (.tup xs) := fun c xs e => by
    rw [upd_ne (fun z => by rw [z, e3] at e; cases e)]
    exact s1 _ _ e
  refine q (upd (upd H t (.tup (MarkS.vs ⟨ru, mode, ptr, rs.length⟩))) lm (.lst (mks ++ [.ref t]))) ((Kl.of s1).trans (Kl.put (.inr (.inr rfl)))) (fun c e => ?_) ⟨⟨dx, ?_⟩, ⟨as, ?_, t2.keep nt'⟩, ⟨mks ++ [.ref t], upd_same, (t3.keep nt').snoc (t := t) (r := ⟨ru, mode, ptr, rs.length⟩) ?_⟩, ne⟩
  · by_cases z : c = lm
    · rw [z, upd_same] at e
      cases e
    · rw [upd_ne z] at e
      exact s1.free e
  · rw [upd_ne alm]
    exact s1 _ _ e1
  · rw [upd_ne ne]
    exact s1 _ _ e2
  · rw [upd_ne nlm]
    exact et
end
end LT
namespace LT
open PySem L2
/-! ### any value as a round, and as a row of rounds -/
def belowV (n : Int) : V → Bool
  | .int k => decide (0 ≤ k) && decide (k < n)
  | _ => false
def isIV : V → Bool
  | .int _ => true
  | _ => false
def intsOf : List V → List Int
  | [] => []
  | .int k :: vs => k :: intsOf vs
  | _ :: vs => intsOf vs
def roundB (n : Int) (xs : List V) : Bool := xs.all (belowV n) && decide (intsOf xs).Nodup
theorem below_int {n : Int} {v : V} (h : belowV n v = true) : ∃ k, v = .int k ∧ (decide (0 ≤ k) && decide (k < n)) = true := by
  cases v with
  | int k => exact ⟨k, rfl, h⟩
  | _ => cases h
theorem ints_all {n : Int} : ∀ {xs : List V}, xs.all (belowV n) = true → xs = (intsOf xs).map V.int ∧ ((intsOf xs).all fun k => decide (0 ≤ k) && decide (k < n)) = true
  | [], _ => ⟨rfl, rfl⟩
  | v :: xs, h => by
    have h2 : (belowV n v && xs.all (belowV n)) = true := h
    rw [Bool.and_eq_true] at h2
    obtain ⟨k, rfl, e⟩ := below_int h2.1
    obtain ⟨a, b⟩ := ints_all h2.2
    refine ⟨congrArg (V.int k :: ·) a, ?_⟩
    show ((decide (0 ≤ k) && decide (k < n)) && (intsOf xs).all fun k => decide (0 ≤ k) && decide (k < n)) = true
    rw [e, b]
    rfl
theorem ints_good {n : Int} {xs : List V} (h : xs.all (belowV n) = true) : goodRound n (intsOf xs) = decide (intsOf xs).Nodup := by
  unfold goodRound
  rw [(ints_all h).2, Bool.true_and]
/-- what isinstance tells of a thing -/
def IntT (K : PySem.W.Frag) (H : Hp) (v : V) : Prop := ∃ (t : Value) (bi bb : Bool), (∀ J, L3.Ex H J → TyX K J v t) ∧ PySem.W.kitOne K t (.type "int") = some bi ∧ PySem.W.kitOne K t (.type "bool") = some bb ∧ (bi && !bb) = isIV v
theorem IntT.monoX {K : PySem.W.Frag} {H J : Hp} {v : V} (s : L3.Ex H J) (h : IntT K H v) : IntT K J v := by
  obtain ⟨t, bi, bb, ty, k⟩ := h
  exact ⟨t, bi, bb, fun L l => ty L (s.trans l), k⟩
/-- whether a value is a round of n -/
def RndW (K : PySem.W.Frag) (H : Hp) (x : V) (n : Int) (b : Bool) : Prop :=
  (b = false ∧ ∃ t, (∀ J, L3.Ex H J → TyX K J x t) ∧ PySem.W.kitAny K t [.type "list", .type "tuple"] = some false) ∨
  (∃ (a : Addr) (xs : List V), x = .ref a ∧ Sq K H a xs ∧ xs.length ≤ 1000 ∧ (∀ v ∈ xs, IntT K H v) ∧ b = roundB n xs)
theorem RndW.monoX {K : PySem.W.Frag} {H J : Hp} {x : V} {n : Int} {b : Bool} (s : L3.Ex H J) (h : RndW K H x n b) : RndW K J x n b := by
  rcases h with ⟨e, t, ty, k⟩ | ⟨a, xs, e, sq, l, h, r⟩
  · exact .inl ⟨e, t, fun L l => ty L (s.trans l), k⟩
  · exact .inr ⟨a, xs, e, sq.monoX s, l, fun v hv => (h v hv).monoX s, r⟩
theorem RndW.mono {K : PySem.W.Frag} {H J : Hp} {x : V} {n : Int} {b : Bool} (s : Same H J) (h : RndW K H x n b) : RndW K J x n b := h.monoX (L3.exOf s)
def spIsRoundX (K : PySem.W.Frag) : Sp := fun vs H Q _ => ∃ (x : V) (n : Int) (b : Bool), vs = [x, .int n] ∧ RndW K H x n b ∧ ∀ J, Same H J → Q (.bl b) J
def badAt : List Bool → Option Nat
  | [] => none
  | false :: _ => some 0
  | true :: bs => (badAt bs).map (· + 1)
theorem badAt_none : ∀ {bs : List Bool}, badAt bs = none → ∀ {i : Nat} {b : Bool}, bs[i]? = some b → b = true
  | [], _, _, _, e => nomatch e
  | false :: _, h, _, _, _ => nomatch h
  | true :: bs, h, 0, b, e => by
    cases e
    rfl
  | true :: bs, h, i + 1, b, e => by
    have h2 : badAt bs = none := by
      cases q : badAt bs with
      | none => rfl
      | some k =>
        have h3 : (badAt bs).map (· + 1) = none := h
        rw [q] at h3
        cases h3
    exact badAt_none h2 (i := i) e
theorem badAt_some : ∀ {bs : List Bool} {k : Nat}, badAt bs = some k → bs[k]? = some false ∧ ∀ j, j < k → bs[j]? = some true
  | [], _, h => nomatch h
  | false :: _, k, h => by
    cases h
    exact ⟨rfl, fun j hj => nomatch hj⟩
  | true :: bs, k, h => by
    have h3 : (badAt bs).map (· + 1) = some k := h
    cases q : badAt bs with
    | none =>
      rw [q] at h3
      cases h3
    | some m =>
      rw [q] at h3
      obtain rfl : k = m + 1 := (Option.some.inj h3).symm
      obtain ⟨a, b⟩ := badAt_some q
      refine ⟨a, fun j hj => ?_⟩
      match j, hj with
      | 0, _ => rfl
      | j + 1, hj => exact b j (by omega)
/-- what is handed as rounds: no sequence, or for each thing whether it is a round -/
def RndsW (K : PySem.W.Frag) (H : Hp) (v : V) (n : Int) : Option (List Bool) → Prop
  | none => ∃ t, (∀ J, L3.Ex H J → TyX K J v t) ∧ PySem.W.kitAny K t [.type "list", .type "tuple"] = some false
  | some bs => ∃ (a : Addr) (xs : List V), v = .ref a ∧ Sq K H a xs ∧ xs.length = bs.length ∧ xs.length ≤ 900 ∧ ∀ (i : Nat) (x : V), xs[i]? = some x → ∃ b, bs[i]? = some b ∧ RndW K H x n b
theorem RndsW.monoX {K : PySem.W.Frag} {H J : Hp} {v : V} {n : Int} {o : Option (List Bool)} (s : L3.Ex H J) (h : RndsW K H v n o) : RndsW K J v n o := by
  cases o with
  | none =>
    obtain ⟨t, ty, k⟩ := h
    exact ⟨t, fun L l => ty L (s.trans l), k⟩
  | some bs =>
    obtain ⟨a, xs, rfl, sq, l1, l2, e⟩ := h
    refine ⟨a, xs, rfl, sq.monoX s, l1, l2, fun i x q => ?_⟩
    obtain ⟨b, e1, e2⟩ := e i x q
    exact ⟨b, e1, e2.monoX s⟩
theorem RndsW.mono {K : PySem.W.Frag} {H J : Hp} {v : V} {n : Int} {o : Option (List Bool)} (s : Same H J) (h : RndsW K H v n o) : RndsW K J v n o := h.monoX (L3.exOf s)
/-- the number that is told -/
def badOf : Option (List Bool) → Option Nat
  | none => some 0
  | some bs => badAt bs
theorem rnd_good {K : PySem.W.Frag} {H : Hp} {x : V} {n : Int} (h : RndW K H x n true) : ∃ (a : Addr) (ns : List Int), x = .ref a ∧ (SqL K H a (ns.map V.int) ∨ SqT K H a (ns.map V.int)) ∧ ns.length ≤ 1000 ∧ goodRound n ns = true := by
  rcases h with ⟨e, _⟩ | ⟨a, xs, e, sq, l, _, r⟩
  · cases e
  · have r' := r.symm
    unfold roundB at r'
    rw [Bool.and_eq_true] at r'
    have ei := (ints_all r'.1).1
    refine ⟨a, intsOf xs, e, ?_, ?_, ?_⟩
    · rw [← ei]
      exact sq
    · have := congrArg List.length ei
      rw [List.length_map] at this
      omega
    · rw [ints_good r'.1]
      exact r'.2
theorem rnds_good {K : PySem.W.Frag} {H : Hp} {n : Int} : ∀ {xs : List V}, (∀ (i : Nat) (x : V), xs[i]? = some x → RndW K H x n true) → ∃ rs, RoundsAt K n H xs rs
  | [], _ => ⟨[], rfl, fun i x e => nomatch e⟩
  | x :: xs, h => by
    obtain ⟨rs, l, hr⟩ := rnds_good (xs := xs) fun i y e => h (i + 1) y e
    obtain ⟨a, ns, e, sq, len, g⟩ := rnd_good (h 0 x rfl)
    refine ⟨ns :: rs, by rw [List.length_cons, List.length_cons, l], fun i y q => ?_⟩
    match i, q with
    | 0, q =>
      cases q
      exact ⟨a, ns, e, rfl, sq, len, g⟩
    | i + 1, q => exact hr i y q
section
variable {P : Program} {w : World} {K : PySem.W.Frag} {mg : Str → Option Value} {base : Heap}
theorem scErrN : FnScope ["self", "at"] ["self", "at"] (defScope sRoundErrI) := ⟨rfl, rfl, rfl, by decide +kernel, rfl, by decide +kernel, by decide +kernel⟩
theorem ok_errRound {C f : Addr} {fd : FuncData} {q : Str} (F : Fun K "__init__" q sRoundErrI f fd) (T : OexC K C) (no : PySem.W.findIn K (.ref C) "at" = some none) : FnOk P w K mg base CX0 1 f fd ["self", "at"] (spErrA C "at") := by
  refine F.ok scErrN (fun vs H Q E h => ?_) (fun cdv A outer s H vs Q E hr h => ?_)
  · obtain ⟨a, v, rfl, _⟩ := h
    rfl
  obtain ⟨a, v, rfl, ha, q⟩ := h
  refine ⟨_, pss_one (ps_ost (pv 0) (pv 1)), ?_⟩
  exact ⟨_, rfl, _, rfl, a, C, rfl, T, no, .inl ⟨ha, q⟩⟩
theorem ok_isroundX {f g h : Addr} {fd gd hd : FuncData} (F : Fun K "is_round" "is_round" sIsRound f fd) (Z : Blt4 mg) (T : Blt mg) (zAll : mg "all" = none)
    (Gs : FnOk P w K mg base CX0 1 g gd ["value"] (spSeq K)) (bS : Binds K gd ["value"] []) (kS : PySem.W.keepIn K (.ref g) = true) (mS : mg "is_sequence" = some (.ref g))
    (Gb : FnOk P w K mg base CX0 2 h hd ["value", "bound"] (spBelow K)) (bB : Binds K hd ["value", "bound"] []) (kB : PySem.W.keepIn K (.ref h) = true) (mB : mg "is_below" = some (.ref h)) :
    FnOk P w K mg base CX0 3 f fd ["value", "askers"] (spIsRoundX K) := by
  refine F.ok scIsRound (fun vs H Q E h => ?_) (fun cdv A outer s H vs Q E hr h => ?_)
  · obtain ⟨x, n, b, rfl, _⟩ := h
    rfl
  obtain ⟨x, n, b, rfl, hw, q⟩ := h
  have hr2 : Room 2 _ := hr
  have hr1 : Room 1 _ := hr2.mono (by decide)
  refine ⟨_, (pss_cons (ps_if (PW.pt (pw_or (pt_not (pt_val (pe_call Gs hr1 (by rfl) mS kS bS .nil pass0 (pa_cons (pv 0) pa_nil)))) (pw_or1 (pt_not (pt_val (pe_callB (cr_all rfl) (by rfl) zAll (by decide +kernel)
        (pa_cons (pe_lc (own := [("asker", 2)]) (g := gName 2) (tt := tYes) (by rfl) scIsRound.nd (L2.pi_seq (pv 0)) (blkOk_by (N := nIsRound) (sc := defScope sIsRound) (own := [("asker", 2)]) (by decide +kernel)) (fun _ _ _ _ _ => pg_name (i := 2) scIsRound.nd rfl (Or.inl rfl)) (fun _ _ _ _ _ => pts_nil)
          (fun _ _ _ _ _ => pe_call Gb hr2 (by rfl) mB kB bB .nil pass0 (pa_cons (pv 2) (pa_cons (pv 1) pa_nil)))) pa_nil)))))))
      (pss_one (ps_ret pe_bl)) pss_nil)
    (pss_one (ps_ret (pe_cmpR op_eq (pe_callB L2.cr_lenSet (by rfl) T.len PySem.boot_len (pa_cons (pe_callTy (cr_setI rfl) (by rfl) Z.set (by decide +kernel) (pa_cons (pv 0) pa_nil)) pa_nil)) (pe_callB call_len_seq (by rfl) T.len PySem.boot_len (pa_cons (pv 0) pa_nil)) (nomark _))))), ?_⟩
  rcases hw with ⟨rfl, t, ty, ka⟩ | ⟨a, xs, rfl, hq, hz, hi, rfl⟩
  · exact ⟨_, rfl, x, t, false, rfl, (fun J s => ty J (L3.exOf s)), ka, fun J s0 => ⟨false, rfl, iteT (q J s0)⟩⟩
  obtain ⟨t, ty, kS'⟩ : ∃ t, (∀ J, Same H J → TyX K J (.ref a) t) ∧ PySem.W.kitAny K t [.type "list", .type "tuple"] = some true := by
    rcases hq with ha | ha
    · exact ⟨_, fun J s => tyx_seqL (s.seq ha), kit_list_seq⟩
    · exact ⟨_, fun J s => tyx_seqT (SqT.ext ha s), kit_tuple_seq⟩
  refine ⟨_, rfl, .ref a, t, true, rfl, ty, kS', fun J s0 => ⟨true, rfl, iteF ?_⟩⟩
  refine ⟨_, rfl, a, rfl, lc_seq (K := K) (a := a) (xs := xs) (hq.mono s0) (fun D i M => Same J M ∧ M D = some (.lst (((xs.map (belowV n)).take i).map V.bl))) (fun D hD => ⟨new_same hD _, upd_same⟩)
    (fun D i M _ ⟨z, _⟩ => same_both z) (fun D hD i v M hv ⟨z, e⟩ => ?_) (fun D hD M ⟨z, e⟩ => ?_)⟩
  · have hlt : i < xs.length := (List.getElem?_eq_some_iff.mp hv).1
    obtain ⟨tv, bi, bb, tyv, k1, k2, k3⟩ := hi v (List.mem_of_getElem? hv)
    have fin : ∀ M2, Same M M2 → ∃ acc, M2 D = some (.lst acc) ∧ acc.length < sizeLine ∧ Same J (upd M2 D (.lst (acc ++ [V.bl (belowV n v)]))) ∧ upd M2 D (.lst (acc ++ [V.bl (belowV n v)])) D = some (.lst (((xs.map (belowV n)).take (i + 1)).map V.bl)) := fun M2 s2 => by
      refine ⟨_, s2 _ _ e, ?_, fun c o h => ?_, ?_⟩
      · rw [List.length_map, List.length_take, List.length_map]
        exact small1000 (by omega)
      · rw [upd_ne (fun q => by rw [q, hD] at h; cases h)]
        exact s2 c o (z c o h)
      · have hb2 : (xs.map (belowV n))[i]? = some (belowV n v) := by rw [List.getElem?_map, hv]; rfl
        rw [upd_same, List.take_add_one, hb2, List.map_append]
        rfl
    refine ⟨rfl, _, rfl, _, rfl, v, tv, bi, bb, n, rfl, fun M2 s2 => tyv M2 (L3.exOf ((s0.trans z).trans s2)), k1, k2, fun M2 s2 => ⟨fun e0 => ?_, fun e1 => ?_⟩⟩
    · have f := fin M2 s2
      have eb : belowV n v = false := by
        rw [k3] at e0
        cases v with
        | int k => cases e0
        | _ => rfl
      rw [eb] at f
      exact f
    · rw [k3] at e1
      obtain ⟨k, rfl⟩ : ∃ k, v = .int k := by
        cases v with
        | int k => exact ⟨k, rfl⟩
        | _ => cases e1
      exact ⟨k, rfl, fin M2 s2⟩
  · have sM := s0.trans z
    refine ⟨D, xs.map (belowV n), rfl, SqL.of ?_, ?_⟩
    · rw [e, ← List.length_map (as := xs) (f := belowV n), List.take_length]
    have eall : (xs.map (belowV n)).all id = xs.all (belowV n) := by rw [List.all_map]; rfl
    refine ⟨_, rfl, ?_⟩
    rw [eall]
    cases c : xs.all (belowV n) with
    | false =>
      refine iteT ?_
      have z2 := q _ sM
      unfold roundB at z2
      rw [c, Bool.false_and] at z2
      exact z2
    | true =>
      refine iteF ?_
      have ei := (ints_all c).1
      obtain ⟨ns, ens⟩ : ∃ ns, ns = intsOf xs := ⟨_, rfl⟩
      rw [← ens] at ei
      have hz' : ns.length ≤ 1000 := by
        have := congrArg List.length ei
        rw [List.length_map] at this
        omega
      have q2 : ∀ J, Same H J → Q (.bl (decide ns.Nodup)) J := fun J s => by
        have z2 := q J s
        unfold roundB at z2
        rw [c, Bool.true_and, ← ens] at z2
        exact z2
      have hq' : Sq K H a (ns.map V.int) := by
        rw [← ei]
        exact hq
      have seqJ : ∀ J, Same H J → SqL K J a (ns.map V.int) ∨ SqT K J a (ns.map V.int) := fun J s => Sq.mono s hq'
      refine ⟨_, rfl, a, ns, rfl, seqJ _ sM, hz', fun p m ks np hm k1 k2 k3 => ?_⟩
      have sp := new_same np (SetO w p (fun j => decide (j ∈ ns)) m)
      refine ⟨p, _, m, rfl, upd_same, by omega, _, rfl, a, ns.map V.int, rfl, seqJ _ (sM.trans sp), rfl, ?_⟩
      have z2 := q2 _ (sM.trans sp)
      rw [← len_iff k1 k3, k2] at z2
      rw [List.length_map]
      exact z2
end
theorem seq_tyX {K : PySem.W.Frag} {H : Hp} {a : Addr} {xs : List V} (h : Sq K H a xs) : ∃ t, (∀ J, Same H J → TyX K J (.ref a) t) ∧ PySem.W.kitAny K t [.type "list", .type "tuple"] = some true := by
  rcases h with h | h
  · exact ⟨_, fun J s => tyx_seqL (s.seq h), kit_list_seq⟩
  · exact ⟨_, fun J s => tyx_seqT (SqT.ext h s), kit_tuple_seq⟩
theorem badAt_at : ∀ {bs : List Bool} {i : Nat}, (∀ j, j < i → bs[j]? = some true) → bs[i]? = some false → badAt bs = some i
  | [], _, _, e => nomatch e
  | false :: _, 0, _, _ => rfl
  | false :: _, i + 1, h, _ => nomatch h 0 (by omega)
  | true :: _, 0, _, e => nomatch e
  | true :: bs, i + 1, h, e => by
    show (badAt bs).map (· + 1) = _
    rw [badAt_at (bs := bs) (i := i) (fun j hj => h (j + 1) (by omega)) e]
    rfl
theorem badAt_all : ∀ {bs : List Bool}, (∀ j, j < bs.length → bs[j]? = some true) → badAt bs = none
  | [], _ => rfl
  | false :: _, h => nomatch h 0 (by simp)
  | true :: bs, h => by
    show (badAt bs).map (· + 1) = _
    rw [badAt_all (bs := bs) fun j hj => h (j + 1) (by rw [List.length_cons]; omega)]
    rfl
def spAscX (K : PySem.W.Frag) (CE : Addr) : V → List (Option V) → Hp → VK → XK → Prop := fun v ws H Q E => ∃ (n : Int) (o : Option (List Bool)), ws = [some (.int n)] ∧ RndsW K H v n o ∧
  (∀ i, badOf o = some i → ∀ d J, Same H J → J d = none → E (.ref CE) (some d) (upd J d (.xd [("at", .int (i : Nat))]))) ∧
  (∀ (r : Addr) (xs : List V) (rs : List (List Int)), v = .ref r → (SqL K H r xs ∨ SqT K H r xs) → xs.length ≤ 900 → RoundsAt K n H xs rs → badOf o = none → (∀ bs, o = some bs → xs.length = bs.length) →
    ∀ (D : Addr) (ys : List V) (J : Hp), Same H J → H D = none → J D = some (.lst ys) → SortedAt J ys rs rs.length → Q (.ref D) J)
def spLamRoundX (K : PySem.W.Frag) : List (Option V) → Sp := fun ws vs H Q E => ∃ (x : V) (n : Int), ws = [some (.int n)] ∧ vs = [x] ∧ spIsRoundX K [x, .int n] H Q E
section
variable {P : Program} {w : World} {K : PySem.W.Frag} {mg : Str → Option Value} {base : Heap}
theorem asc_bodyX {A : Around} {outer : List Env} {s : Shared} {H : Hp} {E : XK} {g f : Addr} {cdv : Value} {gs fE CE : Addr} {ds dE : FuncData} {F : NdefX.NF} {lb : Expr} {ws : List (Option V)} {v : V} {Q : VK} (Z : Blt4 mg) (T : Blt mg)
    (Gs : FnOk P w K mg base CX0 1 gs ds ["value"] (spSeq K)) (bS : Binds K ds ["value"] []) (kS : PySem.W.keepIn K (.ref gs) = true) (mS : mg "is_sequence" = some (.ref gs))
    (OX : OexC K CE) (GE : FnOk P w K mg base CX0 1 fE dE ["self", "at"] (spErrA CE "at")) (bE : Binds K dE ["self", "at"] []) (iE : PySem.W.findIn K (.ref CE) "__init__" = some (some (.ref fE))) (tE : PySem.W.typeIn K (.ref fE) = some (.type "function")) (mE : mg "InvalidRound" = some (.ref CE))
    (L : L3.LamFn P w K mg base CX0 4 F lb ["asking"] ["askers"] (spLamRoundX K)) (hr : Room 4 (A.deeper (PyProof.Rows.envOfC "ascending_rounds" (defScope sAscending) s.heap.objs.size g cdv)))
    (GV : L3.Given (cxOf (L2.CX P w) P w K mg base nAscending "ascending_rounds" (defScope sAscending) g cdv A outer s H E) f F lb ["askers"] ws) (hc : H F.c = some (LamX.CodeO F.c F.qual)) (h : spAscX K CE v ws H Q E) :
    ∃ t, PSs (cxOf (L2.CX P w) P w K mg base nAscending "ascending_rounds" (defScope sAscending) g cdv A outer s H E) (defBody sAscending) t ∧ t { nx := fun _ H' => Q .non H', rt := Q } (L2.start nAscending [v, .ref f]) H := by
  obtain ⟨n, o, rfl, hw, kE, kQ⟩ := h
  have hr1 : Room 1 _ := hr.mono (by decide)
  have hr2 : Room 2 _ := hr.mono (by decide)
  refine ⟨_, pss_cons (ps_if (pt_not (pt_val (pe_call Gs hr1 (by rfl) mS kS bS .nil pass0 (pa_cons (pv 0) pa_nil)))) (pss_one (ps_raise rfl (takes_of rfl rfl rfl rfl) (pmk_oex OX iE tE GE hr2 bE .nil pass0 rfl mE (pa_cons pe_int pa_nil)))) pss_nil)
    (pss_cons (ps_for PassesOwn.leaving rfl (L2.pi_enumA (by rfl) Z.enumerate (pa_cons (pv 0) pa_nil)) (pg_tup rfl (pgs_cons (pg_name (i := 2) scAscending.nd rfl (Or.inl rfl)) (pgs_cons (pg_name (i := 3) scAscending.nd rfl (Or.inl rfl)) pgs_nil)))
      (pss_one (ps_if (pt_not (pt_val (L3.pe_given (i := 1) GV L hr pass0 (by rfl) (Or.inl rfl) (pa_cons (pv 3) pa_nil)))) (pss_one (ps_raise rfl (takes_of rfl rfl rfl rfl) (pmk_oex OX iE tE GE hr2 bE .nil pass0 rfl mE (pa_cons (pv 2) pa_nil)))) pss_nil)))
    (pss_one (ps_ret (pe_lc (own := [("asking", 3)]) (g := gName 3) (tt := tYes) (by rfl) scAscending.nd (L2.pi_seq (pv 0)) (blkOk_by (N := nAscending) (sc := defScope sAscending) (own := [("asking", 3)]) (by decide +kernel)) (fun _ _ _ _ _ => pg_name (i := 3) scAscending.nd rfl (Or.inl rfl)) (fun _ _ _ _ _ => pts_nil)
      (fun _ _ _ _ _ => pe_callTy (r := rTupOf K) call_tuple_of (by rfl) T.tuple (by decide +kernel) (pa_cons (pe_callB (r := rSortedA K) cr_sortedA (by rfl) Z.sorted (by decide +kernel) (pa_cons (pv 3) pa_nil)) pa_nil)))))), ?_⟩
  cases o with
  | none =>
    obtain ⟨t, ty, ka⟩ := hw
    exact ⟨_, rfl, v, t, false, rfl, (fun J s => ty J (L3.exOf s)), ka, fun J s => ⟨false, rfl, iteT (raise_okA (fun _ _ q => q) fun d hd => kE 0 rfl d J s hd)⟩⟩
  | some bs =>
  obtain ⟨r, xs, rfl, hq0, l1, l9, tx⟩ := hw
  obtain ⟨t, ty, kS'⟩ := seq_tyX hq0
  refine ⟨_, rfl, .ref r, t, true, rfl, ty, kS', fun J s0 => ⟨true, rfl, iteF ?_⟩⟩
  let Pv : Nat → L2.St → Hp → Prop := fun i σ J => ∃ v2 v3, σ = [some (.ref r), some (.ref f), v2, v3] ∧ Same H J ∧ ∀ j, j < i → bs[j]? = some true
  have next : ∀ {rs : List (List Int)} (_ : RoundsAt K n H xs rs) {D : Addr} {i : Nat} {x : V} {M : Hp} {ys : List V} {J1 : Hp}, Same H J1 → J1 D = none → xs[i]? = some x → M D = some (.lst ys) → Same J1 M → SortedAt M ys rs i →
      ∃ (a : Addr) (ns : List Int), x = .ref a ∧ (SqL K M a (ns.map V.int) ∨ SqT K M a (ns.map V.int)) ∧ ∀ (out : List Int) (p u : Addr), out.Perm ns → out.Pairwise (· ≤ ·) → M p = none → (upd M p (.lst (out.map V.int))) u = none →
        ∃ acc, (upd (upd M p (.lst (out.map V.int))) u (.tup (out.map V.int))) D = some (.lst acc) ∧ acc.length < sizeLine ∧ ∃ ys', (upd (upd (upd M p (.lst (out.map V.int))) u (.tup (out.map V.int))) D (.lst (acc ++ [.ref u]))) D = some (.lst ys') ∧
          Same J1 (upd (upd (upd M p (.lst (out.map V.int))) u (.tup (out.map V.int))) D (.lst (acc ++ [.ref u]))) ∧ SortedAt (upd (upd (upd M p (.lst (out.map V.int))) u (.tup (out.map V.int))) D (.lst (acc ++ [.ref u]))) ys' rs (i + 1) := by
    intro rs hR D i x M ys J1 s1 hD hx m1 m2 m3
    obtain ⟨a, ns, rfl, er, hs, hz2, hg⟩ := hR.2 i x hx
    have sM := s1.trans m2
    refine ⟨a, ns, rfl, hs.elim (fun z => .inl (sM.seq z)) (fun z => .inr (SqT.ext z sM)), fun out p u pm pw np nu => ?_⟩
    have s3 := (new_same np (.lst (out.map V.int))).trans (new_same nu (.tup (out.map V.int)))
    have hu : upd (upd M p (.lst (out.map V.int))) u (.tup (out.map V.int)) u = some (.tup (out.map V.int)) := upd_same
    have uD : u ≠ D := fun z => by
      have w := new_same np (.lst (out.map V.int)) _ _ m1
      rw [← z, nu] at w
      cases w
    generalize upd (upd M p (.lst (out.map V.int))) u (.tup (out.map V.int)) = L at s3 hu ⊢
    have hi : i < xs.length := (List.getElem?_eq_some_iff.mp hx).1
    refine ⟨ys, s3 _ _ m1, by rw [m3.1]; exact small1000 (by omega), ys ++ [.ref u], upd_same, fun c o e => ?_, ?_⟩
    · rw [upd_ne (ne_of_none e hD)]
      exact s3 _ _ (m2 _ _ e)
    · refine ⟨by rw [List.length_append, m3.1]; rfl, fun j y e => ?_⟩
      have keep : ∀ c ts, M c = some (HO.tup ts) → upd L D (.lst (ys ++ [.ref u])) c = some (.tup ts) := fun c ts e => by
        have nc : c ≠ D := fun z => by rw [z, m1] at e; cases e
        rw [upd_ne nc]
        exact s3 _ _ e
      rcases get_snoc e with e9 | ⟨e9, rfl⟩
      · obtain ⟨p', out', ns', e1, e2, e3, e4, e5⟩ := m3.2 j y e9
        exact ⟨p', out', ns', e1, keep _ _ e2, e3, e4, e5⟩
      · exact ⟨u, out, ns, rfl, by rw [upd_ne uD]; exact hu, by rw [e9, m3.1]; exact er, pm, pw⟩
  refine ⟨_, rfl, r, xs, rfl, ?_⟩
  have hq0' := hq0
  rcases hq0' with hq | hq
  · refine .inl ⟨s0.seq hq, for_it (walk_enum (K := K) (a := r) (xs := xs)) Pv ⟨none, none, rfl, s0, (fun _ z => nomatch z)⟩ (fun i σ J _ ⟨_, _, _, z, _⟩ => z.seq hq) ?_ ?_⟩
    · rintro i x σ J1 J2 hi ⟨v2, v3, rfl, s1, pre⟩ ⟨W, x1, e, rfl, nW, rfl, ex1, ee⟩
      cases ex1
      obtain ⟨bb, eb, hwb⟩ := tx i e ee
      have s2 := s1.trans (new_same nW (.tup [V.int (i : Nat), e]))
      refine ⟨W, _, rfl, SqT.of upd_same, rfl, _, _, rfl, _, _, rfl, rfl, ?_⟩
      refine ⟨rfl, _, rfl, s2 _ _ hc, e, n, rfl, rfl, e, n, bb, rfl, hwb.mono s2, fun J3 s3 => ⟨bb, rfl, ?_⟩⟩
      cases bb with
      | false => exact iteT (raise_okA (fun _ _ q => ⟨_, rfl, q⟩) fun d hd => kE i (badAt_at pre eb) d J3 (s2.trans s3) hd)
      | true => exact iteF ⟨_, _, rfl, s2.trans s3, fun j hj => by
          by_cases c : j = i
          · rw [c]
            exact eb
          · exact pre j (by omega)⟩
    · rintro σ J1 ⟨v2, v3, rfl, s1, pre⟩
      have all : badAt bs = none := badAt_all fun j hj => pre j (by omega)
      obtain ⟨rs, hR⟩ := rnds_good (K := K) (H := H) (n := n) (xs := xs) fun i x e => by
        obtain ⟨bb, eb, hwb⟩ := tx i x e
        rw [badAt_none all eb] at hwb
        exact hwb
      have q := kQ r xs rs rfl hq0 (by omega) hR all (fun bs' e => by cases e; exact l1)
      refine ⟨_, rfl, r, rfl, .inl ⟨⟨_, s1.seq hq⟩, fun D hD => lc_it (walk_list (K := K) (a := r) (xs := xs)) (fun i M => ∃ ys : List V, M D = some (.lst ys) ∧ Same J1 M ∧ SortedAt M ys rs i) ⟨[], upd_same, new_same hD _, rfl, fun i y e => nomatch e⟩ (fun i M _ ⟨_, _, z, _⟩ => (s1.trans z).seq hq) ?_ (fun M ⟨ys, m1, m2, m3⟩ => q D ys M (s1.trans m2) (s1.free hD) m1 (by rw [← hR.1]; exact m3))⟩⟩
      rintro i x M M' hi ⟨ys, m1, m2, m3⟩ ⟨rfl, hx⟩
      obtain ⟨a, ns, rfl, sq, go⟩ := next hR s1 hD hx m1 m2 m3
      exact ⟨rfl, _, rfl, a, ns, rfl, sq, fun out p pm pw np => ⟨p, _, rfl, .inl ⟨SqL.of upd_same, fun u nu => go out p u pm pw np nu⟩⟩⟩
  · refine .inr ⟨SqT.ext hq s0, for_it (walk_enumT (K := K) (a := r) (xs := xs)) Pv ⟨none, none, rfl, s0, (fun _ z => nomatch z)⟩ (fun i σ J _ ⟨_, _, _, z, _⟩ => SqT.ext hq z) ?_ ?_⟩
    · rintro i x σ J1 J2 hi ⟨v2, v3, rfl, s1, pre⟩ ⟨W, x1, e, rfl, nW, rfl, ex1, ee⟩
      cases ex1
      obtain ⟨bb, eb, hwb⟩ := tx i e ee
      have s2 := s1.trans (new_same nW (.tup [V.int (i : Nat), e]))
      refine ⟨W, _, rfl, SqT.of upd_same, rfl, _, _, rfl, _, _, rfl, rfl, ?_⟩
      refine ⟨rfl, _, rfl, s2 _ _ hc, e, n, rfl, rfl, e, n, bb, rfl, hwb.mono s2, fun J3 s3 => ⟨bb, rfl, ?_⟩⟩
      cases bb with
      | false => exact iteT (raise_okA (fun _ _ q => ⟨_, rfl, q⟩) fun d hd => kE i (badAt_at pre eb) d J3 (s2.trans s3) hd)
      | true => exact iteF ⟨_, _, rfl, s2.trans s3, fun j hj => by
          by_cases c : j = i
          · rw [c]
            exact eb
          · exact pre j (by omega)⟩
    · rintro σ J1 ⟨v2, v3, rfl, s1, pre⟩
      have all : badAt bs = none := badAt_all fun j hj => pre j (by omega)
      obtain ⟨rs, hR⟩ := rnds_good (K := K) (H := H) (n := n) (xs := xs) fun i x e => by
        obtain ⟨bb, eb, hwb⟩ := tx i x e
        rw [badAt_none all eb] at hwb
        exact hwb
      have q := kQ r xs rs rfl hq0 (by omega) hR all (fun bs' e => by cases e; exact l1)
      refine ⟨_, rfl, r, rfl, .inr ⟨⟨_, SqT.ext hq s1⟩, fun D hD => lc_it (walk_tup (K := K) (a := r) (xs := xs)) (fun i M => ∃ ys : List V, M D = some (.lst ys) ∧ Same J1 M ∧ SortedAt M ys rs i) ⟨[], upd_same, new_same hD _, rfl, fun i y e => nomatch e⟩ (fun i M _ ⟨_, _, z, _⟩ => SqT.ext hq (s1.trans z)) ?_ (fun M ⟨ys, m1, m2, m3⟩ => q D ys M (s1.trans m2) (s1.free hD) m1 (by rw [← hR.1]; exact m3))⟩⟩
      rintro i x M M' hi ⟨ys, m1, m2, m3⟩ ⟨rfl, hx⟩
      obtain ⟨a, ns, rfl, sq, go⟩ := next hR s1 hD hx m1 m2 m3
      exact ⟨rfl, _, rfl, a, ns, rfl, sq, fun out p pm pw np => ⟨p, _, rfl, .inl ⟨SqL.of upd_same, fun u nu => go out p u pm pw np nu⟩⟩⟩
end
end LT
namespace LT
open PySem L2
theorem Kl.seqs {K : PySem.W.Frag} {a la lm q : Addr} {H J : Hp} {xs : List V} (k : Kl a la lm H J) (n : q ≠ a ∧ q ≠ la ∧ q ≠ lm) (h : SqL K H q xs ∨ SqT K H q xs) : SqL K J q xs ∨ SqT K J q xs := by
  rcases h with ((h | ⟨o, h⟩) | h) | ((h | ⟨o, h⟩) | h)
  · exact .inl (.inl (.inl (k _ _ n.1 n.2.1 n.2.2 h)))
  · exact .inl (.inl (.inr ⟨o, k _ _ n.1 n.2.1 n.2.2 h⟩))
  · exact .inl (.inr h)
  · exact .inr (.inl (.inl (k _ _ n.1 n.2.1 n.2.2 h)))
  · exact .inr (.inl (.inr ⟨o, k _ _ n.1 n.2.1 n.2.2 h⟩))
  · exact .inr (.inr h)
theorem LineAt.rule_ne {K : PySem.W.Frag} {CL C CR : Addr} {J : Hp} {a la lm ru x : Addr} {n : Int} {mode first : Str} {ptr : Option Int} {rs : List (List Int)} {ms : List MarkS} {rows : List Row5} (h : LineAt CL J a la lm ru n mode ptr rs ms) (r : RuleAt K C CR J x first rows) (d : CL ≠ CR) : x ≠ a ∧ x ≠ la ∧ x ≠ lm := by
  obtain ⟨dr, tp, tm, xs, zs, h1, -⟩ := r.ex
  exact h.off h1 (fun _ z => nomatch z) (fun _ _ z => d (by injection z with z1; exact z1.symm))
/-- a rule is kept by what changes a line alone -/
theorem RuleAt.kl {K : PySem.W.Frag} {CL C CR : Addr} {J L : Hp} {a la lm ru x : Addr} {n : Int} {mode first : Str} {ptr : Option Int} {rs : List (List Int)} {ms : List MarkS} {rows : List Row5} (r : RuleAt K C CR J x first rows) (h : LineAt CL J a la lm ru n mode ptr rs ms) (k : Kl a la lm J L) (d1 : CL ≠ CR) (d2 : CL ≠ C) : RuleAt K C CR L x first rows := by
  obtain ⟨⟨dx, tp, tm, xs, zs, h1, h2, h3, h4, h5⟩, h6, h7⟩ := r
  have nT : ∀ {c : Addr} {ys : List V}, J c = some (.tup ys) → L c = some (.tup ys) := fun {c ys} e => k.tup h c ys e
  refine ⟨⟨dx, tp, tm, xs, zs, ?_, ?_, ⟨h3.1, fun i v e => ?_⟩, nT h4, h5⟩, h6, h7⟩
  · have y := h.off h1 (fun _ z => nomatch z) (fun _ _ z => d1 (by injection z with z1; exact z1.symm))
    exact k _ _ y.1 y.2.1 y.2.2 h1
  · rcases h2 with (h2 | ⟨o, h2⟩) | h2
    · exact .inl (.inl (nT h2))
    · have y := h.off h2 (fun _ z => nomatch z) (fun _ _ z => nomatch z)
      exact .inl (.inr ⟨o, k _ _ y.1 y.2.1 y.2.2 h2⟩)
    · exact .inr h2
  · obtain ⟨b, r, e1, e2, ⟨dy, e3⟩, g⟩ := h3.2 i v e
    have y := h.off e3 (fun _ z => nomatch z) (fun _ _ z => d2 (by injection z with z1; exact z1.symm))
    exact ⟨b, r, e1, e2, ⟨dy, k _ _ y.1 y.2.1 y.2.2 e3⟩, g⟩
theorem raise_okB {CE : Addr} {H : Hp} {E : XK} {x : Str} {v : V} {σ : L2.St} {t : TE} (ht : ∀ Q : VK, Q v H → t σ H Q) (kE : ∀ d, H d = none → E (.ref CE) (some d) (upd H d (.xd [(x, v)]))) :
    tMkO CE (spErrA CE x) [] (tCons t tNil) σ H (fun cls d H' => E cls d H') := by
  refine ht _ ⟨(by show 1 ≤ 1000; decide), fun a ha => ⟨a, v, rfl, upd_same, fun dx n ne => ?_⟩⟩
  have hd : H dx = none := by
    rw [upd_ne ne] at n
    exact n
  refine ⟨rfl, dx, [(x, v)], upd_same, by rw [upd_ne ne]; exact upd_same, hd, ?_⟩
  rw [del_word ha]
  exact kE dx hd
def spLGrant (K : PySem.W.Frag) (C CR CL : Addr) : Sp := fun vs H Q _ => ∃ (a la lm ru q : Addr) (n : Int) (mode first : Str) (ptr : Option Int) (rs : List (List Int)) (ms : List MarkS) (rows : List Row5) (ns : List Int), vs = [.ref a, .ref q] ∧ LineAt CL H a la lm ru n mode ptr rs ms ∧ RuleAt K C CR H ru first rows ∧
  (SqL K H q (ns.map V.int) ∨ SqT K H q (ns.map V.int)) ∧ rs.length ≤ 900 ∧
  ∀ (out asked : List Int) (g : Addr) (J : Hp), asked.Perm ns → asked.Pairwise (· ≤ ·) → out.Pairwise (· < ·) → (∀ k, k ∈ out ↔ k ∈ endGrants rows mode ptr asked) → Kl a la lm H J → (∀ c, J c = none → H c = none) →
    LineAt CL J a la lm ru n (endMode rows mode ptr asked) (endPtr rows mode ptr asked) (rs ++ [asked]) ms → H g = none → J g = some (.tup (out.map V.int)) → Q (.ref g) J
def spLAsk (K : PySem.W.Frag) (C CR CL CE : Addr) (self : Bool) : Sp := fun vs H Q E => ∃ (a la lm ru : Addr) (x : V) (b : Bool) (n : Int) (mode first : Str) (ptr : Option Int) (rs : List (List Int)) (ms : List MarkS) (rows : List Row5), vs = [.ref a, x] ∧ LineAt CL H a la lm ru n mode ptr rs ms ∧ RuleAt K C CR H ru first rows ∧
  RndW K H x n b ∧ (∀ q, x = .ref q → q ≠ a ∧ q ≠ la ∧ q ≠ lm) ∧ rs.length ≤ 900 ∧ ms.length ≤ 900 ∧
  (b = false → ∀ d J, Same H J → J d = none → E (.ref CE) (some d) (upd J d (.xd [("at", .int (rs.length : Nat))]))) ∧
  (b = true → ∃ (q : Addr) (ns : List Int), x = .ref q ∧ (SqL K H q (ns.map V.int) ∨ SqT K H q (ns.map V.int)) ∧ goodRound n ns = true ∧ ∀ (out asked : List Int) (g : Addr) (J : Hp), asked.Perm ns → asked.Pairwise (· ≤ ·) → out.Pairwise (· < ·) → (∀ k, k ∈ out ↔ k ∈ endGrants rows mode ptr asked) → Kl a la lm H J → (∀ c, J c = none → H c = none) →
    LineAt CL J a la lm ru n (endMode rows mode ptr asked) (endPtr rows mode ptr asked) (rs ++ [asked]) (ms ++ [⟨ru, mode, ptr, rs.length⟩]) → H g = none → J g = some (.tup (out.map V.int)) → Q (.ref (if self then a else g)) J)
abbrev nLGrant : List Str := ["self", "asking", "asked", "granted", "_"]
section
variable {P : Program} {w : World} {K : PySem.W.Frag} {mg : Str → Option Value} {base : Heap}
theorem scLGrant : FnScope nLGrant ["self", "asking"] (defScope sLineGranted) := ⟨rfl, rfl, rfl, by decide +kernel, rfl, by decide +kernel, by decide +kernel⟩
theorem scLAsk : FnScope ["self", "asking"] ["self", "asking"] (defScope sLineAsk) := ⟨rfl, rfl, rfl, by decide +kernel, rfl, by decide +kernel, by decide +kernel⟩
theorem scLIadd : FnScope ["self", "other"] ["self", "other"] (defScope sLineIadd) := ⟨rfl, rfl, rfl, by decide +kernel, rfl, by decide +kernel, by decide +kernel⟩
theorem ok_lgrant {C CR CL f fp : Addr} {fd dp : FuncData} (F : Fun K "granted_to" "Line.granted_to" sLineGranted f fd) (T : Blt mg) (Z : Blt4 mg) (LC : LineC K CL)
    (GP : FnOk P w K mg base CX0 3 fp dp ["rule", "mode", "pointer", "asking"] (spPlayRound K C CR)) (bP : Binds K dp ["rule", "mode", "pointer", "asking"] []) (kP : PySem.W.keepIn K (.ref fp) = true) (mP : mg "play_round" = some (.ref fp)) :
    FnOk P w K mg base CX0 4 f fd ["self", "asking"] (spLGrant K C CR CL) := by
  refine F.ok scLGrant (fun vs H Q E h => ?_) (fun cdv A outer s H vs Q E hr h => ?_)
  · obtain ⟨a, la, lm, ru, q, n, mode, first, ptr, rs, ms, rows, ns, rfl, _⟩ := h
    rfl
  obtain ⟨a, la, lm, ru, q0, n, mode, first, ptr, rs, ms, rows, ns, rfl, LA, rat, sq, few, q⟩ := h
  refine ⟨_, (pss_cons (ps_set (i := 2) scLGrant.nd rfl (Or.inl rfl) (pe_callTy (r := rTupOf K) call_tuple_of (by rfl) T.tuple (by decide +kernel) (pa_cons (pe_callB (r := rSortedA K) cr_sortedA (by rfl) Z.sorted (by decide +kernel) (pa_cons (pv 1) pa_nil)) pa_nil)))
    (pss_cons (ps_asg (pe_call GP hr (by rfl) mP kP bP .nil pass0 (pa_cons (pe_fld (pv 0) rfl) (pa_cons (pe_fld (pv 0) rfl) (pa_cons (pe_fld (pv 0) rfl) (pa_cons (pv 2) pa_nil)))))
      (pg_tup rfl (pgs_cons (pg_name (i := 3) scLGrant.nd rfl (Or.inl rfl)) (pgs_cons (pg_name (i := 4) scLGrant.nd rfl (Or.inl rfl)) (pgs_cons (pg_fld (pv 0)) (pgs_cons (pg_fld (pv 0)) pgs_nil))))))
    (pss_cons (ps_expr (pe_bm PySem.F.plainAttrs_list PySem.F.slot_list_append PySem.F.type_list_append mt_append (pe_fld (pv 0) rfl) (pa_cons (pv 2) pa_nil)))
    (pss_one (ps_ret (pv 3)))))), ?_⟩
  refine ⟨_, rfl, q0, ns, rfl, sq, fun asked p pm pw np => ⟨p, _, rfl, .inl ⟨SqL.of upd_same, fun u nu => ?_⟩⟩⟩
  have s1 := (new_same np (.lst (asked.map V.int))).trans (new_same nu (.tup (asked.map V.int)))
  have hu : upd (upd H p (.lst (asked.map V.int))) u (.tup (asked.map V.int)) u = some (.tup (asked.map V.int)) := upd_same
  generalize upd (upd H p (.lst (asked.map V.int))) u (.tup (asked.map V.int)) = J1 at s1 hu ⊢
  have LA1 := LA.mono s1
  have rat1 := rat.mono s1
  obtain ⟨⟨dx, e1⟩, ⟨as, e2, t2⟩, ⟨mks, e3, t3⟩, ne⟩ := LA1
  refine ⟨_, rfl, a, CL, dx, _, _, rfl, e1, LC.cl, LC.n0, lk0, _, rfl, a, CL, dx, _, _, rfl, e1, LC.cl, LC.n2, lk2, _, rfl, a, CL, dx, _, _, rfl, e1, LC.cl, LC.n3, lk3, _, rfl, ru, u, mode, ptr, rows, asked, rfl, rat1.rows, (by have := rat.few; omega), SqT.of hu, fun t g out J2 s2 nt ng et eg pwo mem => ?_⟩
  have e1' := s2 _ _ e1
  have ala : a ≠ la := fun z => by
    rw [z, e2] at e1
    cases e1
  have alm : a ≠ lm := fun z => by
    rw [z, e3] at e1
    cases e1
  refine ⟨t, _, rfl, SqT.of et, rfl, _, _, rfl, _, _, rfl, _, _, rfl, _, rfl, a, CL, dx, _, rfl, e1', LC.cl, LC.n2, (by show 6 < 1000; decide), ?_⟩
  rw [pf2]
  refine ⟨_, _, rfl, _, rfl, a, CL, dx, _, rfl, upd_same, LC.cl, LC.n3, (by show 6 < 1000; decide), rfl, ?_⟩
  rw [pf3, upd_upd]
  simp only [List.set_cons_succ, List.set_cons_zero]
  have e2' := s2 _ _ e2
  have e3' := s2 _ _ e3
  have l2 := t2.1
  refine ⟨_, rfl, a, CL, dx, _, _, rfl, upd_same, LC.cl, LC.n4, lk4, .inl ⟨rfl, as, SqL.of (by rw [upd_ne (Ne.symm ala)]; exact e2')⟩, _, rfl, la, as, _, rfl, rfl, by rw [upd_ne (Ne.symm ala)]; exact e2', small1000 (by omega), _, rfl, ?_⟩
  have tu : ∀ c xs, J2 c = some (.tup xs) → upd (upd J2 a (.ins CL dx (lineFs (.ref ru) (.int n) (.str (endMode rows mode ptr asked)) (ptrV (endPtr rows mode ptr asked)) (.ref la) (.ref lm)))) la (.lst (as ++ [.ref u])) c = some (.tup xs) := fun c xs e => by
    rw [upd_ne (fun z => by rw [z, e2'] at e; cases e), upd_ne (fun z => by rw [z, e1'] at e; cases e)]
    exact e
  have s12 := s1.trans s2
  refine q out asked g _ pm pw pwo mem (((Kl.of s12).trans (Kl.put (.inl rfl))).trans (Kl.put (.inr (.inl rfl)))) (fun c e => ?_) ⟨⟨dx, ?_⟩, ⟨as ++ [.ref u], upd_same, ?_⟩, ⟨mks, ?_, ?_⟩, ne⟩ (s1.free ng) (tu _ _ eg)
  · by_cases z1 : c = la
    · rw [z1, upd_same] at e
      cases e
    · rw [upd_ne z1] at e
      by_cases z2 : c = a
      · rw [z2, upd_same] at e
        cases e
      · rw [upd_ne z2] at e
        exact s12.free e
  · rw [upd_ne ala]
    exact upd_same
  · exact (t2.keep fun c xs e => tu c xs (s2 _ _ e)).snoc (tu _ _ (s2 _ _ hu))
  · rw [upd_ne (Ne.symm ne), upd_ne (Ne.symm alm)]
    exact e3'
  · exact t3.keep fun c xs e => tu c xs (s2 _ _ e)
theorem ok_lask {C CR CL CE f fi fm fg fE : Addr} {fd di dm dg dE : FuncData} (F : Fun K "ask" "Line.ask" sLineAsk f fd) (T : Blt mg) (LC : LineC K CL) (d1 : CL ≠ CR) (d2 : CL ≠ C)
    (GI : FnOk P w K mg base CX0 3 fi di ["value", "askers"] (spIsRoundX K)) (bI : Binds K di ["value", "askers"] []) (kI : PySem.W.keepIn K (.ref fi) = true) (mI : mg "is_round" = some (.ref fi))
    (GM : FnOk P w K mg base CX0 1 fm dm ["self"] (spLMark CL)) (bM : Binds K dm ["self"] []) (meM : Meth K CL "mark" fm) (GG : FnOk P w K mg base CX0 4 fg dg ["self", "asking"] (spLGrant K C CR CL)) (bG : Binds K dg ["self", "asking"] []) (meG : Meth K CL "granted_to" fg)
    (OX : OexC K CE) (GE : FnOk P w K mg base CX0 1 fE dE ["self", "at"] (spErrA CE "at")) (bE : Binds K dE ["self", "at"] []) (iE : PySem.W.findIn K (.ref CE) "__init__" = some (some (.ref fE))) (tE : PySem.W.typeIn K (.ref fE) = some (.type "function")) (mE : mg "InvalidRound" = some (.ref CE)) :
    FnOk P w K mg base (L2.CX P w) 5 f fd ["self", "asking"] (spLAsk K C CR CL CE false) := by
  refine F.okX scLAsk (fun vs H Q E h => ?_) (fun cdv A outer s H vs Q E hr h => ?_)
  · obtain ⟨a, la, lm, ru, x, b, n, mode, first, ptr, rs, ms, rows, rfl, _⟩ := h
    rfl
  obtain ⟨a, la, lm, ru, x, b, n, mode, first, ptr, rs, ms, rows, rfl, LA, rat, rw0, nq, few, few2, kE, kQ⟩ := h
  have hr3 : Room 3 _ := hr.mono (by decide)
  have hr2 : Room 2 _ := hr.mono (by decide)
  have hr1 : Room 1 _ := hr.mono (by decide)
  refine ⟨_, pss_cons (ps_if (pt_not (pt_val (pe_call GI hr3 (by rfl) mI kI bI .nil pass0 (pa_cons (pv 1) (pa_cons (pe_fld (pv 0) rfl) pa_nil)))))
      (pss_one (ps_raise rfl (takes_of rfl rfl rfl rfl) (pmk_oex OX iE tE GE hr2 bE .nil pass0 rfl mE (pa_cons (pe_callB call_len_seq (by rfl) T.len PySem.boot_len (pa_cons (pe_fld (pv 0) rfl) pa_nil)) pa_nil)))) pss_nil)
    (pss_cons (ps_expr (pe_meth0 (pv 0) LC.cl meM GM hr1 bM .nil pass0))
    (pss_one (ps_ret (pe_meth (pv 0) LC.cl meG GG hr bG .nil pass0 (pa_cons (pv 1) pa_nil))))), ?_⟩
  obtain ⟨dx, e1⟩ := LA.at_
  have nom : (lineFs (.ref ru) (.int n) (.str mode) (ptrV ptr) (.ref la) (.ref lm)).lookup ("mark" : Str) = none := by kernel_rfl
  have nog : ∀ (m : Str) (p : Option Int), (lineFs (.ref ru) (.int n) (.str m) (ptrV p) (.ref la) (.ref lm)).lookup ("granted_to" : Str) = none := fun m p => by kernel_rfl
  refine ⟨_, rfl, _, rfl, a, CL, dx, _, _, rfl, e1, LC.cl, LC.n1, lk1, x, n, b, rfl, rw0, fun J1 s1 => ⟨b, rfl, ?_⟩⟩
  have LA1 := LA.mono s1
  cases b with
  | false =>
    refine iteT ?_
    obtain ⟨⟨dx1, f1⟩, ⟨as, f2, t2⟩, -, -⟩ := LA1
    refine raise_okB (fun Q' hq => ⟨_, rfl, a, CL, dx1, _, _, rfl, f1, LC.cl, LC.n4, lk4, la, as, rfl, .inl (SqL.of f2), hq⟩) fun d hd => ?_
    rw [t2.1]
    exact kE rfl d J1 s1 hd
  | true =>
    refine iteF ?_
    obtain ⟨q, ns, rfl, sq, gd, kQ⟩ := kQ rfl
    have nq' := nq q rfl
    refine ⟨_, rfl, a, dx, _, rfl, s1 _ _ e1, nom, a, la, lm, ru, n, mode, ptr, rs, ms, rfl, LA1, few2, fun J2 k2 b2 LA2 => ?_⟩
    obtain ⟨dx2, f2⟩ := LA2.at_
    have sq2 := k2.seqs nq' (sq.elim (fun z => .inl (s1.seq z)) fun z => .inr (SqT.ext z s1))
    refine ⟨_, rfl, a, dx2, _, rfl, f2, nog _ _, _, rfl, a, la, lm, ru, q, n, mode, first, ptr, rs, _, rows, ns, rfl, LA2, (rat.mono s1).kl LA1 k2 d1 d2, sq2, few, fun out asked g J3 pm pw pwo mem k3 b3 LA3 ng eg => ?_⟩
    exact kQ out asked g J3 pm pw pwo mem (((Kl.of s1).trans k2).trans k3) (fun c e => s1.free (b2 c (b3 c e))) LA3 (s1.free (b2 g ng)) eg
theorem ok_liadd {C CR CL CE f fa : Addr} {fd da : FuncData} (F : Fun K "__iadd__" "Line.__iadd__" sLineIadd f fd) (LC : LineC K CL)
    (GA : FnOk P w K mg base (L2.CX P w) 5 fa da ["self", "asking"] (spLAsk K C CR CL CE false)) (bA : Binds K da ["self", "asking"] []) (meA : Meth K CL "ask" fa) :
    FnOk P w K mg base (L2.CX P w) 6 f fd ["self", "other"] (spLAsk K C CR CL CE true) := by
  refine F.okX scLIadd (fun vs H Q E h => ?_) (fun cdv A outer s H vs Q E hr h => ?_)
  · obtain ⟨a, la, lm, ru, x, b, n, mode, first, ptr, rs, ms, rows, rfl, _⟩ := h
    rfl
  obtain ⟨a, la, lm, ru, x, b, n, mode, first, ptr, rs, ms, rows, rfl, LA, rat, rw0, nq, few, few2, kE, kQ⟩ := h
  refine ⟨_, pss_cons (ps_expr (pe_meth (pv 0) LC.cl meA GA hr bA .nil (passes_call (takes_of rfl rfl rfl rfl) (fun _ _ _ _ h => h)) (pa_cons (pv 1) pa_nil))) (pss_one (ps_ret (pv 0))), ?_⟩
  obtain ⟨dx, e1⟩ := LA.at_
  have noa : (lineFs (.ref ru) (.int n) (.str mode) (ptrV ptr) (.ref la) (.ref lm)).lookup ("ask" : Str) = none := by kernel_rfl
  refine ⟨_, rfl, a, dx, _, rfl, e1, noa, _, rfl, a, la, lm, ru, x, b, n, mode, first, ptr, rs, ms, rows, rfl, LA, rat, rw0, nq, few, few2, kE, fun eb => ?_⟩
  obtain ⟨q, ns, ex, sq, gd, kk⟩ := kQ eb
  exact ⟨q, ns, ex, sq, gd, fun out asked g J pm pw pwo mem k bk LA2 ng eg => ⟨_, rfl, kk out asked g J pm pw pwo mem k bk LA2 ng eg⟩⟩
end
end LT
namespace LT
open PySem L2
/-! ### the law's own hand: rule, how many, state, and what was asked -/
def handK (ru n st ak : V) : List (Key × V) := [(.inr "rule", ru), (.inr "many", n), (.inr "state", st), (.inr "asked", ak)]
section
variable {ru n st ak : V}
theorem hk0 : valV (handK ru n st ak) (.inr "rule") = some ru := by kernel_rfl
theorem hk1 : valV (handK ru n st ak) (.inr "many") = some n := by kernel_rfl
theorem hk2 : valV (handK ru n st ak) (.inr "state") = some st := by kernel_rfl
theorem hk3 : valV (handK ru n st ak) (.inr "asked") = some ak := by kernel_rfl
theorem hp2 (v : V) : putK (handK ru n st ak) (.inr "state") v = handK ru n v ak := by kernel_rfl
theorem hp3 (v : V) : putK (handK ru n st ak) (.inr "asked") v = handK ru n st v := by kernel_rfl
theorem hg0 {H : Hp} {h : Addr} (e : H h = some (.dK (handK ru n st ak))) : DGet H h (.str "rule") (some ru) := by
  have := DGet.k (k := .inr "rule") e
  rw [hk0] at this
  exact this
theorem hg1 {H : Hp} {h : Addr} (e : H h = some (.dK (handK ru n st ak))) : DGet H h (.str "many") (some n) := by
  have := DGet.k (k := .inr "many") e
  rw [hk1] at this
  exact this
theorem hg2 {H : Hp} {h : Addr} (e : H h = some (.dK (handK ru n st ak))) : DGet H h (.str "state") (some st) := by
  have := DGet.k (k := .inr "state") e
  rw [hk2] at this
  exact this
theorem hg3 {H : Hp} {h : Addr} (e : H h = some (.dK (handK ru n st ak))) : DGet H h (.str "asked") (some ak) := by
  have := DGet.k (k := .inr "asked") e
  rw [hk3] at this
  exact this
theorem hm0 : mergeK [] [(.inr "rule", ru), (.inr "many", n), (.inr "state", st), (.inr "asked", ak)] = handK ru n st ak := by kernel_rfl
end
structure HandAt (J : Hp) (h sp al rp : Addr) (n : Int) (mode : Str) (p : Int) (rs : List (List Int)) : Prop where
  at_ : J h = some (.dK (handK (.ref rp) (.int n) (.ref sp) (.ref al)))
  st : J sp = some (.tup [.str mode, .int p])
  ask : ∃ as, J al = some (.lst as) ∧ TupsAt J as rs
/-- all but one is kept -/
def Kh (h : Addr) (H J : Hp) : Prop := ∀ c o, c ≠ h → H c = some o → J c = some o
theorem Kh.of {h : Addr} {H J : Hp} (s : Same H J) : Kh h H J := fun c o _ e => s c o e
theorem Kh.trans {h : Addr} {H J L : Hp} (x : Kh h H J) (y : Kh h J L) : Kh h H L := fun c o n e => y c o n (x c o n e)
theorem Kh.put {h : Addr} {H : Hp} {o : HO} : Kh h H (upd H h o) := fun d u n e => by
  rw [upd_ne n]
  exact e
theorem HandAt.kept {J L : Hp} {h sp al rp : Addr} {n : Int} {mode : Str} {p : Int} {rs : List (List Int)} (x : HandAt J h sp al rp n mode p rs)
    (k : ∀ c o, (∀ ys, o ≠ HO.lst ys) → (∀ dx fs C, o ≠ HO.ins C dx fs) → J c = some o → L c = some o) (ka : ∀ ys, J al = some (.lst ys) → L al = some (.lst ys)) : HandAt L h sp al rp n mode p rs := by
  obtain ⟨h1, h2, as, h3, h4⟩ := x
  exact ⟨k _ _ (fun _ z => nomatch z) (fun _ _ _ z => nomatch z) h1, k _ _ (fun _ z => nomatch z) (fun _ _ _ z => nomatch z) h2, as, ka _ h3, h4.keep fun c xs e => k _ _ (fun _ z => nomatch z) (fun _ _ _ z => nomatch z) e⟩
theorem HandAt.mono {J L : Hp} {h sp al rp : Addr} {n : Int} {mode : Str} {p : Int} {rs : List (List Int)} (x : HandAt J h sp al rp n mode p rs) (s : Same J L) : HandAt L h sp al rp n mode p rs := x.kept (fun c o _ _ e => s c o e) fun ys e => s _ _ e
def spHand : Sp := fun vs H Q _ => ∃ (rp fl : Addr) (n : Int) (first : Str) (xs : List V) (rows : List Row5), vs = [.ref rp, .int n] ∧ RuleL H rp fl first xs rows ∧
  ∀ (h sp al : Addr) (J : Hp), Same H J → H h = none → H al = none → HandAt J h sp al rp n first (0 - 1) [] → Q (.ref h) J
def spDo : Sp := fun vs H Q _ => ∃ (h sp al rp fl ap : Addr) (n p : Int) (first mode : Str) (xs : List V) (rows : List Row5) (ns : List Int) (rs : List (List Int)), vs = [.ref h, .ref ap] ∧ HandAt H h sp al rp n mode p rs ∧ RuleL H rp fl first xs rows ∧ rows.length ≤ 31 ∧ p < n ∧ 0 ≤ n ∧ n ≤ 900 ∧
  H ap = some (.lst (ns.map V.int)) ∧ goodRound n ns = true ∧ ns.length ≤ 900 ∧ rs.length ≤ 900 ∧
  ∀ (gq sp2 al2 : Addr) (dn : Int) (out : List Int) (m' : Str) (p' : Int) (J : Hp), Kh h H J → H al2 = none → RndEnd rows mode p n (sortI ns) dn out m' p' → HandAt J h sp2 al2 rp n m' p' (rs ++ [sortI ns]) → J gq = some (.tup (out.map V.int)) → Q (.ref gq) J
abbrev nDo : List Str := ["_law_hand_here", "_law_asking", "_law_done", "_law_grants", "_law_one"]
section
variable {P : Program} {w : World} {K : PySem.W.Frag} {mg : Str → Option Value} {base : Heap}
theorem scHand : FnScope ["_law_rule_here", "_law_many"] ["_law_rule_here", "_law_many"] (defScope sx_hand) := ⟨rfl, rfl, rfl, by decide +kernel, rfl, by decide +kernel, by decide +kernel⟩
theorem scDo : FnScope nDo ["_law_hand_here", "_law_asking"] (defScope sx_do) := ⟨rfl, rfl, rfl, by decide +kernel, rfl, by decide +kernel, by decide +kernel⟩
theorem ok_hand {f : Addr} {fd : FuncData} (F : Fun K "_law_hand" "_law_hand" sx_hand f fd) : FnOk P w K mg base CX0 1 f fd ["_law_rule_here", "_law_many"] spHand := by
  refine F.ok scHand (fun vs H Q E h => ?_) (fun cdv A outer s H vs Q E hr h => ?_)
  · obtain ⟨rp, fl, n, first, xs, rows, rfl, _⟩ := h
    rfl
  obtain ⟨rp, fl, n, first, xs, rows, rfl, ru, q⟩ := h
  refine ⟨_, pss_one (ps_ret (pe_disp (pps_cons pe_str (pv 0) (pps_cons pe_str (pv 1) (pps_cons pe_str (pe_tup (pa_cons (pe_ix ix_tup (pv 0) pe_int (fun _ _ => rfl)) (pa_cons (pe_op op_sub pe_int pe_int) pa_nil))) (pps_cons pe_str (pe_lst pa_nil) pps_nil)))) (by rfl) (by rfl) (fun z => by cases z) (by decide))), ?_⟩
  refine fun h nh => ?_
  have s1 := new_same nh (.dK [])
  have h1 : upd H h (.dK []) h = some (.dK []) := upd_same
  generalize upd H h (.dK []) = J1 at s1 h1 ⊢
  refine ⟨_, rfl, _, rfl, _, rfl, rp, _, 0, .str first, rfl, rfl, SqT.of (s1 _ _ ru.p), rfl, _, _, rfl, rfl, (by show 2 ≤ sizeLine; decide), fun sp np => ?_⟩
  have s2 := new_same np (.tup [V.str first, .int (0 - 1)])
  have h2 : upd J1 sp (.tup [V.str first, .int (0 - 1)]) sp = some (.tup [V.str first, .int (0 - 1)]) := upd_same
  have h1' := s2 _ _ h1
  have s12 := s1.trans s2
  generalize upd J1 sp (.tup [V.str first, .int (0 - 1)]) = J2 at s2 h2 h1' s12 ⊢
  refine ⟨(by show 0 ≤ sizeLine; decide), fun al nal => ?_⟩
  have s3 := new_same nal (.lst [])
  refine ⟨s3 _ _ h1', [(.inr "rule", .ref rp), (.inr "many", .int n), (.inr "state", .ref sp), (.inr "asked", .ref al)], rfl, (by show 4 ≤ 15; decide), ?_⟩
  rw [hm0]
  have nlh : al ≠ h := fun e => by
    rw [e, h1'] at nal
    cases nal
  have nsh : sp ≠ h := fun e => by
    rw [e, h1] at np
    cases np
  refine q h sp al _ (fun c o e => ?_) nh (s12.free nal) ⟨upd_same, ?_, [], ?_, .nil⟩
  · rw [upd_ne (ne_of_none e nh)]
    exact (s12.trans s3) _ _ e
  · rw [upd_ne nsh]
    exact s3 _ _ h2
  · rw [upd_ne nlh]
    exact upd_same
theorem ok_do {f g : Addr} {fd gd : FuncData} (F : Fun K "_law_do" "_law_do" sx_do f fd) (T : Blt mg) (Z : Blt4 mg)
    (GR : FnOk P w K mg base CX0 2 g gd ["_law_rule_here", "_law_state", "_law_many", "_law_asking"] spLRndD) (bR : Binds K gd ["_law_rule_here", "_law_state", "_law_many", "_law_asking"] []) (kR : PySem.W.keepIn K (.ref g) = true) (mR : mg "_law_round" = some (.ref g)) :
    FnOk P w K mg base CX0 3 f fd ["_law_hand_here", "_law_asking"] spDo := by
  refine F.ok scDo (fun vs H Q E h => ?_) (fun cdv A outer s H vs Q E hr h => ?_)
  · obtain ⟨h, sp, al, rp, fl, ap, n, p, first, mode, xs, rows, ns, rs, rfl, _⟩ := h
    rfl
  obtain ⟨h, sp, al, rp, fl, ap, n, p, first, mode, xs, rows, ns, rs, rfl, ha, ru, few, pn, n0, n1, hap, gns, lns, lrs, q⟩ := h
  refine ⟨_, pss_cons (ps_asg (pe_call GR hr (by rfl) mR kR bR .nil pass0 (pa_cons (pe_dget (hu_of hr) (pv 0) pe_str (fun _ _ => rfl)) (pa_cons (pe_dget (hu_of hr) (pv 0) pe_str (fun _ _ => rfl)) (pa_cons (pe_dget (hu_of hr) (pv 0) pe_str (fun _ _ => rfl)) (pa_cons (pv 1) pa_nil)))))
      (pg_tup rfl (pgs_cons (pg_name (i := 2) scDo.nd rfl (Or.inl rfl)) (pgs_cons (pg_name (i := 3) scDo.nd rfl (Or.inl rfl)) (pgs_cons (pg_sub (pv 0) pe_str (set_dict (hu_of hr))) pgs_nil)))))
    (pss_cons (ps_dput (hu_of hr) (pv 0) pe_str (pe_op op_cat (pe_dget (hu_of hr) (pv 0) pe_str (fun _ _ => rfl)) (pe_lst (pa_cons (pe_callTy (r := rTupOf K) call_tuple_of (by rfl) T.tuple bt_tuple (pa_cons (pe_callB (r := rSortedA K) cr_sortedA (by rfl) Z.sorted (by decide +kernel) (pa_cons (pe_lc (own := [("_law_one", 4)]) (g := gName 4) (tt := tYes) (by rfl) scDo.nd (pi_list (pv 1)) (blkOk_by (N := nDo) (sc := defScope sx_do) (own := [("_law_one", 4)]) (by decide +kernel)) (fun _ _ _ _ _ => pg_name (i := 4) scDo.nd rfl (Or.inl rfl)) (fun _ _ _ _ _ => pts_nil) (fun _ _ _ _ _ => (pe_callTy call_int1 (by rfl) T.int (by decide +kernel) (pa_cons (pv 4) pa_nil)))) pa_nil)) pa_nil)) pa_nil))) rfl)
    (pss_one (ps_ret (pv 3)))), ?_⟩
  obtain ⟨h1, h2, as, h3, h4⟩ := ha
  refine ⟨_, rfl, h, _, rfl, hg0 h1, _, rfl, h, _, rfl, hg2 h1, _, rfl, h, _, rfl, hg1 h1, _, rfl, ?_⟩
  refine ⟨rp, fl, sp, ap, n, p, first, mode, xs, rows, ns, rfl, ru, few, h2, pn, n0, n1, .inl hap, gns, by omega, fun qt gq sq dn out m' p' J s1 en eq eg es => ?_⟩
  refine ⟨qt, _, rfl, SqT.of eq, rfl, _, _, rfl, _, _, rfl, _, _, rfl, _, rfl, h, _, rfl, DPut.k (k := .inr "state") (s1 _ _ h1) (by show 4 < sizeLine; decide), rfl, ?_⟩
  rw [hp2]
  simp only [List.set_cons_succ, List.set_cons_zero]
  have kd : ∀ c o, (∀ kvs, o ≠ HO.dK kvs) → J c = some o → upd J h (.dK (handK (.ref rp) (.int n) (.ref sq) (.ref al))) c = some o := fun c o nd e => by
    rw [upd_ne (fun z => by
      rw [z, s1 _ _ h1] at e
      exact nd _ (Option.some.inj e).symm)]
    exact e
  have e1 : upd J h (.dK (handK (.ref rp) (.int n) (.ref sq) (.ref al))) h = some (.dK (handK (.ref rp) (.int n) (.ref sq) (.ref al))) := upd_same
  have e2 := kd _ _ (by intro _ z; cases z) es
  have eg2 := kd _ _ (by intro _ z; cases z) eg
  have e3 := kd _ _ (by intro _ z; cases z) (s1 _ _ h3)
  have eap := kd _ _ (by intro _ z; cases z) (s1 _ _ hap)
  have t4 : TupsAt (upd J h (.dK (handK (.ref rp) (.int n) (.ref sq) (.ref al)))) as rs := h4.keep fun c xs e => kd _ _ (by intro _ z; cases z) (s1 _ _ e)
  have kh : Kh h H (upd J h (.dK (handK (.ref rp) (.int n) (.ref sq) (.ref al)))) := (Kh.of s1).trans Kh.put
  have fr : ∀ c, upd J h (.dK (handK (.ref rp) (.int n) (.ref sq) (.ref al))) c = none → H c = none := fun c e => by
    by_cases z : c = h
    · rw [z, upd_same] at e
      cases e
    · rw [upd_ne z] at e
      exact s1.free e
  generalize upd J h (.dK (handK (.ref rp) (.int n) (.ref sq) (.ref al))) = J2 at e1 e2 eg2 e3 eap t4 kh fr ⊢
  refine ⟨_, rfl, h, _, rfl, hg3 e1, _, rfl, ap, rfl, ⟨_, SqL.of eap⟩, fun D hD => lc_list (fun i5 M => Same J2 M ∧ M D = some (.lst ((ns.take i5).map V.int))) ⟨new_same hD _, upd_same⟩
      (fun i5 M _ ⟨z, _⟩ => SqL.of (z _ _ eap)) (fun i5 v M hv ⟨z, e⟩ => ?_) (fun M ⟨z, e⟩ => ?_)⟩
  · obtain ⟨k, hk, rfl⟩ := get_int hv
    refine ⟨rfl, _, rfl, .inl ⟨k, rfl, _, e, ?_, fun c o h => ?_, ?_⟩⟩
    · rw [List.length_map, List.length_take]
      exact small1000 (by omega)
    · rw [upd_ne (fun q => by rw [q, hD] at h; cases h)]
      exact z c o h
    · rw [upd_same, take_snoc hk, List.map_append]
      rfl
  have e' : M D = some (.lst (ns.map V.int)) := by
    rw [e, List.take_of_length_le (by rw [List.length_map]; exact Nat.le_refl _)]
  refine ⟨D, ns, rfl, .inl (SqL.of e'), fun out2 p2 perm up2 np2 => ⟨p2, _, rfl, .inl ⟨SqL.of upd_same, fun tq ntq => ?_⟩⟩⟩
  obtain rfl : out2 = sortI ns := sorted_one up2 (sort_up _) (perm.trans (sort_perm ns).symm)
  have s3 := (z.trans (new_same np2 (.lst ((sortI ns).map V.int)))).trans (new_same ntq (.tup ((sortI ns).map V.int)))
  have et : upd (upd M p2 (.lst ((sortI ns).map V.int))) tq (.tup ((sortI ns).map V.int)) tq = some (.tup ((sortI ns).map V.int)) := upd_same
  generalize upd (upd M p2 (.lst ((sortI ns).map V.int))) tq (.tup ((sortI ns).map V.int)) = J3 at s3 et ⊢
  refine ⟨(by show 1 ≤ sizeLine; decide), fun b nb => ?_⟩
  have s4 := s3.trans (new_same nb (.lst [V.ref tq]))
  have et4 := new_same nb (.lst [V.ref tq]) _ _ et
  have eb : upd J3 b (.lst [V.ref tq]) b = some (.lst [V.ref tq]) := upd_same
  generalize upd J3 b (.lst [V.ref tq]) = J4 at s4 et4 eb ⊢
  refine ⟨al, b, as, [.ref tq], rfl, rfl, s4 _ _ e3, eb, ?_, fun al2 nal2 => ?_⟩
  · have := h4.1
    exact Nat.le_of_lt (small1000 (by rw [this]; show rs.length + 1 ≤ 1000; omega))
  have s5 := s4.trans (new_same nal2 (.lst (as ++ [V.ref tq])))
  have et5 := new_same nal2 (.lst (as ++ [V.ref tq])) _ _ et4
  have e5 : upd J4 al2 (.lst (as ++ [V.ref tq])) al2 = some (.lst (as ++ [V.ref tq])) := upd_same
  have nfr := fr _ (s4.free nal2)
  generalize upd J4 al2 (.lst (as ++ [V.ref tq])) = J5 at s5 et5 e5 ⊢
  refine ⟨_, rfl, h, _, rfl, DPut.k (k := .inr "asked") (s5 _ _ e1) (by show 4 < sizeLine; decide), _, rfl, ?_⟩
  rw [hp3]
  have kd5 : ∀ c o, (∀ kvs, o ≠ HO.dK kvs) → J5 c = some o → upd J5 h (.dK (handK (.ref rp) (.int n) (.ref sq) (.ref al2))) c = some o := fun c o nd e => by
    rw [upd_ne (fun z => by
      rw [z, s5 _ _ e1] at e
      exact nd _ (Option.some.inj e).symm)]
    exact e
  refine q gq sq al2 dn out m' p' _ ((kh.trans (Kh.of s5)).trans Kh.put) nfr en ⟨upd_same, kd5 _ _ (by intro _ z; cases z) (s5 _ _ e2), as ++ [.ref tq], kd5 _ _ (by intro _ z; cases z) e5, ?_⟩ (kd5 _ _ (by intro _ z; cases z) (s5 _ _ eg2))
  exact (t4.keep fun c xs e => kd5 _ _ (by intro _ z; cases z) (s5 _ _ e)).snoc (kd5 _ _ (by intro _ z; cases z) et5)
end
end LT
namespace LT
open PySem L2
/-! ### a rule's text -/
def spRStr (K : PySem.W.Frag) (C CR : Addr) : Sp := fun vs H Q _ => ∃ (a : Addr) (first : Str) (rows : List Row5), vs = [.ref a] ∧ RuleAt K C CR H a first rows ∧ ∀ J, Same H J → Q (.str (ruleText first rows)) J
section
variable {P : Program} {w : World} {K : PySem.W.Frag} {mg : Str → Option Value} {base : Heap}
abbrev nRStr : List Str := ["self", "lines", "row"]
theorem scRStr : FnScope nRStr ["self"] (defScope sRuleStr) := ⟨rfl, rfl, rfl, by decide +kernel, rfl, by decide +kernel, by decide +kernel⟩
theorem boot_strR : bootBuiltins "str" = some (.type "str") := by decide +kernel
theorem RowsIn.good {C : Addr} {H : Hp} {xs : List V} {rows : List Row5} (h : RowsIn C H xs rows) : ∀ r ∈ rows, Good r := fun r hr => by
  obtain ⟨i, hi, rfl⟩ := List.getElem_of_mem hr
  have hi' : i < xs.length := by rw [h.1]; exact hi
  obtain ⟨b, r', _, e2, _, g⟩ := h.2 i xs[i] (List.getElem?_eq_getElem hi')
  rw [List.getElem?_eq_getElem hi] at e2
  cases e2
  exact g
theorem ok_rstr {C CR CE f g : Addr} {fd gd : FuncData} (F : Fun K "__str__" "Rule.__str__" sRuleStr f fd) (G : MethG P w K mg base C CR CE) (U : Blt2 mg)
    (GS : FnOk P w K mg base CX0 1 g gd ["self"] (spStr C)) (bS : Binds K gd ["self"] []) (iS : PySem.W.findIn K (.ref C) "__str__" = some (some (.ref g))) (fS : PySem.W.isFn K (.ref g) = true) :
    FnOk P w K mg base CX0 4 f fd ["self"] (spRStr K C CR) := by
  refine F.ok scRStr (fun vs H Q E h => ?_) (fun cdv A outer s H vs Q E hr h => ?_)
  · obtain ⟨a, first, rows, rfl, _⟩ := h
    rfl
  obtain ⟨a, first, rows, rfl, ru, q⟩ := h
  obtain ⟨dx, tp, fs, xs, h1, h2, h3, h4, h5⟩ := ru.fld
  have few := ru.few
  have lx := h5.1
  have wd := name_wd ru.wd
  have tok := text_ok wd h5.good few
  refine ⟨_, pss_cons (ps_setLc (i := 1) (own := [("row", 2)]) (g := gName 2) (tt := tYes) rfl scRStr.nd rfl rfl (sw_true rfl rfl rfl (by decide +kernel)) (pi_tup (pe_fld (pv 0) rfl)) (blkOk_by (N := nRStr) (sc := defScope sRuleStr) (own := [("row", 2)]) (by decide +kernel)) (fun _ _ _ _ _ => pg_name (i := 2) scRStr.nd rfl (Or.inl rfl)) (fun _ _ _ _ _ => pts_nil)
      (fun _ _ _ _ _ => pe_callTy (r := rStrOwn C (spStr C) E0) (call_strOwn GS hr iS fS bS pass0) (by rfl) U.str boot_strR (pa_cons (pv 2) pa_nil)))
    (pss_one (ps_ret (pe_join pe_str (pe_lst (pa_cons (pe_joined (.cons pe_str (.cons (pe_fmt (pe_fld (pv 0) rfl)) .nil))) (StX.pa_star (pv 1) pa_nil)))))), ?_⟩
  refine ⟨_, rfl, a, CR, dx, _, _, rfl, h1, G.cl, G.n1, h3, tp, rfl, ⟨xs, h4⟩, fun D hD => lc_tup (K := K) (a := tp) (xs := xs) (fun i M => Same H M ∧ M D = some (.lst (((rows.map Row5.text).take i).map V.str))) ⟨new_same hD _, upd_same⟩
      (fun i M _ z => SqT.ext h4 z.1) (fun i v M hv z => ?_) (fun M z => ?_)⟩
  · obtain ⟨b, r, rfl, hri, ⟨dy, hb⟩, gr⟩ := h5.2 i v hv
    have hi : i < xs.length := (List.getElem?_eq_some_iff.mp hv).1
    refine ⟨rfl, _, rfl, b, dy, _, rfl, z.1 _ _ hb, b, r, rfl, gr.rowAt ⟨dy, z.1 _ _ hb⟩, r.text, rfl, _, z.2, ?_, fun c o h => ?_, ?_⟩
    · rw [List.length_map, List.length_take]
      exact small1000 (by omega)
    · rw [upd_ne (fun q => by rw [q, hD] at h; cases h)]
      exact z.1 c o h
    · rw [upd_same, take_snoc (l := rows.map Row5.text) (x := r.text) (by rw [List.getElem?_map, hri]; rfl), List.map_append]
      rfl
  obtain ⟨z, e⟩ := z
  rw [List.take_of_length_le (by rw [List.length_map]; omega)] at e
  have sz : ∀ n, n ≤ 1000 → n ≤ sizeLine := fun n h => Nat.le_of_lt (small1000 h)
  have lf := wd.len
  have e0 : Str.empty.length = 0 := rfl
  have e6 : ("first " : Str).length = 6 := rfl
  refine ⟨⟨_, rfl⟩, _, rfl, sz _ (by simp only [len_app]; omega), _, rfl, a, CR, dx, _, _, rfl, z _ _ h1, G.cl, G.n0, h2, .inl ⟨first, rfl, sz _ (by omega), first, rfl, sz _ (by simp only [len_app]; omega), ?_⟩⟩
  have ef : (Str.empty ++ "first " ++ first : Str) = firstLine first := by
    unfold firstLine
    exact congrArg (· ++ first) (show (Str.empty ++ "first " : Str) = "first " by decide +kernel)
  rw [ef]
  have lrs : ((rows.map Row5.text).map V.str).length = rows.length := by rw [List.length_map, List.length_map]
  refine ⟨_, rfl, D, _, rfl, .inr (SqL.of e), ?_, fun u nu => ?_⟩
  · rw [List.append_nil, List.length_cons, lrs]
    exact sz _ (by omega)
  rw [List.append_nil]
  have s2 := new_same nu (.lst (V.str (firstLine first) :: (rows.map Row5.text).map V.str))
  refine ⟨"\n", u, firstLine first :: rows.map Row5.text, rfl, rfl, .inl (SqL.of upd_same), ?_, q _ (z.trans s2)⟩
  have := texts_len tok few
  omega
def spREq (K : PySem.W.Frag) (C CR : Addr) : Sp := fun vs H Q _ => ∃ (a b : Addr) (first other : Str) (rows more : List Row5), vs = [.ref a, .ref b] ∧ RuleAt K C CR H a first rows ∧ RuleAt K C CR H b other more ∧
  ∀ J, Same H J → Q (.bl (decide (ruleText first rows = ruleText other more))) J
theorem scREq : FnScope ["self", "other"] ["self", "other"] (defScope sRuleEq) := ⟨rfl, rfl, rfl, by decide +kernel, rfl, by decide +kernel, by decide +kernel⟩
theorem ok_req {C CR CE f g : Addr} {fd gd : FuncData} (F : Fun K "__eq__" "Rule.__eq__" sRuleEq f fd) (G : MethG P w K mg base C CR CE) (U : Blt2 mg)
    (GS : FnOk P w K mg base CX0 4 g gd ["self"] (spRStr K C CR)) (bS : Binds K gd ["self"] []) (iS : PySem.W.findIn K (.ref CR) "__str__" = some (some (.ref g))) (fS : PySem.W.isFn K (.ref g) = true) :
    FnOk P w K mg base CX0 7 f fd ["self", "other"] (spREq K C CR) := by
  refine F.ok scREq (fun vs H Q E h => ?_) (fun cdv A outer s H vs Q E hr h => ?_)
  · obtain ⟨a, b, first, other, rows, more, rfl, _⟩ := h
    rfl
  obtain ⟨a, b, first, other, rows, more, rfl, ru, ru', q⟩ := h
  obtain ⟨dx, tp, fs, xs, h1, h2, h3, h4, h5⟩ := ru.fld
  obtain ⟨dx', tp', fs', xs', h1', h2', h3', h4', h5'⟩ := ru'.fld
  refine ⟨_, pss_one (ps_ret (pe_and (pe_callB call_isi (by rfl) U.isin boot_isin (pa_cons (pv 1) (pa_cons (pe_glob (by rfl) G.mR (v := .ref CR) rfl) pa_nil)))
    (pe_one (pe_cmpR op_eq (pe_callTy (r := rStrOwn CR (spRStr K C CR) E0) (call_strOwn GS hr iS fS bS pass0) (by rfl) U.str boot_strR (pa_cons (pv 0) pa_nil)) (pe_callTy (r := rStrOwn CR (spRStr K C CR) E0) (call_strOwn GS hr iS fS bS pass0) (by rfl) U.str boot_strR (pa_cons (pv 1) pa_nil)) (nomark _))))), ?_⟩
  refine ⟨_, rfl, .ref b, .ref CR, _, _, true, rfl, .own CR, .base (.ins h1' G.cl G.ha G.hn G.ht G.hm), G.kR, true, rfl, iteT ?_⟩
  refine ⟨_, rfl, a, dx, _, rfl, h1, a, first, rows, rfl, ru, fun J s => ⟨_, rfl, _, rfl, b, dx', _, rfl, s _ _ h1', b, other, more, rfl, ru'.mono s, fun L t => ⟨_, rfl, rfl, ?_⟩⟩⟩
  rw [str_dec]
  exact q L (s.trans t)
end
end LT
namespace LT
open PySem L2
/-! ### whether a line stands where the hand says -/
def ptrD : Option Int → PyData
  | none => .none
  | some p => .int p
theorem dp_ptr {K : PySem.W.Frag} {H : Hp} : ∀ o : Option Int, Dp K H (ptrV o) (ptrD o)
  | none => .non
  | some p => .int p
def stD (m : Str) (o : Option Int) (n : Int) : PyData := .tuple [.str m, ptrD o, .int n]
theorem st_shaped {m : Str} (wd : Wd m) (o : Option Int) (n : Int) : SeqAt.shaped (stD m o n) = true := by
  show ((stD m o n).canLay0 && decide ((stD m o n).depth ≤ 64)) = true
  cases o <;> simp [stD, ptrD, PyData.canLay0, PyData.canLayAll0, PyData.depth, PyData.depthAll, wd_strOk wd]
theorem dp_tups {K : PySem.W.Frag} {H : Hp} {t : Addr} {gs : List V} {us : List (List Int)} (h : SqT K H t gs) (g : TupsAt H gs us) : Dp K H (.ref t) (gsD us) :=
  .tup h (dp_all g.1 fun j v e => by
    obtain ⟨q, out, rfl, e2, e3⟩ := g.2 j v e
    exact ⟨out, e2, dp_intsT (SqT.of e3)⟩)
def spStands (K : PySem.W.Frag) (C CR CL : Addr) : Sp := fun vs H Q _ => ∃ (a la lm ru h sp al rp fl : Addr) (n p : Int) (first mode : Str) (xs : List V) (rows : List Row5) (rs : List (List Int)) (ms : List MarkS), vs = [.ref a, .ref h, .int (ms.length : Nat)] ∧
  LineAt CL H a la lm ru n mode (ptrO p) rs ms ∧ HandAt H h sp al rp n mode p rs ∧ RuleAt K C CR H ru first rows ∧ RuleL H rp fl first xs rows ∧ ms.length ≤ 900 ∧ Wd mode ∧
  ∀ J, Same H J → Q (.bl true) J
abbrev nStands : List Str := ["_law_line", "_law_hand_here", "_law_size", "_law_pointer"]
section
variable {P : Program} {w : World} {K : PySem.W.Frag} {mg : Str → Option Value} {base : Heap}
theorem scStands : FnScope nStands ["_law_line", "_law_hand_here", "_law_size"] (defScope sx_stands) := ⟨rfl, rfl, rfl, by decide +kernel, rfl, by decide +kernel, by decide +kernel⟩
theorem ok_stands {C CR CL f gt gp pp gl gs : Addr} {fd dt dp dl ds : FuncData} (F : Fun K "_law_stands" "_law_stands" sx_stands f fd) (T : Blt mg) (U : Blt2 mg) (LC : LineC K CL)
    (GT : FnOk P w K mg base CX0 1 gt dt ["_law_rule_here"] spLTextD) (bT : Binds K dt ["_law_rule_here"] []) (kT : PySem.W.keepIn K (.ref gt) = true) (mT : mg "_law_text" = some (.ref gt))
    (GP : FnOk P w K mg base CX0 1 gp dp ["self"] (spLRounds CL)) (bP : Binds K dp ["self"] []) (pP : PropOf K CL "rounds" pp gp)
    (GL : FnOk P w K mg base CX0 1 gl dl ["self"] (spLLen CL)) (bL : Binds K dl ["self"] []) (iL : PySem.W.findIn K (.ref CL) "__len__" = some (some (.ref gl))) (fL : PySem.W.isFn K (.ref gl) = true)
    (GS : FnOk P w K mg base CX0 4 gs ds ["self"] (spRStr K C CR)) (bS : Binds K ds ["self"] []) (iS : PySem.W.findIn K (.ref CR) "__str__" = some (some (.ref gs))) (fS : PySem.W.isFn K (.ref gs) = true) :
    FnOk P w K mg base CX0 7 f fd ["_law_line", "_law_hand_here", "_law_size"] (spStands K C CR CL) := by
  refine F.ok scStands (fun vs H Q E h => ?_) (fun cdv A outer s H vs Q E hr h => ?_)
  · obtain ⟨a, la, lm, ru, h, sp, al, rp, fl, n, p, first, mode, xs, rows, rs, ms, rfl, _⟩ := h
    rfl
  obtain ⟨a, la, lm, ru, h, sp, al, rp, fl, n, p, first, mode, xs, rows, rs, ms, rfl, LA, HA, rat, rul, few, wm, q⟩ := h
  have hr1 : Room 1 _ := hr.mono (by decide)
  have hr2 : Room 2 _ := hr.mono (by decide)
  refine ⟨_, pss_cons (ps_set (i := 3) scStands.nd rfl (Or.inl rfl) (pe_ifExp (pt_cmpR op_lt (pe_ix ix_tup (pe_dget (hu_of hr) (pv 1) pe_str (fun _ _ => rfl)) pe_int (fun _ _ => rfl)) pe_int (nomark _)) pe_non (pe_ix ix_tup (pe_dget (hu_of hr) (pv 1) pe_str (fun _ _ => rfl)) pe_int (fun _ _ => rfl))))
    (pss_cons (ps_if (pt_cmpR (op_neD hr.units) (pe_tup (pa_cons (pe_fld (pv 0) rfl) (pa_cons (pe_fld (pv 0) rfl) (pa_cons (pe_fld (pv 0) rfl) pa_nil)))) (pe_tup (pa_cons (pe_ix ix_tup (pe_dget (hu_of hr) (pv 1) pe_str (fun _ _ => rfl)) pe_int (fun _ _ => rfl)) (pa_cons (pv 3) (pa_cons (pe_dget (hu_of hr) (pv 1) pe_str (fun _ _ => rfl)) pa_nil)))) (nomark _)) (pss_one (ps_ret pe_bl)) pss_nil)
    (pss_one (ps_ret (pe_and (pe_cmpR (op_eqD hr.units) (pe_prop (pv 0) LC.cl pP GP hr2 bP .nil pass0 rfl) (pe_callTy (r := rTupOf K) call_tuple_of (by rfl) T.tuple bt_tuple (pa_cons (pe_dget (hu_of hr) (pv 1) pe_str (fun _ _ => rfl)) pa_nil)) (nomark _))
      (pe_and (pe_cmpR op_eq (pe_callTy (r := rStrOwn CR (spRStr K C CR) E0) (call_strOwn GS hr iS fS bS pass0) (by rfl) U.str boot_strR (pa_cons (pe_fld (pv 0) rfl) pa_nil)) (pe_call GT hr1 (by rfl) mT kT bT .nil pass0 (pa_cons (pe_dget (hu_of hr) (pv 1) pe_str (fun _ _ => rfl)) pa_nil)) (nomark _))
      (pe_one (pe_cmpR op_eq (pe_callB (r := rLenOwn CL (spLLen CL) E0) (call_lenOwn GL hr2 iL fL bL pass0) (by rfl) T.len PySem.boot_len (pa_cons (pv 0) pa_nil)) (pv 2) (nomark _)))))))), ?_⟩
  obtain ⟨h1, h2, as, h3, h4⟩ := HA
  obtain ⟨dx, e1⟩ := LA.at_
  refine ⟨_, rfl, h, _, rfl, hg2 h1, sp, _, 1, .int p, rfl, rfl, SqT.of h2, rfl, _, _, rfl, rfl, _, rfl, ifT (fun v L => v = ptrV (ptrO p) ∧ L = H) (fun c K' k => ?_) (fun c K' k => ?_) ?_⟩
  · have : p < 0 := of_decide_eq_true c
    exact k _ _ ⟨by unfold ptrO; rw [if_pos this]; rfl, rfl⟩
  · have : ¬ p < 0 := fun z => c (decide_eq_true z)
    exact ⟨_, rfl, h, _, rfl, hg2 h1, sp, _, 1, .int p, rfl, rfl, SqT.of h2, rfl, k _ _ ⟨by unfold ptrO; rw [if_neg this]; rfl, rfl⟩⟩
  rintro v L ⟨rfl, rfl⟩
  refine ⟨_, rfl, a, CL, dx, _, _, rfl, e1, LC.cl, LC.n2, lk2, _, rfl, a, CL, dx, _, _, rfl, e1, LC.cl, LC.n3, lk3, _, rfl, a, CL, dx, _, _, rfl, e1, LC.cl, LC.n1, lk1, (by show 3 ≤ sizeLine; decide), fun t1 nt1 => ?_⟩
  have s1 := new_same nt1 (.tup [V.str mode, ptrV (ptrO p), .int n])
  have et1 : upd L t1 (.tup [V.str mode, ptrV (ptrO p), .int n]) t1 = some (.tup [V.str mode, ptrV (ptrO p), .int n]) := upd_same
  generalize upd L t1 (.tup [V.str mode, ptrV (ptrO p), .int n]) = J1 at s1 et1 ⊢
  refine ⟨_, rfl, h, _, rfl, hg2 (s1 _ _ h1), sp, _, 0, .str mode, rfl, rfl, SqT.of (s1 _ _ h2), rfl, _, rfl, _, rfl, h, _, rfl, hg1 (s1 _ _ h1), (by show 3 ≤ sizeLine; decide), fun t2 nt2 => ?_⟩
  have s2 := new_same nt2 (.tup [V.str mode, ptrV (ptrO p), .int n])
  have et2 : upd J1 t2 (.tup [V.str mode, ptrV (ptrO p), .int n]) t2 = some (.tup [V.str mode, ptrV (ptrO p), .int n]) := upd_same
  have et1' := s2 _ _ et1
  have s12 := s1.trans s2
  generalize upd J1 t2 (.tup [V.str mode, ptrV (ptrO p), .int n]) = J2 at s2 et2 et1' s12 ⊢
  have dpa : ∀ {t : Addr}, J2 t = some (.tup [V.str mode, ptrV (ptrO p), .int n]) → Dp K J2 (.ref t) (stD mode (ptrO p) n) := fun e => .tup (SqT.of e) (.cons (.str _) (.cons (dp_ptr _) (.cons (.int _) .nil)))
  refine ⟨stD mode (ptrO p) n, stD mode (ptrO p) n, dpa et1', dpa et2, st_shaped wm _ _, st_shaped wm _ _, _, rfl, ?_⟩
  rw [shaped_ok (st_shaped wm (ptrO p) n)]
  refine iteF ?_
  have LA2 := LA.mono s12
  refine ⟨_, rfl, a, dx, _, rfl, s12 _ _ e1, a, la, lm, ru, n, mode, ptrO p, rs, ms, rfl, LA2, fun t3 as3 J3 s3 _ et3 ta3 => ?_⟩
  have s13 := s12.trans s3
  refine ⟨_, rfl, h, _, rfl, hg3 (s13 _ _ h1), al, as, rfl, .inl ⟨SqL.of (s13 _ _ h3), fun t4 nt4 => ?_⟩⟩
  have s4 := new_same nt4 (.tup as)
  have s14 := s13.trans s4
  have et4 : upd J3 t4 (.tup as) t4 = some (.tup as) := upd_same
  have et3' := s4 _ _ et3
  have ta3' := ta3.keep fun c xs e => s4 c _ e
  generalize upd J3 t4 (.tup as) = J4 at s4 s14 et4 et3' ta3' ⊢
  have ta4 : TupsAt J4 as rs := h4.keep fun c xs e => s14 _ _ e
  refine ⟨gsD rs, gsD rs, dp_tups (SqT.of et3') ta3', dp_tups (SqT.of et4) ta4, shaped_gs _, shaped_gs _, true, (by rw [shaped_ok (shaped_gs rs)]), iteT ?_⟩
  obtain ⟨dx5, e5⟩ := (LA.mono s14).at_
  have rat4 := rat.mono s14
  obtain ⟨dr, tp, tm, zs, ws, r1, -⟩ := rat4.ex
  refine ⟨_, rfl, a, CL, dx5, _, _, rfl, e5, LC.cl, LC.n0, lk0, ru, dr, _, rfl, r1, ru, first, rows, rfl, rat4, fun J5 s5 => ⟨_, rfl, ?_⟩⟩
  have s15 := s14.trans s5
  refine ⟨_, rfl, h, _, rfl, hg0 (s15 _ _ h1), rp, fl, first, xs, rows, rfl, rul.mono s15, name_wd rat.wd, rat.few, fun J6 s6 => ⟨rfl, true, (by simp), iteT ?_⟩⟩
  have s16 := s15.trans s6
  obtain ⟨dx6, e6⟩ := (LA.mono s16).at_
  refine ⟨_, rfl, a, dx6, _, rfl, e6, a, la, lm, ru, n, mode, ptrO p, rs, ms, rfl, LA.mono s16, (ms.length : Nat), rfl, Int.natCast_nonneg _, (by omega), _, rfl, rfl, ?_⟩
  have : (V.bl (decide (V.int (ms.length : Nat) = V.int (ms.length : Nat)))) = .bl true := by simp
  rw [this]
  exact q J6 s16
end
end LT
namespace LT
open PySem L2
/-! ### a line and a hand, side by side -/
/-- kept: all but lists, dicts and lines -/
def Imm (CL : Addr) (J L : Hp) : Prop := ∀ c o, (∀ ys, o ≠ HO.lst ys) → (∀ dx fs, o ≠ HO.ins CL dx fs) → (∀ kvs, o ≠ HO.dK kvs) → J c = some o → L c = some o
theorem Imm.tup {CL : Addr} {J L : Hp} (k : Imm CL J L) : ∀ c ys, J c = some (.tup ys) → L c = some (.tup ys) := fun c ys e => k c _ (fun _ z => nomatch z) (fun _ _ z => nomatch z) (fun _ z => nomatch z) e
theorem Imm.of {CL : Addr} {J L : Hp} (s : Same J L) : Imm CL J L := fun c o _ _ _ e => s c o e
theorem RuleAt.imm {K : PySem.W.Frag} {CL C CR : Addr} {J L : Hp} {x : Addr} {first : Str} {rows : List Row5} (r : RuleAt K C CR J x first rows) (k : Imm CL J L) (d1 : CL ≠ CR) (d2 : CL ≠ C) : RuleAt K C CR L x first rows := by
  obtain ⟨⟨dx, tp, tm, xs, zs, h1, h2, h3, h4, h5⟩, h6, h7⟩ := r
  refine ⟨⟨dx, tp, tm, xs, zs, ?_, ?_, ⟨h3.1, fun i v e => ?_⟩, k.tup _ _ h4, h5⟩, h6, h7⟩
  · exact k _ _ (fun _ z => nomatch z) (fun _ _ z => d1 (by injection z with z1; exact z1.symm)) (fun _ z => nomatch z) h1
  · rcases h2 with (h2 | ⟨o, h2⟩) | h2
    · exact .inl (.inl (k.tup _ _ h2))
    · exact .inl (.inr ⟨o, k _ _ (fun _ z => nomatch z) (fun _ _ z => nomatch z) (fun _ z => nomatch z) h2⟩)
    · exact .inr h2
  · obtain ⟨b, r, e1, e2, ⟨dy, e3⟩, g⟩ := h3.2 i v e
    exact ⟨b, r, e1, e2, ⟨dy, k _ _ (fun _ z => nomatch z) (fun _ _ z => d2 (by injection z with z1; exact z1.symm)) (fun _ z => nomatch z) e3⟩, g⟩
theorem RuleL.imm {CL : Addr} {J L : Hp} {p fl : Addr} {first : Str} {xs : List V} {rows : List Row5} (h : RuleL J p fl first xs rows) (k : Imm CL J L) (kf : ∀ ys, J fl = some (.lst ys) → L fl = some (.lst ys)) : RuleL L p fl first xs rows :=
  ⟨k.tup _ _ h.p, kf _ h.fl, h.rt.1, fun i v e => by
    obtain ⟨b, r, e1, e2, e3, g⟩ := h.rt.2 i v e
    exact ⟨b, r, e1, e2, k.tup _ _ e3, g⟩⟩
theorem LineAt.imm {CL : Addr} {J L : Hp} {a la lm ru : Addr} {n : Int} {mode : Str} {ptr : Option Int} {rs : List (List Int)} {ms : List MarkS} (h : LineAt CL J a la lm ru n mode ptr rs ms) (k : Imm CL J L)
    (ka : ∀ dx fs, J a = some (.ins CL dx fs) → L a = some (.ins CL dx fs)) (k1 : ∀ ys, J la = some (.lst ys) → L la = some (.lst ys)) (k2 : ∀ ys, J lm = some (.lst ys) → L lm = some (.lst ys)) : LineAt CL L a la lm ru n mode ptr rs ms := by
  obtain ⟨⟨dx, e1⟩, ⟨as, e2, t2⟩, ⟨mks, e3, t3⟩, ne⟩ := h
  exact ⟨⟨dx, ka _ _ e1⟩, ⟨as, k1 _ e2, t2.keep k.tup⟩, ⟨mks, k2 _ e3, t3.keep k.tup⟩, ne⟩
theorem HandAt.imm {CL : Addr} {J L : Hp} {h sp al rp : Addr} {n : Int} {mode : Str} {p : Int} {rs : List (List Int)} (x : HandAt J h sp al rp n mode p rs) (k : Imm CL J L)
    (kh : ∀ kvs, J h = some (.dK kvs) → L h = some (.dK kvs)) (ka : ∀ ys, J al = some (.lst ys) → L al = some (.lst ys)) : HandAt L h sp al rp n mode p rs := by
  obtain ⟨h1, h2, as, h3, h4⟩ := x
  exact ⟨kh _ h1, k.tup _ _ h2, as, ka _ h3, h4.keep k.tup⟩
structure LAd where
  (d l a la lm ru h rp fl : Addr)
structure LHW (K : PySem.W.Frag) (C CR CL : Addr) (H J : Hp) (A : LAd) (n : Int) (first : Str) (xs : List V) (rows : List Row5) (mode : Str) (ptr : Option Int) (rs : List (List Int)) (ms : List MarkS) (sp al : Addr) (mode2 : Str) (p : Int) (rs2 : List (List Int)) : Prop where
  same : Same H J
  deal : Deal J A.d A.l
  line : LineAt CL J A.a A.la A.lm A.ru n mode ptr rs ms
  rat : RuleAt K C CR J A.ru first rows
  rul : RuleL J A.rp A.fl first xs rows
  hand : HandAt J A.h sp al A.rp n mode2 p rs2
  new : H A.d = none ∧ H A.l = none ∧ H A.a = none ∧ H A.la = none ∧ H A.lm = none ∧ H A.h = none
  nd : A.la ≠ A.d ∧ A.la ≠ A.l ∧ A.lm ≠ A.d ∧ A.lm ≠ A.l
  nf : A.fl ≠ A.d ∧ A.fl ≠ A.l ∧ A.fl ≠ A.la ∧ A.fl ≠ A.lm
  na : al ≠ A.d ∧ al ≠ A.l ∧ al ≠ A.la ∧ al ≠ A.lm
  pn : p < n
section
variable {K : PySem.W.Frag} {C CR CL : Addr} {H J L : Hp} {A : LAd} {n : Int} {first : Str} {xs : List V} {rows : List Row5} {mode : Str} {ptr : Option Int} {rs : List (List Int)} {ms : List MarkS} {sp al : Addr} {mode2 : Str} {p : Int} {rs2 : List (List Int)}
theorem LHW.mono (w : LHW K C CR CL H J A n first xs rows mode ptr rs ms sp al mode2 p rs2) (s : Same J L) : LHW K C CR CL H L A n first xs rows mode ptr rs ms sp al mode2 p rs2 :=
  ⟨w.same.trans s, w.deal.mono s, w.line.mono s, w.rat.mono s, w.rul.mono s, w.hand.mono s, w.new, w.nd, w.nf, w.na, w.pn⟩
theorem LHW.kd (w : LHW K C CR CL H J A n first xs rows mode ptr rs ms sp al mode2 p rs2) (k : Kd A.d A.l J L) (D : Deal L A.d A.l) (d1 : CL ≠ CR) (d2 : CL ≠ C) : LHW K C CR CL H L A n first xs rows mode ptr rs ms sp al mode2 p rs2 := by
  have im : Imm CL J L := fun c o n1 _ _ e => by
    have y := w.deal.off e n1
    exact k _ _ y.1 y.2 e
  have off : ∀ {c o}, (∀ ys, o ≠ HO.lst ys) → J c = some o → L c = some o := fun n1 e => by
    have y := w.deal.off e n1
    exact k _ _ y.1 y.2 e
  refine ⟨fun c o e => k _ _ (ne_of_none e w.new.1) (ne_of_none e w.new.2.1) (w.same _ _ e), D, w.line.imm im (fun dx fs e => off (fun _ z => nomatch z) e) (fun ys e => k _ _ w.nd.1 w.nd.2.1 e) (fun ys e => k _ _ w.nd.2.2.1 w.nd.2.2.2 e), w.rat.imm im d1 d2, w.rul.imm im (fun ys e => k _ _ w.nf.1 w.nf.2.1 e), w.hand.imm im (fun kvs e => off (fun _ z => nomatch z) e) (fun ys e => k _ _ w.na.1 w.na.2.1 e), w.new, w.nd, w.nf, w.na, w.pn⟩
theorem LHW.kl (w : LHW K C CR CL H J A n first xs rows mode ptr rs ms sp al mode2 p rs2) (k : Kl A.a A.la A.lm J L) {mode' : Str} {ptr' : Option Int} {rs' : List (List Int)} {ms' : List MarkS} (N : LineAt CL L A.a A.la A.lm A.ru n mode' ptr' rs' ms') (d1 : CL ≠ CR) (d2 : CL ≠ C) :
    LHW K C CR CL H L A n first xs rows mode' ptr' rs' ms' sp al mode2 p rs2 := by
  obtain ⟨⟨dx0, e10⟩, ⟨as0, e20, -⟩, ⟨mks0, e30, -⟩, -⟩ := w.line
  have im : Imm CL J L := fun c o n1 n2 _ e => by
    have y := w.line.off e n1 (fun dx fs z => n2 dx fs z)
    exact k _ _ y.1 y.2.1 y.2.2 e
  have notA : ∀ {c ys}, J c = some (HO.lst ys) → c ≠ A.a := fun e z => by
    rw [z, e10] at e
    cases e
  obtain ⟨cs, m, c1, c2, c3⟩ := w.deal.ex
  refine ⟨fun c o e => k _ _ (ne_of_none e w.new.2.2.1) (ne_of_none e w.new.2.2.2.1) (ne_of_none e w.new.2.2.2.2.1) (w.same _ _ e), ⟨cs, m, k _ _ (notA c1) (Ne.symm w.nd.1) (Ne.symm w.nd.2.2.1) c1, k _ _ (notA c2) (Ne.symm w.nd.2.1) (Ne.symm w.nd.2.2.2) c2, c3⟩, N, w.rat.imm im d1 d2, w.rul.imm im (fun ys e => k _ _ (notA e) w.nf.2.2.1 w.nf.2.2.2 e), w.hand.imm im (fun kvs e => ?_) (fun ys e => k _ _ (notA e) w.na.2.2.1 w.na.2.2.2 e), w.new, w.nd, w.nf, w.na, w.pn⟩
  have y := w.line.off e (fun _ z => nomatch z) (fun _ _ z => nomatch z)
  exact k _ _ y.1 y.2.1 y.2.2 e
theorem LHW.kh (w : LHW K C CR CL H J A n first xs rows mode ptr rs ms sp al mode2 p rs2) (k : Kh A.h J L) {sp' al' : Addr} {mode' : Str} {p' : Int} {rs' : List (List Int)} (N : HandAt L A.h sp' al' A.rp n mode' p' rs') (nal : J al' = none) (pn : p' < n) (d1 : CL ≠ CR) (d2 : CL ≠ C) :
    LHW K C CR CL H L A n first xs rows mode ptr rs ms sp' al' mode' p' rs' := by
  have off : ∀ {c o}, (∀ kvs, o ≠ HO.dK kvs) → J c = some o → L c = some o := fun {c o} n1 e => k _ _ (fun z => by
    rw [z, w.hand.at_] at e
    exact n1 _ (Option.some.inj e).symm) e
  have im : Imm CL J L := fun c o _ _ n3 e => off n3 e
  obtain ⟨cs, m, c1, c2, c3⟩ := w.deal.ex
  have x1 := w.deal.new nal
  have x2 := w.line.new nal
  exact ⟨fun c o e => k _ _ (ne_of_none e w.new.2.2.2.2.2) (w.same _ _ e), ⟨cs, m, off (fun _ z => nomatch z) c1, off (fun _ z => nomatch z) c2, c3⟩, w.line.imm im (fun dx fs e => off (fun _ z => nomatch z) e) (fun ys e => off (fun _ z => nomatch z) e) (fun ys e => off (fun _ z => nomatch z) e), w.rat.imm im d1 d2, w.rul.imm im (fun ys e => off (fun _ z => nomatch z) e), N, w.new, w.nd, w.nf, ⟨x1.1, x1.2, x2.2.1, x2.2.2⟩, pn⟩
/-- what is none of theirs may change -/
theorem LHW.put (w : LHW K C CR CL H J A n first xs rows mode ptr rs ms sp al mode2 p rs2) {q : Addr} {ys0 : List V} {o' : HO} (hq : J q = some (.lst ys0)) (nH : H q = none) (n1 : q ≠ A.d ∧ q ≠ A.l ∧ q ≠ A.la ∧ q ≠ A.lm ∧ q ≠ A.fl ∧ q ≠ al) (d1 : CL ≠ CR) (d2 : CL ≠ C) : LHW K C CR CL H (upd J q o') A n first xs rows mode ptr rs ms sp al mode2 p rs2 := by
  have k : ∀ {c o}, c ≠ q → J c = some o → upd J q o' c = some o := fun {c o} n e => by
    rw [upd_ne n]
    exact e
  have off : ∀ {c o}, (∀ ys, o ≠ HO.lst ys) → J c = some o → upd J q o' c = some o := fun {c o} n1 e => k (fun z => by
    rw [z, hq] at e
    exact n1 _ (Option.some.inj e).symm) e
  have im : Imm CL J (upd J q o') := fun c o n1 _ _ e => off n1 e
  obtain ⟨cs, m, c1, c2, c3⟩ := w.deal.ex
  obtain ⟨m1, m2, m3, m4, m5, m6⟩ := n1
  exact ⟨fun c o e => k (ne_of_none e nH) (w.same _ _ e), ⟨cs, m, k (Ne.symm m1) c1, k (Ne.symm m2) c2, c3⟩, w.line.imm im (fun dx fs e => off (fun _ z => nomatch z) e) (fun ys e => k (Ne.symm m3) e) (fun ys e => k (Ne.symm m4) e), w.rat.imm im d1 d2, w.rul.imm im (fun ys e => k (Ne.symm m5) e), w.hand.imm im (fun kvs e => off (fun _ z => nomatch z) e) (fun ys e => k (Ne.symm m6) e), w.new, w.nd, w.nf, w.na, w.pn⟩
/-- a new address is none of theirs -/
theorem LHW.off (w : LHW K C CR CL H J A n first xs rows mode ptr rs ms sp al mode2 p rs2) {q : Addr} (hq : J q = none) : (q ≠ A.d ∧ q ≠ A.l ∧ q ≠ A.la ∧ q ≠ A.lm ∧ q ≠ A.fl ∧ q ≠ al) ∧ q ≠ A.a ∧ q ≠ A.h := by
  have x1 := w.deal.new hq
  have x2 := w.line.new hq
  obtain ⟨h1, h2, as, h3, h4⟩ := w.hand
  exact ⟨⟨x1.1, x1.2, x2.2.1, x2.2.2, (fun z => by
    rw [z, w.rul.fl] at hq
    cases hq), (fun z => by
    rw [z, h3] at hq
    cases hq)⟩, x2.1, (fun z => by
    rw [z, h1] at hq
    cases hq)⟩
end
end LT
namespace LT
open PySem L2
/-! ### what repr tells of small tuples, and other small things -/
structure ShowsI (d : PyData) (k m : Nat) : Prop where
  lay : d.canLay0 = true
  sho : d.showable = true
  dep : d.depth ≤ k
  len : d.shown.length ≤ m
theorem piledI_le : ∀ {ts : List Str} {m : Nat}, (∀ t ∈ ts, t.length ≤ m) → piled ts ≤ ts.length * (m + 2)
  | [], m, _ => by simp [piled]
  | t :: ts, m, h => by
    have a := h t List.mem_cons_self
    have b := piledI_le fun u hu => h u (List.mem_cons_of_mem _ hu)
    rw [piled_cons, List.length_cons, Nat.succ_mul]
    omega
theorem showsI_all {k m : Nat} : ∀ {ds : List PyData}, (∀ d ∈ ds, ShowsI d k m) → PyData.canLayAll0 ds = true ∧ PyData.showableAll ds = true ∧ PyData.depthAll ds ≤ k ∧ (PyData.shownAll ds).length = ds.length ∧ ∀ t ∈ PyData.shownAll ds, t.length ≤ m
  | [], _ => ⟨rfl, rfl, Nat.zero_le _, rfl, fun _ h => nomatch h⟩
  | d :: ds, h => by
    have a := h d List.mem_cons_self
    obtain ⟨b1, b2, b3, b4, b5⟩ := showsI_all fun u hu => h u (List.mem_cons_of_mem _ hu)
    refine ⟨by simp only [PyData.canLayAll0]; rw [a.lay, b1]; rfl, by simp only [PyData.showableAll]; rw [a.sho, b2]; rfl, by simp only [PyData.depthAll]; exact Nat.max_le.mpr ⟨a.dep, b3⟩, by simp only [PyData.shownAll, List.length_cons]; rw [b4], fun t ht => ?_⟩
    simp only [PyData.shownAll] at ht
    rcases List.mem_cons.mp ht with rfl | q
    · exact a.len
    · exact b5 t q
theorem showsI_tuple {k m n : Nat} {ds : List PyData} (h : ∀ d ∈ ds, ShowsI d k m) (hn : ds.length ≤ n) : ShowsI (.tuple ds) (k + 1) (n * (m + 2) + 3) := by
  obtain ⟨a1, a2, a3, a4, a5⟩ := showsI_all h
  refine ⟨by simp only [PyData.canLay0]; exact a1, by simp only [PyData.showable]; exact a2, by simp only [PyData.depth]; omega, ?_⟩
  simp only [PyData.shown]
  have b := fmt_text (PyData.shownAll ds)
  have c := piledI_le a5
  rw [a4] at c
  have e := Nat.mul_le_mul_right (m + 2) hn
  omega
theorem small_show : ∀ k, k < 40 → ((PyData.int ((k : Nat) : Int)).canLay0 && (PyData.int ((k : Nat) : Int)).showable && decide ((PyData.int ((k : Nat) : Int)).depth ≤ 2) && decide ((PyData.int ((k : Nat) : Int)).shown.length ≤ 40)) = true := by decide +kernel
theorem ints_shown {l : List Int} (h : ∀ k ∈ l, 0 ≤ k ∧ k < 40) (hl : l.length ≤ 40) : (intsD l).showable = true ∧ (intsD l).hasDict = false ∧ (intsD l).depth ≤ 50 ∧ (intsD l).shown.length ≤ sizeLine := by
  have a : ShowsI (intsD l) 3 (40 * (40 + 2) + 3) := by
    unfold intsD
    refine showsI_tuple (k := 2) (m := 40) (n := 40) (fun d hd => ?_) (by rw [List.length_map]; exact hl)
    obtain ⟨k, hk, rfl⟩ := List.mem_map.mp hd
    have b := h k hk
    obtain ⟨j, rfl⟩ : ∃ j : Nat, k = (j : Int) := ⟨k.toNat, by omega⟩
    have all := small_show j (by omega)
    simp only [Bool.and_eq_true, decide_eq_true_eq] at all
    exact ⟨all.1.1.1, all.1.1.2, all.1.2, all.2⟩
  exact ⟨a.sho, PyData.hasDict_of_canLay _ a.lay, by have := a.dep; omega, by have := a.len; rw [sizeLine_eq]; omega⟩
theorem good_roundB {n : Int} {ns : List Int} (h : goodRound n ns = true) : roundB n (ns.map V.int) = true := by
  unfold goodRound at h
  unfold roundB
  rw [Bool.and_eq_true] at h
  have e : ∀ l : List Int, (l.map V.int).all (belowV n) = l.all fun k => decide (0 ≤ k) && decide (k < n) := fun l => by
    rw [List.all_map]
    rfl
  have e2 : ∀ l : List Int, intsOf (l.map V.int) = l := fun l => by
    induction l with
    | nil => rfl
    | cons a l ih =>
      show a :: intsOf (l.map V.int) = _
      rw [ih]
  rw [e, e2, h.1, h.2]
  rfl
theorem int_tyI {K : PySem.W.Frag} {H : Hp} {k : Int} : IntT K H (.int k) := ⟨_, true, false, fun J s => .base (.int k), kit_ty (by decide +kernel), kit_ty (by decide +kernel), rfl⟩
theorem rnd_drawn {K : PySem.W.Frag} {J : Hp} {q : Addr} {isL : Bool} {ns : List Int} {n : Int} (h : RoundAt J q isL ns) (g : goodRound n ns = true) (l : ns.length ≤ 40) : RndW K J (.ref q) n true := by
  refine .inr ⟨q, ns.map V.int, rfl, ?_, by rw [List.length_map]; omega, fun v hv => ?_, (good_roundB g).symm⟩
  · cases isL with
    | true => exact .inl (SqL.of h)
    | false => exact .inr (SqT.of h)
  · obtain ⟨k, _, rfl⟩ := List.mem_map.mp hv
    exact int_tyI
theorem RoundAt.kept {J L : Hp} {q : Addr} {isL : Bool} {ns : List Int} (h : RoundAt J q isL ns) (k : ∀ o, J q = some o → L q = some o) : RoundAt L q isL ns := by
  cases isL with
  | true => exact k _ h
  | false => exact k _ h
theorem RoundAt.seq {K : PySem.W.Frag} {J : Hp} {q : Addr} {isL : Bool} {ns : List Int} (h : RoundAt J q isL ns) : SqL K J q (ns.map V.int) ∨ SqT K J q (ns.map V.int) := by
  cases isL with
  | true => exact .inl (SqL.of h)
  | false => exact .inr (SqT.of h)
theorem endMode_wd {rows : List Row5} {mode : Str} {p : Option Int} {os : List Int} (w : Wd mode) (g : ∀ r ∈ rows, Good r) : Wd (endMode rows mode p os) := by
  unfold endMode
  split
  · exact w
  · rename_i d _
    cases e : rows[d]? with
    | none => exact w
    | some r => exact (g r (List.mem_of_getElem? e)).t
theorem kit_ll {K : PySem.W.Frag} : PySem.W.kitOne K (.type "list") (.type "list") = some true := kit_ty (by decide +kernel)
theorem kit_tl {K : PySem.W.Frag} : PySem.W.kitOne K (.type "tuple") (.type "list") = some false := kit_ty (by decide +kernel)
end LT
namespace L2
open PySem PySem.Spec PyProof.Rows
/-! ### del xs[k:] -/
def selF (start stop step : Int) (i : Nat) : Bool :=
  if step > 0 then start ≤ i && i < stop && (i - start) % step == 0
  else stop < i && i ≤ start && (start - i) % (-step) == 0
def delF (a n : Nat) (xs : Array Value) : Array Value := (xs.toList.zipIdx.filterMap fun (x, k) => if selF (a : Int) (n : Int) 1 k then none else some x).toArray
theorem selF_one {a n k : Nat} (hk : k < n) : selF (a : Int) (n : Int) 1 k = decide (a ≤ k) := by
  unfold selF
  rw [if_pos (by decide)]
  have h1 : ((k : Int) - a) % 1 = 0 := Int.emod_one _
  rw [h1]
  have h2 : decide ((k : Int) < n) = true := decide_eq_true (by omega)
  rw [h2]
  by_cases h : a ≤ k
  · rw [decide_eq_true h, decide_eq_true (show (a : Int) ≤ k by omega)]
    rfl
  · rw [decide_eq_false h, decide_eq_false (show ¬ (a : Int) ≤ k by omega)]
    rfl
theorem sel_fm (a n : Nat) : ∀ (xs : List Value) (i : Nat), i + xs.length = n → (xs.zipIdx i).filterMap (fun (x, k) => if selF (a : Int) (n : Int) 1 k then none else some x) = xs.take (a - i)
  | [], i, _ => by simp
  | x :: xs, i, h => by
    rw [List.length_cons] at h
    have ih := sel_fm a n xs (i + 1) (by omega)
    rw [List.zipIdx_cons, List.filterMap_cons]
    dsimp only
    rw [selF_one (by omega)]
    by_cases c : a ≤ i
    · rw [decide_eq_true c, if_pos rfl]
      dsimp only
      rw [ih]
      have e1 : a - (i + 1) = 0 := by omega
      have e2 : a - i = 0 := by omega
      rw [e1, e2]
      rfl
    · rw [decide_eq_false c, if_neg (by decide)]
      dsimp only
      rw [ih]
      have e2 : a - i = (a - (i + 1)) + 1 := by omega
      rw [e2]
      rfl
theorem delF_eq (a : Nat) (its : List Value) : delF a its.length its.toArray = (its.take a).toArray := by
  unfold delF
  have := sel_fm a its.length its 0 (by omega)
  rw [Nat.sub_zero] at this
  exact congrArg List.toArray this
theorem bounds_from {a n : Nat} (h : a ≤ n) : sliceBounds (some (a : Int)) none none n = ((a : Int), (n : Int), 1) := by
  simp only [sliceBounds, Option.getD_none]
  have h1 : ¬ ((a : Int) < 0) := by omega
  simp only [h1, if_false, show (1 : Int) > 0 by decide, if_true]
  congr 1
  omega
section
variable {prog : Program} {w : World} {A : Around} {E : Value → Shared → Prop} {s : Shared}
theorem delItem_slice {l sl : Addr} {items : Array Value} {n : Nat} {vl vu : Value} {a : Nat} {Q : Unit → Shared → Prop}
    (e : s.heap.get? l = some { cls := .type "list", data := .seq items n }) (hs : s.heap.IsSliceOf sl vl vu .none) (pl : IsPart vl (some (a : Int))) (pu : IsPart vu none) (ha : a ≤ items.size)
    (hsz : items.size ≤ sizeLine) (hz' : (delF a items.size items).size ≤ sizeLine + 1) (h : Q () { s with heap := s.heap.update l (Obj.mapSeq (delF a items.size)) }) :
    wpAny (model prog w) A (delItem (.ref l) (.ref sl)) Q E s := by
  have hl : s.heap.IsList l items := PySem.IsL.isList e
  obtain ⟨os, hos, hcs, hds⟩ := id hs
  have hTs : s.TypeIs (.ref sl) "slice" := ⟨os, hos, hcs⟩
  have hstep : ¬ ((rawPart none == rawInt 0) = true) := Bool.false_ne_true
  refine wpAny_delItem_slot hl.typeIs (by decide) F.slot_list_delitem (wpAny_call_entry F.slot_list_delitem hl.typeIs F.entry_list_delitem ?_ (F.args_list_delitem_2 _ _))
  show wpAny _ _ (Builtin.List.listSubscript? (.ref sl) >>= _) _ _ s
  refine wpAny_bind ?_
  unfold Builtin.List.listSubscript?
  refine wpAny_bind (wpAny_specialOf hTs slice_no_index ?_)
  simp only [Option.isNone_none, if_true]
  refine wpAny_pure ?_
  show wpAny _ _ (typeOf (.ref sl) >>= _) _ _ s
  refine wpAny_bind (wpAny_typeOf hTs ?_)
  first
    | rw [if_neg (by decide)]
    | refine PySem.W.KFB.if_not (by decide) ?_
  rw [listSliceParts_eq]
  refine wpAny_bind (wpAny_bind (wpAny_field hos hds (x := .none) rfl (wpAny_bind (wpAny_listPart .none ?_))))
  rw [if_neg hstep]
  refine wpAny_bind (wpAny_field hos hds (x := vl) rfl (wpAny_bind (wpAny_listPart pl ?_)))
  refine wpAny_bind (wpAny_field hos hds (x := vu) rfl (wpAny_bind (wpAny_listPart pu (wpAny_pure ?_))))
  unfold Builtin.List.listItems
  refine wpAny_bind (wpAny_bind (wpAny_seqItems e rfl (wpAny_pure ?_)))
  refine wpAny_bind (wpAny_of_eq ((sliceIndices_raw (some (a : Int)) none none items.size (by simp)).trans (congrArg (pure : Int × Int × Int → Sem (Int × Int × Int)) (bounds_from ha))) ?_)
  refine wpAny_bind (wpAny_rule ?_)
  show wpAny _ _ (updateSeq l (delF a items.size) >>= _) _ _ s
  refine wpAny_bind (wpAny_updateSeq (hz := hsz) (_hz' := hz') e rfl ?_)
  refine wpAny_bind (wpAny_letGo ?_)
  exact wpAny_pure ⟨.none, rfl, h⟩
end
section
variable {X : Cx} {o lo : Expr} {to : TE} {ti : TO} {pos tpos p2 : Pos}
theorem del_slice {pins : List (Addr × Obj)} {s : Shared} {σ : St} {H : Hp} {l sl : Addr} {xs : List V} {a : Nat} {vl vu : Value} {Q : Unit → Shared → Prop} (I : Inv X pins σ H s)
    (hH : H l = some (.lst xs)) (hs : s.heap.IsSliceOf sl vl vu .none) (pl : IsPart vl (some (a : Int))) (pu : IsPart vu none) (ha : a ≤ xs.length)
    (h : ∀ s', Inv X pins σ (upd H l (.lst (xs.take a))) s' → Q () s') : wpAny (model X.prog X.w) X.A (delItem (.ref l) (.ref sl)) Q X.xe s := by
  obtain ⟨z, its, n, r, hl, e⟩ := I.lstM hH
  have e1 : delF a its.toArray.size its.toArray = (its.take a).toArray := by
    rw [List.size_toArray]
    exact delF_eq a its
  refine delItem_slice (a := a) e hs pl pu (by rw [List.size_toArray]; omega) (by rw [List.size_toArray]; omega) (by rw [e1, List.size_toArray, List.length_take]; omega) (h _ ?_)
  refine I.lset (its' := its.take a) (t' := s.toks) hH e e1 (r.take _) ?_
  rw [List.length_take]
  omega
/-- del xs[k:] of a list -/
def tDelS (to : TE) (ti : TO) : TS := fun D σ H => to σ H fun x H1 => ti σ H1 fun y H2 => ∃ (l : Addr) (xs : List V) (k : Nat), x = .ref l ∧ y = some (k : Int) ∧ H2 l = some (.lst xs) ∧ k ≤ xs.length ∧ D.nx σ (upd H2 l (.lst (xs.take k)))
theorem ps_delS (ho : PE X o to) (hi : PO X (some lo) ti) : PS X (.Delete [.Subscript o (.Slice (some lo) none none p2) tpos] pos) (tDelS to ti) := by
  refine ⟨fun pins s σ H D I h => ?_⟩
  refine wpAny_Delete (wpAny_deleteEach_cons (wpAny_delete_Subscript (thn (ho.run pins s σ H _ I h) fun u s1 ⟨x, H1, I1, rx, q1⟩ => ?_)))
  refine wpAny_Slice (thn (hi.run pins s1 σ H1 _ I1 q1) fun vl s2 ⟨oi, H2, I2, pl, q2⟩ => ?_)
  rw [evalPart_none]
  refine wpAny_pure ?_
  refine wpAny_pure ?_
  obtain ⟨l, xs, k, ex, ey, hH, hk, q2⟩ := q2
  subst ex
  subst ey
  cases (show u = Value.ref l from rx)
  have I4 : Inv X pins σ H2 { s2 with heap := s2.heap.push { cls := .type "slice", data := .fields #[vl, .none, .none] } } := I2.kept (t' := s2.toks) fun b ob q => Heap.get?_push_of_some _ q
  exact del_slice I4 hH (Heap.IsSliceOf.new ..) pl .none hk fun s3 I3 => wpAny_deleteEach_nil ⟨σ, _, I3, q2⟩
end
end L2
namespace LT
open PySem L2
/-! ### another rule, and what is taken back -/
theorem TupsAt.take {J : Hp} {as : List V} {rs : List (List Int)} (h : TupsAt J as rs) (k : Nat) : TupsAt J (as.take k) (rs.take k) := ⟨by rw [List.length_take, List.length_take, h.1], fun i v e => by
  have hi : i < k := by
    have := (List.getElem?_eq_some_iff.mp e).1
    rw [List.length_take] at this
    omega
  rw [List.getElem?_take_of_lt hi] at e
  obtain ⟨t, r, e1, e2, e3⟩ := h.2 i v e
  exact ⟨t, r, e1, by rw [List.getElem?_take_of_lt hi]; exact e2, e3⟩⟩
theorem MarksAt.last {J : Hp} {mks : List V} {ms : List MarkS} {m : MarkS} (h : MarksAt J mks (ms ++ [m])) : ∃ (mk : List V) (t : Addr), mks = mk ++ [.ref t] ∧ MarksAt J mk ms ∧ J t = some (.tup m.vs) := by
  have hl := h.1
  rw [List.length_append, List.length_singleton] at hl
  obtain ⟨mk, y, rfl⟩ : ∃ mk y, mks = mk ++ [y] := by
    cases mks with
    | nil => cases hl
    | cons c cs => exact ⟨_, _, (List.dropLast_concat_getLast (List.cons_ne_nil c cs)).symm⟩
  rw [List.length_append, List.length_singleton] at hl
  have hl' : mk.length = ms.length := by omega
  obtain ⟨t, m', rfl, e2, e3⟩ := h.2 mk.length y List.getElem?_concat_length
  rw [hl'] at e2
  have : m = m' := by
    have e4 : (ms ++ [m])[ms.length]? = some m := List.getElem?_concat_length
    rw [e4] at e2
    exact Option.some.inj e2
  subst this
  refine ⟨mk, t, rfl, ⟨hl', fun i v e => ?_⟩, e3⟩
  have hi := (List.getElem?_eq_some_iff.mp e).1
  obtain ⟨t', r, e1, e5, e6⟩ := h.2 i v (by rw [List.getElem?_append_left hi]; exact e)
  exact ⟨t', r, e1, by rw [List.getElem?_append_left (by omega)] at e5; exact e5, e6⟩
def spLChange (K : PySem.W.Frag) (C CR CL : Addr) : Sp := fun vs H Q _ => ∃ (a la lm ru ru2 : Addr) (n : Int) (mode first2 : Str) (ptr : Option Int) (rs : List (List Int)) (ms : List MarkS) (rows2 : List Row5), vs = [.ref a, .ref ru2] ∧ LineAt CL H a la lm ru n mode ptr rs ms ∧ RuleAt K C CR H ru2 first2 rows2 ∧ ms.length ≤ 900 ∧
  ∀ J, Kl a la lm H J → (∀ c, J c = none → H c = none) → LineAt CL J a la lm ru2 n first2 none rs (ms ++ [⟨ru, mode, ptr, rs.length⟩]) → Q .non J
def spLUndo (CL : Addr) : Sp := fun vs H Q _ => ∃ (a la lm ru : Addr) (n : Int) (mode : Str) (ptr : Option Int) (rs : List (List Int)) (ms : List MarkS), vs = [.ref a] ∧ LineAt CL H a la lm ru n mode ptr rs ms ∧
  (ms = [] → Q (.bl false) H) ∧ (∀ (m : MarkS) (ms' : List MarkS), ms = ms' ++ [m] → m.k ≤ rs.length ∧ ∀ J, Kl a la lm H J → (∀ c, J c = none → H c = none) → LineAt CL J a la lm m.ru n m.mode m.ptr (rs.take m.k) ms' → Q (.bl true) J)
section
variable {P : Program} {w : World} {K : PySem.W.Frag} {mg : Str → Option Value} {base : Heap}
theorem scLChange : FnScope ["self", "rule"] ["self", "rule"] (defScope sLineChange) := ⟨rfl, rfl, rfl, by decide +kernel, rfl, by decide +kernel, by decide +kernel⟩
theorem scLUndo : FnScope ["self", "many"] ["self"] (defScope sLineUndo) := ⟨rfl, rfl, rfl, by decide +kernel, rfl, by decide +kernel, by decide +kernel⟩
theorem ok_lchange {C CR CL f fm : Addr} {fd dm : FuncData} (F : Fun K "change" "Line.change" sLineChange f fd) (LC : LineC K CL) (cR : Cls K CR) (nR : NoAttr K CR "first") (d1 : CL ≠ CR) (d2 : CL ≠ C)
    (GM : FnOk P w K mg base CX0 1 fm dm ["self"] (spLMark CL)) (bM : Binds K dm ["self"] []) (meM : Meth K CL "mark" fm) : FnOk P w K mg base CX0 2 f fd ["self", "rule"] (spLChange K C CR CL) := by
  refine F.ok scLChange (fun vs H Q E h => ?_) (fun cdv A outer s H vs Q E hr h => ?_)
  · obtain ⟨a, la, lm, ru, ru2, n, mode, first2, ptr, rs, ms, rows2, rfl, _⟩ := h
    rfl
  obtain ⟨a, la, lm, ru, ru2, n, mode, first2, ptr, rs, ms, rows2, rfl, LA, rat, few, q⟩ := h
  refine ⟨_, pss_cons (ps_expr (pe_meth0 (pv 0) LC.cl meM GM hr bM .nil pass0)) (pss_cons (ps_fld (pv 0) (pv 1) rfl) (pss_cons (ps_fld (pv 0) (pe_fld (pv 1) rfl) rfl) (pss_one (ps_fld (pv 0) pe_non rfl)))), ?_⟩
  obtain ⟨dx, e1⟩ := LA.at_
  have nom : (lineFs (.ref ru) (.int n) (.str mode) (ptrV ptr) (.ref la) (.ref lm)).lookup ("mark" : Str) = none := by kernel_rfl
  refine ⟨_, rfl, a, dx, _, rfl, e1, nom, a, la, lm, ru, n, mode, ptr, rs, ms, rfl, LA, few, fun J1 k1 b1 LA1 => ?_⟩
  have rat1 := rat.kl LA k1 d1 d2
  have ne1 := LA1.rule_ne rat1 d1
  obtain ⟨⟨dx1, f1⟩, ⟨as, f2, t2⟩, ⟨mks, f3, t3⟩, ne⟩ := LA1
  obtain ⟨dr, tp, tm, zs, ws, r1, -⟩ := rat1.ex
  have lf : (ruleFs (.str first2) (.ref tp) (.ref tm)).lookup ("first" : Str) = some (.str first2) := by kernel_rfl
  have ala : la ≠ a := fun z => by
    rw [z, f1] at f2
    cases f2
  have alm : lm ≠ a := fun z => by
    rw [z, f1] at f3
    cases f3
  refine ⟨_, rfl, _, rfl, a, CL, dx1, _, rfl, f1, LC.cl, LC.n0, (by show 6 < 1000; decide), ?_⟩
  rw [pf0]
  refine ⟨_, rfl, ru2, CR, dr, _, _, rfl, by rw [upd_ne ne1.1]; exact r1, cR, nR, lf, _, rfl, a, CL, dx1, _, rfl, upd_same, LC.cl, LC.n2, (by show 6 < 1000; decide), ?_⟩
  rw [pf2, upd_upd]
  refine ⟨_, rfl, a, CL, dx1, _, rfl, upd_same, LC.cl, LC.n3, (by show 6 < 1000; decide), ?_⟩
  rw [pf3, upd_upd]
  have tu : ∀ c xs, J1 c = some (.tup xs) → upd J1 a (.ins CL dx1 (lineFs (.ref ru2) (.int n) (.str first2) .non (.ref la) (.ref lm))) c = some (.tup xs) := fun c xs e => by
    rw [upd_ne (fun z => by rw [z, f1] at e; cases e)]
    exact e
  refine q _ (k1.trans (Kl.put (.inl rfl))) (fun c e => ?_) ⟨⟨dx1, upd_same⟩, ⟨as, by rw [upd_ne ala]; exact f2, t2.keep tu⟩, ⟨mks, by rw [upd_ne alm]; exact f3, t3.keep tu⟩, ne⟩
  by_cases z : c = a
  · rw [z, upd_same] at e
    cases e
  · rw [upd_ne z] at e
    exact b1 c e
theorem ok_lundo {CL f : Addr} {fd : FuncData} (F : Fun K "undo" "Line.undo" sLineUndo f fd) (LC : LineC K CL) : FnOk P w K mg base CX0 1 f fd ["self"] (spLUndo CL) := by
  refine F.ok scLUndo (fun vs H Q E h => ?_) (fun cdv A outer s H vs Q E hr h => ?_)
  · obtain ⟨a, la, lm, ru, n, mode, ptr, rs, ms, rfl, _⟩ := h
    rfl
  obtain ⟨a, la, lm, ru, n, mode, ptr, rs, ms, rfl, LA, q0, q1⟩ := h
  obtain ⟨⟨dx, e1⟩, ⟨as, e2, t2⟩, ⟨mks, e3, t3⟩, ne⟩ := LA
  refine ⟨_, pss_cons (ps_if (pt_not (pt_truth (pe_fld (pv 0) rfl) (fun _ => rfl))) (pss_one (ps_ret pe_bl)) pss_nil)
    (pss_cons (ps_asg (pe_bm0 PySem.F.plainAttrs_list PySem.F.slot_list_pop PySem.F.type_list_pop mt_pop (pe_fld (pv 0) rfl)) (pg_tup rfl (pgs_cons (pg_fld (pv 0)) (pgs_cons (pg_fld (pv 0)) (pgs_cons (pg_fld (pv 0)) (pgs_cons (pg_name (i := 1) scLUndo.nd rfl (Or.inl rfl)) pgs_nil))))))
    (pss_cons (ps_delS (pe_fld (pv 0) rfl) (po_some (pv 1))) (pss_one (ps_ret pe_bl)))), ?_⟩
  rcases List.eq_nil_or_concat ms with rfl | ⟨ms', m, ems⟩
  · have em : mks = [] := List.eq_nil_of_length_eq_zero t3.1
    subst em
    exact ⟨_, rfl, a, CL, dx, _, _, rfl, e1, LC.cl, LC.n5, lk5, false, .inl ⟨[], SqL.of e3, rfl⟩, iteT (q0 rfl)⟩
  · have ems' : ms = ms' ++ [m] := by rw [ems, List.concat_eq_append]
    subst ems'
    obtain ⟨mk, t, rfl, tm, et⟩ := t3.last
    obtain ⟨hk, q1⟩ := q1 m ms' rfl
    have ala : la ≠ a := fun z => by
      rw [z, e1] at e2
      cases e2
    have alm : lm ≠ a := fun z => by
      rw [z, e1] at e3
      cases e3
    refine ⟨_, rfl, a, CL, dx, _, _, rfl, e1, LC.cl, LC.n5, lk5, true, .inl ⟨_, SqL.of e3, by cases mk <;> rfl⟩, iteF ?_⟩
    refine ⟨_, rfl, a, CL, dx, _, _, rfl, e1, LC.cl, LC.n5, lk5, .inl ⟨rfl, _, SqL.of e3⟩, lm, _, .ref t, rfl, rfl, e3, ?_, ?_⟩
    · rw [List.length_append]
      exact List.getElem?_concat_length
    rw [List.dropLast_concat]
    have tu1 : ∀ c xs, H c = some (.tup xs) → upd H lm (.lst mk) c = some (.tup xs) := fun c xs e => by
      rw [upd_ne (fun z => by rw [z, e3] at e; cases e)]
      exact e
    have g1 : upd H lm (.lst mk) a = some (.ins CL dx (lineFs (.ref ru) (.int n) (.str mode) (ptrV ptr) (.ref la) (.ref lm))) := by
      rw [upd_ne (Ne.symm alm)]
      exact e1
    refine ⟨t, m.vs, rfl, SqT.of (tu1 _ _ et), rfl, _, _, rfl, _, rfl, a, CL, dx, _, rfl, g1, LC.cl, LC.n0, (by show 6 < 1000; decide), ?_⟩
    rw [pf0]
    refine ⟨_, _, rfl, _, rfl, a, CL, dx, _, rfl, upd_same, LC.cl, LC.n2, (by show 6 < 1000; decide), ?_⟩
    rw [pf2, upd_upd]
    refine ⟨_, _, rfl, _, rfl, a, CL, dx, _, rfl, upd_same, LC.cl, LC.n3, (by show 6 < 1000; decide), ?_⟩
    rw [pf3, upd_upd]
    refine ⟨_, _, rfl, rfl, ?_⟩
    have lk4' := lk4 (ru := .ref m.ru) (n := .int n) (mode := .str m.mode) (ptr := ptrV m.ptr) (la := .ref la) (lm := .ref lm)
    have g2 : upd (upd H lm (.lst mk)) a (.ins CL dx (lineFs (.ref m.ru) (.int n) (.str m.mode) (ptrV m.ptr) (.ref la) (.ref lm))) la = some (.lst as) := by
      rw [upd_ne ala, upd_ne ne]
      exact e2
    have la2 := t2.1
    refine ⟨_, rfl, a, CL, dx, _, _, rfl, upd_same, LC.cl, LC.n4, lk4', _, rfl, m.k, rfl, la, as, m.k, rfl, rfl, g2, by omega, ?_⟩
    have tu : ∀ c xs, H c = some (.tup xs) → upd (upd (upd H lm (.lst mk)) a (.ins CL dx (lineFs (.ref m.ru) (.int n) (.str m.mode) (ptrV m.ptr) (.ref la) (.ref lm)))) la (.lst (as.take m.k)) c = some (.tup xs) := fun c xs e => by
      rw [upd_ne (fun z => by rw [z, e2] at e; cases e), upd_ne (fun z => by rw [z, e1] at e; cases e)]
      exact tu1 _ _ e
    refine q1 _ (((Kl.put (.inr (.inr rfl))).trans (Kl.put (.inl rfl))).trans (Kl.put (.inr (.inl rfl)))) (fun c e => ?_) ⟨⟨dx, ?_⟩, ⟨as.take m.k, upd_same, (t2.take m.k).keep tu⟩, ⟨mk, ?_, tm.keep tu⟩, ne⟩
    · by_cases z1 : c = la
      · rw [z1, upd_same] at e
        cases e
      · rw [upd_ne z1] at e
        by_cases z2 : c = a
        · rw [z2, upd_same] at e
          cases e
        · rw [upd_ne z2] at e
          by_cases z3 : c = lm
          · rw [z3, upd_same] at e
            cases e
          · rw [upd_ne z3] at e
            exact e
    · rw [upd_ne (Ne.symm ala)]
      exact upd_same
    · rw [upd_ne (Ne.symm ne), upd_ne alm]
      exact upd_same
end
end LT
namespace LT
open PySem L2
/-! ### several rounds at once -/
def runS (rows : List Row5) : Str → Option Int → List (List Int) → Str × Option Int
  | m, p, [] => (m, p)
  | m, p, o :: os => runS rows (endMode rows m p (sortI o)) (endPtr rows m p (sortI o)) os
def runG (rows : List Row5) : Str → Option Int → List (List Int) → List (List Int)
  | _, _, [] => []
  | m, p, o :: os => canonI (endGrants rows m p (sortI o)) :: runG rows (endMode rows m p (sortI o)) (endPtr rows m p (sortI o)) os
theorem runS_snoc {rows : List Row5} {o : List Int} : ∀ {os : List (List Int)} {m : Str} {p : Option Int}, runS rows m p (os ++ [o]) = (endMode rows (runS rows m p os).1 (runS rows m p os).2 (sortI o), endPtr rows (runS rows m p os).1 (runS rows m p os).2 (sortI o))
  | [], _, _ => rfl
  | _ :: os, _, _ => runS_snoc (os := os)
theorem runG_snoc {rows : List Row5} {o : List Int} : ∀ {os : List (List Int)} {m : Str} {p : Option Int}, runG rows m p (os ++ [o]) = runG rows m p os ++ [canonI (endGrants rows (runS rows m p os).1 (runS rows m p os).2 (sortI o))]
  | [], _, _ => rfl
  | o' :: os, m, p => congrArg (canonI (endGrants rows m p (sortI o')) :: ·) (runG_snoc (os := os))
/-- a list of drawn rounds -/
def RdsL (J : Hp) (n : Int) (no : Addr → Prop) (xs : List V) (oss : List (List Int)) : Prop := xs.length = oss.length ∧ ∀ (i : Nat) (v : V), xs[i]? = some v → ∃ (q : Addr) (isL : Bool) (os : List Int), v = .ref q ∧ oss[i]? = some os ∧ RoundAt J q isL os ∧ goodRound n os = true ∧ os.length ≤ 40 ∧ ¬ no q
theorem RdsL.kept {J L : Hp} {n : Int} {no : Addr → Prop} {xs : List V} {oss : List (List Int)} (h : RdsL J n no xs oss) (k : ∀ c o, ¬ no c → J c = some o → L c = some o) : RdsL L n no xs oss := ⟨h.1, fun i v e => by
  obtain ⟨q, isL, os, e1, e2, e3, e4, e5, e6⟩ := h.2 i v e
  exact ⟨q, isL, os, e1, e2, e3.kept fun o => k q o e6, e4, e5, e6⟩⟩
def spLSev (K : PySem.W.Frag) (C CR CL : Addr) : Sp := fun vs H Q _ => ∃ (a la lm ru q : Addr) (n : Int) (mode first : Str) (ptr : Option Int) (rs : List (List Int)) (ms : List MarkS) (rows : List Row5) (xs : List V) (oss : List (List Int)), vs = [.ref a, .ref q] ∧ LineAt CL H a la lm ru n mode ptr rs ms ∧ RuleAt K C CR H ru first rows ∧
  H q = some (.lst xs) ∧ (q ≠ la ∧ q ≠ lm) ∧ RdsL H n (fun c => c = a ∨ c = la ∨ c = lm) xs oss ∧ rs.length + oss.length ≤ 900 ∧ ms.length ≤ 900 ∧ oss.length ≤ 40 ∧
  ∀ (t : Addr) (gs : List V) (J : Hp), Kl a la lm H J → LineAt CL J a la lm ru n (runS rows mode ptr oss).1 (runS rows mode ptr oss).2 (rs ++ oss.map sortI) (ms ++ [⟨ru, mode, ptr, rs.length⟩]) → J t = some (.tup gs) → TupsAt J gs (runG rows mode ptr oss) → Q (.ref t) J
section
variable {P : Program} {w : World} {K : PySem.W.Frag} {mg : Str → Option Value} {base : Heap}
abbrev nLSev : List Str := ["self", "rounds", "at", "asking"]
theorem scLSev : FnScope nLSev ["self", "rounds"] (defScope sLineSeveral) := ⟨rfl, rfl, rfl, by decide +kernel, rfl, by decide +kernel, by decide +kernel⟩
theorem ok_lsev {C CR CL f fi fm fg : Addr} {fd di dm dg : FuncData} (F : Fun K "several" "Line.several" sLineSeveral f fd) (T : Blt mg) (Z : Blt4 mg) (LC : LineC K CL) (d1 : CL ≠ CR) (d2 : CL ≠ C)
    (GI : FnOk P w K mg base CX0 3 fi di ["value", "askers"] (spIsRoundX K)) (bI : Binds K di ["value", "askers"] []) (kI : PySem.W.keepIn K (.ref fi) = true) (mI : mg "is_round" = some (.ref fi))
    (GM : FnOk P w K mg base CX0 1 fm dm ["self"] (spLMark CL)) (bM : Binds K dm ["self"] []) (meM : Meth K CL "mark" fm) (GG : FnOk P w K mg base CX0 4 fg dg ["self", "asking"] (spLGrant K C CR CL)) (bG : Binds K dg ["self", "asking"] []) (meG : Meth K CL "granted_to" fg) :
    FnOk P w K mg base CX0 5 f fd ["self", "rounds"] (spLSev K C CR CL) := by
  refine F.ok scLSev (fun vs H Q E h => ?_) (fun cdv A outer s H vs Q E hr h => ?_)
  · obtain ⟨a, la, lm, ru, q, n, mode, first, ptr, rs, ms, rows, xs, oss, rfl, _⟩ := h
    rfl
  obtain ⟨a, la, lm, ru, q0, n, mode, first, ptr, rs, ms, rows, xs, oss, rfl, LA, rat, hq, nq, rd, lrs, lms, los, q⟩ := h
  have hr4 := hr
  have hr3 : Room 3 _ := hr.mono (by decide)
  have hr1 : Room 1 _ := hr.mono (by decide)
  refine ⟨_, pss_cons (ps_for PassesOwn.never rfl (pi_enum (by rfl) Z.enumerate (pa_cons (pv 1) pa_nil)) (pg_tup rfl (pgs_cons (pg_name (i := 2) scLSev.nd rfl (Or.inl rfl)) (pgs_cons (pg_name (i := 3) scLSev.nd rfl (Or.inl rfl)) pgs_nil)))
      (pss_one (ps_if (pt_not (pt_val (pe_call GI hr3 (by rfl) mI kI bI .nil pass0 (pa_cons (pv 3) (pa_cons (pe_fld (pv 0) rfl) pa_nil))))) (pss_one ps_never) pss_nil)))
    (pss_cons (ps_expr (pe_meth0 (pv 0) LC.cl meM GM hr1 bM .nil pass0))
    (pss_one (ps_ret (pe_callTy (r := rTupOf K) call_tuple_of (by rfl) T.tuple bt_tuple (pa_cons (pe_lc (own := [("asking", 3)]) (g := gName 3) (tt := tYes) (by rfl) scLSev.nd (pi_list (pv 1)) (blkOk_by (N := nLSev) (sc := defScope sLineSeveral) (own := [("asking", 3)]) (by decide +kernel)) (fun _ _ _ _ _ => pg_name (i := 3) scLSev.nd rfl (Or.inl rfl)) (fun _ _ _ _ _ => pts_nil) (fun _ _ _ _ _ => pe_meth (pv 0) LC.cl meG GG hr4 bG .nil pass0 (pa_cons (pv 3) pa_nil))) pa_nil))))), ?_⟩
  refine ⟨_, rfl, q0, xs, rfl, SqL.of hq, for_it (walk_enum (K := K) (a := q0) (xs := xs)) (fun i σ J => ∃ v2 v3, σ = [some (.ref a), some (.ref q0), v2, v3] ∧ Same H J) ⟨_, _, rfl, Same.refl _⟩ (fun i σ J _ ⟨_, _, _, s⟩ => SqL.of (s _ _ hq)) ?_ ?_⟩
  · rintro i x σ J J2 hi ⟨v2, v3, rfl, s⟩ ⟨W, x1, e, rfl, nW, rfl, ex1, ee⟩
    cases ex1
    replace ee : xs[i]? = some e := ee
    obtain ⟨qi, isL, os, rfl, _, ra, go, lo, _⟩ := rd.2 i e ee
    have s2 := s.trans (new_same nW (.tup [V.int (i : Nat), V.ref qi]))
    have hW : upd J W (.tup [V.int (i : Nat), V.ref qi]) W = some (.tup [V.int (i : Nat), V.ref qi]) := upd_same
    generalize upd J W (.tup [V.int (i : Nat), V.ref qi]) = J3 at s2 hW ⊢
    obtain ⟨dx, e1⟩ := (LA.mono s2).at_
    refine ⟨W, _, rfl, SqT.of hW, rfl, _, _, rfl, _, _, rfl, rfl, _, rfl, _, rfl, a, CL, dx, _, _, rfl, e1, LC.cl, LC.n1, lk1, .ref qi, n, true, rfl, rnd_drawn (ra.kept fun o e => s2 _ _ e) go lo, fun J4 s4 => ⟨true, rfl, iteF ?_⟩⟩
    exact ⟨_, _, rfl, s2.trans s4⟩
  · rintro σ J ⟨v2, v3, rfl, s⟩
    have LA1 := LA.mono s
    obtain ⟨dx, e1⟩ := LA1.at_
    have nom : (lineFs (.ref ru) (.int n) (.str mode) (ptrV ptr) (.ref la) (.ref lm)).lookup ("mark" : Str) = none := by kernel_rfl
    refine ⟨_, rfl, a, dx, _, rfl, e1, nom, a, la, lm, ru, n, mode, ptr, rs, ms, rfl, LA1, lms, fun J2 k2 b2 LA2 => ?_⟩
    have nqa : q0 ≠ a := fun z => by
      obtain ⟨dx0, e0⟩ := LA.at_
      rw [z, e0] at hq
      cases hq
    have rat2 := (rat.mono s).kl LA1 k2 d1 d2
    have kl2 : Kl a la lm H J2 := (Kl.of s).trans k2
    have eq2 : J2 q0 = some (.lst xs) := kl2 _ _ nqa nq.1 nq.2 hq
    have lx := rd.1
    refine ⟨_, rfl, q0, rfl, ⟨_, SqL.of eq2⟩, fun D hD => lc_list (fun i M => Kl a la lm J2 M ∧ (∃ gs, M D = some (.lst gs) ∧ TupsAt M gs (runG rows mode ptr (oss.take i))) ∧ LineAt CL M a la lm ru n (runS rows mode ptr (oss.take i)).1 (runS rows mode ptr (oss.take i)).2 (rs ++ (oss.take i).map sortI) (ms ++ [⟨ru, mode, ptr, rs.length⟩]) ∧ RuleAt K C CR M ru first rows)
      ⟨Kl.of (new_same hD _), ⟨[], upd_same, .nil⟩, by
        have := LA2.mono (new_same hD (.lst []))
        rw [List.take_zero, List.map_nil, List.append_nil]
        exact this, rat2.mono (new_same hD _)⟩ (fun i M _ ⟨k, _⟩ => SqL.of (k _ _ nqa nq.1 nq.2 eq2)) (fun i v M hv ⟨k, ⟨gs, eD, tg⟩, LM, rM⟩ => ?_) (fun M ⟨k, ⟨gs, eD, tg⟩, LM, rM⟩ => ?_)⟩
    · obtain ⟨qi, isL, os, rfl, eo, ra, go, lo, no⟩ := rd.2 i v hv
      have hi : i < oss.length := (List.getElem?_eq_some_iff.mp eo).1
      have noq : qi ≠ a ∧ qi ≠ la ∧ qi ≠ lm := ⟨fun z => no (.inl z), fun z => no (.inr (.inl z)), fun z => no (.inr (.inr z))⟩
      have raM := ra.kept (L := M) fun o e => k _ _ noq.1 noq.2.1 noq.2.2 (kl2 _ _ noq.1 noq.2.1 noq.2.2 e)
      have ts := take_snoc eo
      obtain ⟨dxM, eM⟩ := LM.at_
      have nog : ∀ (m : Str) (p : Option Int), (lineFs (.ref ru) (.int n) (.str m) (ptrV p) (.ref la) (.ref lm)).lookup ("granted_to" : Str) = none := fun m p => by kernel_rfl
      have xD := LA2.new hD
      refine ⟨rfl, _, rfl, a, dxM, _, rfl, eM, nog _ _, _, rfl, a, la, lm, ru, qi, n, _, first, _, _, _, rows, os, rfl, LM, rM, raM.seq, by rw [List.length_append, List.length_map, List.length_take]; omega, fun out asked g M2 pm pw pwo mem k3 b3 LM3 ng eg => ?_⟩
      obtain rfl : asked = sortI os := sorted_one pw (sort_up _) (pm.trans (sort_perm os).symm)
      have eD3 := k3 _ _ xD.1 xD.2.1 xD.2.2 eD
      have tu3 : ∀ c ys, M c = some (.tup ys) → M2 c = some (.tup ys) := k3.tup LM
      have tuD : ∀ c ys, M2 c = some (.tup ys) → upd M2 D (.lst (gs ++ [.ref g])) c = some (.tup ys) := fun c ys e => by
        rw [upd_ne (fun z => by rw [z, eD3] at e; cases e)]
        exact e
      have eo2 : out = canonI (endGrants rows (runS rows mode ptr (oss.take i)).1 (runS rows mode ptr (oss.take i)).2 (sortI os)) := lt_pairwise_one pwo (canon_up _) fun k => by rw [mem k, canon_mem]
      have imD : Imm CL M2 (upd M2 D (.lst (gs ++ [.ref g]))) := fun c o n1 _ _ e => by
        rw [upd_ne (fun z => by
          rw [z, eD3] at e
          exact n1 _ (Option.some.inj e).symm)]
        exact e
      refine ⟨gs, eD3, ?_, fun c o n1 n2 n3 e => ?_, ⟨gs ++ [.ref g], upd_same, ?_⟩, ?_, (rM.kl LM k3 d1 d2).imm imD d1 d2⟩
      · have := tg.1
        have l2 : ∀ (l : List (List Int)) (m : Str) (p : Option Int), (runG rows m p l).length = l.length := fun l => by
          induction l with
          | nil => intro m p; rfl
          | cons o l ih => intro m p; exact congrArg Nat.succ (ih _ _)
        rw [l2, List.length_take] at this
        exact small1000 (by omega)
      · rw [upd_ne (fun z => by rw [z, hD] at e; cases e)]
        exact k3 _ _ n1 n2 n3 (k _ _ n1 n2 n3 e)
      · rw [ts, runG_snoc, ← eo2]
        exact ((tg.keep tu3).keep tuD).snoc (tuD _ _ eg)
      · rw [ts, runS_snoc, List.map_append, ← List.append_assoc]
        exact LM3.imm imD (fun dx fs e => by rw [upd_ne (Ne.symm xD.1)]; exact e) (fun ys e => by rw [upd_ne (Ne.symm xD.2.1)]; exact e) (fun ys e => by rw [upd_ne (Ne.symm xD.2.2)]; exact e)
    · rw [lx, List.take_length] at tg LM
      refine ⟨D, _, rfl, .inl ⟨SqL.of eD, fun t nt => ?_⟩⟩
      have st := new_same nt (.tup gs)
      exact q t gs _ (fun c o n1 n2 n3 e => st _ _ (k _ _ n1 n2 n3 (kl2 _ _ n1 n2 n3 e))) (LM.mono st) upd_same (tg.keep fun c ys e => st _ _ e)
end
end LT
namespace LT
open PySem L2
/-! ### hands of before, in a pile -/
structure HS where
  (h sp al rp fl ru : Addr)
  first : Str
  xs : List V
  rows : List Row5
  mode : Str
  p : Int
  k : Nat
structure EntAt (K : PySem.W.Frag) (C CR : Addr) (H J : Hp) (n : Int) (no : Addr → Prop) (e : HS) (rs : List (List Int)) : Prop where
  hand : HandAt J e.h e.sp e.al e.rp n e.mode e.p rs
  rul : RuleL J e.rp e.fl e.first e.xs e.rows
  rat : RuleAt K C CR J e.ru e.first e.rows
  few : e.rows.length ≤ 12
  wm : Wd e.mode
  wf : Wd e.first
  pn : e.p < n
  new : H e.h = none
  nal : ¬ no e.al
  nfl : ¬ no e.fl
def Stk (K : PySem.W.Frag) (C CR : Addr) (H J : Hp) (n : Int) (no : Addr → Prop) : List HS → List (List Int) → List MarkS → Prop
  | [], rs, ms => ms = [] ∧ rs = []
  | e :: es, rs, ms => ∃ ms', ms = ms' ++ [⟨e.ru, e.mode, ptrO e.p, e.k⟩] ∧ e.k ≤ rs.length ∧ EntAt K C CR H J n no e (rs.take e.k) ∧ (∀ e' ∈ es, e'.h ≠ e.h) ∧ Stk K C CR H J n no es (rs.take e.k) ms'
section
variable {K : PySem.W.Frag} {C CR CL : Addr} {H J L : Hp} {n : Int} {no : Addr → Prop}
theorem EntAt.keep {e : HS} {rs : List (List Int)} (x : EntAt K C CR H J n no e rs) (im : Imm CL J L) (kl : ∀ c ys, ¬ no c → J c = some (.lst ys) → L c = some (.lst ys)) (kd : ∀ kvs, J e.h = some (.dK kvs) → L e.h = some (.dK kvs)) (d1 : CL ≠ CR) (d2 : CL ≠ C) : EntAt K C CR H L n no e rs :=
  ⟨x.hand.imm im kd (fun ys => kl _ ys x.nal), x.rul.imm im (fun ys => kl _ ys x.nfl), x.rat.imm im d1 d2, x.few, x.wm, x.wf, x.pn, x.new, x.nal, x.nfl⟩
theorem Stk.keep (im : Imm CL J L) (kl : ∀ c ys, ¬ no c → J c = some (.lst ys) → L c = some (.lst ys)) (d1 : CL ≠ CR) (d2 : CL ≠ C) : ∀ {es : List HS} {rs : List (List Int)} {ms : List MarkS}, (∀ e ∈ es, ∀ kvs, J e.h = some (.dK kvs) → L e.h = some (.dK kvs)) → Stk K C CR H J n no es rs ms → Stk K C CR H L n no es rs ms
  | [], _, _, _, x => x
  | e :: es, rs, ms, kd, ⟨ms', e1, e2, e3, e4, e5⟩ => ⟨ms', e1, e2, e3.keep im kl (kd e List.mem_cons_self) d1 d2, e4, Stk.keep im kl d1 d2 (fun e' h => kd e' (List.mem_cons_of_mem _ h)) e5⟩
theorem Stk.dict : ∀ {es : List HS} {rs : List (List Int)} {ms : List MarkS}, Stk K C CR H J n no es rs ms → ∀ e ∈ es, ∃ kvs, J e.h = some (.dK kvs)
  | e :: es, _, _, ⟨_, _, _, e3, _, e5⟩, e', h => by
    rcases List.mem_cons.mp h with rfl | h
    · exact ⟨_, e3.hand.at_⟩
    · exact Stk.dict e5 e' h
end
abbrev noA (A : LAd) (el : Addr) : Addr → Prop := fun c => c = A.d ∨ c = A.l ∨ c = A.la ∨ c = A.lm ∨ c = el
def elV (es : List HS) : List V := es.reverse.map fun e => .ref e.h
structure LHK (K : PySem.W.Frag) (C CR CL : Addr) (H J : Hp) (A : LAd) (n : Int) (first : Str) (xs : List V) (rows : List Row5) (mode : Str) (ptr : Option Int) (rs : List (List Int)) (ms : List MarkS) (sp al : Addr) (mode2 : Str) (p : Int) (rs2 : List (List Int)) (el : Addr) (es : List HS) (rs0 : List (List Int)) (ms0 : List MarkS) : Prop where
  w : LHW K C CR CL H J A n first xs rows mode ptr rs ms sp al mode2 p rs2
  ela : J el = some (.lst (elV es))
  stk : Stk K C CR H J n (noA A el) es rs0 ms0
  hne : ∀ e ∈ es, e.h ≠ A.h
  nel : el ≠ A.d ∧ el ≠ A.l ∧ el ≠ A.la ∧ el ≠ A.lm ∧ el ≠ A.fl ∧ el ≠ al
  newel : H el = none
section
variable {K : PySem.W.Frag} {C CR CL : Addr} {H J L : Hp} {A : LAd} {n : Int} {first : Str} {xs : List V} {rows : List Row5} {mode : Str} {ptr : Option Int} {rs : List (List Int)} {ms : List MarkS} {sp al : Addr} {mode2 : Str} {p : Int} {rs2 : List (List Int)} {el : Addr} {es : List HS} {rs0 : List (List Int)} {ms0 : List MarkS}
theorem LHK.mono (x : LHK K C CR CL H J A n first xs rows mode ptr rs ms sp al mode2 p rs2 el es rs0 ms0) (s : Same J L) (d1 : CL ≠ CR) (d2 : CL ≠ C) : LHK K C CR CL H L A n first xs rows mode ptr rs ms sp al mode2 p rs2 el es rs0 ms0 :=
  ⟨x.w.mono s, s _ _ x.ela, x.stk.keep (Imm.of (CL := CL) s) (fun c ys _ e => s _ _ e) d1 d2 (fun e _ kvs h => s _ _ h), x.hne, x.nel, x.newel⟩
theorem LHK.kd (x : LHK K C CR CL H J A n first xs rows mode ptr rs ms sp al mode2 p rs2 el es rs0 ms0) (k : Kd A.d A.l J L) (D : Deal L A.d A.l) (d1 : CL ≠ CR) (d2 : CL ≠ C) : LHK K C CR CL H L A n first xs rows mode ptr rs ms sp al mode2 p rs2 el es rs0 ms0 := by
  have im : Imm CL J L := fun c o n1 _ _ e => by
    have y := x.w.deal.off e n1
    exact k _ _ y.1 y.2 e
  refine ⟨x.w.kd k D d1 d2, k _ _ x.nel.1 x.nel.2.1 x.ela, x.stk.keep im (fun c ys nc e => k _ _ (fun z => nc (.inl z)) (fun z => nc (.inr (.inl z))) e) d1 d2 (fun e _ kvs h => ?_), x.hne, x.nel, x.newel⟩
  have y := x.w.deal.off h (fun _ z => nomatch z)
  exact k _ _ y.1 y.2 h
theorem LHK.kl (x : LHK K C CR CL H J A n first xs rows mode ptr rs ms sp al mode2 p rs2 el es rs0 ms0) (k : Kl A.a A.la A.lm J L) {mode' first' : Str} {ptr' : Option Int} {rs' : List (List Int)} {ms' : List MarkS} {ru' : Addr} {xs' : List V} {rows' : List Row5} {rp' fl' : Addr} (nf : el ≠ fl') (d1 : CL ≠ CR) (d2 : CL ≠ C)
    (W' : LHW K C CR CL H L ⟨A.d, A.l, A.a, A.la, A.lm, ru', A.h, rp', fl'⟩ n first' xs' rows' mode' ptr' rs' ms' sp al mode2 p rs2) :
    LHK K C CR CL H L ⟨A.d, A.l, A.a, A.la, A.lm, ru', A.h, rp', fl'⟩ n first' xs' rows' mode' ptr' rs' ms' sp al mode2 p rs2 el es rs0 ms0 := by
  obtain ⟨⟨dx0, e10⟩, ⟨as0, e20, -⟩, ⟨mks0, e30, -⟩, -⟩ := x.w.line
  have im : Imm CL J L := fun c o n1 n2 _ e => by
    have y := x.w.line.off e n1 (fun dx fs z => n2 dx fs z)
    exact k _ _ y.1 y.2.1 y.2.2 e
  have notA : ∀ {c ys}, J c = some (HO.lst ys) → c ≠ A.a := fun e z => by
    rw [z, e10] at e
    cases e
  refine ⟨W', k _ _ (notA x.ela) x.nel.2.2.1 x.nel.2.2.2.1 x.ela, x.stk.keep im (fun c ys nc e => k _ _ (notA e) (fun z => nc (.inr (.inr (.inl z)))) (fun z => nc (.inr (.inr (.inr (.inl z))))) e) d1 d2 (fun e _ kvs h => ?_), x.hne, ⟨x.nel.1, x.nel.2.1, x.nel.2.2.1, x.nel.2.2.2.1, nf, x.nel.2.2.2.2.2⟩, x.newel⟩
  have y := x.w.line.off h (fun _ z => nomatch z) (fun _ _ z => nomatch z)
  exact k _ _ y.1 y.2.1 y.2.2 h
theorem LHK.kh (x : LHK K C CR CL H J A n first xs rows mode ptr rs ms sp al mode2 p rs2 el es rs0 ms0) (k : Kh A.h J L) {sp' al' : Addr} {mode' : Str} {p' : Int} {rs' : List (List Int)} (N : HandAt L A.h sp' al' A.rp n mode' p' rs') (nal : J al' = none) (pn : p' < n) (d1 : CL ≠ CR) (d2 : CL ≠ C) :
    LHK K C CR CL H L A n first xs rows mode ptr rs ms sp' al' mode' p' rs' el es rs0 ms0 := by
  have off : ∀ {c o}, (∀ kvs, o ≠ HO.dK kvs) → J c = some o → L c = some o := fun {c o} n1 e => k _ _ (fun z => by
    rw [z, x.w.hand.at_] at e
    exact n1 _ (Option.some.inj e).symm) e
  have im : Imm CL J L := fun c o _ _ n3 e => off n3 e
  refine ⟨x.w.kh k N nal pn d1 d2, off (fun _ z => nomatch z) x.ela, x.stk.keep im (fun c ys _ e => off (fun _ z => nomatch z) e) d1 d2 (fun e he kvs h => k _ _ (x.hne e he) h), x.hne, ⟨x.nel.1, x.nel.2.1, x.nel.2.2.1, x.nel.2.2.2.1, x.nel.2.2.2.2.1, fun z => ?_⟩, x.newel⟩
  rw [← z, x.ela] at nal
  cases nal
/-- the pile is another list -/
theorem LHK.put (x : LHK K C CR CL H J A n first xs rows mode ptr rs ms sp al mode2 p rs2 el es rs0 ms0) {ys : List V} (d1 : CL ≠ CR) (d2 : CL ≠ C) : LHW K C CR CL H (upd J el (.lst ys)) A n first xs rows mode ptr rs ms sp al mode2 p rs2 ∧ Stk K C CR H (upd J el (.lst ys)) n (noA A el) es rs0 ms0 := by
  have off : ∀ {c o}, (∀ ys, o ≠ HO.lst ys) → J c = some o → upd J el (.lst ys) c = some o := fun {c o} n1 e => by
    rw [upd_ne (fun z => by
      rw [z, x.ela] at e
      exact n1 _ (Option.some.inj e).symm)]
    exact e
  refine ⟨x.w.put x.ela x.newel x.nel d1 d2, x.stk.keep (CL := CL) (fun c o n1 _ _ e => off n1 e) (fun c ys nc e => ?_) d1 d2 (fun e _ kvs h => off (fun _ z => nomatch z) h)⟩
  rw [upd_ne (fun z => nc (.inr (.inr (.inr (.inr z)))))]
  exact e
theorem Stk.grow {no : Addr → Prop} {more : List (List Int)} : ∀ {es : List HS} {rs : List (List Int)} {ms : List MarkS}, es ≠ [] → Stk K C CR H J n no es rs ms → Stk K C CR H J n no es (rs ++ more) ms
  | [], _, _, h, _ => absurd rfl h
  | e :: es, rs, ms, _, ⟨ms', e1, e2, e3, e4, e5⟩ => by
    have et : (rs ++ more).take e.k = rs.take e.k := List.take_append_of_le_length e2
    exact ⟨ms', e1, by rw [List.length_append]; omega, by rw [et]; exact e3, e4, by rw [et]; exact e5⟩
theorem Stk.len {no : Addr → Prop} : ∀ {es : List HS} {rs : List (List Int)} {ms : List MarkS}, Stk K C CR H J n no es rs ms → ms.length = es.length
  | [], _, _, ⟨h, _⟩ => by rw [h]; rfl
  | e :: es, rs, ms, ⟨ms', e1, e2, e3, e4, e5⟩ => by
    rw [e1, List.length_append, List.length_cons, e5.len]
    rfl
theorem elV_cons (e : HS) (es : List HS) : elV (e :: es) = elV es ++ [.ref e.h] := by
  unfold elV
  rw [List.reverse_cons, List.map_append]
  rfl
theorem elV_len (es : List HS) : (elV es).length = es.length := by
  unfold elV
  rw [List.length_map, List.length_reverse]
/-- whatever is done that leaves the pile -/
theorem LHK.to (x : LHK K C CR CL H J A n first xs rows mode ptr rs ms sp al mode2 p rs2 el es rs0 ms0) (im : Imm CL J L) (kl : ∀ c ys, ¬ noA A el c → J c = some (.lst ys) → L c = some (.lst ys)) (kd : ∀ e ∈ es, ∀ kvs, J e.h = some (.dK kvs) → L e.h = some (.dK kvs))
    {ru' h' rp' fl' : Addr} {mode' first' mode2' : Str} {ptr' : Option Int} {rs' rs2' : List (List Int)} {ms' : List MarkS} {xs' : List V} {rows' : List Row5} {sp' al' : Addr} {p' : Int}
    (W' : LHW K C CR CL H L ⟨A.d, A.l, A.a, A.la, A.lm, ru', h', rp', fl'⟩ n first' xs' rows' mode' ptr' rs' ms' sp' al' mode2' p' rs2') (ela' : L el = some (.lst (elV es))) (hne' : ∀ e ∈ es, e.h ≠ h') (nf : el ≠ fl') (na : el ≠ al') (d1 : CL ≠ CR) (d2 : CL ≠ C) :
    LHK K C CR CL H L ⟨A.d, A.l, A.a, A.la, A.lm, ru', h', rp', fl'⟩ n first' xs' rows' mode' ptr' rs' ms' sp' al' mode2' p' rs2' el es rs0 ms0 :=
  ⟨W', ela', x.stk.keep im kl d1 d2 kd, hne', ⟨x.nel.1, x.nel.2.1, x.nel.2.2.1, x.nel.2.2.2.1, nf, na⟩, x.newel⟩
/-- a line that has another rule or stands elsewhere, and another hand -/
theorem LHW.swap (w : LHW K C CR CL H J A n first xs rows mode ptr rs ms sp al mode2 p rs2) (k : Kl A.a A.la A.lm J L) {ru' h' rp' fl' : Addr} {mode' first' mode2' : Str} {ptr' : Option Int} {rs' rs2' : List (List Int)} {ms' : List MarkS} {xs' : List V} {rows' : List Row5} {sp' al' : Addr} {p' : Int}
    (N : LineAt CL L A.a A.la A.lm ru' n mode' ptr' rs' ms') (R : RuleAt K C CR L ru' first' rows') (RL : RuleL L rp' fl' first' xs' rows') (HA : HandAt L h' sp' al' rp' n mode2' p' rs2') (nh : H h' = none) (nf : fl' ≠ A.d ∧ fl' ≠ A.l ∧ fl' ≠ A.la ∧ fl' ≠ A.lm) (na : al' ≠ A.d ∧ al' ≠ A.l ∧ al' ≠ A.la ∧ al' ≠ A.lm) (pn : p' < n) :
    LHW K C CR CL H L ⟨A.d, A.l, A.a, A.la, A.lm, ru', h', rp', fl'⟩ n first' xs' rows' mode' ptr' rs' ms' sp' al' mode2' p' rs2' := by
  obtain ⟨⟨dx0, e10⟩, ⟨as0, e20, -⟩, ⟨mks0, e30, -⟩, -⟩ := w.line
  have notA : ∀ {c ys}, J c = some (HO.lst ys) → c ≠ A.a := fun e z => by
    rw [z, e10] at e
    cases e
  obtain ⟨cs, m, c1, c2, c3⟩ := w.deal.ex
  exact ⟨fun c o e => k _ _ (ne_of_none e w.new.2.2.1) (ne_of_none e w.new.2.2.2.1) (ne_of_none e w.new.2.2.2.2.1) (w.same _ _ e), ⟨cs, m, k _ _ (notA c1) (Ne.symm w.nd.1) (Ne.symm w.nd.2.2.1) c1, k _ _ (notA c2) (Ne.symm w.nd.2.1) (Ne.symm w.nd.2.2.2) c2, c3⟩, N, R, RL, HA, ⟨w.new.1, w.new.2.1, w.new.2.2.1, w.new.2.2.2.1, w.new.2.2.2.2.1, nh⟩, w.nd, nf, na, pn⟩
/-- a copy of the hand goes on the pile -/
theorem LHK.push (x : LHK K C CR CL H J A n first xs rows mode (ptrO p) rs ms sp al mode p rs el es rs ms) {h2 : Addr} (nh2 : J h2 = none) (few : rows.length ≤ 12) (wm : Wd mode) (wf : Wd first) (d1 : CL ≠ CR) (d2 : CL ≠ C) :
    ∃ e : HS, e.h = h2 ∧ LHK K C CR CL H (upd (upd J h2 (.dK (handK (.ref A.rp) (.int n) (.ref sp) (.ref al)))) el (.lst (elV es ++ [.ref h2]))) A n first xs rows mode (ptrO p) rs ms sp al mode p rs el (e :: es) rs (ms ++ [⟨A.ru, mode, ptrO p, rs.length⟩]) := by
  have s1 := new_same nh2 (.dK (handK (.ref A.rp) (.int n) (.ref sp) (.ref al)))
  have x1 := x.mono s1 d1 d2
  have eh : upd J h2 (.dK (handK (.ref A.rp) (.int n) (.ref sp) (.ref al))) h2 = some (.dK (handK (.ref A.rp) (.int n) (.ref sp) (.ref al))) := upd_same
  generalize upd J h2 (.dK (handK (.ref A.rp) (.int n) (.ref sp) (.ref al))) = J1 at s1 x1 eh ⊢
  obtain ⟨W2, S2⟩ := x1.put (ys := elV es ++ [.ref h2]) d1 d2
  have off : ∀ {c o}, (∀ ys, o ≠ HO.lst ys) → J1 c = some o → upd J1 el (.lst (elV es ++ [.ref h2])) c = some o := fun {c o} n1 e => by
    rw [upd_ne (fun z => by
      rw [z, x1.ela] at e
      exact n1 _ (Option.some.inj e).symm)]
    exact e
  have nhA : h2 ≠ A.h := fun z => by
    have := x.w.hand.at_
    rw [← z, nh2] at this
    cases this
  have nhE : ∀ e' ∈ es, e'.h ≠ h2 := fun e' he z => by
    obtain ⟨kvs, ek⟩ := x.stk.dict e' he
    rw [z, nh2] at ek
    cases ek
  refine ⟨⟨h2, sp, al, A.rp, A.fl, A.ru, first, xs, rows, mode, p, rs.length⟩, rfl, W2, by rw [elV_cons]; exact upd_same, ⟨ms, rfl, Nat.le_refl _, ?_, nhE, ?_⟩, fun e' he => ?_, x1.nel, x1.newel⟩
  · refine ⟨⟨off (fun _ z => nomatch z) eh, W2.hand.st, ?_⟩, W2.rul, W2.rat, few, wm, wf, x.w.pn, x.w.same.free nh2, ?_, ?_⟩
    · rw [List.take_length]
      exact W2.hand.ask
    · rintro (z | z | z | z | z)
      · exact x.w.na.1 z
      · exact x.w.na.2.1 z
      · exact x.w.na.2.2.1 z
      · exact x.w.na.2.2.2 z
      · exact x.nel.2.2.2.2.2 z.symm
    · rintro (z | z | z | z | z)
      · exact x.w.nf.1 z
      · exact x.w.nf.2.1 z
      · exact x.w.nf.2.2.1 z
      · exact x.w.nf.2.2.2 z
      · exact x.nel.2.2.2.2.1 z.symm
  · show Stk _ _ _ _ _ _ _ _ (rs.take rs.length) _
    rw [List.take_length]
    exact S2
  · rcases List.mem_cons.mp he with rfl | he
    · exact nhA
    · exact x.hne e' he
/-- the last hand is taken from the pile, and the line taken back -/
theorem LHK.pop {e : HS} (x : LHK K C CR CL H J A n first xs rows mode ptr rs ms sp al mode2 p rs2 el (e :: es) rs ms) (d1 : CL ≠ CR) (d2 : CL ≠ C) :
    ∃ (m : MarkS) (ms' : List MarkS), ms = ms' ++ [m] ∧ m.k ≤ rs.length ∧ LineAt CL (upd J el (.lst (elV es))) A.a A.la A.lm A.ru n mode ptr rs ms ∧ ∀ L, Kl A.a A.la A.lm (upd J el (.lst (elV es))) L → LineAt CL L A.a A.la A.lm m.ru n m.mode m.ptr (rs.take m.k) ms' →
      LHK K C CR CL H L ⟨A.d, A.l, A.a, A.la, A.lm, e.ru, e.h, e.rp, e.fl⟩ n e.first e.xs e.rows e.mode (ptrO e.p) (rs.take e.k) ms' e.sp e.al e.mode e.p (rs.take e.k) el es (rs.take e.k) ms' ∧ Wd e.mode ∧ Wd e.first ∧ e.rows.length ≤ 12 := by
  obtain ⟨W1, S1⟩ := x.put (ys := elV es) d1 d2
  have ee : upd J el (.lst (elV es)) el = some (.lst (elV es)) := upd_same
  generalize upd J el (.lst (elV es)) = J1 at W1 S1 ee ⊢
  have S1' := S1
  obtain ⟨ms', e1, e2, e3, e4, e5⟩ := S1
  refine ⟨⟨e.ru, e.mode, ptrO e.p, e.k⟩, ms', e1, e2, W1.line, fun L k N => ?_⟩
  obtain ⟨⟨dx0, e10⟩, ⟨as0, e20, -⟩, ⟨mks0, e30, -⟩, -⟩ := W1.line
  have notA : ∀ {c ys}, J1 c = some (HO.lst ys) → c ≠ A.a := fun e z => by
    rw [z, e10] at e
    cases e
  have im : Imm CL J1 L := fun c o n1 n2 _ e => by
    have y := W1.line.off e n1 (fun dx fs z => n2 dx fs z)
    exact k _ _ y.1 y.2.1 y.2.2 e
  have kl : ∀ c ys, ¬ noA A el c → J1 c = some (.lst ys) → L c = some (.lst ys) := fun c ys nc e => k _ _ (notA e) (fun z => nc (.inr (.inr (.inl z)))) (fun z => nc (.inr (.inr (.inr (.inl z))))) e
  have kd : ∀ (c : Addr) kvs, J1 c = some (.dK kvs) → L c = some (.dK kvs) := fun c kvs h => by
    have y := W1.line.off h (fun _ z => nomatch z) (fun _ _ z => nomatch z)
    exact k _ _ y.1 y.2.1 y.2.2 h
  have E := e3.keep im kl (kd _) d1 d2
  have nfl := e3.nfl
  have nal := e3.nal
  refine ⟨⟨W1.swap k N E.rat E.rul E.hand e3.new ⟨fun z => nfl (.inl z), fun z => nfl (.inr (.inl z)), fun z => nfl (.inr (.inr (.inl z))), fun z => nfl (.inr (.inr (.inr (.inl z))))⟩ ⟨fun z => nal (.inl z), fun z => nal (.inr (.inl z)), fun z => nal (.inr (.inr (.inl z))), fun z => nal (.inr (.inr (.inr (.inl z))))⟩ e3.pn, k _ _ (notA ee) x.nel.2.2.1 x.nel.2.2.2.1 ee, e5.keep im kl d1 d2 (fun e' _ kvs h => kd _ kvs h), e4,
    ⟨x.nel.1, x.nel.2.1, x.nel.2.2.1, x.nel.2.2.2.1, fun z => nfl (.inr (.inr (.inr (.inr z.symm)))), fun z => nal (.inr (.inr (.inr (.inr z.symm))))⟩, x.newel⟩, e3.wm, e3.wf, e3.few⟩
theorem LHK.grow {more : List (List Int)} {e : HS} (x : LHK K C CR CL H J A n first xs rows mode ptr rs ms sp al mode2 p rs2 el (e :: es) rs0 ms0) : LHK K C CR CL H J A n first xs rows mode ptr rs ms sp al mode2 p rs2 el (e :: es) (rs0 ++ more) ms0 :=
  ⟨x.w, x.ela, x.stk.grow (List.cons_ne_nil _ _), x.hne, x.nel, x.newel⟩
theorem LHW.swap2 (w : LHW K C CR CL H J A n first xs rows mode ptr rs ms sp al mode2 p rs2) (k : ∀ c o, c ≠ A.a → c ≠ A.la → c ≠ A.lm → c ≠ A.h → J c = some o → L c = some o) {ru' h' rp' fl' : Addr} {mode' first' mode2' : Str} {ptr' : Option Int} {rs' rs2' : List (List Int)} {ms' : List MarkS} {xs' : List V} {rows' : List Row5} {sp' al' : Addr} {p' : Int}
    (N : LineAt CL L A.a A.la A.lm ru' n mode' ptr' rs' ms') (R : RuleAt K C CR L ru' first' rows') (RL : RuleL L rp' fl' first' xs' rows') (HA : HandAt L h' sp' al' rp' n mode2' p' rs2') (nh : H h' = none) (nf : fl' ≠ A.d ∧ fl' ≠ A.l ∧ fl' ≠ A.la ∧ fl' ≠ A.lm) (na : al' ≠ A.d ∧ al' ≠ A.l ∧ al' ≠ A.la ∧ al' ≠ A.lm) (pn : p' < n) :
    LHW K C CR CL H L ⟨A.d, A.l, A.a, A.la, A.lm, ru', h', rp', fl'⟩ n first' xs' rows' mode' ptr' rs' ms' sp' al' mode2' p' rs2' := by
  obtain ⟨⟨dx0, e10⟩, ⟨as0, e20, -⟩, ⟨mks0, e30, -⟩, -⟩ := w.line
  have e40 := w.hand.at_
  have notA : ∀ {c ys}, J c = some (HO.lst ys) → c ≠ A.a := fun e z => by
    rw [z, e10] at e
    cases e
  have notH : ∀ {c ys}, J c = some (HO.lst ys) → c ≠ A.h := fun e z => by
    rw [z, e40] at e
    cases e
  obtain ⟨cs, m, c1, c2, c3⟩ := w.deal.ex
  exact ⟨fun c o e => k _ _ (ne_of_none e w.new.2.2.1) (ne_of_none e w.new.2.2.2.1) (ne_of_none e w.new.2.2.2.2.1) (ne_of_none e w.new.2.2.2.2.2) (w.same _ _ e), ⟨cs, m, k _ _ (notA c1) (Ne.symm w.nd.1) (Ne.symm w.nd.2.2.1) (notH c1) c1, k _ _ (notA c2) (Ne.symm w.nd.2.1) (Ne.symm w.nd.2.2.2) (notH c2) c2, c3⟩, N, R, RL, HA, ⟨w.new.1, w.new.2.1, w.new.2.2.1, w.new.2.2.2.1, w.new.2.2.2.2.1, nh⟩, w.nd, nf, na, pn⟩
theorem hp0 {ru st ak m : V} (v : V) : putK (handK ru m st ak) (.inr "rule") v = handK v m st ak := by kernel_rfl
end
end LT
namespace LT
open PySem L2
structure Blt6 (mg : Str → Option Value) : Prop where
  max : mg "max" = none
  min : mg "min" = none
  dict : mg "dict" = none
theorem nil_k {σ : L2.St} {H : Hp} {Q : List V → Hp → Prop} (h : Q [] H) : tNil σ H Q := h
theorem boot_dict : bootBuiltins "dict" = some (.type "dict") := by decide +kernel
theorem scan_mem {rows : List Row5} {mode : Str} {p : Option Int} {os : List Int} {k : Int} : ∀ i, k ∈ (scanR rows mode p os i).2 → k ∈ os
  | 0, h => nomatch h
  | i + 1, h => by
    cases e : rows[i]? with
    | none =>
      have e2 : scanR rows mode p os (i + 1) = scanR rows mode p os i := by
        show (match rows[i]? with | none => _ | some r => _) = _
        rw [e]
      rw [e2] at h
      exact scan_mem i h
    | some r =>
      rw [scan_next e] at h
      unfold stepR at h
      split at h
      · exact scan_mem i h
      · cases e3 : grantedBy r mode p os with
        | none =>
          rw [e3] at h
          exact scan_mem i h
        | some g =>
          rw [e3] at h
          rcases List.mem_append.mp h with h | h
          · exact scan_mem i h
          · rw [List.mem_singleton.mp h]
            unfold grantedBy at e3
            split at e3
            · exact List.mem_of_find?_eq_some e3
            · cases e3
theorem end_mem {rows : List Row5} {mode : Str} {p : Option Int} {os : List Int} {k : Int} (h : k ∈ endGrants rows mode p os) : k ∈ os := scan_mem rows.length h
section
variable {K : PySem.W.Frag} {C CR CL : Addr} {H J L : Hp} {A : LAd} {n : Int} {first : Str} {xs : List V} {rows : List Row5} {mode : Str} {ptr : Option Int} {rs : List (List Int)} {ms : List MarkS} {sp al : Addr} {mode2 : Str} {p : Int} {rs2 : List (List Int)}
/-- the law does -/
theorem do_step (W : LHW K C CR CL H J A n first xs rows mode ptr rs ms sp al mode2 p rs2) {kq : Addr} {os : List Int} (ekq : J kq = some (.lst (os.map V.int))) (gos : goodRound n os = true) (los : os.length ≤ 40) (few : rows.length ≤ 31) (n0 : 0 ≤ n) (n1 : n ≤ 900) (lrs : rs2.length ≤ 900) (d1 : CL ≠ CR) (d2 : CL ≠ C) {Q : VK}
    (q : ∀ (gq sp2 al2 : Addr) (dn : Int) (out : List Int) (m2 : Str) (p2 : Int) (L : Hp), Kh A.h J L → J al2 = none → RndEnd rows mode2 p n (sortI os) dn out m2 p2 → LHW K C CR CL H L A n first xs rows mode ptr rs ms sp2 al2 m2 p2 (rs2 ++ [sortI os]) → L gq = some (.tup (out.map V.int)) → Q (.ref gq) L) : spDo [.ref A.h, .ref kq] J Q E0 := by
  refine ⟨A.h, sp, al, A.rp, A.fl, kq, n, p, first, mode2, xs, rows, os, rs2, rfl, W.hand, W.rul, few, W.pn, n0, n1, ekq, gos, by omega, lrs, fun gq sp2 al2 dn out m' p' L k nal en HA eg => ?_⟩
  exact q gq sp2 al2 dn out m' p' L k nal en (W.kh k HA nal en.pn d1 d2) eg
/-- a line is asked -/
theorem ask_step {CE : Addr} {self : Bool} (W : LHW K C CR CL H J A n first xs rows mode ptr rs ms sp al mode2 p rs2) {aq : Addr} {isL : Bool} {os : List Int} (rq : RoundAt J aq isL os) (gos : goodRound n os = true) (los : os.length ≤ 40) (off : aq ≠ A.a ∧ aq ≠ A.la ∧ aq ≠ A.lm) (lrs : rs.length ≤ 900) (lms : ms.length ≤ 900) (d1 : CL ≠ CR) (d2 : CL ≠ C) {Q : VK} {E : XK}
    (q : ∀ (g : Addr) (out : List Int) (L : Hp), Kl A.a A.la A.lm J L → LHW K C CR CL H L A n first xs rows (endMode rows mode ptr (sortI os)) (endPtr rows mode ptr (sortI os)) (rs ++ [sortI os]) (ms ++ [⟨A.ru, mode, ptr, rs.length⟩]) sp al mode2 p rs2 → out = canonI (endGrants rows mode ptr (sortI os)) → J g = none → L g = some (.tup (out.map V.int)) → Q (.ref (if self then A.a else g)) L) : spLAsk K C CR CL CE self [.ref A.a, .ref aq] J Q E := by
  refine ⟨A.a, A.la, A.lm, A.ru, .ref aq, true, n, mode, first, ptr, rs, ms, rows, rfl, W.line, W.rat, rnd_drawn rq gos los, fun z e => ?_, lrs, lms, fun z => (by cases z), fun _ => ⟨aq, os, rfl, rq.seq, gos, fun out asked g L pm pw pwo mem k bk LA ng eg => ?_⟩⟩
  · cases e
    exact off
  · obtain rfl : asked = sortI os := sorted_one pw (sort_up _) (pm.trans (sort_perm os).symm)
    exact q g out L k (W.kl k LA d1 d2) (lt_pairwise_one pwo (canon_up _) fun k => by rw [mem k, canon_mem]) ng eg
end
theorem seq_else_k {tt : TT} {a1 a2 b : TS} {D : Ends} {σ : L2.St} {H : Hp} (P : L2.St → Hp → Prop) (r : ∀ τ L, P τ L → a2 { D with nx := b D } τ L) (m : (∀ τ L, P τ L → a2 { D with nx := b D } τ L) → tSeq (tIfS tt a1 a2) b D σ H) : tSeq (tIfS tt a1 a2) b D σ H := m r
theorem RdsL.sub {J : Hp} {n : Int} {no no' : Addr → Prop} {xs : List V} {oss : List (List Int)} (h : RdsL J n no xs oss) (k : ∀ c, no' c → no c) : RdsL J n no' xs oss := ⟨h.1, fun i v e => by
  obtain ⟨q, isL, os, e1, e2, e3, e4, e5, e6⟩ := h.2 i v e
  exact ⟨q, isL, os, e1, e2, e3, e4, e5, fun z => e6 (k _ z)⟩⟩
theorem RdsL.snoc {J : Hp} {n : Int} {no : Addr → Prop} {xs : List V} {oss : List (List Int)} {q : Addr} {isL : Bool} {os : List Int} (h : RdsL J n no xs oss) (r : RoundAt J q isL os) (g : goodRound n os = true) (l : os.length ≤ 40) (nq : ¬ no q) : RdsL J n no (xs ++ [.ref q]) (oss ++ [os]) :=
  ⟨by rw [List.length_append, List.length_append, h.1]; rfl, fun i v z => by
    rcases get_snoc z with z9 | ⟨z9, rfl⟩
    · obtain ⟨q', isL', os', e1, e2, e3⟩ := h.2 i v z9
      exact ⟨q', isL', os', e1, by rw [List.getElem?_append_left (List.getElem?_eq_some_iff.mp e2).1]; exact e2, e3⟩
    · exact ⟨q, isL, os, rfl, by rw [z9, h.1]; exact List.getElem?_concat_length, r, g, l, nq⟩⟩
theorem runG_len {rows : List Row5} : ∀ {l : List (List Int)} {m : Str} {p : Option Int}, (runG rows m p l).length = l.length
  | [], _, _ => rfl
  | _ :: l, _, _ => congrArg Nat.succ (runG_len (l := l))
theorem runS_wd {rows : List Row5} (g : ∀ r ∈ rows, Good r) : ∀ {l : List (List Int)} {m : Str} {p : Option Int}, Wd m → Wd (runS rows m p l).1
  | [], _, _, w => w
  | _ :: l, _, _, w => runS_wd g (l := l) (endMode_wd w g)
theorem dp_tupsL {K : PySem.W.Frag} {H : Hp} {t : Addr} {gs : List V} {us : List (List Int)} (h : SqL K H t gs) (g : TupsAt H gs us) : Dp K H (.ref t) (.list (us.map intsD)) :=
  .lst h (dp_all g.1 fun j v e => by
    obtain ⟨q, out, rfl, e2, e3⟩ := g.2 j v e
    exact ⟨out, e2, dp_intsT (SqT.of e3)⟩)
/-- a def of the top, as the law leans on it -/
def Fn5 (P : Program) (w : World) (K : PySem.W.Frag) (mg : Str → Option Value) (base : Heap) (k : Nat) (name : Str) (ps : List Str) (sp : Sp) : Prop := ∃ (f : Addr) (fd : FuncData), FnOk P w K mg base CX0 k f fd ps sp ∧ Binds K fd ps [] ∧ PySem.W.keepIn K (.ref f) = true ∧ mg name = some (.ref f)
/-- the class of lines, as the law leans on it -/
structure LineG (P : Program) (w : World) (K : PySem.W.Frag) (mg : Str → Option Value) (base : Heap) (C CR CL CE : Addr) : Prop where
  LC : LineC K CL
  d1 : CL ≠ CR
  d2 : CL ≠ C
  mL : mg "Line" = some (.ref CL)
  make : ∃ (f : Addr) (fd : FuncData), Mk K CL f ∧ FnOk P w K mg base CX0 1 f fd ["self", "rule", "askers"] (spLineI K C CR CL) ∧ Binds K fd ["self", "rule", "askers"] []
  ask : ∃ (f : Addr) (fd : FuncData), FnOk P w K mg base (L2.CX P w) 5 f fd ["self", "asking"] (spLAsk K C CR CL CE false) ∧ Binds K fd ["self", "asking"] [] ∧ Meth K CL "ask" f
  sev : ∃ (f : Addr) (fd : FuncData), FnOk P w K mg base CX0 5 f fd ["self", "rounds"] (spLSev K C CR CL) ∧ Binds K fd ["self", "rounds"] [] ∧ Meth K CL "several" f
  chg : ∃ (f : Addr) (fd : FuncData), FnOk P w K mg base CX0 2 f fd ["self", "rule"] (spLChange K C CR CL) ∧ Binds K fd ["self", "rule"] [] ∧ Meth K CL "change" f
  und : ∃ (f : Addr) (fd : FuncData), FnOk P w K mg base CX0 1 f fd ["self"] (spLUndo CL) ∧ Binds K fd ["self"] [] ∧ Meth K CL "undo" f
  rnd : ∃ (p g : Addr) (fd : FuncData), FnOk P w K mg base CX0 1 g fd ["self"] (spLRounds CL) ∧ Binds K fd ["self"] [] ∧ PropOf K CL "rounds" p g
def spLaw (K : PySem.W.Frag) : Sp := fun vs H Q _ => ∃ (a : Addr) (ns : List Int), vs = [.ref a] ∧ SqL K H a (ns.map V.int) ∧ ns.length ≤ 63 ∧ ∀ J, Q (.bl true) J
abbrev nLaw : List Str := ["_law_script", "_law_spot", "_law_deal_here", "_law_rule_here", "_law_many", "_law_line", "_law_hand_here", "_law_elder", "_law_turn", "_law_form", "_law_other", "_law_rounds", "_law_asking", "_law_more"]
section
variable {P : Program} {w : World} {K : PySem.W.Frag} {mg : Str → Option Value} {base : Heap}
theorem scLaw : FnScope nLaw ["_law_script"] (defScope sLaw) := ⟨rfl, rfl, rfl, by decide +kernel, rfl, by decide +kernel, by decide +kernel⟩
theorem ok_law {C CR CL CE f : Addr} {fd : FuncData} (F : Fun K "law" "law" sLaw f fd) (T : Blt mg) (U : Blt2 mg) (T2 : BltD mg) (Z6 : Blt6 mg) (LG : LineG P w K mg base C CR CL CE)
    (s1 : Fn5 P w K mg base 1 "_law_deal" ["_law_script", "_law_base"] (spDeal K)) (s2 : Fn5 P w K mg base 5 "_law_rule" ["_law_deal_here", "_law_modes", "_law_most"] (spLRuleD K)) (s3 : Fn5 P w K mg base 1 "_law_draw" ["_law_deal_here", "_law_many"] spDraw)
    (s4 : Fn5 P w K mg base 7 "_law_made" ["_law_rule_here"] (spMadeD K C CR)) (s5 : Fn5 P w K mg base 1 "_law_hand" ["_law_rule_here", "_law_many"] spHand) (s6 : Fn5 P w K mg base 7 "_law_stands" ["_law_line", "_law_hand_here", "_law_size"] (spStands K C CR CL))
    (s7 : Fn5 P w K mg base 3 "_law_drawn_round" ["_law_deal_here", "_law_many"] spDrawn) (s8 : Fn5 P w K mg base 3 "_law_do" ["_law_hand_here", "_law_asking"] spDo) :
    FnOk P w K mg base CX0 9 f fd ["_law_script"] (spLaw K) := by
  obtain ⟨_, _, GDl, bDl, kDl, mDl⟩ := s1
  obtain ⟨_, _, GRu, bRu, kRu, mRu⟩ := s2
  obtain ⟨_, _, GD, bD, kD, mD⟩ := s3
  obtain ⟨_, _, GM, bM, kM, mM⟩ := s4
  obtain ⟨_, _, GH, bH, kH, mH⟩ := s5
  obtain ⟨_, _, GSt, bSt, kSt, mSt⟩ := s6
  obtain ⟨_, _, GDr, bDr, kDr, mDr⟩ := s7
  obtain ⟨_, _, GDo, bDo, kDo, mDo⟩ := s8
  obtain ⟨_, _, MLn, GLn, bLn⟩ := LG.make
  obtain ⟨_, _, GA, bA, meA⟩ := LG.ask
  obtain ⟨_, _, GV, bV, meV⟩ := LG.sev
  obtain ⟨_, _, GC, bC, meC⟩ := LG.chg
  obtain ⟨_, _, GU, bU, meU⟩ := LG.und
  obtain ⟨_, _, _, GP, bP, pP⟩ := LG.rnd
  have LC := LG.LC
  have d1 := LG.d1
  have d2 := LG.d2
  have mLn := LG.mL
  refine F.ok scLaw (fun vs H Q E h => ?_) (fun cdv A outer s H vs Q E hr h => ?_)
  · obtain ⟨a, ns, rfl, _⟩ := h
    rfl
  obtain ⟨sc, ns0, rfl, hS, hz, q⟩ := h
  have hr1 : Room 1 _ := hr.mono (by decide)
  have hr2 : Room 2 _ := hr.mono (by decide)
  have hr3 : Room 3 _ := hr.mono (by decide)
  have hr5 : Room 5 _ := hr.mono (by decide)
  have hr6 : Room 6 _ := hr.mono (by decide)
  have hr7 : Room 7 _ := hr.mono (by decide)
  refine ⟨_, (pss_cons (ps_for PassesOwn.never rfl (pi_range1 (by rfl) T.range (pa_cons (pe_callB (call_max2 rfl) (by rfl) Z6.max (by decide +kernel) (pa_cons pe_int (pa_cons (pe_callB (call_min2 rfl) (by rfl) Z6.min (by decide +kernel) (pa_cons pe_int (pa_cons (pe_callB call_len_seq (by rfl) T.len PySem.boot_len (pa_cons (pv 0) pa_nil)) pa_nil))) pa_nil))) pa_nil)) (pg_name (i := 1) scLaw.nd rfl (Or.inl rfl))
    (pss_cons (ps_set (i := 2) scLaw.nd rfl (Or.inr rfl) (pe_call GDl hr1 (by rfl) mDl kDl bDl .nil pass0 (pa_cons (pv 0) (pa_cons (pv 1) pa_nil))))
      (pss_cons (ps_asg (pe_tup (pa_cons (pe_call GRu hr5 (by rfl) mRu kRu bRu .nil pass0 (pa_cons (pv 2) (pa_cons pe_int (pa_cons pe_int pa_nil)))) (pa_cons (pe_op op_add pe_int (pe_call GD hr1 (by rfl) mD kD bD .nil pass0 (pa_cons (pv 2) (pa_cons pe_int pa_nil)))) pa_nil))) (pg_tup rfl (pgs_cons (pg_name (i := 3) scLaw.nd rfl (Or.inl rfl)) (pgs_cons (pg_name (i := 4) scLaw.nd rfl (Or.inr rfl)) pgs_nil))))
      (pss_cons (ps_asg (pe_tup (pa_cons (pe_make MLn GLn hr2 (by rfl) mLn bLn .nil pass0 (pa_cons (pe_call GM hr7 (by rfl) mM kM bM .nil pass0 (pa_cons (pv 3) pa_nil)) (pa_cons (pv 4) pa_nil))) (pa_cons (pe_call GH hr1 (by rfl) mH kH bH .nil pass0 (pa_cons (pv 3) (pa_cons (pv 4) pa_nil))) (pa_cons (pe_lst pa_nil) pa_nil)))) (pg_tup rfl (pgs_cons (pg_name (i := 5) scLaw.nd rfl (Or.inl rfl)) (pgs_cons (pg_name (i := 6) scLaw.nd rfl (Or.inr rfl)) (pgs_cons (pg_name (i := 7) scLaw.nd rfl (Or.inl rfl)) pgs_nil)))))
      (pss_cons (ps_for PassesOwn.never rfl (pi_range1 (by rfl) T.range (pa_cons (pe_op op_add pe_int (pe_call GD hr1 (by rfl) mD kD bD .nil pass0 (pa_cons (pv 2) (pa_cons pe_int pa_nil)))) pa_nil)) (pg_name (i := 8) scLaw.nd rfl (Or.inl rfl))
      (pss_cons (ps_set (i := 9) scLaw.nd rfl (Or.inl rfl) (pe_call GD hr1 (by rfl) mD kD bD .nil pass0 (pa_cons (pv 2) (pa_cons pe_int pa_nil))))
        (pss_cons (ps_if (PW.pt (pw_and (pt_cmpR op_eq (pv 9) pe_int (nomark _)) (pw_and1 (pt_cmpR (op_neL hr.units) (pv 7) (pe_lst pa_nil) (nomark _))))) (pss_cons (ps_set (i := 6) scLaw.nd rfl (Or.inr rfl) (pe_bm0 PySem.F.plainAttrs_list PySem.F.slot_list_pop PySem.F.type_list_pop mt_pop (pv 7)))
          (pss_one (ps_if ((pt_cmpR op_isnot_bl (pe_meth0 (pv 5) LC.cl meU GU hr1 bU .nil pass0) pe_bl (nomark _))) (pss_one (ps_ret pe_bl)) pss_nil))) (pss_cons (ps_expr (pe_bm PySem.F.plainAttrs_list PySem.F.slot_list_append PySem.F.type_list_append mt_append (pv 7) (pa_cons (pe_callTy call_dictD (by rfl) Z6.dict boot_dict (pa_cons (pv 6) pa_nil)) pa_nil)))
          (pss_one (ps_if (pt_cmpR op_eq (pv 9) pe_int (nomark _)) (pss_cons (ps_set (i := 10) scLaw.nd rfl (Or.inl rfl) (pe_ifExp (pt_cmpR op_eq (pe_call GD hr1 (by rfl) mD kD bD .nil pass0 (pa_cons (pv 2) (pa_cons pe_int pa_nil))) pe_int (nomark _)) (pe_call GRu hr5 (by rfl) mRu kRu bRu .nil pass0 (pa_cons (pv 2) (pa_cons pe_int (pa_cons pe_int pa_nil)))) (pe_dget (hu_of hr) (pv 6) pe_str (fun _ _ => rfl))))
            (pss_cons (ps_if ((pt_cmpR op_notN (pe_meth (pv 5) LC.cl meC GC hr2 bC .nil pass0 (pa_cons (pe_call GM hr7 (by rfl) mM kM bM .nil pass0 (pa_cons (pv 10) pa_nil)) pa_nil)) pe_non (nomark _))) (pss_one (ps_ret pe_bl)) pss_nil)
            (pss_one (ps_asg (pe_tup (pa_cons (pv 10) (pa_cons (pe_tup (pa_cons (pe_ix ix_tup (pv 10) pe_int (fun _ _ => rfl)) (pa_cons (pe_op op_sub pe_int pe_int) pa_nil))) pa_nil))) (pg_tup rfl (pgs_cons (pg_sub (pv 6) pe_str (set_dict (hu_of hr))) (pgs_cons (pg_sub (pv 6) pe_str (set_dict (hu_of hr))) pgs_nil))))))) (pss_one (ps_if (pt_cmpR op_eq (pv 9) pe_int (nomark _)) (pss_cons (ps_setLc (i := 11) (own := [("_law_more", 13)]) (g := gName 13) (tt := tYes) rfl scLaw.nd rfl rfl (sw_true rfl rfl rfl (by decide +kernel)) (pi_range1 (by rfl) T.range (pa_cons (pe_call GD hr1 (by rfl) mD kD bD .nil pass0 (pa_cons (pv 2) (pa_cons pe_int pa_nil))) pa_nil)) (blkOk_by (N := nLaw) (sc := defScope sLaw) (own := [("_law_more", 13)]) (by decide +kernel)) (fun _ _ _ _ _ => pg_name (i := 13) scLaw.nd rfl (Or.inl rfl)) (fun _ _ _ _ _ => pts_nil) (fun _ _ _ _ _ => (pe_call GDr hr3 (by rfl) mDr kDr bDr .nil pass0 (pa_cons (pv 2) (pa_cons (pv 4) pa_nil)))))
              (pss_one (ps_if ((pt_cmpR (op_neD hr.units) (pe_callTy (r := rListOf K) call_list_of (by rfl) T2.list bt_list (pa_cons (pe_meth (pv 5) LC.cl meV GV hr5 bV .nil pass0 (pa_cons (pv 11) pa_nil)) pa_nil)) (pe_lc (own := [("_law_asking", 12)]) (g := gName 12) (tt := tYes) (by rfl) scLaw.nd (pi_list (pv 11)) (blkOk_by (N := nLaw) (sc := defScope sLaw) (own := [("_law_asking", 12)]) (by decide +kernel)) (fun _ _ _ _ _ => pg_name (i := 12) scLaw.nd rfl (Or.inl rfl)) (fun _ _ _ _ _ => pts_nil) (fun _ _ _ _ _ => (pe_call GDo hr3 (by rfl) mDo kDo bDo .nil pass0 (pa_cons (pv 6) (pa_cons (pe_callTy (r := rListOf K) call_list_of (by rfl) T2.list bt_list (pa_cons (pv 12) pa_nil)) pa_nil))))) (nomark _))) (pss_one (ps_ret pe_bl)) pss_nil))) (pss_cons (ps_set (i := 12) scLaw.nd rfl (Or.inl rfl) (pe_call GDr hr3 (by rfl) mDr kDr bDr .nil pass0 (pa_cons (pv 2) (pa_cons (pv 4) pa_nil))))
              (pss_one (ps_if ((pt_cmpR (op_neD hr.units) (pe_meth (pv 5) LC.cl meA GA hr5 bA .nil passR (pa_cons (pv 12) pa_nil)) (pe_call GDo hr3 (by rfl) mDo kDo bDo .nil pass0 (pa_cons (pv 6) (pa_cons (pe_callTy (r := rListOf K) call_list_of (by rfl) T2.list bt_list (pa_cons (pv 12) pa_nil)) pa_nil))) (nomark _))) (pss_one (ps_ret pe_bl)) pss_nil)))))))))
        (pss_one (ps_if (pt_not (pt_val (pe_call GSt hr7 (by rfl) mSt kSt bSt .nil pass0 (pa_cons (pv 5) (pa_cons (pv 6) (pa_cons (pe_callB call_len_seq (by rfl) T.len PySem.boot_len (pa_cons (pv 7) pa_nil)) pa_nil)))))) (pss_one (ps_ret pe_bl)) pss_nil)))))
      (pss_cons (ps_while PassesOwn.never (pt_cmpR (op_neL hr.units) (pv 7) (pe_lst pa_nil) (nomark _)) (pss_cons (ps_set (i := 6) scLaw.nd rfl (Or.inr rfl) (pe_bm0 PySem.F.plainAttrs_list PySem.F.slot_list_pop PySem.F.type_list_pop mt_pop (pv 7)))
    (pss_one (ps_if (PW.pt (pw_or ((pt_cmpR op_isnot_bl (pe_meth0 (pv 5) LC.cl meU GU hr1 bU .nil pass0) pe_bl (nomark _))) (pw_or1 (pt_not (pt_val (pe_call GSt hr7 (by rfl) mSt kSt bSt .nil pass0 (pa_cons (pv 5) (pa_cons (pv 6) (pa_cons (pe_callB call_len_seq (by rfl) T.len PySem.boot_len (pa_cons (pv 7) pa_nil)) pa_nil))))))))) (pss_one (ps_ret pe_bl)) pss_nil))))
      (pss_one (ps_if (PW.pt (pw_or ((pt_cmpR op_isnot_bl (pe_meth0 (pv 5) LC.cl meU GU hr1 bU .nil pass0) pe_bl (nomark _))) (pw_or1 ((pt_cmpR (op_neD hr.units) (pe_prop (pv 5) LC.cl pP GP hr2 bP .nil pass0 rfl) (pe_tup pa_nil) (nomark _)))))) (pss_one (ps_ret pe_bl)) pss_nil))))))))
    (pss_one (ps_ret pe_bl))), ?_⟩
  refine ⟨_, rfl, sc, _, rfl, .inl hS, _, _, rfl, _, _, rfl, ?_⟩
  have hl : (ns0.map V.int).length = ns0.length := List.length_map _
  obtain ⟨j, hj⟩ : ∃ j : Int, j = (if (if (((ns0.map V.int).length : Nat) : Int) < 4 then (((ns0.map V.int).length : Nat) : Int) else 4) > 2 then (if (((ns0.map V.int).length : Nat) : Int) < 4 then (((ns0.map V.int).length : Nat) : Int) else 4) else 2) := ⟨_, rfl⟩
  have bj : 0 ≤ j ∧ j ≤ 4 := by
    rw [hj]
    split <;> split <;> omega
  refine ⟨j, by rw [hj], by omega, by omega, for_range (lo := 0) (n := j.toNat) (fun _ σ J => ∃ v1 v2 v3 v4 v5 v6 v7 v8 v9 va vb vc vd, σ = [some (.ref sc), v1, v2, v3, v4, v5, v6, v7, v8, v9, va, vb, vc, vd] ∧ Same H J) ⟨_, _, _, _, _, _, _, _, _, _, _, _, _, rfl, Same.refl _⟩ ?_ ?_⟩
  rotate_left
  · rintro σ J ⟨v1, v2, v3, v4, v5, v6, v7, v8, v9, va, vb, vc, vd, rfl, s⟩
    exact q _
  rintro i σ J hi ⟨v1, v2, v3, v4, v5, v6, v7, v8, v9, va, vb, vc, vd, rfl, s0⟩
  refine ⟨_, rfl, _, rfl, sc, ns0, i, by rw [Int.zero_add]; rfl, s0.seq hS, hz, fun d l J1 s1 nd nl hd1 => ?_⟩
  have s01 := s0.trans s1
  refine ⟨_, rfl, d, l, 3, 8, rfl, hd1, by decide, by decide, by decide, fun rp fl first xs rows J2 ru2 wf few k2 hd2 nrp nfl xfl _ => ?_⟩
  refine ⟨_, rfl, d, l, 6, rfl, hd2, by decide, by decide, fun kk J3 k0 k1 k3 hd3 => ⟨_, _, rfl, rfl, (by show 2 ≤ sizeLine; decide), fun t nt => ?_⟩⟩
  obtain ⟨n, en⟩ : ∃ n : Nat, (1 + kk) = (n : Int) := ⟨(1 + kk).toNat, by omega⟩
  simp only [en]
  have s4 := new_same nt (.tup [V.ref rp, .int (n : Nat)])
  have et : upd J3 t (.tup [V.ref rp, .int (n : Nat)]) t = some (.tup [V.ref rp, .int (n : Nat)]) := upd_same
  have ru4 := (ru2.on k3 hd2 xfl).mono s4
  have hd4 := hd3.mono s4
  have k24 := (k2.trans k3).then s4
  have sH4 : Same H (upd J3 t (.tup [V.ref rp, .int (n : Nat)])) := fun c o e => k24 _ _ (ne_of_none e (s0.free nd)) (ne_of_none e (s0.free nl)) (s01 _ _ e)
  generalize upd J3 t (.tup [V.ref rp, .int (n : Nat)]) = J4 at et ru4 hd4 k24 sH4 s4 ⊢
  refine ⟨t, _, rfl, SqT.of et, rfl, _, _, rfl, _, _, rfl, rfl, ?_⟩
  simp only [List.set_cons_succ, List.set_cons_zero]
  refine ⟨_, rfl, rp, fl, first, xs, rows, rfl, ru4, wf, by omega, fun ru J5 s5 nru rat5 => ?_⟩
  refine ⟨_, rfl, fun x dx nx ndx ndxx => ?_⟩
  have sx : Same J5 (upd (upd J5 dx (.own x)) x (.ins CL dx [])) := (new_same ndx _).trans (new_same (by rw [upd_ne (Ne.symm ndxx)]; exact nx) _)
  have ex : upd (upd J5 dx (.own x)) x (.ins CL dx []) x = some (.ins CL dx []) := upd_same
  generalize upd (upd J5 dx (.own x)) x (.ins CL dx []) = J6 at sx ex ⊢
  refine ⟨x, dx, ru, n, first, rows, rfl, ex, rat5.mono sx, fun la lm J7 off nla nlm LA => ⟨rfl, ?_⟩⟩
  have s57 : Same J5 J7 := fun c o e => off _ _ (ne_of_none e nx) (sx _ _ e)
  have ru7 := (ru4.mono s5).mono s57
  refine ⟨_, rfl, _, rfl, rp, fl, n, first, xs, rows, rfl, ru7, fun h sp al J8 s8 nh nal HA => ?_⟩
  have sH7 := (sH4.trans s5).trans s57
  have hd5 := hd4.mono s5
  have hd7 := hd5.mono s57
  have xla := hd5.new (sx.free nla)
  have xlm := hd5.new (sx.free nlm)
  have f5 := (ru4.mono s5).fl
  have xal := hd7.new nal
  have yal := LA.new nal
  have W8 : LHW K C CR CL H J8 ⟨d, l, x, la, lm, ru, h, rp, fl⟩ n first xs rows first (ptrO (0 - 1)) [] [] sp al first (0 - 1) [] :=
    ⟨sH7.trans s8, hd7.mono s8, LA.mono s8, (rat5.mono s57).mono s8, ru7.mono s8, HA, ⟨s0.free nd, s0.free nl, (sH4.trans s5).free nx, (sH4.trans s5).free (sx.free nla), (sH4.trans s5).free (sx.free nlm), sH7.free nh⟩,
      ⟨xla.1, xla.2, xlm.1, xlm.2⟩, ⟨xfl.1, xfl.2, ne_of_none f5 (sx.free nla), ne_of_none f5 (sx.free nlm)⟩, ⟨xal.1, xal.2, yal.2.1, yal.2.2⟩, by omega⟩
  clear HA LA ru7 ru4 rat5 hd1 hd2 hd3 hd4 hd5 hd7 f5 xal yal xla xlm sH7 sH4 k24 k2 k3 s57 off ex sx s01 s1 nla nlm nal nru s4 et nt s5
  refine ⟨(by show 0 ≤ sizeLine; decide), fun el nel => ⟨(by show 3 ≤ sizeLine; decide), fun t3 nt3 => ?_⟩⟩
  have se := new_same nel (.lst [])
  have st3 := new_same nt3 (.tup [V.ref x, .ref h, .ref el])
  have et3 : upd (upd J8 el (.lst [])) t3 (.tup [V.ref x, .ref h, .ref el]) t3 = some (.tup [V.ref x, .ref h, .ref el]) := upd_same
  have X9 : LHK K C CR CL H (upd (upd J8 el (.lst [])) t3 (.tup [V.ref x, .ref h, .ref el])) ⟨d, l, x, la, lm, ru, h, rp, fl⟩ n first xs rows first (ptrO (0 - 1)) [] [] sp al first (0 - 1) [] el [] [] [] :=
    ⟨(W8.mono se).mono st3, st3 _ _ upd_same, ⟨rfl, rfl⟩, (fun _ z => nomatch z), (W8.off nel).1, W8.same.free nel⟩
  generalize upd (upd J8 el (.lst [])) t3 (.tup [V.ref x, .ref h, .ref el]) = J9 at et3 X9 ⊢
  clear W8 se st3 nel nt3 s8
  refine ⟨t3, _, rfl, SqT.of et3, rfl, _, _, rfl, _, _, rfl, _, _, rfl, rfl, ?_⟩
  simp only [List.set_cons_succ, List.set_cons_zero]
  refine ⟨_, rfl, d, l, 12, rfl, X9.w.deal, by decide, by decide, fun kt J10 t0 t1 kd10 hd10 => ⟨_, _, rfl, rfl, ?_⟩⟩
  have X10 := X9.kd kd10 hd10 d1 d2
  clear X9
  refine ⟨6 + kt, rfl, by omega, by omega, for_range (lo := 0) (n := (6 + kt).toNat) (fun i2 σ J => ∃ v8 v9 va vb vc vd ru h rp2 fl sp al first xs rows mode p rs ms es, σ = [some (.ref sc), some (.int (0 + (i : Int))), some (.ref d), some (.ref rp), some (.int (n : Nat)), some (.ref x), some (.ref h), some (.ref el), v8, v9, va, vb, vc, vd] ∧
    LHK K C CR CL H J ⟨d, l, x, la, lm, ru, h, rp2, fl⟩ n first xs rows mode (ptrO p) rs ms sp al mode p rs el es rs ms ∧ Wd mode ∧ Wd first ∧ rows.length ≤ 12 ∧ rs.length ≤ 2 * i2 ∧ ms.length ≤ i2) ⟨_, _, _, _, _, _, ru, h, rp, fl, sp, al, first, xs, rows, first, _, [], [], [], rfl, X10, wf, wf, by omega, by decide, by decide⟩ ?step ?fin⟩
  case fin =>
    clear X10 kd10 hd10
    rintro σ J ⟨v8, v9, va, vb, vc, vd, ru, h, rp2, fl, sp, al, first, xs, rows, mode, p, rs, ms, es, rfl, X, wm, wf, few, lrs, lms⟩
    have nou : ∀ (r m q : V), (lineFs r (.int n) m q (.ref la) (.ref lm)).lookup ("undo" : Str) = none := fun r m q => by kernel_rfl
    dsimp only
    refine seq_kd (fun τ L => ∃ v8 v9 va vb vc vd ru h rp2 fl sp al first xs rows mode p rs ms, τ = [some (.ref sc), some (.int (0 + (i : Int))), some (.ref d), some (.ref rp), some (.int (n : Nat)), some (.ref x), some (.ref h), some (.ref el), v8, v9, va, vb, vc, vd] ∧
      LHK K C CR CL H L ⟨d, l, x, la, lm, ru, h, rp2, fl⟩ n first xs rows mode (ptrO p) rs ms sp al mode p rs el [] rs ms) (fun τ L ⟨v8, v9, va, vb, vc, vd, ru, h, rp2, fl, sp, al, first, xs, rows, mode, p, rs, ms, et, X5⟩ => ?rest) (fun k => ?main)
    case rest =>
      subst et
      obtain ⟨rfl, rfl⟩ := X5.stk
      obtain ⟨dxl, exl⟩ := X5.w.line.at_
      refine ⟨_, rfl, x, dxl, _, rfl, exl, nou _ _ _, x, la, lm, ru, n, mode, ptrO p, [], [], rfl, X5.w.line, fun _ => ?_, fun m ms' z => by simp at z⟩
      refine ⟨false, false, rfl, rfl, _, rfl, ?_⟩
      refine iteF ?_
      refine ⟨_, rfl, x, dxl, _, rfl, exl, x, la, lm, ru, n, mode, ptrO p, [], [], rfl, X5.w.line, fun t as J6 s6 nt et ta => ?_⟩
      obtain rfl : as = [] := List.eq_nil_of_length_eq_zero ta.1
      refine ⟨(by show 0 ≤ sizeLine; decide), fun u nu => ?_⟩
      have su := new_same nu (.tup [])
      refine ⟨.tuple [], .tuple [], .tup (SqT.of (su _ _ et)) .nil, .tup (SqT.of upd_same) .nil, by decide +kernel, by decide +kernel, _, rfl, ?_⟩
      rw [show PyData.eqv (.tuple []) (.tuple []) = true from rfl]
      refine iteF ?_
      exact ⟨_, _, _, _, _, _, _, _, _, _, _, _, _, rfl, (X5.w.same.trans s6).trans su⟩
    case main =>
      refine ⟨fun n2 σ J => ∃ v8 v9 va vb vc vd ru h rp2 fl sp al first xs rows mode p rs ms es, σ = [some (.ref sc), some (.int (0 + (i : Int))), some (.ref d), some (.ref rp), some (.int (n : Nat)), some (.ref x), some (.ref h), some (.ref el), v8, v9, va, vb, vc, vd] ∧
        LHK K C CR CL H J ⟨d, l, x, la, lm, ru, h, rp2, fl⟩ n first xs rows mode (ptrO p) rs ms sp al mode p rs el es rs ms ∧ n2 = es.length ∧ ms.length ≤ 900, ⟨_, v8, v9, va, vb, vc, vd, ru, h, rp2, fl, sp, al, first, xs, rows, mode, p, rs, ms, es, rfl, X, rfl, by omega⟩, ?_⟩
      clear X wm wf few lrs lms
      rintro n2 σ J ⟨v8, v9, va, vb, vc, vd, ru, h, rp2, fl, sp, al, first, xs, rows, mode, p, rs, ms, es, rfl, X, rfl, lms⟩
      refine ⟨_, rfl, (by show 0 ≤ sizeLine; decide), fun e0 ne0 => ?_⟩
      have X2 := X.mono (new_same ne0 (.lst [])) d1 d2
      clear X
      cases es with
      | nil =>
        exact ⟨el, e0, elV [], [], rfl, rfl, SqL.of X2.ela, SqL.of upd_same, .inl ⟨rfl, rfl⟩, _, rfl, iteF (k _ _ ⟨v8, v9, va, vb, vc, vd, ru, h, rp2, fl, sp, al, first, xs, rows, mode, p, rs, ms, rfl, X2⟩)⟩
      | cons e es =>
        refine ⟨el, e0, elV (e :: es), [], rfl, rfl, SqL.of X2.ela, SqL.of upd_same, .inr (by rw [elV_len]; exact fun z => nomatch z), _, rfl, ?_⟩
        rw [decide_eq_true (by rw [elV_len]; exact fun z => nomatch z)]
        refine iteT ?_
        refine ⟨_, fun σ' J' z => z, ?_⟩
        generalize upd J e0 (.lst []) = J2 at X2 ⊢
        obtain ⟨m, ms', em, hk, LU, fn⟩ := X2.pop d1 d2
        have eel := X2.ela
        rw [elV_cons] at eel
        refine ⟨_, rfl, .inl ⟨rfl, _, SqL.of eel⟩, el, _, .ref e.h, rfl, rfl, eel, ?_, ?_⟩
        · rw [List.length_append]
          exact List.getElem?_concat_length
        rw [List.dropLast_concat]
        refine name_k ?_
        simp only [List.set_cons_succ, List.set_cons_zero]
        obtain ⟨dxu, eu⟩ := LU.at_
        refine ⟨_, rfl, x, dxu, _, rfl, eu, nou _ _ _, x, la, lm, ru, n, mode, ptrO p, rs, ms, rfl, LU, fun z => by rw [em] at z; simp at z, fun m2 ms2 em2 => ?_⟩
        obtain ⟨rfl, e2⟩ := List.append_inj' (em.symm.trans em2) rfl
        obtain rfl : m = m2 := by simpa using e2
        refine ⟨hk, fun J3 k3 b3 L3 => ⟨true, true, rfl, rfl, _, rfl, iteF ?_⟩⟩
        obtain ⟨X3, wm3, wf3, few3⟩ := fn J3 k3 L3
        have les := X3.stk.len
        have lel : (elV es).length = ms'.length := by rw [elV_len, les]
        have lms2 : ms'.length ≤ 900 := by
          rw [em, List.length_append, List.length_singleton] at lms
          omega
        refine ⟨_, rfl, _, rfl, _, rfl, el, elV es, rfl, .inl (SqL.of X3.ela), ?_⟩
        rw [lel]
        refine ⟨x, la, lm, e.ru, e.h, e.sp, e.al, e.rp, e.fl, n, e.p, e.first, e.mode, e.xs, e.rows, rs.take e.k, ms', rfl, X3.w.line, X3.w.hand, X3.w.rat, X3.w.rul, lms2, wm3, fun J9 s9 => ⟨true, rfl, iteF ?_⟩⟩
        exact ⟨es.length, Nat.lt_succ_self _, v8, v9, va, vb, vc, vd, e.ru, e.h, e.rp, e.fl, e.sp, e.al, e.first, e.xs, e.rows, e.mode, e.p, rs.take e.k, ms', es, rfl, X3.mono s9 d1 d2, rfl, lms2⟩
  case step =>
    clear X10 kd10 hd10
    rintro i2 σ J hi2 ⟨v8, v9, va, vb, vc, vd, ru, h, rp2, fl, sp, al, first, xs, rows, mode, p, rs, ms, es, rfl, X, wm, wf, few, lrs, lms⟩
    refine ⟨_, rfl, d, l, 6, rfl, X.w.deal, by decide, by decide, fun kf J1 f0 f1 kd1 hd1 => ?_⟩
    have X1 := X.kd kd1 hd1 d1 d2
    clear X kd1 hd1
    refine name_k ?_
    simp only [List.set_cons_succ, List.set_cons_zero]
    refine seq_if_k (fun τ L => ∃ va vb vc vd ru h rp2 fl sp al first xs rows mode p rs ms es, τ = [some (.ref sc), some (.int (0 + (i : Int))), some (.ref d), some (.ref rp), some (.int (n : Nat)), some (.ref x), some (.ref h), some (.ref el), some (.int (0 + (i2 : Int))), some (.int kf), va, vb, vc, vd] ∧
      LHK K C CR CL H L ⟨d, l, x, la, lm, ru, h, rp2, fl⟩ n first xs rows mode (ptrO p) rs ms sp al mode p rs el es rs ms ∧ Wd mode ∧ Wd first ∧ rows.length ≤ 12 ∧ rs.length ≤ 2 * (i2 + 1) ∧ ms.length ≤ i2 + 1) (fun τ L ⟨va, vb, vc, vd, ru, h, rp2, fl, sp, al, first, xs, rows, mode, p, rs, ms, es, et, X5, wm5, wf5, few5, lrs5, lms5⟩ => ?rest) (fun k => ?main)
    case rest =>
      subst et
      have les := X5.stk.len
      have lel : (elV es).length = ms.length := by rw [elV_len, les]
      refine ⟨_, rfl, _, rfl, _, rfl, el, elV es, rfl, .inl (SqL.of X5.ela), ?_⟩
      rw [lel]
      refine ⟨x, la, lm, ru, h, sp, al, rp2, fl, n, p, first, mode, xs, rows, rs, ms, rfl, X5.w.line, X5.w.hand, X5.w.rat, X5.w.rul, by omega, wm5, fun J9 s9 => ⟨true, rfl, iteF ?_⟩⟩
      exact ⟨_, _, _, _, _, _, ru, h, rp2, fl, sp, al, first, xs, rows, mode, p, rs, ms, es, rfl, X5.mono s9 d1 d2, wm5, wf5, few5, lrs5, lms5⟩
    case main =>
      have nou : ∀ (r m q : V), (lineFs r (.int n) m q (.ref la) (.ref lm)).lookup ("undo" : Str) = none := fun r m q => by kernel_rfl
      have noa : ∀ (r m q : V), (lineFs r (.int n) m q (.ref la) (.ref lm)).lookup ("ask" : Str) = none := fun r m q => by kernel_rfl
      have noc : ∀ (r m q : V), (lineFs r (.int n) m q (.ref la) (.ref lm)).lookup ("change" : Str) = none := fun r m q => by kernel_rfl
      have nov : ∀ (r m q : V), (lineFs r (.int n) m q (.ref la) (.ref lm)).lookup ("several" : Str) = none := fun r m q => by kernel_rfl
      refine seq_else_k (fun τ L => τ = [some (.ref sc), some (.int (0 + (i : Int))), some (.ref d), some (.ref rp), some (.int (n : Nat)), some (.ref x), some (.ref h), some (.ref el), some (.int (0 + (i2 : Int))), some (.int kf), va, vb, vc, vd] ∧
        LHK K C CR CL H L ⟨d, l, x, la, lm, ru, h, rp2, fl⟩ n first xs rows mode (ptrO p) rs ms sp al mode p rs el es rs ms) (fun τ L ⟨et, X2⟩ => ?els) (fun k2e => ?test)
      case test =>
        refine ⟨_, rfl, rfl, _, rfl, ite2 (fun _ => ?_) (fun _ => k2e _ _ ⟨rfl, X1⟩)⟩
        refine ⟨_, rfl, (by show 0 ≤ sizeLine; decide), fun e0 ne0 => ?_⟩
        have X2 := X1.mono (new_same ne0 (.lst [])) d1 d2
        cases es with
        | nil =>
          exact ⟨el, e0, elV [], [], rfl, rfl, SqL.of X2.ela, SqL.of upd_same, .inl ⟨rfl, rfl⟩, _, rfl, iteF (k2e _ _ ⟨rfl, X2⟩)⟩
        | cons e es =>
          refine ⟨el, e0, elV (e :: es), [], rfl, rfl, SqL.of X2.ela, SqL.of upd_same, .inr (by rw [elV_len]; exact fun z => nomatch z), _, rfl, ?_⟩
          rw [decide_eq_true (by rw [elV_len]; exact fun z => nomatch z)]
          refine iteT ?_
          clear k2e X1
          generalize upd J1 e0 (.lst []) = J2 at X2 ⊢
          obtain ⟨m, ms', em, hk, LU, fn⟩ := X2.pop d1 d2
          have eel := X2.ela
          rw [elV_cons] at eel
          refine ⟨_, rfl, .inl ⟨rfl, _, SqL.of eel⟩, el, _, .ref e.h, rfl, rfl, eel, ?_, ?_⟩
          · rw [List.length_append]
            exact List.getElem?_concat_length
          rw [List.dropLast_concat]
          refine name_k ?_
          simp only [List.set_cons_succ, List.set_cons_zero]
          obtain ⟨dxu, eu⟩ := LU.at_
          refine ⟨_, rfl, x, dxu, _, rfl, eu, nou _ _ _, x, la, lm, ru, n, mode, ptrO p, rs, ms, rfl, LU, fun z => by rw [em] at z; simp at z, fun m2 ms2 em2 => ?_⟩
          obtain ⟨rfl, e2⟩ := List.append_inj' (em.symm.trans em2) rfl
          obtain rfl : m = m2 := by simpa using e2
          refine ⟨hk, fun J3 k3 b3 L3 => ⟨true, true, rfl, rfl, _, rfl, iteF ?_⟩⟩
          obtain ⟨X3, wm3, wf3, few3⟩ := fn J3 k3 L3
          refine k _ _ ⟨va, vb, vc, vd, e.ru, e.h, e.rp, e.fl, e.sp, e.al, e.first, e.xs, e.rows, e.mode, e.p, rs.take e.k, ms', es, rfl, X3, wm3, wf3, few3, ?_, ?_⟩
          · rw [List.length_take]
            omega
          · rw [em, List.length_append, List.length_singleton] at lms
            omega
      case els =>
        subst et
        clear X1
        refine ⟨_, rfl, .inl ⟨rfl, _, SqL.of X2.ela⟩, _, rfl, h, _, rfl, .inl X2.w.hand.at_, fun h2 nh2 => ?_⟩
        obtain ⟨e, eh, X3⟩ := X2.push nh2 few wm wf d1 d2
        have les := X2.stk.len
        refine ⟨el, _, _, rfl, rfl, new_same nh2 _ _ _ X2.ela, small1000 (by rw [elV_len]; omega), ?_⟩
        generalize upd (upd L h2 (.dK (handK (.ref rp2) (.int (n : Nat)) (.ref sp) (.ref al)))) el (.lst (elV es ++ [.ref h2])) = L3 at X3 ⊢
        clear X2 nh2
        refine ⟨_, rfl, rfl, _, rfl, ite2 (fun _ => ?chg) (fun _ => ⟨_, rfl, rfl, _, rfl, ite2 (fun _ => ?sev) (fun _ => ?one)⟩)⟩
        case one =>
          refine ⟨_, rfl, _, rfl, d, l, n, rfl, X3.w.deal, by omega, fun aq isL os J4 k4 hd4 naq xaq rq gos los => ?_⟩
          have offq := X3.w.off naq
          have X4 := X3.kd k4 hd4 d1 d2
          clear X3
          refine name_k ?_
          simp only [List.set_cons_succ, List.set_cons_zero]
          obtain ⟨dxl, exl⟩ := X4.w.line.at_
          refine ⟨_, rfl, x, dxl, _, rfl, exl, noa _ _ _, _, rfl, ?_⟩
          refine nil_k ?_
          dsimp only
          refine ask_step (A := ⟨d, l, x, la, lm, ru, h, rp2, fl⟩) (CE := CE) (E := fun _ _ _ => False) (self := false) X4.w rq gos los ⟨offq.2.1, offq.1.2.2.1, offq.1.2.2.2.1⟩ (by omega) (by omega) d1 d2 fun g out L5 kl W5 eo ng eg => ?_
          have rq5 := rq.kept (L := L5) fun o e => kl _ _ offq.2.1 offq.1.2.2.1 offq.1.2.2.2.1 e
          have X5 := X4.kl kl X4.nel.2.2.2.2.1 d1 d2 W5
          clear X4 W5
          refine ⟨_, rfl, _, rfl, aq, os.map V.int, rfl, rq5.seq, fun kq nkq => ?_⟩
          have s6 := new_same nkq (.lst (os.map V.int))
          have ekq : upd L5 kq (.lst (os.map V.int)) kq = some (.lst (os.map V.int)) := upd_same
          have X6 := X5.mono s6 d1 d2
          have eg6 := s6 _ _ eg
          generalize upd L5 kq (.lst (os.map V.int)) = L6 at s6 ekq X6 eg6 ⊢
          clear X5
          refine nil_k ?_
          dsimp only
          refine do_step X6.w ekq gos los (by omega) (by omega) (by omega) (by omega) d1 d2 fun gq sp2 al2 dn out2 m2 p2 L7 kh nal en W7 egq => ?_
          have X7 := X6.kh kh W7.hand nal en.pn d1 d2
          have eo2 : out2 = out := by rw [en.grants, eo]
          subst eo2
          have eg7 : L7 g = some (.tup (out2.map V.int)) := kh _ _ (fun z => by
            have := X6.w.hand.at_
            rw [← show g = h from z, eg6] at this
            cases this) eg6
          refine ⟨intsD out2, intsD out2, dp_intsT (SqT.of eg7), dp_intsT (SqT.of egq), shaped_ints _, shaped_ints _, _, rfl, ?_⟩
          rw [shaped_ok (shaped_ints out2)]
          refine iteF ?_
          have X8 := X7.grow (more := [sortI os])
          rw [← en.ptr, ← en.md] at X8
          refine k _ _ ⟨_, _, _, _, ru, h, rp2, fl, sp2, al2, first, xs, rows, m2, p2, _, _, _, rfl, X8, by rw [en.md]; exact endMode_wd wm X8.w.rul.rt.good, wf, few, ?_, ?_⟩
          · rw [List.length_append, List.length_singleton]
            omega
          · rw [List.length_append, List.length_singleton]
            omega
        case chg =>
          refine ⟨_, rfl, d, l, 2, rfl, X3.w.deal, by decide, by decide, fun kk J4 _ _ k4 hd4 => ⟨rfl, _, rfl, ?_⟩⟩
          have X4 := X3.kd k4 hd4 d1 d2
          clear X3
          refine ifT (fun v L => ∃ (rpo flo : Addr) (firsto : Str) (xso : List V) (rowso : List Row5), v = .ref rpo ∧ RuleL L rpo flo firsto xso rowso ∧ Wd firsto ∧ rowso.length ≤ 12 ∧ LHK K C CR CL H L ⟨d, l, x, la, lm, ru, h, rp2, fl⟩ n first xs rows mode (ptrO p) rs ms sp al mode p rs el (e :: es) rs (ms ++ [⟨ru, mode, ptrO p, rs.length⟩]) ∧ (flo ≠ d ∧ flo ≠ l ∧ flo ≠ la ∧ flo ≠ lm) ∧ el ≠ flo) (fun _ K' k' => ?_) (fun _ K' k' => ?_) ?_
          · refine ⟨_, rfl, d, l, 3, 8, rfl, hd4, by decide, by decide, by decide, fun rpo flo firsto xso rowso J5 ruo wfo fewo k5 hd5 nrpo nflo xflo _ => k' _ _ ⟨rpo, flo, firsto, xso, rowso, rfl, ruo, wfo, by omega, X4.kd k5 hd5 d1 d2, ⟨xflo.1, xflo.2, (X4.w.off nflo).1.2.2.1, (X4.w.off nflo).1.2.2.2.1⟩, fun z => ?_⟩⟩
            have := X4.ela
            rw [z, nflo] at this
            cases this
          · exact ⟨_, rfl, h, _, rfl, hg0 X4.w.hand.at_, k' _ _ ⟨rp2, fl, first, xs, rows, rfl, X4.w.rul, wf, few, X4, X4.w.nf, X4.nel.2.2.2.2.1⟩⟩
          clear X4 k4 hd4
          rintro v L4 ⟨rpo, flo, firsto, xso, rowso, rfl, ruo, wfo, fewo, X4, nfo, nfe⟩
          refine name_k ?_
          simp only [List.set_cons_succ, List.set_cons_zero]
          obtain ⟨dxl, exl⟩ := X4.w.line.at_
          refine ⟨_, rfl, x, dxl, _, rfl, exl, noc _ _ _, _, rfl, rpo, flo, firsto, xso, rowso, rfl, ruo, wfo, by omega, fun ru2 J6 s6 nru2 rat6 => ?_⟩
          have X6 := X4.mono s6 d1 d2
          have ruo6 := ruo.mono s6
          clear X4 ruo
          refine ⟨x, la, lm, ru, ru2, n, mode, firsto, ptrO p, rs, ms, rowso, rfl, X6.w.line, rat6, by omega, fun J7 k7 b7 LA7 => ⟨rfl, _, rfl, iteF ?_⟩⟩
          have rat7 := rat6.kl X6.w.line k7 d1 d2
          have im7 : Imm CL J6 J7 := fun c o n1 n2 _ e => by
            have y := X6.w.line.off e n1 (fun dx fs z => n2 dx fs z)
            exact k7 _ _ y.1 y.2.1 y.2.2 e
          have notA : ∀ {c ys}, J6 c = some (HO.lst ys) → c ≠ x := fun e z => by
            obtain ⟨dx6, e6⟩ := X6.w.line.at_
            rw [z, show J6 x = _ from e6] at e
            cases e
          have ruo7 := ruo6.imm im7 (fun ys e => k7 _ _ (notA e) nfo.2.2.1 nfo.2.2.2 e)
          refine ⟨_, rfl, _, rfl, rpo, _, 0, .str firsto, rfl, rfl, SqT.of ruo7.p, rfl, _, _, rfl, rfl, (by show 2 ≤ sizeLine; decide), fun t5 nt5 => ⟨(by show 2 ≤ sizeLine; decide), fun t6 nt6 => ?_⟩⟩
          have s78 := (new_same nt5 (.tup [V.str firsto, .int (0 - 1)])).trans (new_same nt6 (.tup [V.ref rpo, .ref t5]))
          have et6 : upd (upd J7 t5 (.tup [V.str firsto, .int (0 - 1)])) t6 (.tup [V.ref rpo, .ref t5]) t6 = some (.tup [V.ref rpo, .ref t5]) := upd_same
          have et5 := new_same nt6 (.tup [V.ref rpo, .ref t5]) t5 _ upd_same
          generalize upd (upd J7 t5 (.tup [V.str firsto, .int (0 - 1)])) t6 (.tup [V.ref rpo, .ref t5]) = J8 at s78 et6 et5 ⊢
          have eh6 : J6 h = _ := X6.w.hand.at_
          have yh := X6.w.line.off eh6 (fun _ z => nomatch z) (fun _ _ z => nomatch z)
          have eh8 := s78 _ _ (k7 _ _ yh.1 yh.2.1 yh.2.2 eh6)
          refine ⟨t6, _, rfl, SqT.of et6, rfl, _, _, rfl, _, rfl, h, _, rfl, DPut.k (k := .inr "rule") eh8 (by show 4 < sizeLine; decide), ?_⟩
          rw [hp0]
          refine ⟨_, _, rfl, _, rfl, h, _, rfl, DPut.k (k := .inr "state") upd_same (by show 4 < sizeLine; decide), rfl, ?_⟩
          rw [hp2, upd_upd]
          have kh9 : ∀ c o, c ≠ h → J7 c = some o → upd J8 h (.dK (handK (.ref rpo) (.int (n : Nat)) (.ref t5) (.ref al))) c = some o := fun c o n4 e => by
            rw [upd_ne n4]
            exact s78 _ _ e
          have eh7 : J7 h = _ := k7 _ _ yh.1 yh.2.1 yh.2.2 eh6
          have nh7 : ∀ {c o}, (∀ kvs, o ≠ HO.dK kvs) → J7 c = some o → c ≠ h := fun {c o} n1 e z => by
            rw [z, eh7] at e
            exact n1 _ (Option.some.inj e).symm
          have im9 : Imm CL J7 (upd J8 h (.dK (handK (.ref rpo) (.int (n : Nat)) (.ref t5) (.ref al)))) := fun c o _ _ n3 e => kh9 _ _ (nh7 n3 e) e
          have off9 : ∀ {c o}, (∀ kvs, o ≠ HO.dK kvs) → J7 c = some o → upd J8 h (.dK (handK (.ref rpo) (.int (n : Nat)) (.ref t5) (.ref al))) c = some o := fun n1 e => kh9 _ _ (nh7 n1 e) e
          have e9 : upd J8 h (.dK (handK (.ref rpo) (.int (n : Nat)) (.ref t5) (.ref al))) h = some (.dK (handK (.ref rpo) (.int (n : Nat)) (.ref t5) (.ref al))) := upd_same
          have nt5h : t5 ≠ h := fun z => by
            rw [z, eh7] at nt5
            cases nt5
          have et59 : upd J8 h (.dK (handK (.ref rpo) (.int (n : Nat)) (.ref t5) (.ref al))) t5 = some (.tup [V.str firsto, .int (0 - 1)]) := by
            rw [upd_ne nt5h]
            exact et5
          have km : ∀ c o, c ≠ x → c ≠ la → c ≠ lm → c ≠ h → J6 c = some o → upd J8 h (.dK (handK (.ref rpo) (.int (n : Nat)) (.ref t5) (.ref al))) c = some o := fun c o n1 n2 n3 n4 e => kh9 _ _ n4 (k7 _ _ n1 n2 n3 e)
          generalize upd J8 h (.dK (handK (.ref rpo) (.int (n : Nat)) (.ref t5) (.ref al))) = L9 at kh9 im9 off9 e9 et59 km ⊢
          have im69 : Imm CL J6 L9 := fun c o n1 n2 n3 e => im9 _ _ n1 n2 n3 (im7 _ _ n1 n2 n3 e)
          have LA9 := LA7.imm im9 (fun dx fs e => off9 (fun _ z => nomatch z) e) (fun ys e => off9 (fun _ z => nomatch z) e) (fun ys e => off9 (fun _ z => nomatch z) e)
          rw [show (none : Option Int) = ptrO (0 - 1) from rfl] at LA9
          have notH : ∀ {c ys}, J6 c = some (HO.lst ys) → c ≠ h := fun e z => by
            rw [z, eh6] at e
            cases e
          obtain ⟨h1', h2', as, h3', h4'⟩ := X6.w.hand
          have HA9 : HandAt L9 h t5 al rpo n firsto (0 - 1) rs := ⟨e9, et59, as, km _ _ (notA h3') X6.w.na.2.2.1 X6.w.na.2.2.2 (notH h3') h3', h4'.keep im69.tup⟩
          have W9 := X6.w.swap2 km LA9 (rat7.imm im9 d1 d2) (ruo7.imm im9 (fun ys e => off9 (fun _ z => nomatch z) e)) HA9 X6.w.new.2.2.2.2.2 nfo X6.w.na (by omega)
          have X9 := X6.to im69 (fun c ys nc e => km _ _ (notA e) (fun z => nc (.inr (.inr (.inl z)))) (fun z => nc (.inr (.inr (.inr (.inl z))))) (notH e) e) (fun e' he' kvs ek => by
            have y := X6.w.line.off ek (fun _ z => nomatch z) (fun _ _ z => nomatch z)
            exact km _ _ y.1 y.2.1 y.2.2 (X6.hne e' he') ek) W9 (km _ _ (notA X6.ela) X6.nel.2.2.1 X6.nel.2.2.2.1 (notH X6.ela) X6.ela) X6.hne nfe X6.nel.2.2.2.2.2 d1 d2
          refine k _ _ ⟨_, _, _, _, ru2, h, rpo, flo, t5, al, firsto, xso, rowso, firsto, 0 - 1, rs, _, e :: es, rfl, X9, wfo, wfo, fewo, by omega, ?_⟩
          rw [List.length_append, List.length_singleton]
          omega
        case sev =>
          refine ⟨_, rfl, d, l, 3, rfl, X3.w.deal, by decide, by decide, fun kr J4 r0 r1 k4 hd4 => ?_⟩
          have X4 := X3.kd k4 hd4 d1 d2
          clear X3 k4
          refine ⟨kr, rfl, by omega, by omega, fun D hD => lc_range (lo := 0) (n := kr.toNat) (fun i M => Kd d l J4 M ∧ Deal M d l ∧ ∃ (xr : List V) (oss : List (List Int)), M D = some (.lst xr) ∧ RdsL M n (fun c => c = x ∨ c = la ∨ c = lm ∨ c = d ∨ c = l ∨ c = h ∨ c = D) xr oss ∧ xr.length ≤ i)
            ⟨Kd.of (new_same hD _), hd4.mono (new_same hD _), [], [], upd_same, ⟨rfl, fun i v z => nomatch z⟩, Nat.le_refl _⟩ (fun i3 M hi3 ⟨kM, hdM, xr, oss, eD, rd, lxr⟩ => ?_) (fun M ⟨kM, hdM, xr, oss, eD, rd, lxr⟩ => ?_)⟩
          · have XM := X4.kd kM hdM d1 d2
            have xD := hd4.new hD
            refine ⟨rfl, _, rfl, _, rfl, d, l, n, rfl, hdM, by omega, fun q2 isL os M2 k2 hd2 nq2 xq2 rq gos los => ?_⟩
            have offq := XM.w.off nq2
            have eD2 := k2 _ _ xD.1 xD.2 eD
            have nqD : q2 ≠ D := fun z => by
              rw [z, eD] at nq2
              cases nq2
            have rd2 := rd.kept (L := M2) fun c o nc e => k2 _ _ (fun z => nc (.inr (.inr (.inr (.inl z))))) (fun z => nc (.inr (.inr (.inr (.inr (.inl z)))))) e
            have kD : ∀ c o, c ≠ D → M2 c = some o → upd M2 D (.lst (xr ++ [.ref q2])) c = some o := fun c o nc e => by
              rw [upd_ne nc]
              exact e
            refine ⟨xr, eD2, small1000 (by omega), fun c o n1 n2 e => kD _ _ (ne_of_none e hD) (k2 _ _ n1 n2 (kM _ _ n1 n2 e)), hd2.put xD, xr ++ [.ref q2], oss ++ [os], upd_same, ?_, ?_⟩
            · refine (rd2.kept fun c o nc e => kD _ _ (fun z => nc (.inr (.inr (.inr (.inr (.inr (.inr z))))))) e).snoc (rq.kept fun o e => kD _ _ nqD e) gos los ?_
              rintro (z | z | z | z | z | z | z)
              · exact offq.2.1 z
              · exact offq.1.2.2.1 z
              · exact offq.1.2.2.2.1 z
              · exact offq.1.1 z
              · exact offq.1.2.1 z
              · exact offq.2.2 z
              · exact nqD z
            · rw [List.length_append, List.length_singleton]
              omega
          have X5 := X4.kd kM hdM d1 d2
          have offD := X4.w.off hD
          have nDel : D ≠ el := fun z => by
            have := X4.ela
            rw [← z, hD] at this
            cases this
          clear X4 kM hdM hd4 hD
          refine name_k ?_
          simp only [List.set_cons_succ, List.set_cons_zero]
          have lx := rd.1
          have lo : oss.length ≤ 2 := by omega
          have rd3 := rd.sub (no' := fun c => c = x ∨ c = la ∨ c = lm) fun c z => z.elim .inl fun z => z.elim (fun z => .inr (.inl z)) fun z => .inr (.inr (.inl z))
          obtain ⟨dxl, exl⟩ := X5.w.line.at_
          refine ⟨_, rfl, x, dxl, _, rfl, exl, nov _ _ _, _, rfl, ?_⟩
          refine nil_k ?_
          dsimp only
          refine ⟨x, la, lm, ru, D, n, mode, first, ptrO p, rs, ms, rows, xr, oss, rfl, X5.w.line, X5.w.rat, eD, ⟨offD.1.2.2.1, offD.1.2.2.2.1⟩, rd3, by omega, by omega, by omega, fun t gs J6 kl LA6 et tg => ?_⟩
          have W6 := X5.w.kl kl LA6 d1 d2
          have X6 := X5.kl kl X5.nel.2.2.2.2.1 d1 d2 W6
          have eD6 := kl _ _ offD.2.1 offD.1.2.2.1 offD.1.2.2.2.1 eD
          have rd6 := rd.kept (L := J6) fun c o nc e => kl _ _ (fun z => nc (.inl z)) (fun z => nc (.inr (.inl z))) (fun z => nc (.inr (.inr (.inl z)))) e
          clear X5 W6 LA6 kl rd rd3 eD
          refine ⟨t, gs, rfl, .inr (SqT.of et), fun lq nlq => ?_⟩
          have s7 := new_same nlq (.lst gs)
          have elq : upd J6 lq (.lst gs) lq = some (.lst gs) := upd_same
          have X7 := X6.mono s7 d1 d2
          have eD7 := s7 _ _ eD6
          have rd7 := rd6.kept (L := upd J6 lq (.lst gs)) fun c o _ e => s7 _ _ e
          have tg7 := tg.keep (L := upd J6 lq (.lst gs)) fun c ys e => s7 _ _ e
          generalize upd J6 lq (.lst gs) = J7 at s7 elq X7 eD7 rd7 tg7 ⊢
          clear X6 eD6 rd6 tg et nlq s7
          have eh7 := X7.w.hand.at_
          have notH : ∀ {c ys}, J7 c = some (HO.lst ys) → c ≠ h := fun e z => by
            rw [z, show J7 h = _ from eh7] at e
            cases e
          refine ⟨_, rfl, D, rfl, ⟨_, SqL.of eD7⟩, fun D2 hD2 => lc_list (fun i M => Kh h J7 M ∧ ∃ (sp2 al2 : Addr) (m2 : Str) (p2 : Int) (us : List V), HandAt M h sp2 al2 rp2 n m2 p2 (rs ++ (oss.take i).map sortI) ∧ (m2, ptrO p2) = runS rows mode (ptrO p) (oss.take i) ∧ p2 < n ∧ (al2 ≠ d ∧ al2 ≠ l ∧ al2 ≠ la ∧ al2 ≠ lm) ∧ al2 ≠ el ∧ al2 ≠ D2 ∧ M D2 = some (.lst us) ∧ TupsAt M us (runG rows mode (ptrO p) (oss.take i)))
            ⟨Kh.of (new_same hD2 _), sp, al, mode, p, [], ?_, rfl, X7.w.pn, X7.w.na, Ne.symm X7.nel.2.2.2.2.2, ?_, upd_same, .nil⟩ (fun i3 M _ ⟨kM, _⟩ => SqL.of (kM _ _ (notH eD7) eD7)) (fun i3 v M hv ⟨kM, sp2, al2, m2, p2, us, hh, hst, pn2, na2, ne2, nD2, eU, tU⟩ => ?_) (fun M ⟨kM, sp2, al2, m2, p2, us, hh, hst, pn2, na2, ne2, nD2, eU, tU⟩ => ?_)⟩
          · have := X7.w.hand.mono (new_same hD2 (.lst []))
            rw [List.take_zero, List.map_nil, List.append_nil]
            exact this
          · obtain ⟨_, _, as, ea, _⟩ := X7.w.hand
            exact ne_of_none ea hD2
          · obtain ⟨qi, isL, os, rfl, eo, ra, go, lo2, no⟩ := rd7.2 i3 v hv
            have hi3 : i3 < oss.length := (List.getElem?_eq_some_iff.mp eo).1
            have ts := take_snoc eo
            have raM := ra.kept (L := M) fun o e => kM _ _ (fun z => no (.inr (.inr (.inr (.inr (.inr (.inl z))))))) e
            refine ⟨rfl, _, rfl, _, rfl, qi, os.map V.int, rfl, raM.seq, fun kq nkq => ?_⟩
            have sq := new_same nkq (.lst (os.map V.int))
            have hhq := hh.mono sq
            have ekq : upd M kq (.lst (os.map V.int)) kq = some (.lst (os.map V.int)) := upd_same
            have eUq := sq _ _ eU
            have tUq := tU.keep (L := upd M kq (.lst (os.map V.int))) fun c ys e => sq _ _ e
            have kMq : Kh h J7 (upd M kq (.lst (os.map V.int))) := kM.trans (Kh.of sq)
            generalize upd M kq (.lst (os.map V.int)) = Mq at sq hhq ekq eUq tUq kMq ⊢
            have ehq := hhq.at_
            have imq : Imm CL J7 Mq := fun c o n1 n2 n3 e => kMq _ _ (fun z => by
              rw [z, show J7 h = _ from eh7] at e
              exact n3 _ (Option.some.inj e).symm) e
            have rulq := X7.w.rul.imm imq (fun ys e => kMq _ _ (notH e) e)
            refine nil_k ?_
            dsimp only
            refine ⟨h, sp2, al2, rp2, fl, kq, n, p2, first, m2, xs, rows, os, _, rfl, hhq, rulq, by omega, pn2, by omega, by omega, ekq, go, by omega, by rw [List.length_append, List.length_map, List.length_take]; omega, fun gq sp3 al3 dn out m3 p3 M3 kh nal en HA eg => ?_⟩
            have notH2 : ∀ {c ys}, Mq c = some (HO.lst ys) → c ≠ h := fun e z => by
              rw [z, ehq] at e
              cases e
            have notHt : ∀ {c ys}, Mq c = some (HO.tup ys) → c ≠ h := fun e z => by
              rw [z, ehq] at e
              cases e
            have eU3 := kh _ _ (notH2 eUq) eUq
            have tU3 := tUq.keep (L := M3) fun c ys e => kh _ _ (notHt e) e
            have nal3 : al3 ≠ D2 := fun z => by
              rw [z, eUq] at nal
              cases nal
            have keepJ : ∀ {c ys}, J7 c = some (HO.lst ys) → al3 ≠ c := fun e z => by
              have := kMq _ _ (notH e) e
              rw [← z, nal] at this
              cases this
            obtain ⟨cs, mm, c1, c2, c3⟩ := X7.w.deal.ex
            obtain ⟨_, ⟨as, a2, _⟩, ⟨mks, a3, _⟩, _⟩ := X7.w.line
            have kD : ∀ c o, c ≠ D2 → M3 c = some o → upd M3 D2 (.lst (us ++ [.ref gq])) c = some o := fun c o nc e => by
              rw [upd_ne nc]
              exact e
            have tD : ∀ c ys, M3 c = some (HO.tup ys) → upd M3 D2 (.lst (us ++ [.ref gq])) c = some (HO.tup ys) := fun c ys e => kD _ _ (fun z => by
              rw [z, eU3] at e
              cases e) e
            obtain ⟨g1, g2, as3, g3, g4⟩ := HA
            have hs1 : m2 = (runS rows mode (ptrO p) (oss.take i3)).1 := congrArg Prod.fst hst
            have hs2 : ptrO p2 = (runS rows mode (ptrO p) (oss.take i3)).2 := congrArg Prod.snd hst
            have lU := tU.1
            rw [runG_len, List.length_take] at lU
            refine ⟨us, eU3, small1000 (by omega), fun c o nc e => kD _ _ (ne_of_none e hD2) (kh _ _ nc (kMq _ _ nc e)), sp3, al3, m3, p3, us ++ [.ref gq], ⟨kD _ _ (fun z => by rw [← z, g1] at eU3; cases eU3) g1, tD _ _ g2, as3, kD _ _ nal3 g3, ?_⟩, ?_, en.pn, ⟨keepJ c1, keepJ c2, keepJ a2, keepJ a3⟩, keepJ X7.ela, nal3, upd_same, ?_⟩
            · rw [ts, List.map_append, ← List.append_assoc]
              exact g4.keep tD
            · rw [ts, runS_snoc, en.md, en.ptr, ← hs1, ← hs2]
            · rw [ts, runG_snoc, ← hs1, ← hs2, ← en.grants]
              exact (tU3.keep tD).snoc (tD _ _ eg)
          rw [lx, List.take_length] at hh hst tU
          have imM : Imm CL J7 M := fun c o n1 n2 n3 e => kM _ _ (fun z => by
            rw [z, show J7 h = _ from eh7] at e
            exact n3 _ (Option.some.inj e).symm) e
          have tgM := tg7.keep imM.tup
          have shl : SeqAt.shaped (.list ((runG rows mode (ptrO p) oss).map intsD)) = true := shaped_lst (gs_lay _) (by decide)
          refine ⟨.list ((runG rows mode (ptrO p) oss).map intsD), .list ((runG rows mode (ptrO p) oss).map intsD), dp_tupsL (SqL.of (kM _ _ (notH elq) elq)) tgM, dp_tupsL (SqL.of eU) tU, shl, shl, _, rfl, ?_⟩
          rw [shaped_ok shl]
          refine iteF ?_
          have hs1 : m2 = (runS rows mode (ptrO p) oss).1 := congrArg Prod.fst hst
          have hs2 : ptrO p2 = (runS rows mode (ptrO p) oss).2 := congrArg Prod.snd hst
          have kd9 : ∀ c kvs, c ≠ h → J7 c = some (HO.dK kvs) → M c = some (HO.dK kvs) := fun c kvs nc e => kM _ _ nc e
          have LA9 := X7.w.line.imm imM (fun dx fs e => kM _ _ (fun z => by
            rw [z, show J7 h = _ from eh7] at e
            cases e) e) (fun ys e => kM _ _ (notH e) e) (fun ys e => kM _ _ (notH e) e)
          rw [← hs1, ← hs2] at LA9
          have W9 := X7.w.swap2 (fun c o _ _ _ n4 e => kM _ _ n4 e) LA9 (X7.w.rat.imm imM d1 d2) (X7.w.rul.imm imM (fun ys e => kM _ _ (notH e) e)) hh X7.w.new.2.2.2.2.2 X7.w.nf na2 pn2
          have X9 := (X7.to imM (fun c ys _ e => kM _ _ (notH e) e) (fun e' he' kvs ek => kM _ _ (X7.hne e' he') ek) W9 (kM _ _ (notH X7.ela) X7.ela) X7.hne X7.nel.2.2.2.2.1 (Ne.symm ne2) d1 d2).grow (more := oss.map sortI)
          refine k _ _ ⟨_, _, _, _, ru, h, rp2, fl, sp2, al2, first, xs, rows, m2, p2, _, _, _, rfl, X9, by rw [hs1]; exact runS_wd X9.w.rul.rt.good wm, wf, few, ?_, ?_⟩
          · rw [List.length_append, List.length_map]
            omega
          · rw [List.length_append, List.length_singleton]
            omega
end
end LT
namespace LT
open PySem L2
theorem FnOk.toG {P : Program} {w : World} {K : PySem.W.Frag} {mg : Str → Option Value} {base : Heap} {CX : CXT} {k : Nat} {f : Addr} {fd : FuncData} {ps : List Str} {sp : Sp} (g : FnOk P w K mg base CX k f fd ps sp) : FnG P w K mg base CX k f fd ps sp := fun A outer s H args us vs Q E _ hr env b v h => g.run A outer s H args us vs Q E hr env b v h
theorem row_b6 {K : PySem.W.Frag} {f : Addr} {fd : FuncData} (F : FunD K "__init__" "Row.__init__" (defArgs sRowInit) (defBody sRowInit) (defScope sRowInit) [.bl false] [] f fd) :
    ∃ ds, Vals ([] : List V) ds ∧ Binds K fd ["self", "mode", "pick", "move", "then", "also"] ds :=
  F.binds1 6 1 (by decide) (by decide) fun T kV doc pm an cdv ct us its h1 h2 => match us, its, h1, h2 with
    | [_, _, _, _, _, _], [_], _, _ => ⟨_, rfl, rfl⟩
theorem rule_b3 {K : PySem.W.Frag} {f e : Addr} {fd : FuncData} (F : FunD K "__init__" "Rule.__init__" (defArgs sRuleInit) (defBody sRuleInit) (defScope sRuleInit) [.ref e] [] f fd) :
    ∃ ds, Vals ([] : List V) ds ∧ Binds K fd ["self", "first", "rows"] ds :=
  F.binds1 3 1 (List.cons_ne_nil _ _) rfl fun T kV doc pm an cdv ct us its h1 h2 => match us, its, h1, h2 with
    | [_, _, _], [_], _, _ => ⟨_, rfl, rfl⟩
theorem all_mk {l : PySem.W.OpenLaw} {w : World} {K : PySem.W.Frag} {h : Heap} {mg : Str → Option Value} {fa : Addr} (X : K.In h) (G : h.Ns mainGlobals mg) (hfa : mg "law" = some (.ref fa))
    {C CE C2 C3 CL CP CR pP pM : Addr} {ddP ddM : Option Addr} {nP nM : Nat} {slP slM : Array (Option Value)} {t1 t2 t3 t4 t5 t6 t7 t8 : Tok}
    {f_nm : Addr} {od_nm an_nm : Option Addr} {sl_nm : Array (Option Value)} {oc_nm kV_nm dc_nm pm_nm cd_nm ct_nm : Value}
    {f_iw : Addr} {od_iw an_iw : Option Addr} {sl_iw : Array (Option Value)} {oc_iw kV_iw dc_iw pm_iw cd_iw ct_iw : Value}
    {f_sq : Addr} {od_sq an_sq : Option Addr} {sl_sq : Array (Option Value)} {oc_sq kV_sq dc_sq pm_sq cd_sq ct_sq : Value}
    {f_rr : Addr} {od_rr an_rr : Option Addr} {sl_rr : Array (Option Value)} {oc_rr kV_rr dc_rr pm_rr cd_rr ct_rr : Value}
    {f_ig : Addr} {od_ig an_ig : Option Addr} {sl_ig : Array (Option Value)} {oc_ig kV_ig dc_ig pm_ig cd_ig ct_ig : Value}
    {f_mv : Addr} {od_mv an_mv : Option Addr} {sl_mv : Array (Option Value)} {oc_mv kV_mv dc_mv pm_mv cd_mv ct_mv : Value}
    {f_as : Addr} {od_as an_as : Option Addr} {sl_as : Array (Option Value)} {oc_as kV_as dc_as pm_as cd_as ct_as : Value}
    {f_ib : Addr} {od_ib an_ib : Option Addr} {sl_ib : Array (Option Value)} {oc_ib kV_ib dc_ib pm_ib cd_ib ct_ib : Value}
    {f_ir : Addr} {od_ir an_ir : Option Addr} {sl_ir : Array (Option Value)} {oc_ir kV_ir dc_ir pm_ir cd_ir ct_ir : Value}
    {f_pr : Addr} {od_pr an_pr : Option Addr} {sl_pr : Array (Option Value)} {oc_pr kV_pr dc_pr pm_pr cd_pr ct_pr : Value}
    {f_gb : Addr} {od_gb an_gb : Option Addr} {sl_gb : Array (Option Value)} {oc_gb kV_gb dc_gb pm_gb cd_gb ct_gb : Value}
    {f_fo : Addr} {od_fo an_fo : Option Addr} {sl_fo : Array (Option Value)} {oc_fo kV_fo dc_fo pm_fo cd_fo ct_fo : Value}
    {f_rf : Addr} {od_rf an_rf : Option Addr} {sl_rf : Array (Option Value)} {oc_rf kV_rf dc_rf pm_rf cd_rf ct_rf : Value}
    {f_rs : Addr} {od_rs an_rs : Option Addr} {sl_rs : Array (Option Value)} {oc_rs kV_rs dc_rs pm_rs cd_rs ct_rs : Value}
    {f_mo : Addr} {od_mo an_mo : Option Addr} {sl_mo : Array (Option Value)} {oc_mo kV_mo dc_mo pm_mo cd_mo ct_mo : Value}
    {f_ei : Addr} {od_ei an_ei : Option Addr} {sl_ei : Array (Option Value)} {oc_ei kV_ei dc_ei pm_ei cd_ei ct_ei : Value}
    {f_e2 : Addr} {od_e2 an_e2 : Option Addr} {sl_e2 : Array (Option Value)} {oc_e2 kV_e2 dc_e2 pm_e2 cd_e2 ct_e2 : Value}
    {f_e3 : Addr} {od_e3 an_e3 : Option Addr} {sl_e3 : Array (Option Value)} {oc_e3 kV_e3 dc_e3 pm_e3 cd_e3 ct_e3 : Value}
    {f_eq : Addr} {od_eq an_eq : Option Addr} {sl_eq : Array (Option Value)} {oc_eq kV_eq dc_eq pm_eq cd_eq ct_eq : Value}
    {f_pi : Addr} {od_pi an_pi : Option Addr} {sl_pi : Array (Option Value)} {oc_pi kV_pi dc_pi pm_pi cd_pi ct_pi : Value}
    {f_ri dTr : Addr} {od_ri an_ri dd_ri : Option Addr} {sl_ri sm_ri : Array (Option Value)} {nd_ri : Nat} {oc_ri kV_ri dc_ri pm_ri cd_ri ct_ri ol_ri : Value}
    {eU : Addr}
    {f_ui dTu : Addr} {od_ui an_ui dd_ui : Option Addr} {sl_ui sm_ui : Array (Option Value)} {nd_ui : Nat} {oc_ui kV_ui dc_ui pm_ui cd_ui ct_ui ol_ui : Value}
    {xn_CE xq_CE : Str} {xN_CE : Addr} {xb_CE : List Value} {xs_CE : List Str} {xu_CE : List Value} {xa_CE : Bool} {xc_CE : Option Bool} {xd_CE : Option Addr} {m0_CE m1_CE m2_CE m3_CE m5_CE : Option Value}
    {xn_C2 xq_C2 : Str} {xN_C2 : Addr} {xb_C2 : List Value} {xs_C2 : List Str} {xu_C2 : List Value} {xa_C2 : Bool} {xc_C2 : Option Bool} {xd_C2 : Option Addr} {m0_C2 m1_C2 m2_C2 m3_C2 m5_C2 : Option Value}
    {xn_C3 xq_C3 : Str} {xN_C3 : Addr} {xb_C3 : List Value} {xs_C3 : List Str} {xu_C3 : List Value} {xa_C3 : Bool} {xc_C3 : Option Bool} {xd_C3 : Option Addr} {m0_C3 m1_C3 m2_C3 m3_C3 m5_C3 : Option Value}
    {pR gR : Addr} {restR : List Value}
    {od_rd an_rd : Option Addr} {sl_rd : Array (Option Value)} {oc_rd kV_rd dc_rd pm_rd cd_rd ct_rd : Value}
    {C4 CN pN gN : Addr} {restN : List Value}
    {f_e4 : Addr} {od_e4 an_e4 : Option Addr} {sl_e4 : Array (Option Value)} {oc_e4 kV_e4 dc_e4 pm_e4 cd_e4 ct_e4 : Value}
    {xn_C4 xq_C4 : Str} {xN_C4 : Addr} {xb_C4 : List Value} {xs_C4 : List Str} {xu_C4 : List Value} {xa_C4 : Bool} {xc_C4 : Option Bool} {xd_C4 : Option Addr} {m0_C4 m1_C4 m2_C4 m3_C4 m5_C4 : Option Value}
    {f_n1 : Addr} {od_n1 an_n1 : Option Addr} {sl_n1 : Array (Option Value)} {oc_n1 kV_n1 dc_n1 pm_n1 cd_n1 ct_n1 : Value}
    {f_n2 : Addr} {od_n2 an_n2 : Option Addr} {sl_n2 : Array (Option Value)} {oc_n2 kV_n2 dc_n2 pm_n2 cd_n2 ct_n2 : Value}
    {f_n4 : Addr} {od_n4 an_n4 : Option Addr} {sl_n4 : Array (Option Value)} {oc_n4 kV_n4 dc_n4 pm_n4 cd_n4 ct_n4 : Value}
    {f_n5 : Addr} {od_n5 an_n5 : Option Addr} {sl_n5 : Array (Option Value)} {oc_n5 kV_n5 dc_n5 pm_n5 cd_n5 ct_n5 : Value}
    {f_n6 : Addr} {od_n6 an_n6 : Option Addr} {sl_n6 : Array (Option Value)} {oc_n6 kV_n6 dc_n6 pm_n6 cd_n6 ct_n6 : Value}
    {f_nu : Addr} {od_nu an_nu : Option Addr} {sl_nu : Array (Option Value)} {oc_nu kV_nu dc_nu pm_nu cd_nu ct_nu : Value}
    {f_nv : Addr} {od_nv an_nv : Option Addr} {sl_nv : Array (Option Value)} {oc_nv kV_nv dc_nv pm_nv cd_nv ct_nv : Value}
    {f_nw : Addr} {od_nw an_nw : Option Addr} {sl_nw : Array (Option Value)} {oc_nw kV_nw dc_nw pm_nw cd_nw ct_nw : Value}
    {od_n7 an_n7 : Option Addr} {sl_n7 : Array (Option Value)} {oc_n7 kV_n7 dc_n7 pm_n7 cd_n7 ct_n7 : Value}
    {f_st : Addr} {od_st an_st : Option Addr} {sl_st : Array (Option Value)} {oc_st kV_st dc_st pm_st cd_st ct_st : Value}
    {f_qs : Addr} {od_qs an_qs : Option Addr} {sl_qs : Array (Option Value)} {oc_qs kV_qs dc_qs pm_qs cd_qs ct_qs : Value}
    {f_w1 : Addr} {od_w1 an_w1 : Option Addr} {sl_w1 : Array (Option Value)} {oc_w1 kV_w1 dc_w1 pm_w1 cd_w1 ct_w1 : Value}
    {f_w2 : Addr} {od_w2 an_w2 : Option Addr} {sl_w2 : Array (Option Value)} {oc_w2 kV_w2 dc_w2 pm_w2 cd_w2 ct_w2 : Value}
    {f_w3 : Addr} {od_w3 an_w3 : Option Addr} {sl_w3 : Array (Option Value)} {oc_w3 kV_w3 dc_w3 pm_w3 cd_w3 ct_w3 : Value}
    {f_w4 : Addr} {od_w4 an_w4 : Option Addr} {sl_w4 : Array (Option Value)} {oc_w4 kV_w4 dc_w4 pm_w4 cd_w4 ct_w4 : Value}
    {f_w5 : Addr} {od_w5 an_w5 : Option Addr} {sl_w5 : Array (Option Value)} {oc_w5 kV_w5 dc_w5 pm_w5 cd_w5 ct_w5 : Value}
    {f_w6 : Addr} {od_w6 an_w6 : Option Addr} {sl_w6 : Array (Option Value)} {oc_w6 kV_w6 dc_w6 pm_w6 cd_w6 ct_w6 : Value}
    {f_w7 : Addr} {od_w7 an_w7 : Option Addr} {sl_w7 : Array (Option Value)} {oc_w7 kV_w7 dc_w7 pm_w7 cd_w7 ct_w7 : Value}
    {f_w8 : Addr} {od_w8 an_w8 : Option Addr} {sl_w8 : Array (Option Value)} {oc_w8 kV_w8 dc_w8 pm_w8 cd_w8 ct_w8 : Value}
    {f_w9 : Addr} {od_w9 an_w9 : Option Addr} {sl_w9 : Array (Option Value)} {oc_w9 kV_w9 dc_w9 pm_w9 cd_w9 ct_w9 : Value}
    {f_wa : Addr} {od_wa an_wa : Option Addr} {sl_wa : Array (Option Value)} {oc_wa kV_wa dc_wa pm_wa cd_wa ct_wa : Value}
    {f_wb : Addr} {od_wb an_wb : Option Addr} {sl_wb : Array (Option Value)} {oc_wb kV_wb dc_wb pm_wb cd_wb ct_wb : Value}
    {f_wc : Addr} {od_wc an_wc : Option Addr} {sl_wc : Array (Option Value)} {oc_wc kV_wc dc_wc pm_wc cd_wc ct_wc : Value}
    {f_wd : Addr} {od_wd an_wd : Option Addr} {sl_wd : Array (Option Value)} {oc_wd kV_wd dc_wd pm_wd cd_wd ct_wd : Value}
    {f_we : Addr} {od_we an_we : Option Addr} {sl_we : Array (Option Value)} {oc_we kV_we dc_we pm_we cd_we ct_we : Value}
    {f_wf : Addr} {od_wf an_wf : Option Addr} {sl_wf : Array (Option Value)} {oc_wf kV_wf dc_wf pm_wf cd_wf ct_wf : Value}
    {f_wg : Addr} {od_wg an_wg : Option Addr} {sl_wg : Array (Option Value)} {oc_wg kV_wg dc_wg pm_wg cd_wg ct_wg : Value}
    {f_wh : Addr} {od_wh an_wh : Option Addr} {sl_wh : Array (Option Value)} {oc_wh kV_wh dc_wh pm_wh cd_wh ct_wh : Value}
    {f_la : Addr} {od_la an_la : Option Addr} {sl_la : Array (Option Value)} {oc_la kV_la dc_la pm_la cd_la ct_la : Value}
    (gC : PySem.W.nsIn K mainGlobals "Row" = some (some (.ref C)))
    (gCE : PySem.W.nsIn K mainGlobals "InvalidRow" = some (some (.ref CE)))
    (gC2 : PySem.W.nsIn K mainGlobals "InvalidRule" = some (some (.ref C2)))
    (gC3 : PySem.W.nsIn K mainGlobals "InvalidText" = some (some (.ref C3)))
    (gCL : PySem.W.nsIn K mainGlobals "LineError" = some (some (.ref CL)))
    (gCP : PySem.W.nsIn K mainGlobals "Played" = some (some (.ref CP)))
    (gCR : PySem.W.nsIn K mainGlobals "Rule" = some (some (.ref CR)))
    (gpP : PySem.W.nsIn K mainGlobals "PICKS" = some (some (.ref pP)))
    (gpM : PySem.W.nsIn K mainGlobals "MOVES" = some (some (.ref pM)))
    (lP : K.lookup pP = some ⟨.type "tuple", ddP, .seq #[.str "keep" t1, .str "at" t2, .str "past" t3, .str "under" t4, .str "all" t5] nP, slP⟩)
    (lM : K.lookup pM = some ⟨.type "tuple", ddM, .seq #[.str "stay" t6, .str "on" t7, .str "home" t8] nM, slM⟩)
    (a_nm : PySem.W.nsIn K mainGlobals "is_name" = some (some (.ref f_nm)))
    (l_nm : K.lookup f_nm = some ⟨oc_nm, od_nm, .func (PySem.W.fnOf "is_name" "is_name" (defArgs sIsName) (defBody sIsName) (defScope sIsName) .none kV_nm dc_nm pm_nm an_nm cd_nm ct_nm), sl_nm⟩)
    (c_nm : PySem.W.codeIn K cd_nm "is_name" = true)
    (k_nm : PySem.W.keepIn K (.ref f_nm) = true)
    (a_iw : PySem.W.nsIn K mainGlobals "is_whole" = some (some (.ref f_iw)))
    (l_iw : K.lookup f_iw = some ⟨oc_iw, od_iw, .func (PySem.W.fnOf "is_whole" "is_whole" (defArgs sIsWhole) (defBody sIsWhole) (defScope sIsWhole) .none kV_iw dc_iw pm_iw an_iw cd_iw ct_iw), sl_iw⟩)
    (c_iw : PySem.W.codeIn K cd_iw "is_whole" = true)
    (k_iw : PySem.W.keepIn K (.ref f_iw) = true)
    (a_sq : PySem.W.nsIn K mainGlobals "is_sequence" = some (some (.ref f_sq)))
    (l_sq : K.lookup f_sq = some ⟨oc_sq, od_sq, .func (PySem.W.fnOf "is_sequence" "is_sequence" (defArgs sIsSeq) (defBody sIsSeq) (defScope sIsSeq) .none kV_sq dc_sq pm_sq an_sq cd_sq ct_sq), sl_sq⟩)
    (c_sq : PySem.W.codeIn K cd_sq "is_sequence" = true)
    (k_sq : PySem.W.keepIn K (.ref f_sq) = true)
    (a_rr : PySem.W.nsIn K mainGlobals "read_row" = some (some (.ref f_rr)))
    (l_rr : K.lookup f_rr = some ⟨oc_rr, od_rr, .func (PySem.W.fnOf "read_row" "read_row" (defArgs sReadRow) (defBody sReadRow) (defScope sReadRow) .none kV_rr dc_rr pm_rr an_rr cd_rr ct_rr), sl_rr⟩)
    (c_rr : PySem.W.codeIn K cd_rr "read_row" = true)
    (k_rr : PySem.W.keepIn K (.ref f_rr) = true)
    (a_ig : PySem.W.nsIn K mainGlobals "in_region" = some (some (.ref f_ig)))
    (l_ig : K.lookup f_ig = some ⟨oc_ig, od_ig, .func (PySem.W.fnOf "in_region" "in_region" (defArgs sRegion) (defBody sRegion) (defScope sRegion) .none kV_ig dc_ig pm_ig an_ig cd_ig ct_ig), sl_ig⟩)
    (c_ig : PySem.W.codeIn K cd_ig "in_region" = true)
    (k_ig : PySem.W.keepIn K (.ref f_ig) = true)
    (a_mv : PySem.W.nsIn K mainGlobals "moved" = some (some (.ref f_mv)))
    (l_mv : K.lookup f_mv = some ⟨oc_mv, od_mv, .func (PySem.W.fnOf "moved" "moved" (defArgs sMoved) (defBody sMoved) (defScope sMoved) .none kV_mv dc_mv pm_mv an_mv cd_mv ct_mv), sl_mv⟩)
    (c_mv : PySem.W.codeIn K cd_mv "moved" = true)
    (k_mv : PySem.W.keepIn K (.ref f_mv) = true)
    (a_as : PySem.W.nsIn K mainGlobals "ascending_rounds" = some (some (.ref f_as)))
    (l_as : K.lookup f_as = some ⟨oc_as, od_as, .func (PySem.W.fnOf "ascending_rounds" "ascending_rounds" (defArgs sAscending) (defBody sAscending) (defScope sAscending) .none kV_as dc_as pm_as an_as cd_as ct_as), sl_as⟩)
    (c_as : PySem.W.codeIn K cd_as "ascending_rounds" = true)
    (k_as : PySem.W.keepIn K (.ref f_as) = true)
    (a_ib : PySem.W.nsIn K mainGlobals "is_below" = some (some (.ref f_ib)))
    (l_ib : K.lookup f_ib = some ⟨oc_ib, od_ib, .func (PySem.W.fnOf "is_below" "is_below" (defArgs sIsBelow) (defBody sIsBelow) (defScope sIsBelow) .none kV_ib dc_ib pm_ib an_ib cd_ib ct_ib), sl_ib⟩)
    (c_ib : PySem.W.codeIn K cd_ib "is_below" = true)
    (k_ib : PySem.W.keepIn K (.ref f_ib) = true)
    (a_ir : PySem.W.nsIn K mainGlobals "is_round" = some (some (.ref f_ir)))
    (l_ir : K.lookup f_ir = some ⟨oc_ir, od_ir, .func (PySem.W.fnOf "is_round" "is_round" (defArgs sIsRound) (defBody sIsRound) (defScope sIsRound) .none kV_ir dc_ir pm_ir an_ir cd_ir ct_ir), sl_ir⟩)
    (c_ir : PySem.W.codeIn K cd_ir "is_round" = true)
    (k_ir : PySem.W.keepIn K (.ref f_ir) = true)
    (a_pr : PySem.W.nsIn K mainGlobals "play_round" = some (some (.ref f_pr)))
    (l_pr : K.lookup f_pr = some ⟨oc_pr, od_pr, .func (PySem.W.fnOf "play_round" "play_round" (defArgs sPlayRound) (defBody sPlayRound) (defScope sPlayRound) .none kV_pr dc_pr pm_pr an_pr cd_pr ct_pr), sl_pr⟩)
    (c_pr : PySem.W.codeIn K cd_pr "play_round" = true)
    (k_pr : PySem.W.keepIn K (.ref f_pr) = true)
    (a_gb : PySem.W.nsIn K mainGlobals "granted_by" = some (some (.ref f_gb)))
    (l_gb : K.lookup f_gb = some ⟨oc_gb, od_gb, .func (PySem.W.fnOf "granted_by" "granted_by" (defArgs sGranted) (defBody sGranted) (defScope sGranted) .none kV_gb dc_gb pm_gb an_gb cd_gb ct_gb), sl_gb⟩)
    (c_gb : PySem.W.codeIn K cd_gb "granted_by" = true)
    (k_gb : PySem.W.keepIn K (.ref f_gb) = true)
    (a_fo : PySem.W.nsIn K mainGlobals "faults_of" = some (some (.ref f_fo)))
    (l_fo : K.lookup f_fo = some ⟨oc_fo, od_fo, .func (PySem.W.fnOf "faults_of" "faults_of" (defArgs sFaults) (defBody sFaults) (defScope sFaults) .none kV_fo dc_fo pm_fo an_fo cd_fo ct_fo), sl_fo⟩)
    (c_fo : PySem.W.codeIn K cd_fo "faults_of" = true)
    (k_fo : PySem.W.keepIn K (.ref f_fo) = true)
    (a_rf : PySem.W.nsIn K mainGlobals "round_fault" = some (some (.ref f_rf)))
    (l_rf : K.lookup f_rf = some ⟨oc_rf, od_rf, .func (PySem.W.fnOf "round_fault" "round_fault" (defArgs sFault) (defBody sFault) (defScope sFault) .none kV_rf dc_rf pm_rf an_rf cd_rf ct_rf), sl_rf⟩)
    (c_rf : PySem.W.codeIn K cd_rf "round_fault" = true)
    (k_rf : PySem.W.keepIn K (.ref f_rf) = true)
    (a_rs : PySem.W.nsIn K mainGlobals "is_row_sequence" = some (some (.ref f_rs)))
    (l_rs : K.lookup f_rs = some ⟨oc_rs, od_rs, .func (PySem.W.fnOf "is_row_sequence" "is_row_sequence" (defArgs sIsRows) (defBody sIsRows) (defScope sIsRows) .none kV_rs dc_rs pm_rs an_rs cd_rs ct_rs), sl_rs⟩)
    (c_rs : PySem.W.codeIn K cd_rs "is_row_sequence" = true)
    (k_rs : PySem.W.keepIn K (.ref f_rs) = true)
    (a_mo : PySem.W.nsIn K mainGlobals "modes_of" = some (some (.ref f_mo)))
    (l_mo : K.lookup f_mo = some ⟨oc_mo, od_mo, .func (PySem.W.fnOf "modes_of" "modes_of" (defArgs sModesOf) (defBody sModesOf) (defScope sModesOf) .none kV_mo dc_mo pm_mo an_mo cd_mo ct_mo), sl_mo⟩)
    (c_mo : PySem.W.codeIn K cd_mo "modes_of" = true)
    (k_mo : PySem.W.keepIn K (.ref f_mo) = true)
    (a_ei : PySem.W.findIn K (.ref CE) "__init__" = some (some (.ref f_ei)))
    (l_ei : K.lookup f_ei = some ⟨oc_ei, od_ei, .func (PySem.W.fnOf "__init__" "InvalidRow.__init__" (defArgs sErrInit) (defBody sErrInit) (defScope sErrInit) .none kV_ei dc_ei pm_ei an_ei cd_ei ct_ei), sl_ei⟩)
    (c_ei : PySem.W.codeIn K cd_ei "InvalidRow.__init__" = true)
    (k_ei : PySem.W.keepIn K (.ref f_ei) = true)
    (t_ei : PySem.W.typeIn K (.ref f_ei) = some (.type "function"))
    (a_e2 : PySem.W.findIn K (.ref C2) "__init__" = some (some (.ref f_e2)))
    (l_e2 : K.lookup f_e2 = some ⟨oc_e2, od_e2, .func (PySem.W.fnOf "__init__" "InvalidRule.__init__" (defArgs sRuleErrI) (defBody sRuleErrI) (defScope sRuleErrI) .none kV_e2 dc_e2 pm_e2 an_e2 cd_e2 ct_e2), sl_e2⟩)
    (c_e2 : PySem.W.codeIn K cd_e2 "InvalidRule.__init__" = true)
    (k_e2 : PySem.W.keepIn K (.ref f_e2) = true)
    (t_e2 : PySem.W.typeIn K (.ref f_e2) = some (.type "function"))
    (a_e3 : PySem.W.findIn K (.ref C3) "__init__" = some (some (.ref f_e3)))
    (l_e3 : K.lookup f_e3 = some ⟨oc_e3, od_e3, .func (PySem.W.fnOf "__init__" "InvalidText.__init__" (defArgs sTextErrI) (defBody sTextErrI) (defScope sTextErrI) .none kV_e3 dc_e3 pm_e3 an_e3 cd_e3 ct_e3), sl_e3⟩)
    (c_e3 : PySem.W.codeIn K cd_e3 "InvalidText.__init__" = true)
    (k_e3 : PySem.W.keepIn K (.ref f_e3) = true)
    (t_e3 : PySem.W.typeIn K (.ref f_e3) = some (.type "function"))
    (a_eq : PySem.W.findIn K (.ref C) "__eq__" = some (some (.ref f_eq)))
    (l_eq : K.lookup f_eq = some ⟨oc_eq, od_eq, .func (PySem.W.fnOf "__eq__" "Row.__eq__" (defArgs sRowEq) (defBody sRowEq) (defScope sRowEq) .none kV_eq dc_eq pm_eq an_eq cd_eq ct_eq), sl_eq⟩)
    (c_eq : PySem.W.codeIn K cd_eq "Row.__eq__" = true)
    (k_eq : PySem.W.keepIn K (.ref f_eq) = true)
    (i_eq : PySem.W.isFn K (.ref f_eq) = true)
    (a_pi : PySem.W.findIn K (.ref CP) "__init__" = some (some (.ref f_pi)))
    (l_pi : K.lookup f_pi = some ⟨oc_pi, od_pi, .func (PySem.W.fnOf "__init__" "Played.__init__" (defArgs sPlayedInit) (defBody sPlayedInit) (defScope sPlayedInit) .none kV_pi dc_pi pm_pi an_pi cd_pi ct_pi), sl_pi⟩)
    (c_pi : PySem.W.codeIn K cd_pi "Played.__init__" = true)
    (k_pi : PySem.W.keepIn K (.ref f_pi) = true)
    (a_ri : PySem.W.findIn K (.ref C) "__init__" = some (some (.ref f_ri)))
    (l_ri : K.lookup f_ri = some ⟨oc_ri, od_ri, .func (PySem.W.fnOf "__init__" "Row.__init__" (defArgs sRowInit) (defBody sRowInit) (defScope sRowInit) (.ref dTr) kV_ri dc_ri pm_ri an_ri cd_ri ct_ri), sl_ri⟩)
    (c_ri : PySem.W.codeIn K cd_ri "Row.__init__" = true)
    (k_ri : PySem.W.keepIn K (.ref f_ri) = true)
    (d_ri : K.lookup dTr = some ⟨ol_ri, dd_ri, .seq #[.bool false] nd_ri, sm_ri⟩)
    (a_ui : PySem.W.findIn K (.ref CR) "__init__" = some (some (.ref f_ui)))
    (l_ui : K.lookup f_ui = some ⟨oc_ui, od_ui, .func (PySem.W.fnOf "__init__" "Rule.__init__" (defArgs sRuleInit) (defBody sRuleInit) (defScope sRuleInit) (.ref dTu) kV_ui dc_ui pm_ui an_ui cd_ui ct_ui), sl_ui⟩)
    (c_ui : PySem.W.codeIn K cd_ui "Rule.__init__" = true)
    (k_ui : PySem.W.keepIn K (.ref f_ui) = true)
    (d_ui : K.lookup dTu = some ⟨ol_ui, dd_ui, .seq #[.ref eU] nd_ui, sm_ui⟩)
    (pg_C : PySem.W.plainGet K C Str.empty = true)
    (hd_C : PySem.W.hasDictIn K C = true)
    (po_C : PySem.W.plainOver K C = true)
    (sa_C : PySem.W.findIn K (.ref C) "__setattr__" = some (some (.builtin "object.__setattr__")))
    (n_C_mode : PySem.W.findIn K (.ref C) "mode" = some none)
    (n_C_pick : PySem.W.findIn K (.ref C) "pick" = some none)
    (n_C_move : PySem.W.findIn K (.ref C) "move" = some none)
    (n_C_then : PySem.W.findIn K (.ref C) "then" = some none)
    (n_C_also : PySem.W.findIn K (.ref C) "also" = some none)
    (mk_C : PySem.W.makesIn K C = true)
    (kc_C : PySem.W.keepIn K (.ref C) = true)
    (if_C : PySem.W.isFn K (.ref f_ri) = true)
    (pg_CP : PySem.W.plainGet K CP Str.empty = true)
    (hd_CP : PySem.W.hasDictIn K CP = true)
    (po_CP : PySem.W.plainOver K CP = true)
    (sa_CP : PySem.W.findIn K (.ref CP) "__setattr__" = some (some (.builtin "object.__setattr__")))
    (n_CP_grants : PySem.W.findIn K (.ref CP) "grants" = some none)
    (n_CP_done : PySem.W.findIn K (.ref CP) "done" = some none)
    (n_CP_modes : PySem.W.findIn K (.ref CP) "modes" = some none)
    (n_CP_pointers : PySem.W.findIn K (.ref CP) "pointers" = some none)
    (n_CP_faults : PySem.W.findIn K (.ref CP) "faults" = some none)
    (mk_CP : PySem.W.makesIn K CP = true)
    (kc_CP : PySem.W.keepIn K (.ref CP) = true)
    (if_CP : PySem.W.isFn K (.ref f_pi) = true)
    (pg_CR : PySem.W.plainGet K CR Str.empty = true)
    (hd_CR : PySem.W.hasDictIn K CR = true)
    (po_CR : PySem.W.plainOver K CR = true)
    (sa_CR : PySem.W.findIn K (.ref CR) "__setattr__" = some (some (.builtin "object.__setattr__")))
    (n_CR_first : PySem.W.findIn K (.ref CR) "first" = some none)
    (n_CR_rows : PySem.W.findIn K (.ref CR) "rows" = some none)
    (n_CR_modes : PySem.W.findIn K (.ref CR) "modes" = some none)
    (mk_CR : PySem.W.makesIn K CR = true)
    (kc_CR : PySem.W.keepIn K (.ref CR) = true)
    (if_CR : PySem.W.isFn K (.ref f_ui) = true)
    (xL_CE : K.lookup CE = some (excClassObj xn_CE xq_CE CE xN_CE xb_CE [.ref CL, .type "ValueError", .type "Exception", .type "BaseException", .type "object"] true xs_CE xu_CE xa_CE xc_CE xd_CE m0_CE m1_CE m2_CE m3_CE m5_CE "ValueError.__new__"))
    (sx_CE : PySem.W.findIn K (.ref CE) "__setattr__" = some (some (.builtin "object.__setattr__")))
    (ex_CE : PySem.W.subIn K (.ref CE) (.type "BaseException") = some true)
    (ty_CE : PySem.W.typeIn K (.ref CE) = some (.type "type"))
    (ke_CE : PySem.W.keepIn K (.ref CE) = true)
    (no_CE : PySem.W.findIn K (.ref CE) "word" = some none)
    (xL_C2 : K.lookup C2 = some (excClassObj xn_C2 xq_C2 C2 xN_C2 xb_C2 [.ref CL, .type "ValueError", .type "Exception", .type "BaseException", .type "object"] true xs_C2 xu_C2 xa_C2 xc_C2 xd_C2 m0_C2 m1_C2 m2_C2 m3_C2 m5_C2 "ValueError.__new__"))
    (sx_C2 : PySem.W.findIn K (.ref C2) "__setattr__" = some (some (.builtin "object.__setattr__")))
    (ex_C2 : PySem.W.subIn K (.ref C2) (.type "BaseException") = some true)
    (ty_C2 : PySem.W.typeIn K (.ref C2) = some (.type "type"))
    (ke_C2 : PySem.W.keepIn K (.ref C2) = true)
    (no_C2 : PySem.W.findIn K (.ref C2) "word" = some none)
    (xL_C3 : K.lookup C3 = some (excClassObj xn_C3 xq_C3 C3 xN_C3 xb_C3 [.ref CL, .type "ValueError", .type "Exception", .type "BaseException", .type "object"] true xs_C3 xu_C3 xa_C3 xc_C3 xd_C3 m0_C3 m1_C3 m2_C3 m3_C3 m5_C3 "ValueError.__new__"))
    (sx_C3 : PySem.W.findIn K (.ref C3) "__setattr__" = some (some (.builtin "object.__setattr__")))
    (ex_C3 : PySem.W.subIn K (.ref C3) (.type "BaseException") = some true)
    (ty_C3 : PySem.W.typeIn K (.ref C3) = some (.type "type"))
    (ke_C3 : PySem.W.keepIn K (.ref C3) = true)
    (no_C3 : PySem.W.findIn K (.ref C3) "at" = some none)
    (hdE : PySem.W.hasDictIn K CE = true)
    (seE : PySem.W.subIn K (.ref CE) (.ref CE) = some true)
    (ha : PySem.W.findIn K (.ref C) "__class__" = some (some (.builtin "object.__class__")))
    (hn : PySem.W.specialIn K (.builtin "object.__class__") "__get__" = some (some (.builtin "getset_descriptor.__get__")))
    (ht : PySem.W.takesIn K (.builtin "object.__class__") = some true)
    (hm : PySem.W.mroIn K C (.type "object") = some true)
    (ks : PySem.W.kitOne K (.ref C) (.type "str") = some false)
    (kb : PySem.W.kitOne K (.ref C) (.type "bool") = some false)
    (kT : PySem.W.kitOne K (.type "str") (.ref C) = some false)
    (kC : PySem.W.kitOne K (.ref C) (.ref C) = some true)
    (sub : PySem.W.subIn K (.ref C) (.type "str") = some false)
    (rdR : PySem.W.readsIn K CR (.type "type") = true)
    (gaR : PySem.W.specialIn K (.ref CR) "__getattribute__" = some (some (.builtin "type.__getattribute__")))
    (atR : PySem.W.findCls K (.ref CR) (.type "type") "read" = some (.get (.builtin "classmethod.__get__") (.ref pR) .none (.ref CR)))
    (rcR : PySem.W.recIn K pR "classmethod" = some (.ref gR :: restR))
    (fiR : PySem.W.fnIn K gR = true)
    (l_rd : K.lookup gR = some ⟨oc_rd, od_rd, .func (PySem.W.fnOf "read" "Rule.read" (defArgs sRuleRead) (defBody sRuleRead) (defScope sRuleRead) .none kV_rd dc_rd pm_rd an_rd cd_rd ct_rd), sl_rd⟩)
    (c_rd : PySem.W.codeIn K cd_rd "Rule.read" = true)
    (k_rd : PySem.W.keepIn K (.ref gR) = true)
    (z_len : PySem.W.nsIn K mainGlobals "len" = some none)
    (z_abs : PySem.W.nsIn K mainGlobals "abs" = some none)
    (z_int : PySem.W.nsIn K mainGlobals "int" = some none)
    (z_range : PySem.W.nsIn K mainGlobals "range" = some none)
    (z_tuple : PySem.W.nsIn K mainGlobals "tuple" = some none)
    (z_isinstance : PySem.W.nsIn K mainGlobals "isinstance" = some none)
    (z_str : PySem.W.nsIn K mainGlobals "str" = some none)
    (z_bool : PySem.W.nsIn K mainGlobals "bool" = some none)
    (z_enumerate : PySem.W.nsIn K mainGlobals "enumerate" = some none)
    (z_sorted : PySem.W.nsIn K mainGlobals "sorted" = some none)
    (z_set : PySem.W.nsIn K mainGlobals "set" = some none)
    (z_list : PySem.W.nsIn K mainGlobals "list" = some none)
    (z_zip : PySem.W.nsIn K mainGlobals "zip" = some none)
    (z_all : PySem.W.nsIn K mainGlobals "all" = some none)
    (z_max : PySem.W.nsIn K mainGlobals "max" = some none)
    (z_min : PySem.W.nsIn K mainGlobals "min" = some none)
    (z_dict : PySem.W.nsIn K mainGlobals "dict" = some none)
    (gC4 : PySem.W.nsIn K mainGlobals "InvalidRound" = some (some (.ref C4)))
    (a_e4 : PySem.W.findIn K (.ref C4) "__init__" = some (some (.ref f_e4)))
    (l_e4 : K.lookup f_e4 = some ⟨oc_e4, od_e4, .func (PySem.W.fnOf "__init__" "InvalidRound.__init__" (defArgs sRoundErrI) (defBody sRoundErrI) (defScope sRoundErrI) .none kV_e4 dc_e4 pm_e4 an_e4 cd_e4 ct_e4), sl_e4⟩)
    (c_e4 : PySem.W.codeIn K cd_e4 "InvalidRound.__init__" = true)
    (k_e4 : PySem.W.keepIn K (.ref f_e4) = true)
    (t_e4 : PySem.W.typeIn K (.ref f_e4) = some (.type "function"))
    (xL_C4 : K.lookup C4 = some (excClassObj xn_C4 xq_C4 C4 xN_C4 xb_C4 [.ref CL, .type "ValueError", .type "Exception", .type "BaseException", .type "object"] true xs_C4 xu_C4 xa_C4 xc_C4 xd_C4 m0_C4 m1_C4 m2_C4 m3_C4 m5_C4 "ValueError.__new__"))
    (sx_C4 : PySem.W.findIn K (.ref C4) "__setattr__" = some (some (.builtin "object.__setattr__")))
    (ex_C4 : PySem.W.subIn K (.ref C4) (.type "BaseException") = some true)
    (ty_C4 : PySem.W.typeIn K (.ref C4) = some (.type "type"))
    (ke_C4 : PySem.W.keepIn K (.ref C4) = true)
    (no_C4 : PySem.W.findIn K (.ref C4) "at" = some none)
    (gCN : PySem.W.nsIn K mainGlobals "Line" = some (some (.ref CN)))
    (a_n1 : PySem.W.findIn K (.ref CN) "__init__" = some (some (.ref f_n1)))
    (l_n1 : K.lookup f_n1 = some ⟨oc_n1, od_n1, .func (PySem.W.fnOf "__init__" "Line.__init__" (defArgs sLineInit) (defBody sLineInit) (defScope sLineInit) .none kV_n1 dc_n1 pm_n1 an_n1 cd_n1 ct_n1), sl_n1⟩)
    (c_n1 : PySem.W.codeIn K cd_n1 "Line.__init__" = true)
    (k_n1 : PySem.W.keepIn K (.ref f_n1) = true)
    (i_n1 : PySem.W.isFn K (.ref f_n1) = true)
    (a_n2 : PySem.W.findIn K (.ref CN) "ask" = some (some (.ref f_n2)))
    (l_n2 : K.lookup f_n2 = some ⟨oc_n2, od_n2, .func (PySem.W.fnOf "ask" "Line.ask" (defArgs sLineAsk) (defBody sLineAsk) (defScope sLineAsk) .none kV_n2 dc_n2 pm_n2 an_n2 cd_n2 ct_n2), sl_n2⟩)
    (c_n2 : PySem.W.codeIn K cd_n2 "Line.ask" = true)
    (k_n2 : PySem.W.keepIn K (.ref f_n2) = true)
    (i_n2 : PySem.W.isFn K (.ref f_n2) = true)
    (a_n4 : PySem.W.findIn K (.ref CN) "__len__" = some (some (.ref f_n4)))
    (l_n4 : K.lookup f_n4 = some ⟨oc_n4, od_n4, .func (PySem.W.fnOf "__len__" "Line.__len__" (defArgs sLineLen) (defBody sLineLen) (defScope sLineLen) .none kV_n4 dc_n4 pm_n4 an_n4 cd_n4 ct_n4), sl_n4⟩)
    (c_n4 : PySem.W.codeIn K cd_n4 "Line.__len__" = true)
    (k_n4 : PySem.W.keepIn K (.ref f_n4) = true)
    (i_n4 : PySem.W.isFn K (.ref f_n4) = true)
    (a_n5 : PySem.W.findIn K (.ref CN) "mark" = some (some (.ref f_n5)))
    (l_n5 : K.lookup f_n5 = some ⟨oc_n5, od_n5, .func (PySem.W.fnOf "mark" "Line.mark" (defArgs sLineMark) (defBody sLineMark) (defScope sLineMark) .none kV_n5 dc_n5 pm_n5 an_n5 cd_n5 ct_n5), sl_n5⟩)
    (c_n5 : PySem.W.codeIn K cd_n5 "Line.mark" = true)
    (k_n5 : PySem.W.keepIn K (.ref f_n5) = true)
    (i_n5 : PySem.W.isFn K (.ref f_n5) = true)
    (a_n6 : PySem.W.findIn K (.ref CN) "granted_to" = some (some (.ref f_n6)))
    (l_n6 : K.lookup f_n6 = some ⟨oc_n6, od_n6, .func (PySem.W.fnOf "granted_to" "Line.granted_to" (defArgs sLineGranted) (defBody sLineGranted) (defScope sLineGranted) .none kV_n6 dc_n6 pm_n6 an_n6 cd_n6 ct_n6), sl_n6⟩)
    (c_n6 : PySem.W.codeIn K cd_n6 "Line.granted_to" = true)
    (k_n6 : PySem.W.keepIn K (.ref f_n6) = true)
    (i_n6 : PySem.W.isFn K (.ref f_n6) = true)
    (a_nu : PySem.W.findIn K (.ref CN) "several" = some (some (.ref f_nu)))
    (l_nu : K.lookup f_nu = some ⟨oc_nu, od_nu, .func (PySem.W.fnOf "several" "Line.several" (defArgs sLineSeveral) (defBody sLineSeveral) (defScope sLineSeveral) .none kV_nu dc_nu pm_nu an_nu cd_nu ct_nu), sl_nu⟩)
    (c_nu : PySem.W.codeIn K cd_nu "Line.several" = true)
    (k_nu : PySem.W.keepIn K (.ref f_nu) = true)
    (i_nu : PySem.W.isFn K (.ref f_nu) = true)
    (a_nv : PySem.W.findIn K (.ref CN) "change" = some (some (.ref f_nv)))
    (l_nv : K.lookup f_nv = some ⟨oc_nv, od_nv, .func (PySem.W.fnOf "change" "Line.change" (defArgs sLineChange) (defBody sLineChange) (defScope sLineChange) .none kV_nv dc_nv pm_nv an_nv cd_nv ct_nv), sl_nv⟩)
    (c_nv : PySem.W.codeIn K cd_nv "Line.change" = true)
    (k_nv : PySem.W.keepIn K (.ref f_nv) = true)
    (i_nv : PySem.W.isFn K (.ref f_nv) = true)
    (a_nw : PySem.W.findIn K (.ref CN) "undo" = some (some (.ref f_nw)))
    (l_nw : K.lookup f_nw = some ⟨oc_nw, od_nw, .func (PySem.W.fnOf "undo" "Line.undo" (defArgs sLineUndo) (defBody sLineUndo) (defScope sLineUndo) .none kV_nw dc_nw pm_nw an_nw cd_nw ct_nw), sl_nw⟩)
    (c_nw : PySem.W.codeIn K cd_nw "Line.undo" = true)
    (k_nw : PySem.W.keepIn K (.ref f_nw) = true)
    (i_nw : PySem.W.isFn K (.ref f_nw) = true)
    (pg_CN : PySem.W.plainGet K CN Str.empty = true)
    (hd_CN : PySem.W.hasDictIn K CN = true)
    (po_CN : PySem.W.plainOver K CN = true)
    (sa_CN : PySem.W.findIn K (.ref CN) "__setattr__" = some (some (.builtin "object.__setattr__")))
    (n_CN_rule : PySem.W.findIn K (.ref CN) "rule" = some none)
    (n_CN_askers : PySem.W.findIn K (.ref CN) "askers" = some none)
    (n_CN_mode : PySem.W.findIn K (.ref CN) "mode" = some none)
    (n_CN_pointer : PySem.W.findIn K (.ref CN) "pointer" = some none)
    (n_CN_asked : PySem.W.findIn K (.ref CN) "asked" = some none)
    (n_CN_marks : PySem.W.findIn K (.ref CN) "marks" = some none)
    (mk_CN : PySem.W.makesIn K CN = true)
    (kc_CN : PySem.W.keepIn K (.ref CN) = true)
    (atN : PySem.W.findIn K (.ref CN) "rounds" = some (some (.ref pN)))
    (ptN : PySem.W.specialIn K (.ref pN) "__get__" = some (some (.builtin "property.__get__")))
    (tkN : PySem.W.takesIn K (.ref pN) = some true)
    (rcN : PySem.W.recIn K pN "property" = some (.ref gN :: restN))
    (l_n7 : K.lookup gN = some ⟨oc_n7, od_n7, .func (PySem.W.fnOf "rounds" "Line.rounds" (defArgs sLineRounds) (defBody sLineRounds) (defScope sLineRounds) .none kV_n7 dc_n7 pm_n7 an_n7 cd_n7 ct_n7), sl_n7⟩)
    (c_n7 : PySem.W.codeIn K cd_n7 "Line.rounds" = true)
    (k_n7 : PySem.W.keepIn K (.ref gN) = true)
    (dNR : CN ≠ CR)
    (dNC : CN ≠ C)
    (a_st : PySem.W.findIn K (.ref C) "__str__" = some (some (.ref f_st)))
    (l_st : K.lookup f_st = some ⟨oc_st, od_st, .func (PySem.W.fnOf "__str__" "Row.__str__" (defArgs sRowStr) (defBody sRowStr) (defScope sRowStr) .none kV_st dc_st pm_st an_st cd_st ct_st), sl_st⟩)
    (c_st : PySem.W.codeIn K cd_st "Row.__str__" = true)
    (k_st : PySem.W.keepIn K (.ref f_st) = true)
    (i_st : PySem.W.isFn K (.ref f_st) = true)
    (a_qs : PySem.W.findIn K (.ref CR) "__str__" = some (some (.ref f_qs)))
    (l_qs : K.lookup f_qs = some ⟨oc_qs, od_qs, .func (PySem.W.fnOf "__str__" "Rule.__str__" (defArgs sRuleStr) (defBody sRuleStr) (defScope sRuleStr) .none kV_qs dc_qs pm_qs an_qs cd_qs ct_qs), sl_qs⟩)
    (c_qs : PySem.W.codeIn K cd_qs "Rule.__str__" = true)
    (k_qs : PySem.W.keepIn K (.ref f_qs) = true)
    (i_qs : PySem.W.isFn K (.ref f_qs) = true)
    (haR : PySem.W.findIn K (.ref CR) "__class__" = some (some (.builtin "object.__class__")))
    (hmR : PySem.W.mroIn K CR (.type "object") = some true)
    (kRR : PySem.W.kitOne K (.ref CR) (.ref CR) = some true)
    (a_w1 : PySem.W.nsIn K mainGlobals "_law_deal" = some (some (.ref f_w1)))
    (l_w1 : K.lookup f_w1 = some ⟨oc_w1, od_w1, .func (PySem.W.fnOf "_law_deal" "_law_deal" (defArgs sx_deal) (defBody sx_deal) (defScope sx_deal) .none kV_w1 dc_w1 pm_w1 an_w1 cd_w1 ct_w1), sl_w1⟩)
    (c_w1 : PySem.W.codeIn K cd_w1 "_law_deal" = true)
    (k_w1 : PySem.W.keepIn K (.ref f_w1) = true)
    (a_w2 : PySem.W.nsIn K mainGlobals "_law_draw" = some (some (.ref f_w2)))
    (l_w2 : K.lookup f_w2 = some ⟨oc_w2, od_w2, .func (PySem.W.fnOf "_law_draw" "_law_draw" (defArgs sx_draw) (defBody sx_draw) (defScope sx_draw) .none kV_w2 dc_w2 pm_w2 an_w2 cd_w2 ct_w2), sl_w2⟩)
    (c_w2 : PySem.W.codeIn K cd_w2 "_law_draw" = true)
    (k_w2 : PySem.W.keepIn K (.ref f_w2) = true)
    (a_w3 : PySem.W.nsIn K mainGlobals "_law_pick" = some (some (.ref f_w3)))
    (l_w3 : K.lookup f_w3 = some ⟨oc_w3, od_w3, .func (PySem.W.fnOf "_law_pick" "_law_pick" (defArgs sx_pick) (defBody sx_pick) (defScope sx_pick) .none kV_w3 dc_w3 pm_w3 an_w3 cd_w3 ct_w3), sl_w3⟩)
    (c_w3 : PySem.W.codeIn K cd_w3 "_law_pick" = true)
    (k_w3 : PySem.W.keepIn K (.ref f_w3) = true)
    (a_w4 : PySem.W.nsIn K mainGlobals "_law_mixed" = some (some (.ref f_w4)))
    (l_w4 : K.lookup f_w4 = some ⟨oc_w4, od_w4, .func (PySem.W.fnOf "_law_mixed" "_law_mixed" (defArgs sx_mixed) (defBody sx_mixed) (defScope sx_mixed) .none kV_w4 dc_w4 pm_w4 an_w4 cd_w4 ct_w4), sl_w4⟩)
    (c_w4 : PySem.W.codeIn K cd_w4 "_law_mixed" = true)
    (k_w4 : PySem.W.keepIn K (.ref f_w4) = true)
    (a_w5 : PySem.W.nsIn K mainGlobals "_law_any_row" = some (some (.ref f_w5)))
    (l_w5 : K.lookup f_w5 = some ⟨oc_w5, od_w5, .func (PySem.W.fnOf "_law_any_row" "_law_any_row" (defArgs sAnyRow) (defBody sAnyRow) (defScope sAnyRow) .none kV_w5 dc_w5 pm_w5 an_w5 cd_w5 ct_w5), sl_w5⟩)
    (c_w5 : PySem.W.codeIn K cd_w5 "_law_any_row" = true)
    (k_w5 : PySem.W.keepIn K (.ref f_w5) = true)
    (a_w6 : PySem.W.nsIn K mainGlobals "_law_lines" = some (some (.ref f_w6)))
    (l_w6 : K.lookup f_w6 = some ⟨oc_w6, od_w6, .func (PySem.W.fnOf "_law_lines" "_law_lines" (defArgs sx_lines) (defBody sx_lines) (defScope sx_lines) .none kV_w6 dc_w6 pm_w6 an_w6 cd_w6 ct_w6), sl_w6⟩)
    (c_w6 : PySem.W.codeIn K cd_w6 "_law_lines" = true)
    (k_w6 : PySem.W.keepIn K (.ref f_w6) = true)
    (a_w7 : PySem.W.nsIn K mainGlobals "_law_names" = some (some (.ref f_w7)))
    (l_w7 : K.lookup f_w7 = some ⟨oc_w7, od_w7, .func (PySem.W.fnOf "_law_names" "_law_names" (defArgs sNames) (defBody sNames) (defScope sNames) .none kV_w7 dc_w7 pm_w7 an_w7 cd_w7 ct_w7), sl_w7⟩)
    (c_w7 : PySem.W.codeIn K cd_w7 "_law_names" = true)
    (k_w7 : PySem.W.keepIn K (.ref f_w7) = true)
    (a_w8 : PySem.W.nsIn K mainGlobals "_law_bent" = some (some (.ref f_w8)))
    (l_w8 : K.lookup f_w8 = some ⟨oc_w8, od_w8, .func (PySem.W.fnOf "_law_bent" "_law_bent" (defArgs sx_bent) (defBody sx_bent) (defScope sx_bent) .none kV_w8 dc_w8 pm_w8 an_w8 cd_w8 ct_w8), sl_w8⟩)
    (c_w8 : PySem.W.codeIn K cd_w8 "_law_bent" = true)
    (k_w8 : PySem.W.keepIn K (.ref f_w8) = true)
    (a_w9 : PySem.W.nsIn K mainGlobals "_law_rule" = some (some (.ref f_w9)))
    (l_w9 : K.lookup f_w9 = some ⟨oc_w9, od_w9, .func (PySem.W.fnOf "_law_rule" "_law_rule" (defArgs sLRule) (defBody sLRule) (defScope sLRule) .none kV_w9 dc_w9 pm_w9 an_w9 cd_w9 ct_w9), sl_w9⟩)
    (c_w9 : PySem.W.codeIn K cd_w9 "_law_rule" = true)
    (k_w9 : PySem.W.keepIn K (.ref f_w9) = true)
    (a_wa : PySem.W.nsIn K mainGlobals "_law_text" = some (some (.ref f_wa)))
    (l_wa : K.lookup f_wa = some ⟨oc_wa, od_wa, .func (PySem.W.fnOf "_law_text" "_law_text" (defArgs sx_text) (defBody sx_text) (defScope sx_text) .none kV_wa dc_wa pm_wa an_wa cd_wa ct_wa), sl_wa⟩)
    (c_wa : PySem.W.codeIn K cd_wa "_law_text" = true)
    (k_wa : PySem.W.keepIn K (.ref f_wa) = true)
    (a_wb : PySem.W.nsIn K mainGlobals "_law_region" = some (some (.ref f_wb)))
    (l_wb : K.lookup f_wb = some ⟨oc_wb, od_wb, .func (PySem.W.fnOf "_law_region" "_law_region" (defArgs sLRegion) (defBody sLRegion) (defScope sLRegion) .none kV_wb dc_wb pm_wb an_wb cd_wb ct_wb), sl_wb⟩)
    (c_wb : PySem.W.codeIn K cd_wb "_law_region" = true)
    (k_wb : PySem.W.keepIn K (.ref f_wb) = true)
    (a_wc : PySem.W.nsIn K mainGlobals "_law_round" = some (some (.ref f_wc)))
    (l_wc : K.lookup f_wc = some ⟨oc_wc, od_wc, .func (PySem.W.fnOf "_law_round" "_law_round" (defArgs sLRound) (defBody sLRound) (defScope sLRound) .none kV_wc dc_wc pm_wc an_wc cd_wc ct_wc), sl_wc⟩)
    (c_wc : PySem.W.codeIn K cd_wc "_law_round" = true)
    (k_wc : PySem.W.keepIn K (.ref f_wc) = true)
    (a_wd : PySem.W.nsIn K mainGlobals "_law_made" = some (some (.ref f_wd)))
    (l_wd : K.lookup f_wd = some ⟨oc_wd, od_wd, .func (PySem.W.fnOf "_law_made" "_law_made" (defArgs sMade) (defBody sMade) (defScope sMade) .none kV_wd dc_wd pm_wd an_wd cd_wd ct_wd), sl_wd⟩)
    (c_wd : PySem.W.codeIn K cd_wd "_law_made" = true)
    (k_wd : PySem.W.keepIn K (.ref f_wd) = true)
    (a_we : PySem.W.nsIn K mainGlobals "_law_drawn_round" = some (some (.ref f_we)))
    (l_we : K.lookup f_we = some ⟨oc_we, od_we, .func (PySem.W.fnOf "_law_drawn_round" "_law_drawn_round" (defArgs sx_drawn_round) (defBody sx_drawn_round) (defScope sx_drawn_round) .none kV_we dc_we pm_we an_we cd_we ct_we), sl_we⟩)
    (c_we : PySem.W.codeIn K cd_we "_law_drawn_round" = true)
    (k_we : PySem.W.keepIn K (.ref f_we) = true)
    (a_wf : PySem.W.nsIn K mainGlobals "_law_hand" = some (some (.ref f_wf)))
    (l_wf : K.lookup f_wf = some ⟨oc_wf, od_wf, .func (PySem.W.fnOf "_law_hand" "_law_hand" (defArgs sx_hand) (defBody sx_hand) (defScope sx_hand) .none kV_wf dc_wf pm_wf an_wf cd_wf ct_wf), sl_wf⟩)
    (c_wf : PySem.W.codeIn K cd_wf "_law_hand" = true)
    (k_wf : PySem.W.keepIn K (.ref f_wf) = true)
    (a_wg : PySem.W.nsIn K mainGlobals "_law_do" = some (some (.ref f_wg)))
    (l_wg : K.lookup f_wg = some ⟨oc_wg, od_wg, .func (PySem.W.fnOf "_law_do" "_law_do" (defArgs sx_do) (defBody sx_do) (defScope sx_do) .none kV_wg dc_wg pm_wg an_wg cd_wg ct_wg), sl_wg⟩)
    (c_wg : PySem.W.codeIn K cd_wg "_law_do" = true)
    (k_wg : PySem.W.keepIn K (.ref f_wg) = true)
    (a_wh : PySem.W.nsIn K mainGlobals "_law_stands" = some (some (.ref f_wh)))
    (l_wh : K.lookup f_wh = some ⟨oc_wh, od_wh, .func (PySem.W.fnOf "_law_stands" "_law_stands" (defArgs sx_stands) (defBody sx_stands) (defScope sx_stands) .none kV_wh dc_wh pm_wh an_wh cd_wh ct_wh), sl_wh⟩)
    (c_wh : PySem.W.codeIn K cd_wh "_law_stands" = true)
    (k_wh : PySem.W.keepIn K (.ref f_wh) = true)
    (a_la : PySem.W.nsIn K mainGlobals "law" = some (some (.ref f_la)))
    (l_la : K.lookup f_la = some ⟨oc_la, od_la, .func (PySem.W.fnOf "law" "law" (defArgs sLaw) (defBody sLaw) (defScope sLaw) .none kV_la dc_la pm_la an_la cd_la ct_la), sl_la⟩)
    (c_la : PySem.W.codeIn K cd_la "law" = true)
    (k_la : PySem.W.keepIn K (.ref f_la) = true) :
    ∃ fd : FuncData, (∀ (s : Shared) (v : Value), BindsTo s fd ⟨[v], []⟩ [("_law_script", v)]) ∧ ∀ base : Heap, K.In base → base.Ns mainGlobals mg → FnG l.prog w K mg base CX0 9 fa fd ["_law_script"] (spLaw K) := by
  have e := hfa.symm.trans (PySem.W.mg_of X G a_la)
  cases e
  have T : Blt mg := ⟨PySem.W.mg_none_of X G z_len, PySem.W.mg_none_of X G z_abs, PySem.W.mg_none_of X G z_int, PySem.W.mg_none_of X G z_range, PySem.W.mg_none_of X G z_tuple⟩
  have U : Blt2 mg := ⟨PySem.W.mg_none_of X G z_isinstance, PySem.W.mg_none_of X G z_str, PySem.W.mg_none_of X G z_bool⟩
  have Z4 : Blt4 mg := ⟨PySem.W.mg_none_of X G z_enumerate, PySem.W.mg_none_of X G z_sorted, PySem.W.mg_none_of X G z_set⟩
  have Y5 : Blt5 mg := ⟨PySem.W.mg_none_of X G z_int, PySem.W.mg_none_of X G z_bool, PySem.W.mg_none_of X G z_list, PySem.W.mg_none_of X G z_tuple⟩
  have F_nm := fun_mk (st := sIsName) l_nm c_nm k_nm
  have F_iw := fun_mk (st := sIsWhole) l_iw c_iw k_iw
  have F_sq := fun_mk (st := sIsSeq) l_sq c_sq k_sq
  have F_rr := fun_mk (st := sReadRow) l_rr c_rr k_rr
  have F_ig := fun_mk (st := sRegion) l_ig c_ig k_ig
  have F_mv := fun_mk (st := sMoved) l_mv c_mv k_mv
  have F_as := fun_mk (st := sAscending) l_as c_as k_as
  have F_ib := fun_mk (st := sIsBelow) l_ib c_ib k_ib
  have F_ir := fun_mk (st := sIsRound) l_ir c_ir k_ir
  have F_pr := fun_mk (st := sPlayRound) l_pr c_pr k_pr
  have F_gb := fun_mk (st := sGranted) l_gb c_gb k_gb
  have F_fo := fun_mk (st := sFaults) l_fo c_fo k_fo
  have F_rf := fun_mk (st := sFault) l_rf c_rf k_rf
  have F_rs := fun_mk (st := sIsRows) l_rs c_rs k_rs
  have F_mo := fun_mk (st := sModesOf) l_mo c_mo k_mo
  have F_ei := fun_mk (st := sErrInit) l_ei c_ei k_ei
  have F_e2 := fun_mk (st := sRuleErrI) l_e2 c_e2 k_e2
  have F_e3 := fun_mk (st := sTextErrI) l_e3 c_e3 k_e3
  have F_eq := fun_mk (st := sRowEq) l_eq c_eq k_eq
  have F_pi := fun_mk (st := sPlayedInit) l_pi c_pi k_pi
  have F_rd := fun_mk (st := sRuleRead) l_rd c_rd k_rd
  have F_e4 := fun_mk (st := sRoundErrI) l_e4 c_e4 k_e4
  have F_n1 := fun_mk (st := sLineInit) l_n1 c_n1 k_n1
  have F_n2 := fun_mk (st := sLineAsk) l_n2 c_n2 k_n2
  have F_n4 := fun_mk (st := sLineLen) l_n4 c_n4 k_n4
  have F_n5 := fun_mk (st := sLineMark) l_n5 c_n5 k_n5
  have F_n6 := fun_mk (st := sLineGranted) l_n6 c_n6 k_n6
  have F_nu := fun_mk (st := sLineSeveral) l_nu c_nu k_nu
  have F_nv := fun_mk (st := sLineChange) l_nv c_nv k_nv
  have F_nw := fun_mk (st := sLineUndo) l_nw c_nw k_nw
  have F_n7 := fun_mk (st := sLineRounds) l_n7 c_n7 k_n7
  have F_st := fun_mk (st := sRowStr) l_st c_st k_st
  have F_qs := fun_mk (st := sRuleStr) l_qs c_qs k_qs
  have F_w1 := fun_mk (st := sx_deal) l_w1 c_w1 k_w1
  have F_w2 := fun_mk (st := sx_draw) l_w2 c_w2 k_w2
  have F_w3 := fun_mk (st := sx_pick) l_w3 c_w3 k_w3
  have F_w4 := fun_mk (st := sx_mixed) l_w4 c_w4 k_w4
  have F_w5 := fun_mk (st := sAnyRow) l_w5 c_w5 k_w5
  have F_w6 := fun_mk (st := sx_lines) l_w6 c_w6 k_w6
  have F_w7 := fun_mk (st := sNames) l_w7 c_w7 k_w7
  have F_w8 := fun_mk (st := sx_bent) l_w8 c_w8 k_w8
  have F_w9 := fun_mk (st := sLRule) l_w9 c_w9 k_w9
  have F_wa := fun_mk (st := sx_text) l_wa c_wa k_wa
  have F_wb := fun_mk (st := sLRegion) l_wb c_wb k_wb
  have F_wc := fun_mk (st := sLRound) l_wc c_wc k_wc
  have F_wd := fun_mk (st := sMade) l_wd c_wd k_wd
  have F_we := fun_mk (st := sx_drawn_round) l_we c_we k_we
  have F_wf := fun_mk (st := sx_hand) l_wf c_wf k_wf
  have F_wg := fun_mk (st := sx_do) l_wg c_wg k_wg
  have F_wh := fun_mk (st := sx_stands) l_wh c_wh k_wh
  have F_la := fun_mk (st := sLaw) l_la c_la k_la
  have b_nm := F_nm.binds (ps := ["value"]) fun _ _ _ _ _ _ us hl => match us, hl with | [_], _ => rfl
  have b_iw := F_iw.binds (ps := ["value"]) fun _ _ _ _ _ _ us hl => match us, hl with | [_], _ => rfl
  have b_sq := F_sq.binds (ps := ["value"]) fun _ _ _ _ _ _ us hl => match us, hl with | [_], _ => rfl
  have b_rr := F_rr.binds (ps := ["line"]) fun _ _ _ _ _ _ us hl => match us, hl with | [_], _ => rfl
  have b_ig := F_ig.binds (ps := ["pick", "pointer", "asker"]) fun _ _ _ _ _ _ us hl => match us, hl with | [_, _, _], _ => rfl
  have b_mv := F_mv.binds (ps := ["move", "pointer", "granted"]) fun _ _ _ _ _ _ us hl => match us, hl with | [_, _, _], _ => rfl
  have b_as := F_as.binds (ps := ["rounds", "is_right"]) fun _ _ _ _ _ _ us hl => match us, hl with | [_, _], _ => rfl
  have b_ib := F_ib.binds (ps := ["value", "bound"]) fun _ _ _ _ _ _ us hl => match us, hl with | [_, _], _ => rfl
  have b_ir := F_ir.binds (ps := ["value", "askers"]) fun _ _ _ _ _ _ us hl => match us, hl with | [_, _], _ => rfl
  have b_pr := F_pr.binds (ps := ["rule", "mode", "pointer", "asking"]) fun _ _ _ _ _ _ us hl => match us, hl with | [_, _, _, _], _ => rfl
  have b_gb := F_gb.binds (ps := ["row", "mode", "pointer", "asking"]) fun _ _ _ _ _ _ us hl => match us, hl with | [_, _, _, _], _ => rfl
  have b_fo := F_fo.binds (ps := ["asked", "grants"]) fun _ _ _ _ _ _ us hl => match us, hl with | [_, _], _ => rfl
  have b_rf := F_rf.binds (ps := ["asking", "granted"]) fun _ _ _ _ _ _ us hl => match us, hl with | [_, _], _ => rfl
  have b_rs := F_rs.binds (ps := ["value"]) fun _ _ _ _ _ _ us hl => match us, hl with | [_], _ => rfl
  have b_mo := F_mo.binds (ps := ["first", "rows"]) fun _ _ _ _ _ _ us hl => match us, hl with | [_, _], _ => rfl
  have b_ei := F_ei.binds (ps := ["self", "word"]) fun _ _ _ _ _ _ us hl => match us, hl with | [_, _], _ => rfl
  have b_e2 := F_e2.binds (ps := ["self", "word"]) fun _ _ _ _ _ _ us hl => match us, hl with | [_, _], _ => rfl
  have b_e3 := F_e3.binds (ps := ["self", "at"]) fun _ _ _ _ _ _ us hl => match us, hl with | [_, _], _ => rfl
  have b_eq := F_eq.binds (ps := ["self", "other"]) fun _ _ _ _ _ _ us hl => match us, hl with | [_, _], _ => rfl
  have b_pi := F_pi.binds (ps := ["self", "grants", "done", "modes", "pointers", "faults"]) fun _ _ _ _ _ _ us hl => match us, hl with | [_, _, _, _, _, _], _ => rfl
  have b_rd := F_rd.binds (ps := ["cls", "text"]) fun _ _ _ _ _ _ us hl => match us, hl with | [_, _], _ => rfl
  have b_e4 := F_e4.binds (ps := ["self", "at"]) fun _ _ _ _ _ _ us hl => match us, hl with | [_, _], _ => rfl
  have b_n1 := F_n1.binds (ps := ["self", "rule", "askers"]) fun _ _ _ _ _ _ us hl => match us, hl with | [_, _, _], _ => rfl
  have b_n2 := F_n2.binds (ps := ["self", "asking"]) fun _ _ _ _ _ _ us hl => match us, hl with | [_, _], _ => rfl
  have b_n4 := F_n4.binds (ps := ["self"]) fun _ _ _ _ _ _ us hl => match us, hl with | [_], _ => rfl
  have b_n5 := F_n5.binds (ps := ["self"]) fun _ _ _ _ _ _ us hl => match us, hl with | [_], _ => rfl
  have b_n6 := F_n6.binds (ps := ["self", "asking"]) fun _ _ _ _ _ _ us hl => match us, hl with | [_, _], _ => rfl
  have b_nu := F_nu.binds (ps := ["self", "rounds"]) fun _ _ _ _ _ _ us hl => match us, hl with | [_, _], _ => rfl
  have b_nv := F_nv.binds (ps := ["self", "rule"]) fun _ _ _ _ _ _ us hl => match us, hl with | [_, _], _ => rfl
  have b_nw := F_nw.binds (ps := ["self"]) fun _ _ _ _ _ _ us hl => match us, hl with | [_], _ => rfl
  have b_n7 := F_n7.binds (ps := ["self"]) fun _ _ _ _ _ _ us hl => match us, hl with | [_], _ => rfl
  have b_st := F_st.binds (ps := ["self"]) fun _ _ _ _ _ _ us hl => match us, hl with | [_], _ => rfl
  have b_qs := F_qs.binds (ps := ["self"]) fun _ _ _ _ _ _ us hl => match us, hl with | [_], _ => rfl
  have b_w1 := F_w1.binds (ps := ["_law_script", "_law_base"]) fun _ _ _ _ _ _ us hl => match us, hl with | [_, _], _ => rfl
  have b_w2 := F_w2.binds (ps := ["_law_deal_here", "_law_many"]) fun _ _ _ _ _ _ us hl => match us, hl with | [_, _], _ => rfl
  have b_w3 := F_w3.binds (ps := ["_law_deal_here", "_law_some"]) fun _ _ _ _ _ _ us hl => match us, hl with | [_, _], _ => rfl
  have b_w4 := F_w4.binds (ps := ["_law_deal_here", "_law_some"]) fun _ _ _ _ _ _ us hl => match us, hl with | [_, _], _ => rfl
  have b_w5 := F_w5.binds (ps := ["_law_deal_here", "_law_names_here"]) fun _ _ _ _ _ _ us hl => match us, hl with | [_, _], _ => rfl
  have b_w6 := F_w6.binds (ps := ["_law_deal_here", "_law_names_here"]) fun _ _ _ _ _ _ us hl => match us, hl with | [_, _], _ => rfl
  have b_w7 := F_w7.binds (ps := ["_law_deal_here", "_law_many"]) fun _ _ _ _ _ _ us hl => match us, hl with | [_, _], _ => rfl
  have b_w8 := F_w8.binds (ps := ["_law_deal_here", "_law_rows", "_law_names_here"]) fun _ _ _ _ _ _ us hl => match us, hl with | [_, _, _], _ => rfl
  have b_w9 := F_w9.binds (ps := ["_law_deal_here", "_law_modes", "_law_most"]) fun _ _ _ _ _ _ us hl => match us, hl with | [_, _, _], _ => rfl
  have b_wa := F_wa.binds (ps := ["_law_rule_here"]) fun _ _ _ _ _ _ us hl => match us, hl with | [_], _ => rfl
  have b_wb := F_wb.binds (ps := ["_law_pick_here", "_law_pointer", "_law_many"]) fun _ _ _ _ _ _ us hl => match us, hl with | [_, _, _], _ => rfl
  have b_wc := F_wc.binds (ps := ["_law_rule_here", "_law_state", "_law_many", "_law_asking"]) fun _ _ _ _ _ _ us hl => match us, hl with | [_, _, _, _], _ => rfl
  have b_wd := F_wd.binds (ps := ["_law_rule_here"]) fun _ _ _ _ _ _ us hl => match us, hl with | [_], _ => rfl
  have b_we := F_we.binds (ps := ["_law_deal_here", "_law_many"]) fun _ _ _ _ _ _ us hl => match us, hl with | [_, _], _ => rfl
  have b_wf := F_wf.binds (ps := ["_law_rule_here", "_law_many"]) fun _ _ _ _ _ _ us hl => match us, hl with | [_, _], _ => rfl
  have b_wg := F_wg.binds (ps := ["_law_hand_here", "_law_asking"]) fun _ _ _ _ _ _ us hl => match us, hl with | [_, _], _ => rfl
  have b_wh := F_wh.binds (ps := ["_law_line", "_law_hand_here", "_law_size"]) fun _ _ _ _ _ _ us hl => match us, hl with | [_, _, _], _ => rfl
  have D_ri : FunD K "__init__" "Row.__init__" (defArgs sRowInit) (defBody sRowInit) (defScope sRowInit) [.bl false] [] f_ri (PySem.W.fnOf "__init__" "Row.__init__" (defArgs sRowInit) (defBody sRowInit) (defScope sRowInit) (.ref dTr) kV_ri dc_ri pm_ri an_ri cd_ri ct_ri) :=
    ⟨⟨oc_ri, od_ri, _, _, _, _, _, _, _, sl_ri, rfl, l_ri, c_ri, .inr ⟨List.cons_ne_nil _ _, dTr, _, [.bool false], nd_ri, rfl, d_ri, rfl, .cons rfl .nil⟩, .inl rfl⟩, k_ri⟩
  have D_ui : FunD K "__init__" "Rule.__init__" (defArgs sRuleInit) (defBody sRuleInit) (defScope sRuleInit) [.ref eU] [] f_ui (PySem.W.fnOf "__init__" "Rule.__init__" (defArgs sRuleInit) (defBody sRuleInit) (defScope sRuleInit) (.ref dTu) kV_ui dc_ui pm_ui an_ui cd_ui ct_ui) :=
    ⟨⟨oc_ui, od_ui, _, _, _, _, _, _, _, sl_ui, rfl, l_ui, c_ui, .inr ⟨List.cons_ne_nil _ _, dTu, _, [.ref eU], nd_ui, rfl, d_ui, rfl, .cons rfl .nil⟩, .inl rfl⟩, k_ui⟩
  obtain ⟨d6, v6, b6⟩ := row_b6 D_ri
  cases v6
  obtain ⟨d3, v3, b3⟩ := rule_b3 D_ui
  cases v3
  have RC : RowC K mg C := ⟨⟨pg_C, hd_C, po_C, sa_C⟩, ha, hn, ht, hm, ks, kb, n_C_mode, n_C_pick, n_C_move, n_C_then, n_C_also, PySem.W.mg_of X G gC⟩
  have OX_CE : OexC K CE := ⟨⟨xn_CE, xq_CE, xN_CE, xb_CE, _, xs_CE, xu_CE, xa_CE, xc_CE, xd_CE, m0_CE, m1_CE, m2_CE, m3_CE, m5_CE, xL_CE, rfl⟩, sx_CE, ex_CE, ty_CE, ke_CE⟩
  have OX_C2 : OexC K C2 := ⟨⟨xn_C2, xq_C2, xN_C2, xb_C2, _, xs_C2, xu_C2, xa_C2, xc_C2, xd_C2, m0_C2, m1_C2, m2_C2, m3_C2, m5_C2, xL_C2, rfl⟩, sx_C2, ex_C2, ty_C2, ke_C2⟩
  have OX_C3 : OexC K C3 := ⟨⟨xn_C3, xq_C3, xN_C3, xb_C3, _, xs_C3, xu_C3, xa_C3, xc_C3, xd_C3, m0_C3, m1_C3, m2_C3, m3_C3, m5_C3, xL_C3, rfl⟩, sx_C3, ex_C3, ty_C3, ke_C3⟩
  have M : Mk K C f_ri := ⟨mk_C, a_ri, if_C, kc_C⟩
  have MP : Mk K CP f_pi := ⟨mk_CP, a_pi, if_CP, kc_CP⟩
  have MU : Mk K CR f_ui := ⟨mk_CR, a_ui, if_CR, kc_CR⟩
  have clR : Cls K CR := ⟨pg_CR, hd_CR, po_CR, sa_CR⟩
  have PC : PlC K CP := ⟨⟨pg_CP, hd_CP, po_CP, sa_CP⟩, n_CP_grants, n_CP_done, n_CP_modes, n_CP_pointers, n_CP_faults⟩
  have RCl : RuleC K CR := ⟨clR, n_CR_rows⟩
  have te := PySem.W.exm_ref ex_CE hdE ty_CE seE
  have five : (5 : Nat) ≤ sizeLine := by decide
  have three : (3 : Nat) ≤ sizeLine := by decide
  refine ⟨PySem.W.fnOf "law" "law" (defArgs sLaw) (defBody sLaw) (defScope sLaw) .none kV_la dc_la pm_la an_la cd_la ct_la, fun s v => .of_eq rfl, fun base _ _ => ?_⟩
  have g_nm : FnOk l.prog w K mg base CX0 1 f_nm _ ["value"] (spIsName K) := ok_isname F_nm T U
  have g_ei : FnOk l.prog w K mg base CX0 1 f_ei _ ["self", "word"] (spErr CE) := ok_err F_ei OX_CE no_CE
  have g_eq : FnOk l.prog w K mg base CX0 1 f_eq _ ["self", "other"] (spEqT C) := ok_eqT F_eq RC U kT
  have RG : RowG l.prog w K mg base C CE := ⟨RC, ⟨f_nm, _, g_nm, b_nm, k_nm, PySem.W.mg_of X G a_nm⟩, ⟨f_ei, _, g_ei, b_ei, a_ei, t_ei⟩, OX_CE, PySem.W.mg_of X G gCE, ⟨f_eq, _, g_eq, b_eq, a_eq, i_eq⟩, sub,
    ⟨pP, PySem.W.mg_of X G gpP, fun H => .inr ⟨_, _, _, lP, rfl, rfl, five, .cons ⟨_, rfl⟩ (.cons ⟨_, rfl⟩ (.cons ⟨_, rfl⟩ (.cons ⟨_, rfl⟩ (.cons ⟨_, rfl⟩ .nil))))⟩⟩,
    ⟨pM, PySem.W.mg_of X G gpM, fun H => .inr ⟨_, _, _, lM, rfl, rfl, three, .cons ⟨_, rfl⟩ (.cons ⟨_, rfl⟩ (.cons ⟨_, rfl⟩ .nil))⟩⟩⟩
  have g_ri : FnOk l.prog w K mg base (L2.CX l.prog w) 3 f_ri _ ["self", "mode", "pick", "move", "then", "also"] (spRow K C CE) := ok_row D_ri RG U
  have g_rr : FnOk l.prog w K mg base CX0 5 f_rr _ ["line"] (spReadRow C) := ok_readrow F_rr T RC (PySem.W.mg_of X G gCE) te M g_ri b6
  have g_ig : FnOk l.prog w K mg base CX0 1 f_ig _ ["pick", "pointer", "asker"] spRegion := ok_region F_ig
  have g_mv : FnOk l.prog w K mg base CX0 1 f_mv _ ["move", "pointer", "granted"] spMoved := ok_moved F_mv
  have g_gb : FnOk l.prog w K mg base CX0 2 f_gb _ ["row", "mode", "pointer", "asking"] (spGranted K C) := ok_granted F_gb RC g_ig b_ig k_ig (PySem.W.mg_of X G a_ig)
  have g_rf : FnOk l.prog w K mg base CX0 1 f_rf _ ["asking", "granted"] (spFault K) := ok_fault F_rf T
  have g_fo : FnOk l.prog w K mg base CX0 2 f_fo _ ["asked", "grants"] (spFaults K) := ok_faults F_fo T (PySem.W.mg_none_of X G z_zip) g_rf b_rf k_rf (PySem.W.mg_of X G a_rf)
  have g_pr : FnOk l.prog w K mg base CX0 3 f_pr _ ["rule", "mode", "pointer", "asking"] (spPlayRound K C CR) := ok_playround F_pr T Z4 RC RCl g_gb b_gb k_gb (PySem.W.mg_of X G a_gb) g_mv b_mv k_mv (PySem.W.mg_of X G a_mv)
  have g_sq : FnOk l.prog w K mg base CX0 1 f_sq _ ["value"] (spSeq K) := ok_seq F_sq U Y5
  have g_iw : FnOk l.prog w K mg base CX0 1 f_iw _ ["value"] (spWhole K) := ok_whole F_iw U Y5
  have g_ib : FnOk l.prog w K mg base CX0 2 f_ib _ ["value", "bound"] (spBelow K) := ok_below F_ib g_iw b_iw k_iw (PySem.W.mg_of X G a_iw)
  have g_ir : FnOk l.prog w K mg base CX0 3 f_ir _ ["value", "askers"] (spIsRound K) := ok_isround F_ir Z4 T (PySem.W.mg_none_of X G z_all) g_sq b_sq k_sq (PySem.W.mg_of X G a_sq) g_ib b_ib k_ib (PySem.W.mg_of X G a_ib)
  have g_pi : FnOk l.prog w K mg base CX0 1 f_pi _ ["self", "grants", "done", "modes", "pointers", "faults"] (spPlayedI CP) := ok_playedI F_pi PC
  have g_rs : FnOk l.prog w K mg base CX0 2 f_rs _ ["value"] (spIsRows K C) := ok_isrows F_rs U (PySem.W.mg_none_of X G z_all) (PySem.W.mg_of X G gC) g_sq b_sq k_sq (PySem.W.mg_of X G a_sq)
  have g_mo : FnOk l.prog w K mg base CX0 1 f_mo _ ["first", "rows"] (spModes K C) := ok_modes F_mo T Z4 RC
  have g_e2 : FnOk l.prog w K mg base CX0 1 f_e2 _ ["self", "word"] (spErrA C2 "word") := ok_errRule F_e2 OX_C2 no_C2
  have g_e3 : FnOk l.prog w K mg base CX0 1 f_e3 _ ["self", "at"] (spErrA C3 "at") := ok_errText F_e3 OX_C3 no_C3
  have UG : RuleG l.prog w K mg base C CR C2 := ⟨RC, kC, clR, n_CR_first, n_CR_rows, n_CR_modes, ⟨f_nm, _, g_nm, b_nm, k_nm, PySem.W.mg_of X G a_nm⟩, ⟨f_rs, _, g_rs, b_rs, k_rs, PySem.W.mg_of X G a_rs⟩, ⟨f_mo, _, g_mo, b_mo, k_mo, PySem.W.mg_of X G a_mo⟩, ⟨f_e2, _, g_e2, b_e2, a_e2, t_e2⟩, OX_C2, PySem.W.mg_of X G gC2⟩
  have g_ui : FnOk l.prog w K mg base (L2.CX l.prog w) 3 f_ui _ ["self", "first", "rows"] (spRuleI K C CR C2) := ok_ruleI D_ui UG T
  have RdG : ReadG l.prog w K mg base C CR C2 C3 := ⟨RC, ⟨f_nm, _, g_nm, b_nm, k_nm, PySem.W.mg_of X G a_nm⟩, ⟨f_rr, _, g_rr, b_rr, k_rr, PySem.W.mg_of X G a_rr⟩, ⟨f_ui, _, MU, g_ui, b3⟩, ⟨f_e3, _, g_e3, b_e3, a_e3, t_e3⟩, OX_C3, PySem.W.mg_of X G gC3⟩
  have g_rd : FnOk l.prog w K mg base (L2.CX l.prog w) 6 gR _ ["cls", "text"] (spRead K C CR C3) := ok_read F_rd RdG T
  have r_rd : FnR l.prog w K mg base (L2.CX l.prog w) 6 gR (spRead K C CR C3) := (g_rd.raw b_rd .nil).imp fun vs H Q E h => by
    rw [List.append_nil]
    exact h
  have RdX : ∃ (g p : Addr) (mc : Value), ClX.CRead K CR mc ∧ ClX.CMet K CR mc "read" p g ∧ FnR l.prog w K mg base (L2.CX l.prog w) 6 g (spRead K C CR C3) := ⟨gR, pR, .type "type", ⟨rdR, gaR⟩, ⟨atR, ⟨restR, rcR⟩, fiR⟩, r_rd⟩
  have OX_C4 : OexC K C4 := ⟨⟨xn_C4, xq_C4, xN_C4, xb_C4, _, xs_C4, xu_C4, xa_C4, xc_C4, xd_C4, m0_C4, m1_C4, m2_C4, m3_C4, m5_C4, xL_C4, rfl⟩, sx_C4, ex_C4, ty_C4, ke_C4⟩
  have g_e4 : FnOk l.prog w K mg base CX0 1 f_e4 _ ["self", "at"] (spErrA C4 "at") := ok_errRound F_e4 OX_C4 no_C4
  have g_irX : FnOk l.prog w K mg base CX0 3 f_ir _ ["value", "askers"] (spIsRoundX K) := ok_isroundX F_ir Z4 T (PySem.W.mg_none_of X G z_all) g_sq b_sq k_sq (PySem.W.mg_of X G a_sq) g_ib b_ib k_ib (PySem.W.mg_of X G a_ib)
  have MG : MethG l.prog w K mg base C CR C2 := ⟨clR, n_CR_first, n_CR_rows, haR, hn, ht, hmR, kRR, PySem.W.mg_of X G gCR, RC, ⟨f_ui, _, MU, g_ui, b3⟩, ⟨f_ib, _, g_ib, b_ib, k_ib, PySem.W.mg_of X G a_ib⟩⟩
  have g_st : FnOk l.prog w K mg base CX0 1 f_st _ ["self"] (spStr C) := ok_str F_st RC
  have g_qs : FnOk l.prog w K mg base CX0 4 f_qs _ ["self"] (spRStr K C CR) := ok_rstr F_qs MG U g_st b_st a_st i_st
  have LC : LineC K CN := ⟨⟨pg_CN, hd_CN, po_CN, sa_CN⟩, n_CN_rule, n_CN_askers, n_CN_mode, n_CN_pointer, n_CN_asked, n_CN_marks⟩
  have g_n1 : FnOk l.prog w K mg base CX0 1 f_n1 _ ["self", "rule", "askers"] (spLineI K C CR CN) := ok_lineI F_n1 LC clR n_CR_first
  have g_n4 : FnOk l.prog w K mg base CX0 1 f_n4 _ ["self"] (spLLen CN) := ok_llen F_n4 T LC
  have g_n5 : FnOk l.prog w K mg base CX0 1 f_n5 _ ["self"] (spLMark CN) := ok_lmark F_n5 T LC
  have g_n7 : FnOk l.prog w K mg base CX0 1 gN _ ["self"] (spLRounds CN) := ok_lrounds F_n7 T LC
  have g_n6 : FnOk l.prog w K mg base CX0 4 f_n6 _ ["self", "asking"] (spLGrant K C CR CN) := ok_lgrant F_n6 T Z4 LC g_pr b_pr k_pr (PySem.W.mg_of X G a_pr)
  have meN : ∀ {x : Str} {f : Addr}, PySem.W.findIn K (.ref CN) x = some (some (.ref f)) → PySem.W.isFn K (.ref f) = true → PySem.W.keepIn K (.ref f) = true → Meth K CN x f := fun a b c => ⟨a, b, c⟩
  have g_n2 : FnOk l.prog w K mg base (L2.CX l.prog w) 5 f_n2 _ ["self", "asking"] (spLAsk K C CR CN C4 false) := ok_lask F_n2 T LC dNR dNC g_irX b_ir k_ir (PySem.W.mg_of X G a_ir) g_n5 b_n5 (meN a_n5 i_n5 k_n5) g_n6 b_n6 (meN a_n6 i_n6 k_n6) OX_C4 g_e4 b_e4 a_e4 t_e4 (PySem.W.mg_of X G gC4)
  have g_nu : FnOk l.prog w K mg base CX0 5 f_nu _ ["self", "rounds"] (spLSev K C CR CN) := ok_lsev F_nu T Z4 LC dNR dNC g_irX b_ir k_ir (PySem.W.mg_of X G a_ir) g_n5 b_n5 (meN a_n5 i_n5 k_n5) g_n6 b_n6 (meN a_n6 i_n6 k_n6)
  have g_nv : FnOk l.prog w K mg base CX0 2 f_nv _ ["self", "rule"] (spLChange K C CR CN) := ok_lchange F_nv LC clR n_CR_first dNR dNC g_n5 b_n5 (meN a_n5 i_n5 k_n5)
  have g_nw : FnOk l.prog w K mg base CX0 1 f_nw _ ["self"] (spLUndo CN) := ok_lundo F_nw LC
  have LG : LineG l.prog w K mg base C CR CN C4 := ⟨LC, dNR, dNC, PySem.W.mg_of X G gCN, ⟨f_n1, _, ⟨mk_CN, a_n1, i_n1, kc_CN⟩, g_n1, b_n1⟩, ⟨f_n2, _, g_n2, b_n2, meN a_n2 i_n2 k_n2⟩, ⟨f_nu, _, g_nu, b_nu, meN a_nu i_nu k_nu⟩, ⟨f_nv, _, g_nv, b_nv, meN a_nv i_nv k_nv⟩, ⟨f_nw, _, g_nw, b_nw, meN a_nw i_nw k_nw⟩, ⟨pN, gN, _, g_n7, b_n7, ⟨atN, ptN, tkN, ⟨restN, rcN⟩⟩⟩⟩
  have T2 : BltD mg := ⟨PySem.W.mg_none_of X G z_list⟩
  have g_w1 : FnOk l.prog w K mg base CX0 1 f_w1 _ ["_law_script", "_law_base"] (spDeal K) := ok_deal F_w1 T
  have g_w2 : FnOk l.prog w K mg base CX0 1 f_w2 _ ["_law_deal_here", "_law_many"] spDraw := ok_draw F_w2 T
  have g_w3 : FnOk l.prog w K mg base CX0 2 f_w3 _ ["_law_deal_here", "_law_some"] (spPick K) := ok_pick F_w3 T g_w2 b_w2 k_w2 (PySem.W.mg_of X G a_w2)
  have g_w4 : FnOk l.prog w K mg base CX0 2 f_w4 _ ["_law_deal_here", "_law_some"] (spMixed K) := ok_mixed F_w4 T T2 g_w2 b_w2 k_w2 (PySem.W.mg_of X G a_w2)
  have g_w5 : FnOk l.prog w K mg base CX0 3 f_w5 _ ["_law_deal_here", "_law_names_here"] (spAnyRowD K) := ok_anyrowD F_w5 g_w3 b_w3 k_w3 (PySem.W.mg_of X G a_w3) g_w2 b_w2 k_w2 (PySem.W.mg_of X G a_w2)
  have g_w6 : FnOk l.prog w K mg base CX0 3 f_w6 _ ["_law_deal_here", "_law_names_here"] (spLinesD K) := ok_linesD F_w6 g_w3 b_w3 k_w3 (PySem.W.mg_of X G a_w3) g_w2 b_w2 k_w2 (PySem.W.mg_of X G a_w2)
  have g_w7 : FnOk l.prog w K mg base CX0 3 f_w7 _ ["_law_deal_here", "_law_many"] spNamesD := ok_namesD F_w7 g_w3 b_w3 k_w3 (PySem.W.mg_of X G a_w3) g_w4 b_w4 k_w4 (PySem.W.mg_of X G a_w4)
  have g_w8 : FnOk l.prog w K mg base CX0 4 f_w8 _ ["_law_deal_here", "_law_rows", "_law_names_here"] (spBentD K) := ok_bentD F_w8 T g_w5 b_w5 k_w5 (PySem.W.mg_of X G a_w5) g_w2 b_w2 k_w2 (PySem.W.mg_of X G a_w2)
  have g_w9 : FnOk l.prog w K mg base CX0 5 f_w9 _ ["_law_deal_here", "_law_modes", "_law_most"] (spLRuleD K) := ok_lruleD F_w9 T g_w2 b_w2 k_w2 (PySem.W.mg_of X G a_w2) g_w7 b_w7 k_w7 (PySem.W.mg_of X G a_w7) g_w6 b_w6 k_w6 (PySem.W.mg_of X G a_w6) g_w8 b_w8 k_w8 (PySem.W.mg_of X G a_w8)
  have g_wa : FnOk l.prog w K mg base CX0 1 f_wa _ ["_law_rule_here"] spLTextD := ok_ltextD F_wa
  have g_wb : FnOk l.prog w K mg base CX0 1 f_wb _ ["_law_pick_here", "_law_pointer", "_law_many"] spLRegD := ok_lregD F_wb T T2
  have g_wc : FnOk l.prog w K mg base CX0 2 f_wc _ ["_law_rule_here", "_law_state", "_law_many", "_law_asking"] spLRndD := ok_lrndD F_wc T Z4 g_wb b_wb k_wb (PySem.W.mg_of X G a_wb)
  have g_wd : FnOk l.prog w K mg base CX0 7 f_wd _ ["_law_rule_here"] (spMadeD K C CR) := ok_madeD F_wd (PySem.W.mg_of X G gCR) ⟨rdR, gaR⟩ ⟨atR, ⟨restR, rcR⟩, fiR⟩ r_rd g_wa b_wa k_wa (PySem.W.mg_of X G a_wa)
  have g_we : FnOk l.prog w K mg base CX0 3 f_we _ ["_law_deal_here", "_law_many"] spDrawn := ok_drawn F_we T g_w2 b_w2 k_w2 (PySem.W.mg_of X G a_w2) g_w4 b_w4 k_w4 (PySem.W.mg_of X G a_w4)
  have g_wf : FnOk l.prog w K mg base CX0 1 f_wf _ ["_law_rule_here", "_law_many"] spHand := ok_hand F_wf
  have g_wg : FnOk l.prog w K mg base CX0 3 f_wg _ ["_law_hand_here", "_law_asking"] spDo := ok_do F_wg T Z4 g_wc b_wc k_wc (PySem.W.mg_of X G a_wc)
  have g_wh : FnOk l.prog w K mg base CX0 7 f_wh _ ["_law_line", "_law_hand_here", "_law_size"] (spStands K C CR CN) := ok_stands F_wh T U LC g_wa b_wa k_wa (PySem.W.mg_of X G a_wa) g_n7 b_n7 ⟨atN, ptN, tkN, ⟨restN, rcN⟩⟩ g_n4 b_n4 a_n4 i_n4 g_qs b_qs a_qs i_qs
  have Z6 : Blt6 mg := ⟨PySem.W.mg_none_of X G z_max, PySem.W.mg_none_of X G z_min, PySem.W.mg_none_of X G z_dict⟩
  exact FnOk.toG (ok_law F_la T U T2 Z6 LG ⟨f_w1, _, g_w1, b_w1, k_w1, PySem.W.mg_of X G a_w1⟩ ⟨f_w9, _, g_w9, b_w9, k_w9, PySem.W.mg_of X G a_w9⟩ ⟨f_w2, _, g_w2, b_w2, k_w2, PySem.W.mg_of X G a_w2⟩ ⟨f_wd, _, g_wd, b_wd, k_wd, PySem.W.mg_of X G a_wd⟩ ⟨f_wf, _, g_wf, b_wf, k_wf, PySem.W.mg_of X G a_wf⟩ ⟨f_wh, _, g_wh, b_wh, k_wh, PySem.W.mg_of X G a_wh⟩ ⟨f_we, _, g_we, b_we, k_we, PySem.W.mg_of X G a_we⟩ ⟨f_wg, _, g_wg, b_wg, k_wg, PySem.W.mg_of X G a_wg⟩)
theorem walk {l : PySem.W.OpenLaw} {q : Program} {loose : List Str} {XP : (Str → Option Value) → Heap → Prop} {YP : World → Heap → Prop} {d : DefRec} {K : Params → PySem.W.Frag} (hn : l.most = some 63) (hdf : d.params.defaults = [])
    (hY : ∀ (w : World) (h : Heap), YP w h → (K w.params).In h)
    (F : ∀ (w : World) (mg : Str → Option Value) (fa : Addr) (h : Heap), (K w.params).In h → h.Ns mainGlobals mg → mg d.name = some (.ref fa) →
      ∃ fd : FuncData, (∀ (s : Shared) (u : Value), BindsTo s fd ⟨[u], []⟩ [("_law_script", u)]) ∧ ∀ base : Heap, (K w.params).In base → base.Ns mainGlobals mg → FnG l.prog w (K w.params) mg base CX0 9 fa fd ["_law_script"] (spLaw (K w.params))) :
    PySem.W.WalkO q loose XP YP l.row.toRowW d [] (fun f vs => PySem.call f vs) :=
  walk_ofG (n := 63) (k := 9) (x := "_law_script") (sp := fun w => spLaw (K w.params)) hn (by decide) hdf ⟨rfl, by decide, by decide⟩ hY F (fun _ _ a ns hl hS => ⟨a, ns, rfl, hS, hl, fun _ => rfl⟩)
end LT
open PySem PySem.W PyProof.Rows
set_option maxRecDepth 100000 in
set_option maxHeartbeats 0 in
theorem PySem.Challenge.cw_lineturns_k65_rounds_and_changes_taken_b_holds : PySem.Challenge.rw_lineturns_k65_rounds_and_changes_taken_b.Holds := by
  w_on; o_law; k_head; (case hw => w_witness2)
  k_fill
  refine LT.walk (l := PySem.Challenge.rw_lineturns_k65_rounds_and_changes_taken_b) rfl rfl (fun w h Y => PySem.W.km_in_of Y) ?F
  case F =>
    intro w mg fa h KX G hmg
    refine' LT.all_mk KX G hmg ?gC ?gCE ?gC2 ?gC3 ?gCL ?gCP ?gCR ?gpP ?gpM ?lP ?lM ?a_nm ?l_nm ?c_nm ?k_nm ?a_iw ?l_iw ?c_iw ?k_iw ?a_sq ?l_sq ?c_sq ?k_sq ?a_rr ?l_rr ?c_rr ?k_rr ?a_ig ?l_ig ?c_ig ?k_ig ?a_mv ?l_mv ?c_mv ?k_mv ?a_as ?l_as ?c_as ?k_as ?a_ib ?l_ib ?c_ib ?k_ib ?a_ir ?l_ir ?c_ir ?k_ir ?a_pr ?l_pr ?c_pr ?k_pr ?a_gb ?l_gb ?c_gb ?k_gb ?a_fo ?l_fo ?c_fo ?k_fo ?a_rf ?l_rf ?c_rf ?k_rf ?a_rs ?l_rs ?c_rs ?k_rs ?a_mo ?l_mo ?c_mo ?k_mo ?a_ei ?l_ei ?c_ei ?k_ei ?t_ei ?a_e2 ?l_e2 ?c_e2 ?k_e2 ?t_e2 ?a_e3 ?l_e3 ?c_e3 ?k_e3 ?t_e3 ?a_eq ?l_eq ?c_eq ?k_eq ?i_eq ?a_pi ?l_pi ?c_pi ?k_pi ?a_ri ?l_ri ?c_ri ?k_ri ?d_ri ?a_ui ?l_ui ?c_ui ?k_ui ?d_ui ?pg_C ?hd_C ?po_C ?sa_C ?n_C_mode ?n_C_pick ?n_C_move ?n_C_then ?n_C_also ?mk_C ?kc_C ?if_C ?pg_CP ?hd_CP ?po_CP ?sa_CP ?n_CP_grants ?n_CP_done ?n_CP_modes ?n_CP_pointers ?n_CP_faults ?mk_CP ?kc_CP ?if_CP ?pg_CR ?hd_CR ?po_CR ?sa_CR ?n_CR_first ?n_CR_rows ?n_CR_modes ?mk_CR ?kc_CR ?if_CR ?xL_CE ?sx_CE ?ex_CE ?ty_CE ?ke_CE ?no_CE ?xL_C2 ?sx_C2 ?ex_C2 ?ty_C2 ?ke_C2 ?no_C2 ?xL_C3 ?sx_C3 ?ex_C3 ?ty_C3 ?ke_C3 ?no_C3 ?hdE ?seE ?ha ?hn ?ht ?hm ?ks ?kb ?kT ?kC ?sub ?rdR ?gaR ?atR ?rcR ?fiR ?l_rd ?c_rd ?k_rd ?z_len ?z_abs ?z_int ?z_range ?z_tuple ?z_isinstance ?z_str ?z_bool ?z_enumerate ?z_sorted ?z_set ?z_list ?z_zip ?z_all ?z_max ?z_min ?z_dict ?gC4 ?a_e4 ?l_e4 ?c_e4 ?k_e4 ?t_e4 ?xL_C4 ?sx_C4 ?ex_C4 ?ty_C4 ?ke_C4 ?no_C4 ?gCN ?a_n1 ?l_n1 ?c_n1 ?k_n1 ?i_n1 ?a_n2 ?l_n2 ?c_n2 ?k_n2 ?i_n2 ?a_n4 ?l_n4 ?c_n4 ?k_n4 ?i_n4 ?a_n5 ?l_n5 ?c_n5 ?k_n5 ?i_n5 ?a_n6 ?l_n6 ?c_n6 ?k_n6 ?i_n6 ?a_nu ?l_nu ?c_nu ?k_nu ?i_nu ?a_nv ?l_nv ?c_nv ?k_nv ?i_nv ?a_nw ?l_nw ?c_nw ?k_nw ?i_nw ?pg_CN ?hd_CN ?po_CN ?sa_CN ?n_CN_rule ?n_CN_askers ?n_CN_mode ?n_CN_pointer ?n_CN_asked ?n_CN_marks ?mk_CN ?kc_CN ?atN ?ptN ?tkN ?rcN ?l_n7 ?c_n7 ?k_n7 ?dNR ?dNC ?a_st ?l_st ?c_st ?k_st ?i_st ?a_qs ?l_qs ?c_qs ?k_qs ?i_qs ?haR ?hmR ?kRR ?a_w1 ?l_w1 ?c_w1 ?k_w1 ?a_w2 ?l_w2 ?c_w2 ?k_w2 ?a_w3 ?l_w3 ?c_w3 ?k_w3 ?a_w4 ?l_w4 ?c_w4 ?k_w4 ?a_w5 ?l_w5 ?c_w5 ?k_w5 ?a_w6 ?l_w6 ?c_w6 ?k_w6 ?a_w7 ?l_w7 ?c_w7 ?k_w7 ?a_w8 ?l_w8 ?c_w8 ?k_w8 ?a_w9 ?l_w9 ?c_w9 ?k_w9 ?a_wa ?l_wa ?c_wa ?k_wa ?a_wb ?l_wb ?c_wb ?k_wb ?a_wc ?l_wc ?c_wc ?k_wc ?a_wd ?l_wd ?c_wd ?k_wd ?a_we ?l_we ?c_we ?k_we ?a_wf ?l_wf ?c_wf ?k_wf ?a_wg ?l_wg ?c_wg ?k_wg ?a_wh ?l_wh ?c_wh ?k_wh ?a_la ?l_la ?c_la ?k_la
    (case gC => k_is)
    (case gCE => k_is)
    (case gC2 => k_is)
    (case gC3 => k_is)
    (case gCL => k_is)
    (case gCP => k_is)
    (case gCR => k_is)
    (case gpP => k_is)
    (case gpM => k_is)
    (case lP => k_is)
    (case lM => k_is)
    (case a_nm => k_is)
    (case l_nm => k_is)
    (case c_nm => k_is)
    (case k_nm => k_is)
    (case a_iw => k_is)
    (case l_iw => k_is)
    (case c_iw => k_is)
    (case k_iw => k_is)
    (case a_sq => k_is)
    (case l_sq => k_is)
    (case c_sq => k_is)
    (case k_sq => k_is)
    (case a_rr => k_is)
    (case l_rr => k_is)
    (case c_rr => k_is)
    (case k_rr => k_is)
    (case a_ig => k_is)
    (case l_ig => k_is)
    (case c_ig => k_is)
    (case k_ig => k_is)
    (case a_mv => k_is)
    (case l_mv => k_is)
    (case c_mv => k_is)
    (case k_mv => k_is)
    (case a_as => k_is)
    (case l_as => k_is)
    (case c_as => k_is)
    (case k_as => k_is)
    (case a_ib => k_is)
    (case l_ib => k_is)
    (case c_ib => k_is)
    (case k_ib => k_is)
    (case a_ir => k_is)
    (case l_ir => k_is)
    (case c_ir => k_is)
    (case k_ir => k_is)
    (case a_pr => k_is)
    (case l_pr => k_is)
    (case c_pr => k_is)
    (case k_pr => k_is)
    (case a_gb => k_is)
    (case l_gb => k_is)
    (case c_gb => k_is)
    (case k_gb => k_is)
    (case a_fo => k_is)
    (case l_fo => k_is)
    (case c_fo => k_is)
    (case k_fo => k_is)
    (case a_rf => k_is)
    (case l_rf => k_is)
    (case c_rf => k_is)
    (case k_rf => k_is)
    (case a_rs => k_is)
    (case l_rs => k_is)
    (case c_rs => k_is)
    (case k_rs => k_is)
    (case a_mo => k_is)
    (case l_mo => k_is)
    (case c_mo => k_is)
    (case k_mo => k_is)
    (case a_ei => k_is)
    (case l_ei => k_is)
    (case c_ei => k_is)
    (case k_ei => k_is)
    (case t_ei => k_is)
    (case a_e2 => k_is)
    (case l_e2 => k_is)
    (case c_e2 => k_is)
    (case k_e2 => k_is)
    (case t_e2 => k_is)
    (case a_e3 => k_is)
    (case l_e3 => k_is)
    (case c_e3 => k_is)
    (case k_e3 => k_is)
    (case t_e3 => k_is)
    (case a_eq => k_is)
    (case l_eq => k_is)
    (case c_eq => k_is)
    (case k_eq => k_is)
    (case i_eq => k_is)
    (case a_pi => k_is)
    (case l_pi => k_is)
    (case c_pi => k_is)
    (case k_pi => k_is)
    (case a_ri => k_is)
    (case l_ri => k_is)
    (case c_ri => k_is)
    (case k_ri => k_is)
    (case d_ri => k_is)
    (case a_ui => k_is)
    (case l_ui => k_is)
    (case c_ui => k_is)
    (case k_ui => k_is)
    (case d_ui => k_is)
    (case pg_C => k_is)
    (case hd_C => k_is)
    (case po_C => k_is)
    (case sa_C => k_is)
    (case n_C_mode => k_is)
    (case n_C_pick => k_is)
    (case n_C_move => k_is)
    (case n_C_then => k_is)
    (case n_C_also => k_is)
    (case mk_C => k_is)
    (case kc_C => k_is)
    (case if_C => k_is)
    (case pg_CP => k_is)
    (case hd_CP => k_is)
    (case po_CP => k_is)
    (case sa_CP => k_is)
    (case n_CP_grants => k_is)
    (case n_CP_done => k_is)
    (case n_CP_modes => k_is)
    (case n_CP_pointers => k_is)
    (case n_CP_faults => k_is)
    (case mk_CP => k_is)
    (case kc_CP => k_is)
    (case if_CP => k_is)
    (case pg_CR => k_is)
    (case hd_CR => k_is)
    (case po_CR => k_is)
    (case sa_CR => k_is)
    (case n_CR_first => k_is)
    (case n_CR_rows => k_is)
    (case n_CR_modes => k_is)
    (case mk_CR => k_is)
    (case kc_CR => k_is)
    (case if_CR => k_is)
    (case xL_CE => k_is)
    (case sx_CE => k_is)
    (case ex_CE => k_is)
    (case ty_CE => k_is)
    (case ke_CE => k_is)
    (case no_CE => k_is)
    (case xL_C2 => k_is)
    (case sx_C2 => k_is)
    (case ex_C2 => k_is)
    (case ty_C2 => k_is)
    (case ke_C2 => k_is)
    (case no_C2 => k_is)
    (case xL_C3 => k_is)
    (case sx_C3 => k_is)
    (case ex_C3 => k_is)
    (case ty_C3 => k_is)
    (case ke_C3 => k_is)
    (case no_C3 => k_is)
    (case hdE => k_is)
    (case seE => k_is)
    (case ha => k_is)
    (case hn => k_is)
    (case ht => k_is)
    (case hm => k_is)
    (case ks => kit_is)
    (case kb => kit_is)
    (case kT => kit_is)
    (case kC => kit_is)
    (case sub => k_is)
    (case rdR => k_is)
    (case gaR => k_is)
    (case atR => k_is)
    (case rcR => k_is)
    (case fiR => k_is)
    (case l_rd => k_is)
    (case c_rd => k_is)
    (case k_rd => k_is)
    (case z_len => k_is)
    (case z_abs => k_is)
    (case z_int => k_is)
    (case z_range => k_is)
    (case z_tuple => k_is)
    (case z_isinstance => k_is)
    (case z_str => k_is)
    (case z_bool => k_is)
    (case z_enumerate => k_is)
    (case z_sorted => k_is)
    (case z_set => k_is)
    (case z_list => k_is)
    (case z_zip => k_is)
    (case z_all => k_is)
    (case z_max => k_is)
    (case z_min => k_is)
    (case z_dict => k_is)
    (case gC4 => k_is)
    (case a_e4 => k_is)
    (case l_e4 => k_is)
    (case c_e4 => k_is)
    (case k_e4 => k_is)
    (case t_e4 => k_is)
    (case xL_C4 => k_is)
    (case sx_C4 => k_is)
    (case ex_C4 => k_is)
    (case ty_C4 => k_is)
    (case ke_C4 => k_is)
    (case no_C4 => k_is)
    (case gCN => k_is)
    (case a_n1 => k_is)
    (case l_n1 => k_is)
    (case c_n1 => k_is)
    (case k_n1 => k_is)
    (case i_n1 => k_is)
    (case a_n2 => k_is)
    (case l_n2 => k_is)
    (case c_n2 => k_is)
    (case k_n2 => k_is)
    (case i_n2 => k_is)
    (case a_n4 => k_is)
    (case l_n4 => k_is)
    (case c_n4 => k_is)
    (case k_n4 => k_is)
    (case i_n4 => k_is)
    (case a_n5 => k_is)
    (case l_n5 => k_is)
    (case c_n5 => k_is)
    (case k_n5 => k_is)
    (case i_n5 => k_is)
    (case a_n6 => k_is)
    (case l_n6 => k_is)
    (case c_n6 => k_is)
    (case k_n6 => k_is)
    (case i_n6 => k_is)
    (case a_nu => k_is)
    (case l_nu => k_is)
    (case c_nu => k_is)
    (case k_nu => k_is)
    (case i_nu => k_is)
    (case a_nv => k_is)
    (case l_nv => k_is)
    (case c_nv => k_is)
    (case k_nv => k_is)
    (case i_nv => k_is)
    (case a_nw => k_is)
    (case l_nw => k_is)
    (case c_nw => k_is)
    (case k_nw => k_is)
    (case i_nw => k_is)
    (case pg_CN => k_is)
    (case hd_CN => k_is)
    (case po_CN => k_is)
    (case sa_CN => k_is)
    (case n_CN_rule => k_is)
    (case n_CN_askers => k_is)
    (case n_CN_mode => k_is)
    (case n_CN_pointer => k_is)
    (case n_CN_asked => k_is)
    (case n_CN_marks => k_is)
    (case mk_CN => k_is)
    (case kc_CN => k_is)
    (case atN => k_is)
    (case ptN => k_is)
    (case tkN => k_is)
    (case rcN => k_is)
    (case l_n7 => k_is)
    (case c_n7 => k_is)
    (case k_n7 => k_is)
    (case dNR => decide)
    (case dNC => decide)
    (case a_st => k_is)
    (case l_st => k_is)
    (case c_st => k_is)
    (case k_st => k_is)
    (case i_st => k_is)
    (case a_qs => k_is)
    (case l_qs => k_is)
    (case c_qs => k_is)
    (case k_qs => k_is)
    (case i_qs => k_is)
    (case haR => k_is)
    (case hmR => k_is)
    (case kRR => kit_is)
    (case a_w1 => k_is)
    (case l_w1 => k_is)
    (case c_w1 => k_is)
    (case k_w1 => k_is)
    (case a_w2 => k_is)
    (case l_w2 => k_is)
    (case c_w2 => k_is)
    (case k_w2 => k_is)
    (case a_w3 => k_is)
    (case l_w3 => k_is)
    (case c_w3 => k_is)
    (case k_w3 => k_is)
    (case a_w4 => k_is)
    (case l_w4 => k_is)
    (case c_w4 => k_is)
    (case k_w4 => k_is)
    (case a_w5 => k_is)
    (case l_w5 => k_is)
    (case c_w5 => k_is)
    (case k_w5 => k_is)
    (case a_w6 => k_is)
    (case l_w6 => k_is)
    (case c_w6 => k_is)
    (case k_w6 => k_is)
    (case a_w7 => k_is)
    (case l_w7 => k_is)
    (case c_w7 => k_is)
    (case k_w7 => k_is)
    (case a_w8 => k_is)
    (case l_w8 => k_is)
    (case c_w8 => k_is)
    (case k_w8 => k_is)
    (case a_w9 => k_is)
    (case l_w9 => k_is)
    (case c_w9 => k_is)
    (case k_w9 => k_is)
    (case a_wa => k_is)
    (case l_wa => k_is)
    (case c_wa => k_is)
    (case k_wa => k_is)
    (case a_wb => k_is)
    (case l_wb => k_is)
    (case c_wb => k_is)
    (case k_wb => k_is)
    (case a_wc => k_is)
    (case l_wc => k_is)
    (case c_wc => k_is)
    (case k_wc => k_is)
    (case a_wd => k_is)
    (case l_wd => k_is)
    (case c_wd => k_is)
    (case k_wd => k_is)
    (case a_we => k_is)
    (case l_we => k_is)
    (case c_we => k_is)
    (case k_we => k_is)
    (case a_wf => k_is)
    (case l_wf => k_is)
    (case c_wf => k_is)
    (case k_wf => k_is)
    (case a_wg => k_is)
    (case l_wg => k_is)
    (case c_wg => k_is)
    (case k_wg => k_is)
    (case a_wh => k_is)
    (case l_wh => k_is)
    (case c_wh => k_is)
    (case k_wh => k_is)
    (case a_la => k_is)
    (case l_la => k_is)
    (case c_la => k_is)
    (case k_la => k_is)
#print axioms PySem.Challenge.cw_lineturns_k65_rounds_and_changes_taken_b_holds
