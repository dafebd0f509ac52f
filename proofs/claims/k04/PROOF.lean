import PyProof.Rows.All
import Wide.All
import OpenK.AllK
import Wide.FinOn
import HandS.Base
import HandS.Call
import HandS.List
import HandS.Set
import HandS.SetFor
import HandS.Zip
import HandS.Conv
import HandS.Strs
import HandS.SortInts
import HandS.SortOrd
import HandS.ExcValue
import HandS.ExcOwn
import HandS.Comp
import HandS.Words
import HandS.Codes
import HandS.Lambda
import HandS.Nested
import HandS.WordsList
import HandS.IsInst
import HandS.OwnEq
import KE.GoesEnum
import KE.GoesMore
import HandS.Iter
import HandS.Walk
import PyProof.EqAt
import PyProof.EqKinds
import KE.KCallOwn
import HandS.Ends
import PyProof.ReprRoads
import HandS.ExcInit
import HandS.ExcField
import HandS.Exc
import HandS.Text
import HandS.StrMore
import HandS.TryOnly
import PyProof.P3In
import HandS.WordsExc
import HandS.Defaults
import HandS.FStr
import HandS.FStrTup
import HandS.Deep
import HandS.ClsMeth
import HandS.Star
import KE.KIsAll
import KE.KTryMore
import HandS.ExcIs
import HandS.MakeKw
import KE.KExcInit
import PyProof.Rows.StrMeet
import PyProof.Rows.TmSorted
import HandS.TupAny
import HandS.RaiseMore
import KE.RegKIsAll
import KE.KNestM
import HandS.EndTab
import PySem.Challenge.RW_lineturns_k04_rules_made
set_option Elab.async false
set_option linter.all false
set_option maxRecDepth 100000
set_option maxHeartbeats 4000000
namespace L2
open PySem PySem.Spec PyProof.Rows
/-- an empty set, as it is made -/
abbrev newSet (w : World) : Obj := { cls := .type "set", dict := none, data := .set #[] 0 (.fresh 0 0 (!w.params.followText "set-order")) }
section
variable {P : Program} {w : World} {A : Around} {E : Value → Shared → Prop} {s : Shared}
/-- set(l), l a list of isI -/
theorem set_of_list {l : Addr} {items : Array Value} (ns : List Int) {Q : Value → Shared → Prop} (hh : A.handled = none) (pl : s.heap.IsList l items) (isI : IntsAre items.toList ns) (few : ns.length + 1 < scanBound)
    (h : ∀ (h' : Heap) (tk c : Nat), SetR w h' s.heap.objs.size (fun j => decide (j ∈ ns)) c → c ≤ ns.length → (∀ b o, s.heap.get? b = some o → h'.get? b = some o) → Q (.ref s.heap.objs.size) { s with heap := h', toks := tk }) :
    wpAny (model P w) A (call (.type "set") [.ref l]) Q E s := by
  have size : items.size = ns.length := by
    have z := IntsAre.length isI
    rw [Array.length_toList] at z
    exact z
  obtain ⟨c, tl, mro⟩ := F.called_set.mro
  have made := F.called_set.made
  have sub := F.called_set.sub
  refine wpAny_call (codeAny_of_tree ?_)
  show wpAny _ _ (callAny (.type "set") _) _ _ _
  refine wpAny_pure ⟨Code.quiet_builtin _ (by decide +kernel), codeAny_builtin F.entry_type_call ?_⟩
  rw [Around.under_plain (weight_type_call_type "set" [.ref l] []) rfl]
  have n1 := F.called_set.notType
  have n2 := F.called_set.canCreate
  have n3 := F.typeCall_set_1 (.ref l)
  repeat (any_goals (first | assumption | wp_step))
  refine codeAny_mono (code_set_led1 (.ref l) (E := E) (Q₁ := fun v t => v = .ref s.heap.objs.size ∧ t = { s with heap := s.heap.push (newSet w) }) ⟨rfl, rfl⟩) fun r s₁ hr => ?_
  cases r with
  | error e => exact hr
  | ok fl =>
    cases fl with
    | next => exact hr.elim
    | brk => exact hr.elim
    | cont => exact hr.elim
    | ret obj =>
      obtain ⟨rfl, rfl⟩ := hr
      have there : (s.heap.push (newSet w)).get? s.heap.objs.size = some (newSet w) := Heap.get?_push_size _ rfl
      have isSet : Shared.TypeIs { s with heap := s.heap.push (newSet w) } (.ref s.heap.objs.size) "set" := ⟨_, there, rfl⟩
      have li := F.called_set.init.lookup
      have bi := F.called_set.init.bind (.ref s.heap.objs.size)
      repeat (any_goals (first | assumption | wp_step))
      refine codeAny_mono (codeAny_call_builtin (R := wants (fun r s₂ => r = .none ∧ ∃ h' tk c, s₂ = { s with heap := h', toks := tk } ∧ SetR w h' s.heap.objs.size (fun j => decide (j ∈ ns)) c ∧ c ≤ ns.length ∧
          (∀ b o, s.heap.get? b = some o → h'.get? b = some o)) E) F.called_set.init.plain F.entry_set_init (check_set_init_1 isSet ?_)) fun r₂ s₂ hr₂ => ?_
      · obtain ⟨⟨k1, k2, k3, k4⟩, got, e1, n, e2⟩ := pl
        simp only at e1 e2
        subst e1 e2
        have got' : (s.heap.push (newSet w)).get? l = some { cls := .type "list", dict := k2, data := .seq items n, slots := k4 } := Heap.get?_push_of_some _ got
        have s1 := PySem.F.sub_list_set
        have s2 := PySem.F.sub_list_frozenset
        have s3 : (Value.type "list" == Value.type "dict") = false := by decide
        have pl1 : (s.heap.push (newSet w)).IsList l items := ⟨_, got', rfl, n, rfl⟩
        unfold Builtin.«set.__init__» noKeywords Builtin.Frozenset.updateFrom
        generalize hPI : pyIter = PI
        wp_walk
        subst hPI
        refine wpAny_pyIter_list pl1 ?_
        refine wpAny_bind (wpAny_runValue ?_)
        have below : l < s.heap.objs.size := Heap.lt_size got
        have calm3 : A.in1.in1.in1.handled = none := by simp [hh]
        have far : l ≠ (s.heap.push (newSet w)).objs.size := by
          rw [Heap.size_push]
          exact Nat.ne_of_lt (Nat.lt_succ_of_lt below)
        have apart : s.heap.objs.size ∉ [(s.heap.push (newSet w)).objs.size, l] := by
          rw [Heap.size_push]
          simp only [List.mem_cons, List.mem_singleton, List.not_mem_nil, or_false, not_or]
          exact ⟨Nat.ne_of_lt (Nat.lt_succ_self _), Nat.ne_of_gt below⟩
        have vals : ∀ (i : Nat) (v : Value), items[i]? = some v → ∃ k t, ns[i]? = some k ∧ v = .int k t := fun i v hv => by
          have hi : i < ns.length := by
            rw [← size]
            exact (Array.getElem?_eq_some_iff.mp hv).1
          obtain ⟨t, e⟩ := IntsAre.int_at isI i v (by rw [Array.getElem?_toList]; exact hv)
          refine ⟨ns[i], t, List.getElem?_eq_getElem hi, ?_⟩
          rw [e, List.getD_eq_getElem?_getD, List.getElem?_eq_getElem hi] <;> rfl
        refine set_update_ints ((Walks.list calm3 _ l far items).toS) s.heap.objs.size apart ns size few vals (items.size - 0) 0 _ (by omega) (Nat.zero_le _) ⟨⟨_, Heap.get?_push_size _ rfl, rfl, rfl⟩, pl1.push _⟩ ?start ?fin
        case start =>
          have again : ((s.heap.push (newSet w)).push { cls := .type "list_iterator", data := .fields #[.ref l, .int 0 0] }).get? s.heap.objs.size = some (newSet w) := Heap.get?_push_of_some _ there
          exact ⟨0, Nat.le_refl 0, setR_new_at again⟩
        case fin =>
          intro t c' moved le R
          obtain ⟨h', g2, d', tk', os'⟩ := t
          have eg : g2 = s.gens := moved.gens
          have ed : d' = s.drawn := moved.drawn
          have eo : os' = s.os := moved.os
          subst eg ed eo
          show wpAny _ _ _ _ _ _
          refine wpAny_pure ?_
          show wpAny _ _ (ret Value.none) _ _ _
          rw [size] at le
          refine wpAny_pure ⟨rfl, h', tk', c', rfl, R, le, fun b o e => ?_⟩
          have b0 : b < s.heap.objs.size := Heap.lt_size e
          refine moved.heap b o ?_ (Heap.get?_push_of_some _ (Heap.get?_push_of_some _ e))
          simp only [List.mem_cons, List.mem_singleton, List.not_mem_nil, or_false, not_or]
          refine ⟨Nat.ne_of_lt b0, ?_⟩
          rw [Heap.size_push]
          exact Nat.ne_of_lt (Nat.lt_succ_of_lt b0)
      · cases r₂ with
        | error e => exact hr₂
        | ok fl₂ =>
          cases fl₂ with
          | next => exact hr₂.elim
          | brk => exact hr₂.elim
          | cont => exact hr₂.elim
          | ret r2 =>
            obtain ⟨rfl, h', tk, c2, rfl, R, le, k⟩ := hr₂
            repeat (any_goals (first | assumption | wp_step))
            exact h _ _ _ R le k
end
end L2
namespace L2
open PySem PySem.Spec PyProof.Rows
/-- set(xs), ints: a new set of n members -/
def rSetI (K : PySem.W.Frag) (w : World) : List V → Hp → VK → Prop := fun vs H Q => ∃ (p : Addr) (ns : List Int), vs = [.ref p] ∧ (SqL K H p (ns.map V.int) ∨ SqT K H p (ns.map V.int)) ∧ ns.length ≤ 1000 ∧
  ∀ (q : Addr) (n : Nat) (ks : List Int), H q = none → n ≤ ns.length → ks.Nodup → ks.length = n → (∀ k, k ∈ ks ↔ k ∈ ns) → Q (.ref q) (upd H q (SetO w q (fun j => decide (j ∈ ns)) n))
theorem setR_keys {w : World} {h : Heap} {a : Addr} {S : Int → Bool} {n : Nat} (R : SetR w h a S n) : ∃ ks : List Int, ks.Nodup ∧ ks.length = n ∧ ∀ k, k ∈ ks ↔ S k = true := by
  obtain ⟨o, es, ep, t, ho, hex, hd, g, nd, hm, hb, hf, hn, _⟩ := R
  exact ⟨es.toList.map keyOf, nd, by rw [List.length_map, Array.length_toList, hn], fun k => (hm k).symm⟩
theorem cr_setI {X : Cx} (hc : X.calm = true) : CallR X (.type "set") (rSetI X.K X.w) := by
  intro pins s σ H xs us Q I r h
  obtain ⟨p, ns, rfl, hp, hz, q⟩ := h
  obtain ⟨u, rfl, ru⟩ := vals1 r
  obtain rfl : u = Value.ref p := ru
  have fin : ∀ (h' : Heap) (tk c : Nat), SetR X.w h' s.heap.objs.size (fun j => decide (j ∈ ns)) c → c ≤ ns.length → (∀ b o, s.heap.get? b = some o → h'.get? b = some o) → EP X pins σ Q (.ref s.heap.objs.size) { s with heap := h', toks := tk } := fun h' tk c R le k => by
    have fre : H s.heap.objs.size = none := I.hok.fresh (Nat.le_refl _)
    obtain ⟨ks, k1, k2, k3⟩ := setR_keys R
    have J : Inv X pins σ (upd H s.heap.objs.size (SetO X.w s.heap.objs.size (fun j => decide (j ∈ ns)) c)) { s with heap := h', toks := tk } := I.laid (t' := tk) k (Nat.le_refl _) (setO_new R)
    exact ⟨.ref s.heap.objs.size, _, J, rfl, q _ c ks fre le k1 k2 fun j => by rw [k3 j, decide_eq_true_eq]⟩
  rcases hp with hp | hp
  · obtain ⟨its, rv, pl, _⟩ := I.list hp
    exact set_of_list ns (I.ok.hd hc) pl.isList (ints_of_vals rv) (by unfold scanBound; omega) fin
  · obtain ⟨its, rv, pt, _⟩ := I.tuple hp
    exact call_set_tupI ns (I.ok.hd hc) (show s.heap.IsTuple p its.toArray from pt) (ints_of_vals rv) (by unfold scanBound; omega) fin
/-- len of such a set -/
theorem cr_lenSet {X : Cx} : CallR X (.builtin "len") (fun xs H Q => ∃ (a : Addr) (S : Int → Bool) (n : Nat), xs = [.ref a] ∧ H a = some (SetO X.w a S n) ∧ n ≤ 1000 ∧ Q (.int (n : Nat)) H) := by
  intro pins s σ H xs us Q I r h
  obtain ⟨a, S, n, rfl, ha, hz, q⟩ := h
  rw [Vals.ref1 r]
  obtain ⟨o, es, ep, t, ho, hex, hd, _, _, _, _, hf, hn, _⟩ := setO_get I ha
  exact call_len_set ho hex hd hf (by rw [hn] <;> omega) ⟨.int (n : Nat), H, I.tok _, ⟨_, by rw [hn]⟩, q⟩
end L2
/-! sets of texts: their table can be walked, so that they can be sorted -/
namespace L2
open PySem PySem.Spec PyProof.Rows
def txtOf (e : Int × Value) : Str := match e.2 with | .str z _ => z | _ => Str.empty
def put1 (ys : List Str) (z : Str) : List Str := if z ∈ ys then ys else z :: ys
/-- what a table of texts has: the entries es -/
structure TxtEs (w : World) (es : Array (Int × Value)) (t : SetTable) (ys : List Str) : Prop where
  each : ∀ e ∈ es.toList, ∃ z tk, e.2 = Value.str z tk ∧ e.1 = hashStr w z
  perm : (es.toList.map txtOf).Perm ys
  once : ys.Nodup
  few : es.size < scanBound
  fit : t.fits es.size = true
  up : Ris t.place.toList
  way : w.params.followText "set-order" = true ∨ t.led = true
def TxtTab (w : World) (h : Heap) (a : Addr) (ys : List Str) : Prop :=
  ∃ (o : Obj) (es : Array (Int × Value)) (ep : Nat) (t : SetTable), h.get? a = some o ∧ o.ExactSet ∧ o.data = .set es ep t ∧ TxtEs w es t ys
section
variable {P : Program} {w : World} {A : Around} {E : Value → Shared → Prop} {s : Shared} {a : Addr} {ys : List Str}
theorem TxtTab.move {h h' : Heap} (R : TxtTab w h a ys) (k : ∀ o, h.get? a = some o → h'.get? a = some o) : TxtTab w h' a ys := by
  obtain ⟨o, es, ep, t, g, r⟩ := R
  exact ⟨o, es, ep, t, k o g, r⟩
theorem TxtEs.size {es : Array (Int × Value)} {t : SetTable} (T : TxtEs w es t ys) : es.size = ys.length := by
  have := T.perm.length_eq
  rwa [List.length_map, Array.length_toList] at this
theorem TxtEs.elems {es : Array (Int × Value)} {t : SetTable} (T : TxtEs w es t ys) : ElemsOf (PySem.strKind P w) es.toList := fun e he => by
  obtain ⟨z, tk, e1, e2⟩ := T.each e he
  refine ⟨⟨z, ?_, e2⟩, ?_⟩
  · rw [e1]
    exact strKind_is P w z tk
  · rw [e1]
    rfl
theorem is_txt {e : Int × Value} {z y : Str} {tk : Tok} (h : e.2 = Value.str y tk) : (PySem.strKind P w).is z e.2 = true ↔ txtOf e = z := by
  unfold txtOf
  rw [h]
  refine ⟨fun q => ?_, fun q => ?_⟩
  · exact ((PySem.strKind P w).inj _ _ _ (strKind_is P w y tk) q)
  · rw [← (show y = z from q)]
    exact strKind_is P w y tk
theorem TxtEs.has {es : Array (Int × Value)} {t : SetTable} (T : TxtEs w es t ys) {z : Str} : z ∈ ys ↔ ∃ e ∈ es.toList, (PySem.strKind P w).is z e.2 = true := by
  rw [← T.perm.mem_iff, List.mem_map]
  refine ⟨fun ⟨e, he, q⟩ => ?_, fun ⟨e, he, q⟩ => ?_⟩
  · obtain ⟨_, _, e1, _⟩ := T.each e he
    exact ⟨e, he, (is_txt e1).mpr q⟩
  · obtain ⟨_, _, e1, _⟩ := T.each e he
    exact ⟨e, he, (is_txt e1).mp q⟩
theorem TxtEs.relay {es es' : Array (Int × Value)} {t t' : SetTable} (T : TxtEs w es t ys) (p : es'.toList.Perm es.toList) (f : t'.fits es'.size = true) (u : Ris t'.place.toList) (l : t'.led = t.led) : TxtEs w es' t' ys := by
  have z : es'.size = es.size := by
    have := p.length_eq
    rwa [Array.length_toList, Array.length_toList] at this
  exact ⟨fun e he => T.each e (p.mem_iff.mp he), (p.map txtOf).trans T.perm, T.once, by rw [z]; exact T.few, f, u, T.way.imp id fun q => by rw [l]; exact q⟩
theorem TxtEs.plain {es : Array (Int × Value)} {t : SetTable} (T : TxtEs w es t ys) : TxtEs w es { t with plain := false } ys :=
  ⟨T.each, T.perm, T.once, T.few, SetTable.fits_plain_off T.fit, T.up, T.way⟩
/-- what is done behind a new entry's laying -/
theorem txt_store {g : Bool → Sem Unit} (quiet : ∀ (b : Bool) (r : Shared) (R : Unit → Shared → Prop), R () r → wpAny (model P w) A (g b) R E r)
    {o : Obj} {es0 es : Array (Int × Value)} {ep : Nat} {t0 t : SetTable} (at_ : s.heap.get? a = some o) (ex : o.ExactSet) (dat : o.data = .set es0 ep t0) (T : TxtEs w es t ys) {wd : Bool} {R : Option Bool → Shared → Prop}
    (fin : ∀ h', Heap.SameBut a s.heap h' → TxtTab w h' a ys → R (some true) { s with heap := h' }) :
    wpAny (model P w) A (do
        storeSet a es t
        if (!wd && t.tooFull) = true then do
            g (relayAll t es (SetTable.grown es.size)).2.2
            storeSet a (relayAll t es (SetTable.grown es.size)).1 (relayAll t es (SetTable.grown es.size)).2.1
            pure (some true)
          else pure (some true)) R E s := by
  refine wpAny_bind (wpAny_storeSet_of at_ dat ?_ (fits_of_scanBound T.few))
  have at1 := store_at (es' := es) (t' := t) at_ dat
  have but1 := Heap.SameBut.update s.heap a (Obj.putSet es t)
  split
  · have T2 : TxtEs w (relayAll t es (SetTable.grown es.size)).1 (relayAll t es (SetTable.grown es.size)).2.1 ys := T.relay (relayAll_perm t es _) (relayAll_fits t es _) (relayAll_ris t es _) (relayAll_led t es _)
    revert T2
    generalize relayAll t es (SetTable.grown es.size) = L
    obtain ⟨es2, t2, gave⟩ := L
    intro T2
    refine wpAny_bind (quiet _ _ _ ?_)
    refine wpAny_bind (wpAny_storeSet_of at1 rfl ?_ (fits_of_scanBound T2.few))
    exact wpAny_pure (fin _ (but1.trans (Heap.SameBut.update _ a _)) ⟨_, es2, _, t2, store_at at1 rfl, ex, rfl, T2⟩)
  · exact wpAny_pure (fin _ but1 ⟨_, es, _, t, at1, ex, rfl, T⟩)
theorem gave_quiet (b : Bool) (r : Shared) (R : Unit → Shared → Prop) (h : R () r) : wpAny (model P w) A (match b with | true => rule "set.scan.the-table-gave-way" | false => pure ()) R E r := by
  cases b
  · exact wpAny_pure h
  · exact wpAny_rule h
/-- one more text -/
theorem txt_add {z : Str} {tk : Tok} {Q : Bool → Shared → Prop} (R : TxtTab w s.heap a ys) (room : ys.length + 1 < scanBound)
    (fin : ∀ h', Heap.SameBut a s.heap h' → TxtTab w h' a (put1 ys z) → ∀ b, Q b { s with heap := h' }) :
    wpAny (model P w) A (setAddHashed a (.str z tk) ((PySem.strKind P w).hash z)) Q E s := by
  obtain ⟨o, es, ep, t, at_, ex, dat, T⟩ := R
  have key : (PySem.strKind P w).is z (.str z tk) = true := strKind_is P w z tk
  have scan : (Value.str z tk).scannable = true := rfl
  have all : ElemsOf (PySem.strKind P w) es.toList := T.elems
  unfold setAddHashed setAddHashedIn
  refine wpAny_holding (wpAny_bind (wpAny_setState_of at_ dat T.fit ?_))
  dsimp only
  rw [byScan_of scan T.few all, if_pos rfl]
  unfold setAddByScan
  refine wpAny_bind ?_
  refine wpAny_bind (wpAny_rule ?_)
  refine wpAny_bind (wpAny_setScan_of key at_ dat T.fit all ?_)
  cases found : List.findIdx? (fun e => (PySem.strKind P w).is z e.2) es.toList with
  | some j =>
    obtain ⟨lt, yes, _⟩ := List.findIdx?_eq_some_iff_getElem.mp found
    have mem : z ∈ ys := (T.has (P := P)).mpr ⟨es.toList[j], List.getElem_mem lt, yes⟩
    refine wpAny_pure (wpAny_pure ?_)
    refine fin s.heap (Heap.SameBut.refl a s.heap) ?_ _
    rw [put1, if_pos mem]
    exact ⟨o, es, ep, t, at_, ex, dat, T⟩
  | none =>
    have mem : z ∉ ys := fun q => by
      obtain ⟨e, he, y⟩ := (T.has (P := P)).mp q
      have no := List.findIdx?_eq_none_iff.mp found e he
      rw [y] at no
      cases no
    have T1 : TxtEs w (layNew t es ((PySem.strKind P w).hash z) (.str z tk)).1 (layNew t es ((PySem.strKind P w).hash z) (.str z tk)).2.1 (z :: ys) := by
      have p0 := layNew_perm t es ((PySem.strKind P w).hash z) (.str z tk)
      rw [Array.toList_push] at p0
      have p1 := p0.trans (List.perm_append_singleton _ _)
      have size1 : (layNew t es ((PySem.strKind P w).hash z) (.str z tk)).1.size = ys.length + 1 := by
        have := p1.length_eq
        rw [Array.length_toList, List.length_cons, Array.length_toList, T.size] at this
        exact this
      refine ⟨fun e he => ?_, (p1.map txtOf).trans (List.Perm.cons z T.perm), List.nodup_cons.mpr ⟨mem, T.once⟩, by rw [size1]; exact room, layNew_fits t es _ _, layNew_ris t es _ _ T.up, T.way.imp id fun q => by rw [layNew_led]; exact q⟩
      rcases List.mem_cons.mp (p1.mem_iff.mp he) with q | q
      · rw [q]
        exact ⟨z, tk, rfl, rfl⟩
      · exact T.each e q
    dsimp only
    revert T1
    generalize layNew t es ((PySem.strKind P w).hash z) (.str z tk) = L
    obtain ⟨es1, t1, wd, gave⟩ := L
    intro T1
    have done : ∀ h', Heap.SameBut a s.heap h' → TxtTab w h' a (z :: ys) → ∀ b, Q b { s with heap := h' } := fun h' sb r b => by
      have q := fin h' sb
      rw [put1, if_neg mem] at q
      exact q r b
    dsimp only at T1 ⊢
    refine wpAny_bind (gave_quiet _ _ _ ?_)
    split
    · refine wpAny_bind ?_
      rw [hashByValue_scannable 8 scan]
      refine wpAny_pure ?_
      refine txt_store gave_quiet at_ ex dat (ys := z :: ys) ?_ ?_
      · first | exact T1.plain | (split <;> first | exact T1.plain | exact T1) | exact T1
      · intro h' sb r
        exact wpAny_pure (done h' sb r _)
    · refine wpAny_bind (wpAny_pure ?_)
      simp only [↓reduceIte]
      refine txt_store gave_quiet at_ ex dat T1 ?_
      intro h' sb r
      exact wpAny_pure (done h' sb r _)
end
end L2
namespace L2
open PySem PySem.Spec PyProof.Rows
/-- the texts of a list, each once -/
def onceOf (xs : List Str) : List Str := xs.foldl put1 []
theorem put1_len {ys : List Str} {z : Str} : (put1 ys z).length ≤ ys.length + 1 := by
  unfold put1
  split
  · omega
  · exact Nat.le_refl _
theorem mem_put1 {ys : List Str} {z y : Str} : y ∈ put1 ys z ↔ y ∈ ys ∨ y = z := by
  unfold put1
  split
  · rename_i h
    exact ⟨.inl, fun q => q.elim id fun e => e ▸ h⟩
  · rw [List.mem_cons]
    exact Or.comm
theorem mem_once {xs : List Str} : ∀ {ys : List Str} {y : Str}, y ∈ xs.foldl put1 ys ↔ y ∈ ys ∨ y ∈ xs := by
  induction xs with
  | nil => intro ys y; simp
  | cons x xs ih =>
    intro ys y
    rw [List.foldl_cons, ih, mem_put1, List.mem_cons, or_assoc]
theorem mem_onceOf {xs : List Str} {y : Str} : y ∈ onceOf xs ↔ y ∈ xs := by
  rw [onceOf, mem_once]
  simp
section
variable {P : Program} {w : World} {A : Around} {E : Value → Shared → Prop} {s : Shared}
theorem txt_new_at {h : Heap} {a : Addr} (g : h.get? a = some { cls := .type "set", dict := none, data := .set #[] 0 (.fresh 0 0 (!w.params.followText "set-order")) }) : TxtTab w h a [] := by
  refine ⟨_, #[], 0, _, g, ⟨rfl, rfl, rfl⟩, rfl, fun e he => absurd he (by simp), List.Perm.refl _, List.nodup_nil, (by decide), rfl, List.Pairwise.nil, ?_⟩
  show _ ∨ (!w.params.followText "set-order") = true
  cases w.params.followText "set-order"
  · exact .inr rfl
  · exact .inl rfl
theorem txt_loop {I : Addr} {fp wr : List Addr} {G : Array GenState → Array GenState → Prop} {n : Nat} {Pv : Nat → Value → Prop} {St : Nat → Shared → Prop} {R : Result → Shared → Prop}
    (W : WalksS P w A.in1 I fp wr G n Pv St) (S : Addr) (apart : S ∉ fp) (xs : List Str) (len : n = xs.length) (few : xs.length + 1 < scanBound) (vals : ∀ i v, Pv i v → ∃ z t, xs[i]? = some z ∧ v = .str z t) :
    ∀ (left i : Nat) (r : Shared), n - i = left → i ≤ n → St i r → (∃ ys, ys = (xs.take i).foldl put1 [] ∧ ys.length ≤ i ∧ TxtTab w r.heap S ys) →
      (∀ r', Moved (S :: wr) G r r' → (onceOf xs).length ≤ n → TxtTab w r'.heap S (onceOf xs) → R (.ok (.ret .none)) r') →
      codeAny (model P w) A (.builtin "set.update.loop" ⟨[.ref S, .ref I], []⟩) R r := by
  have off : S ∉ wr := fun q => apart (W.sub _ q)
  have wider : ∀ b ∈ wr, b ∈ S :: wr := fun b hb => List.mem_cons_of_mem _ hb
  intro left
  induction left with
  | zero =>
    intro i r e0 le st ⟨ys, ey, hl, T⟩ fin
    obtain rfl : i = n := by omega
    refine codeAny_builtin F.entry_set_update_loop ?_
    rw [Around.under_plainId F.plain_set_update_loop _]
    show wpAny _ A.in1 (pyNext (.ref I) >>= _) _ _ r
    refine wpAny_bind (W.done r _ _ st fun r' mv => ?_)
    show wpAny _ A.in1 (ret Value.none) _ _ r'
    rw [List.take_of_length_le (by omega)] at ey
    subst ey
    exact wpAny_pure (fin r' (mv.mono wider) hl (T.move fun o q => mv.heap S o off q))
  | succ left ih =>
    intro i r e0 le st ⟨ys, ey, hl, T⟩ fin
    have lt : i < n := by omega
    refine codeAny_builtin F.entry_set_update_loop ?_
    rw [Around.under_plainId F.plain_set_update_loop _]
    show wpAny _ A.in1 (pyNext (.ref I) >>= _) _ _ r
    refine wpAny_bind (W.item i r _ _ lt st fun v r' pv st' mv => ?_)
    obtain ⟨z, tk, ez, rfl⟩ := vals i v pv
    have T' : TxtTab w r'.heap S ys := T.move fun o q => mv.heap S o off q
    show wpAny _ A.in1 (holding [Value.str z tk] (setAdd S (.str z tk)) >>= _) _ _ r'
    refine wpAny_bind (wpAny_holding ?_)
    unfold setAdd
    refine wpAny_holding ?_
    refine wpAny_bind ((PySem.strKind P w).pyHash (k := z) (strKind_is P w z tk) ?_)
    refine txt_add (s := { r' with toks := r'.toks + 1 }) T' (by omega) fun h' but T2 b => ?_
    have ey2 : put1 ys z = (xs.take (i + 1)).foldl put1 [] := by
      rw [List.take_add_one, ez, List.foldl_append, ← ey]
      rfl
    have next : St (i + 1) { r' with heap := h', toks := r'.toks + 1 } := W.frame _ r' _ _ st' (Nat.le_succ _) fun c hc o q => by
      rw [but.2 c fun e : c = S => apart (e ▸ hc)]
      exact q
    refine wpAny_pure ⟨plainId_quiet F.plain_set_update_loop _, ih (i + 1) _ (by omega) lt next ⟨_, ey2, Nat.le_trans put1_len (by omega), T2⟩ fun r2 mv2 l2 T3 => ?_⟩
    refine fin r2 (Moved.trans W.gtrans ((mv.mono wider).then_heap (Nat.le_succ _) fun c o hc q => ?_) mv2) l2 T3
    rw [but.2 c fun e : c = S => hc (e ▸ List.mem_cons_self)]
    exact q
/-- set(l), l a list of texts -/
theorem set_of_texts {l : Addr} {items : Array Value} (xs : List Str) {Q : Value → Shared → Prop} (hh : A.handled = none) (pl : s.heap.IsList l items) (isS : StrsAre items.toList xs) (few : xs.length + 1 < scanBound)
    (h : ∀ (h' : Heap) (tk : Nat), TxtTab w h' s.heap.objs.size (onceOf xs) → (∀ b o, s.heap.get? b = some o → h'.get? b = some o) → Q (.ref s.heap.objs.size) { s with heap := h', toks := tk }) :
    wpAny (model P w) A (call (.type "set") [.ref l]) Q E s := by
  have size : items.size = xs.length := by
    have z := StrsAre.len_eq isS
    rw [Array.length_toList] at z
    exact z
  obtain ⟨c, tl, mro⟩ := F.called_set.mro
  have made := F.called_set.made
  have sub := F.called_set.sub
  refine wpAny_call (codeAny_of_tree ?_)
  show wpAny _ _ (callAny (.type "set") _) _ _ _
  refine wpAny_pure ⟨Code.quiet_builtin _ (by decide +kernel), codeAny_builtin F.entry_type_call ?_⟩
  rw [Around.under_plain (weight_type_call_type "set" [.ref l] []) rfl]
  have n1 := F.called_set.notType
  have n2 := F.called_set.canCreate
  have n3 := F.typeCall_set_1 (.ref l)
  repeat (any_goals (first | assumption | wp_step))
  refine codeAny_mono (code_set_led1 (.ref l) (E := E) (Q₁ := fun v t => v = .ref s.heap.objs.size ∧ t = { s with heap := s.heap.push (newSet w) }) ⟨rfl, rfl⟩) fun r s₁ hr => ?_
  cases r with
  | error e => exact hr
  | ok fl =>
    cases fl with
    | next => exact hr.elim
    | brk => exact hr.elim
    | cont => exact hr.elim
    | ret obj =>
      obtain ⟨rfl, rfl⟩ := hr
      have there : (s.heap.push (newSet w)).get? s.heap.objs.size = some (newSet w) := Heap.get?_push_size _ rfl
      have isSet : Shared.TypeIs { s with heap := s.heap.push (newSet w) } (.ref s.heap.objs.size) "set" := ⟨_, there, rfl⟩
      have li := F.called_set.init.lookup
      have bi := F.called_set.init.bind (.ref s.heap.objs.size)
      repeat (any_goals (first | assumption | wp_step))
      refine codeAny_mono (codeAny_call_builtin (R := wants (fun r s₂ => r = .none ∧ ∃ h' tk, s₂ = { s with heap := h', toks := tk } ∧ TxtTab w h' s.heap.objs.size (onceOf xs) ∧
          (∀ b o, s.heap.get? b = some o → h'.get? b = some o)) E) F.called_set.init.plain F.entry_set_init (check_set_init_1 isSet ?_)) fun r₂ s₂ hr₂ => ?_
      · obtain ⟨⟨k1, k2, k3, k4⟩, got, e1, n, e2⟩ := pl
        simp only at e1 e2
        subst e1 e2
        have got' : (s.heap.push (newSet w)).get? l = some { cls := .type "list", dict := k2, data := .seq items n, slots := k4 } := Heap.get?_push_of_some _ got
        have s1 := PySem.F.sub_list_set
        have s2 := PySem.F.sub_list_frozenset
        have s3 : (Value.type "list" == Value.type "dict") = false := by decide
        have pl1 : (s.heap.push (newSet w)).IsList l items := ⟨_, got', rfl, n, rfl⟩
        unfold Builtin.«set.__init__» noKeywords Builtin.Frozenset.updateFrom
        generalize hPI : pyIter = PI
        wp_walk
        subst hPI
        refine wpAny_pyIter_list pl1 ?_
        refine wpAny_bind (wpAny_runValue ?_)
        have below : l < s.heap.objs.size := Heap.lt_size got
        have calm3 : A.in1.in1.in1.handled = none := by simp [hh]
        have far : l ≠ (s.heap.push (newSet w)).objs.size := by
          rw [Heap.size_push]
          exact Nat.ne_of_lt (Nat.lt_succ_of_lt below)
        have apart : s.heap.objs.size ∉ [(s.heap.push (newSet w)).objs.size, l] := by
          rw [Heap.size_push]
          simp only [List.mem_cons, List.mem_singleton, List.not_mem_nil, or_false, not_or]
          exact ⟨Nat.ne_of_lt (Nat.lt_succ_self _), Nat.ne_of_gt below⟩
        have vals : ∀ (i : Nat) (v : Value), items[i]? = some v → ∃ z t, xs[i]? = some z ∧ v = .str z t := fun i v hv => by
          have hi : i < xs.length := by
            rw [← size]
            exact (Array.getElem?_eq_some_iff.mp hv).1
          obtain ⟨t, e⟩ := SS.strs_at isS i v (by rw [Array.getElem?_toList]; exact hv)
          refine ⟨xs[i], t, List.getElem?_eq_getElem hi, ?_⟩
          rw [e, List.getD_eq_getElem?_getD, List.getElem?_eq_getElem hi] <;> rfl
        refine txt_loop ((Walks.list calm3 _ l far items).toS) s.heap.objs.size apart xs size few vals (items.size - 0) 0 _ (by omega) (Nat.zero_le _) ⟨⟨_, Heap.get?_push_size _ rfl, rfl, rfl⟩, pl1.push _⟩ ?start ?fin
        case start =>
          have again : ((s.heap.push (newSet w)).push { cls := .type "list_iterator", data := .fields #[.ref l, .int 0 0] }).get? s.heap.objs.size = some (newSet w) := Heap.get?_push_of_some _ there
          exact ⟨[], rfl, Nat.le_refl 0, txt_new_at again⟩
        case fin =>
          intro t moved le R
          obtain ⟨h', g2, d', tk', os'⟩ := t
          have eg : g2 = s.gens := moved.gens
          have ed : d' = s.drawn := moved.drawn
          have eo : os' = s.os := moved.os
          subst eg ed eo
          show wpAny _ _ _ _ _ _
          refine wpAny_pure ?_
          show wpAny _ _ (ret Value.none) _ _ _
          refine wpAny_pure ⟨rfl, h', tk', rfl, R, fun b o e => ?_⟩
          have b0 : b < s.heap.objs.size := Heap.lt_size e
          refine moved.heap b o ?_ (Heap.get?_push_of_some _ (Heap.get?_push_of_some _ e))
          simp only [List.mem_cons, List.mem_singleton, List.not_mem_nil, or_false, not_or]
          refine ⟨Nat.ne_of_lt b0, ?_⟩
          rw [Heap.size_push]
          exact Nat.ne_of_lt (Nat.lt_succ_of_lt b0)
      · cases r₂ with
        | error e => exact hr₂
        | ok fl₂ =>
          cases fl₂ with
          | next => exact hr₂.elim
          | brk => exact hr₂.elim
          | cont => exact hr₂.elim
          | ret r2 =>
            obtain ⟨rfl, h', tk, rfl, R, k⟩ := hr₂
            repeat (any_goals (first | assumption | wp_step))
            exact h _ _ R k
theorem strs_of : ∀ (l : List Value), (∀ v ∈ l, ∃ z tk, v = Value.str z tk) → StrsAre l (l.map fun v => txtOf (0, v))
  | [], _ => .nil
  | v :: l, h => by
    obtain ⟨k, tk, rfl⟩ := h v List.mem_cons_self
    exact .cons k tk (strs_of l fun u hu => h u (List.mem_cons_of_mem _ hu))
/-- sorted of a set of texts -/
theorem sorted_texts {a : Addr} {ys : List Str} {Q : Value → Shared → Prop} (R : TxtTab w s.heap a ys) (hh : A.handled = none) (few : ys.length < 64)
    (fin : ∀ r p (out : Array Value) (c : Nat) (zs : List Str), (∀ b o, s.heap.get? b = some o → r.heap.get? b = some o) → r.gens = s.gens → r.os = s.os → s.heap.objs.size ≤ p →
      r.heap.get? p = some (seqObj "list" out c) → StrsAre out.toList zs → zs.Perm ys → sortedS zs = true → Q (.ref p) r) :
    wpAny (model P w) A (call (.builtin "sorted") [.ref a]) Q E s := by
  obtain ⟨o, es, ep, t, at_, ex, dat, T⟩ := R
  refine Calls.call_function_entry kind_sorted plain_sorted entry_sorted (args_sorted1 _) ?_
  unfold Builtin.«sorted»
  refine wpAny_bind (m := checkCount "sorted" 1 1 _) (wpAny_pure ?_)
  refine wpAny_bind (collect_set (A := A.in1) hh ⟨o, at_, ex.1, dat⟩ T.fit T.few T.up T.way fun r vs keep grow g1 o1 pm => ?_)
  have len : vs.length = ys.length := by
    rw [pm.length_eq, List.length_map, Array.length_toList]
    exact T.size
  have isS : StrsAre vs (vs.map fun v => txtOf (0, v)) := strs_of vs fun v hv => by
    obtain ⟨e, he, q⟩ := List.mem_map.mp (pm.mem_iff.mp hv)
    obtain ⟨z, tk, e1, _⟩ := T.each e he
    exact ⟨z, tk, q ▸ e1⟩
  have perm : (vs.map fun v => txtOf (0, v)).Perm ys := by
    have q := pm.map fun v => txtOf (0, v)
    rw [List.map_map] at q
    exact q.trans T.perm
  refine wpAny_bind (wpAny_newList ?_ (by rw [len, sizeLine_eq]; omega))
  have got : (r.heap.push (seqObj "list" vs.toArray 0)).get? r.heap.objs.size = some (seqObj "list" vs.toArray 0) := Heap.get?_push_size _ rfl
  refine wpAny_bind (wpAny_holding (wpAny_call_entry slot_list_sort ⟨_, got, rfl⟩ entry_list_sort
    (list_sort_treeK strKind_oneLt got isS.keysOf (fun v₁ v₂ rest e => keyKind_strs (by rw [← e]; exact isS)) (by rw [len]; exact few) fun st hp hs => ⟨_, rfl, ?_⟩) (args_list_sort _)))
  obtain ⟨zs, a1, a2, a3⟩ := sorted_out_str isS hp hs
  obtain ⟨c, at2⟩ := sortedHeap_at (vs := vs) (out := _) got
  refine wpAny_pure ⟨_, rfl, fin _ r.heap.objs.size _ c zs (fun b u e => ?_) g1 o1 grow at2 a1 (a2.trans perm) a3⟩
  have q := keep b u e
  have lt := Heap.lt_size q
  show (sortedHeap (r.heap.push (seqObj "list" vs.toArray 0)) r.heap.objs.size vs _).get? b = some u
  rw [sortedHeap_old (Nat.ne_of_lt lt) (by rw [size_push']; exact Nat.lt_succ_of_lt lt)]
  exact Heap.get?_push_of_some _ q
end
end L2
namespace L2
open PySem PySem.Spec PyProof.Rows
/-- the set of texts at a -/
def SetT (w : World) (a : Addr) (ys : List Str) : HO := .ext fun h => TxtTab w h a ys
section
variable {X : Cx} {pins : List (Addr × Obj)} {σ : St} {H : Hp} {s : Shared} {a : Addr} {ys : List Str}
theorem setT_new {w : World} {P : Program} {h : Heap} (R : TxtTab w h a ys) : ObjOk P w H h a (SetT w a ys) := by
  have ⟨o, _, _, _, g, _⟩ := R
  exact ⟨R, ⟨o, g⟩, fun _ _ p k => p.move k⟩
theorem setT_get (I : Inv X pins σ H s) (ha : H a = some (SetT X.w a ys)) : TxtTab X.w s.heap a ys := (I.hok a _ ha).1
/-- set(xs), texts in a list -/
def rSetT (K : PySem.W.Frag) (w : World) : List V → Hp → VK → Prop := fun vs H Q => ∃ (p : Addr) (xs : List Str), vs = [.ref p] ∧ SqL K H p (xs.map V.str) ∧ xs.length ≤ 1000 ∧
  ∀ q : Addr, H q = none → Q (.ref q) (upd H q (SetT w q (onceOf xs)))
theorem cr_setT (hc : X.calm = true) : CallR X (.type "set") (rSetT X.K X.w) := by
  intro pins s σ H xs us Q I r h
  obtain ⟨p, ns, rfl, hp, hz, q⟩ := h
  obtain ⟨u, rfl, ru⟩ := vals1 r
  obtain rfl : u = Value.ref p := ru
  obtain ⟨its, rv, pl, _⟩ := I.list hp
  refine set_of_texts ns (I.ok.hd hc) pl.isList rv.strs (by unfold scanBound; omega) fun h' tk R k => ?_
  have fre : H s.heap.objs.size = none := I.hok.fresh (Nat.le_refl _)
  have J : Inv X pins σ (upd H s.heap.objs.size (SetT X.w s.heap.objs.size (onceOf ns))) { s with heap := h', toks := tk } := I.laid (t' := tk) k (Nat.le_refl _) (setT_new R)
  exact ⟨.ref s.heap.objs.size, _, J, rfl, q _ fre⟩
/-- sorted of such a set, fewer than 64 members -/
def rSortedT (w : World) : List V → Hp → VK → Prop := fun vs H Q => ∃ (a : Addr) (ys : List Str), vs = [V.ref a] ∧ H a = some (SetT w a ys) ∧ ys.length < 64 ∧
  ∀ (zs : List Str) (p : Addr), zs.Perm ys → sortedS zs = true → H p = none → Q (.ref p) (upd H p (.lst (zs.map V.str)))
theorem cr_sortedT (hc : X.calm = true) : CallR X (.builtin "sorted") (rSortedT X.w) := by
  intro pins s σ H vs us Q I r h
  obtain ⟨a, ys, rfl, ha, h64, q⟩ := h
  have R := setT_get I ha
  rw [Vals.ref1 r]
  refine sorted_texts R (I.ok.hd hc) h64 fun s' p out c zs k g o hp hg hi pm hs => ?_
  have hlen : (zs.map V.str).length ≤ sizeLine := by
    rw [List.length_map, pm.length_eq, sizeLine_eq]
    omega
  have hn : H p = none := I.hok.fresh hp
  have J : Inv X pins σ (upd H p (.lst (zs.map V.str))) { s with heap := s'.heap, gens := s'.gens, drawn := s'.drawn, toks := s'.toks } :=
    I.call (ch := []) (Un.laid k hp hn) (I.hok.laid k hp ⟨hlen, out.toList, c, vals_of_strs hi, hg⟩) (by rw [g]; exact I.bare) (fun _ z => nomatch z)
  have e : s' = { s with heap := s'.heap, gens := s'.gens, drawn := s'.drawn, toks := s'.toks } := by
    cases s'
    cases s
    cases o
    rfl
  rw [e]
  exact ⟨.ref p, _, J, rfl, q zs p pm hs hn⟩
end
end L2
namespace L2
open PySem PySem.Spec PyProof.Rows
/-- sorted(xs), ints in a list or a tuple -/
def rSortedA (K : PySem.W.Frag) : List V → Hp → VK → Prop := fun vs H Q => ∃ (a : Addr) (ns : List Int), vs = [V.ref a] ∧ (SqL K H a (ns.map V.int) ∨ SqT K H a (ns.map V.int)) ∧
  ∀ (out : List Int) (p : Addr), out.Perm ns → out.Pairwise (· ≤ ·) → H p = none → Q (.ref p) (upd H p (.lst (out.map V.int)))
theorem cr_sortedA {X : Cx} : CallR X (.builtin "sorted") (rSortedA X.K) := by
  intro pins s σ H vs us Q I r h
  obtain ⟨a, ns, rfl, hs, q⟩ := h
  rw [Vals.ref1 r]
  obtain ⟨T, o, its, n, hT, ho, hc, hd, rv, hz⟩ : ∃ (T : String) (o : Obj) (its : List Value) (n : Nat), (T = "list" ∨ T = "tuple") ∧ s.heap.get? a = some o ∧ o.cls = .type T ∧ o.data = .seq its.toArray n ∧ Vals (ns.map V.int) its ∧ (ns.map V.int).length ≤ sizeLine := by
    rcases hs with hs | hs
    · obtain ⟨its, rv, pl, hz⟩ := I.list hs
      obtain ⟨o, ho, hc, n, hd⟩ := pl.isList
      exact ⟨"list", o, its, n, .inl rfl, ho, hc, hd, rv, hz⟩
    · obtain ⟨its, rv, ⟨o, ho, hc, n, hd⟩, hz⟩ := I.tuple hs
      exact ⟨"tuple", o, its, n, .inr rfl, ho, hc, hd, rv, hz⟩
  have hi := rv.ints
  have hz' : its.length ≤ sizeLine := by
    rw [← rv.length]
    exact hz
  refine Calls.call_function_entry kind_sorted plain_sorted entry_sorted (args_sorted1 _) ?_
  unfold Builtin.«sorted»
  refine wpAny_bind (m := checkCount "sorted" 1 1 _) (wpAny_pure ?_)
  refine wpAny_bind (wpAny_collect_seq a hT ho hc hd (fun h' k => ?_) (by rw [List.size_toArray]; exact hz'))
  refine wpAny_bind (wpAny_newList ?_ (by simpa using hz'))
  have there : (h'.push { cls := .type "list", data := .seq its.toArray }).get? h'.objs.size = some (seqObj "list" its.toArray 0) := Heap.get?_push_size _ rfl
  have fin : ∀ out : List Value, SrtO.Srtd SrtO.ltIv out → SrtO.Stb SrtO.ltIv out its → EP X pins σ Q (.ref h'.objs.size) { s with heap := sortedHeap (h'.push { cls := .type "list", data := .seq its.toArray }) h'.objs.size its out.toArray } := fun out h1 h2 => by
    obtain ⟨k1, k2, k3⟩ := SrtO.ints_out hi h1 h2
    obtain ⟨ep, he⟩ := sortedHeap_at (vs := its) (out := out.toArray) there
    have fresh : s.heap.get? h'.objs.size = none := by
      cases e : s.heap.get? h'.objs.size with
      | none => rfl
      | some u => exact absurd (Heap.lt_size (k _ u e)) (Nat.lt_irrefl _)
    have freH : H h'.objs.size = none := I.hok.gone fresh
    have len : ((out.map SrtO.iv).map V.int).length ≤ sizeLine := by
      rw [List.length_map, k2.length_eq]
      rw [List.length_map] at hz
      exact hz
    exact ⟨.ref _, upd H h'.objs.size (.lst ((out.map SrtO.iv).map V.int)), I.laidN (t' := s.toks) (fun b u e => by
      have hb : b < h'.objs.size := Heap.lt_size (k b u e)
      rw [sortedHeap_old (Nat.ne_of_lt hb) (Nat.lt_of_lt_of_le hb (by rw [Heap.size_push]; exact Nat.le_succ _))]
      exact Heap.get?_push_of_some _ (k b u e)) fresh freH ⟨len, out, ep, vals_of_ints k1, he⟩, rfl, q _ _ k2 k3 freH⟩
  refine wpAny_bind (wpAny_holding (wpAny_call_entry slot_list_sort ⟨_, there, rfl⟩ entry_list_sort (SrtO.list_sort_ord SrtO.swo_int there (by simpa using hz') (fun h2 => SrtO.ints_sortable hi (by simpa using h2)) fun out h1 h2 => ⟨_, rfl, ?_⟩) (args_list_sort _)))
  exact wpAny_pure ⟨_, rfl, fin out h1 h2⟩
end L2
namespace L3
open PySem PySem.Spec PyProof.Rows
open L2 LamX NdefX
abbrev TabL := List (Addr × Str)
def notTbl : HO → Bool
  | .tbl _ => false
  | _ => true
theorem notTbl_ne {o : HO} (h : notTbl o = true) (ps : Array Value) : o ≠ .tbl ps := fun z => by
  rw [z] at h
  cases h
/-- what was known is known still, but for tables of code objects -/
structure Ex (H J : Hp) : Prop where
  ext : ∀ b o, H b = some o → notTbl o = true → J b = some o
theorem Ex.at {H J : Hp} (s : Ex H J) (b : Addr) (o : HO) (e : H b = some o) (n : notTbl o = true := by rfl) : J b = some o := s.ext b o e n
instance {H J : Hp} : CoeFun (Ex H J) (fun _ => ∀ b o, H b = some o → (n : notTbl o = true := by rfl) → J b = some o) := ⟨fun e => @Ex.at H J e⟩
theorem exOf {H J : Hp} (s : Same H J) : Ex H J := ⟨fun b o e _ => s b o e⟩
instance {H J : Hp} : Coe (Same H J) (Ex H J) := ⟨exOf⟩
theorem Ex.refl (H : Hp) : Ex H H := ⟨fun _ _ e _ => e⟩
theorem Ex.trans {H J M : Hp} (a : Ex H J) (b : Ex J M) : Ex H M := ⟨fun c o e n => b.ext c o (a.ext c o e n) n⟩
theorem Ex.seq {K : PySem.W.Frag} {H J : Hp} {a : Addr} {xs : List V} (s : Ex H J) (h : SqL K H a xs) : SqL K J a xs := by
  rcases h with (h | ⟨o, h⟩) | h
  · exact .inl (.inl (s _ _ h))
  · exact .inl (.inr ⟨o, s _ _ h⟩)
  · exact .inr h
theorem Ex.seqT {K : PySem.W.Frag} {H J : Hp} {a : Addr} {xs : List V} (s : Ex H J) (h : SqT K H a xs) : SqT K J a xs := by
  rcases h with (h | ⟨o, h⟩) | h
  · exact .inl (.inl (s _ _ h))
  · exact .inl (.inr ⟨o, s _ _ h⟩)
  · exact .inr h
/-- .. and nothing that was known is unknown, and the tables T are as they should be -/
structure SameN (T : TabL) (H J : Hp) : Prop where
  ex : Ex H J
  back : ∀ b, J b = Option.none → H b = Option.none
  tabs : Tabs T J
instance {T : TabL} {H J : Hp} : CoeFun (SameN T H J) (fun _ => ∀ b o, H b = some o → (n : notTbl o = true := by rfl) → J b = some o) := ⟨fun e => @Ex.at H J e.ex⟩
instance {T : TabL} {H J : Hp} : CoeOut (SameN T H J) (Ex H J) := ⟨fun s => s.ex⟩
theorem toN {T : TabL} {H J : Hp} (t : Tabs T H) (s : Same H J) : SameN T H J := ⟨s, fun _ e => s.free e, t.ext s⟩
theorem SameN.refl {T : TabL} {H : Hp} (t : Tabs T H) : SameN T H H := ⟨.refl H, fun _ e => e, t⟩
theorem SameN.trans {T : TabL} {H J M : Hp} (a : SameN T H J) (b : SameN T J M) : SameN T H M := ⟨a.ex.trans b.ex, fun c e => a.back c (b.back c e), b.tabs⟩
/-- .. and then the same -/
theorem SameN.on {T : TabL} {H J M : Hp} (a : SameN T H J) (s : Same J M) : SameN T H M := a.trans (toN a.tabs s)
theorem SameN.free {T : TabL} {H J : Hp} (a : SameN T H J) {b : Addr} (e : J b = Option.none) : H b = Option.none := a.back b e
theorem SameN.seq {T : TabL} {K : PySem.W.Frag} {H J : Hp} {a : Addr} {xs : List V} (s : SameN T H J) (h : SqL K H a xs) : SqL K J a xs := s.ex.seq h
theorem SameN.seqT {T : TabL} {K : PySem.W.Frag} {H J : Hp} {a : Addr} {xs : List V} (s : SameN T H J) (h : SqT K H a xs) : SqT K J a xs := s.ex.seqT h
theorem exN {H J : Hp} (e : ExtN H J) : Ex H J := ⟨fun b o q n => e b o q (notTbl_ne n)⟩
/-- a table written on, or anything else but a known thing -/
theorem tabs_but {T : TabL} {H J : Hp} (t : Tabs T H) (k : ∀ b o, H b = some o → (∀ p ∈ T, p.1 = b → J b = some o) ∧ (∀ q, o = CodeO b q → J b = some o)) : Tabs T J := fun p mp => by
  obtain ⟨ps, h1, h2, h3⟩ := t p mp
  refine ⟨ps, (k _ _ h1).1 p mp rfl, h2, fun pos cv hc => ?_⟩
  obtain ⟨c, e1, e2⟩ := h3 pos cv hc
  exact ⟨c, e1, (k _ _ e2).2 _ rfl⟩
/-- a list that is not of H is written on -/
theorem SameN.put {T : TabL} {H J : Hp} {b : Addr} {xs ys : List V} (h : SameN T H J) (hb : H b = Option.none) (e : J b = some (.lst xs)) : SameN T H (upd J b (.lst ys)) := by
  refine ⟨⟨fun c o q n => ?_⟩, fun c q => ?_, tabs_but h.tabs fun c o q => ⟨fun p mp z => ?_, fun w z => ?_⟩⟩
  · rw [upd_ne (ne_of_none q hb)]
    exact h.ex.ext c o q n
  · by_cases z : c = b
    · rw [z]
      exact hb
    · rw [upd_ne z] at q
      exact h.back c q
  · have nb : c ≠ b := fun w => by
      obtain ⟨ps, e1, _⟩ := h.tabs p mp
      rw [z, w, e] at e1
      cases e1
    rw [upd_ne nb]
    exact q
  · have nb : c ≠ b := fun v => by
      rw [v, e, z] at q
      cases q
    rw [upd_ne nb]
    exact q
section
variable {X : Cx} {pins : List (Addr × Obj)} {σ : L2.St} {H : Hp} {s : Shared}
/-- a lambda made: nothing that was known is unknown then -/
theorem lam_new {T : TabL} {c P : Addr} {params : Arguments} {body : Expr} {scope : Scope} {pos : Pos} {E Q : Value → Shared → Prop} (I : Inv X pins σ H s) (TB : TabB X.base X.mg c P)
    (hcd : X.env.code = .ref c) (hm : (P, X.env.qual ++ "<lambda>") ∈ T) (hu : ∀ p ∈ T, p.1 = P → p.2 = X.env.qual ++ "<lambda>") (tT : Tabs T H)
    (hdf : defaultsOf params X.env = ([], [])) (hfr : ∀ y ∈ scope.names, y.2 = .free → ∃ c, X.env.cells.lookup y.1 = some c)
    (go : ∀ (f c' : Addr) (pm ctv : Value) (J : Hp) (u : Shared), Inv X pins σ J u → SameN T H J →
      u.heap.get? f = some (PySem.W.kla_obj "<lambda>" (X.env.qual ++ "<lambda>") params body scope (cloFrom X.env.cells scope.names []) pm c' ctv) → J f = none → f ∉ frs X.stack →
      J c' = some (CodeO c' (X.env.qual ++ "<lambda>")) → Q (.ref f) u) :
    wpAny (model X.prog X.w) X.A (eval (.Lambda params body scope pos) X.env) Q E s := by
  obtain ⟨ps, eP, trip, among⟩ := tT _ hm
  apply PySem.W.kla_eval hdf
  have bltP := TB.bm.keeps I.bk
  have getP : s.heap.get? P = some { cls := .none, data := .fields ps } := I.hok P _ eP
  have frameless : ∀ f, s.heap.objs.size ≤ f → f ∉ frs X.stack := fun f le m => by
    rcases List.mem_cons.mp (I.stkSub _ m) with z | z
    · have lt := I.lt
      rw [← z] at lt
      exact absurd (Nat.lt_of_lt_of_le lt le) (Nat.lt_irrefl _)
    · exact I.nofs le z
  cases ec : codeAmong pos ps.toList with
  | some cv =>
    obtain ⟨c', rfl, known⟩ := among pos cv ec
    refine PySem.W.kla_makeFunctionHit (mg := X.mg) (c := c) (P := P) (ps := ps) (closure_ok hfr) I.ok.glob (I.mod.glob.keeps I.bk) hcd (TB.code.keeps I.bk) getP trip ec bltP fun ctv g tk kp sz => ?_
    refine go g.objs.size c' ((X.mg "__name__").getD .none) ctv H _ (I.kept fun b o e => Heap.get?_push_of_some _ (kp b o e)) (SameN.refl tT) (Heap.get?_push_size _ rfl) (I.hok.fresh sz) (frameless _ sz) known
  | none =>
    refine PySem.W.kla_makeFunction (mg := X.mg) (c := c) (P := P) (ps := ps) (closure_ok hfr) I.ok.glob (I.mod.glob.keeps I.bk) hcd (TB.code.keeps I.bk) getP trip ec TB.gP bltP fun c' ctv g tk kp ge lt ⟨c2, oc, vs, t, ez, goc, gd, gv⟩ gtab => ?_
    obtain rfl : c' = c2 := by
      cases ez
      rfl
    have sz : s.heap.objs.size ≤ g.objs.size := by omega
    have fresh : H c' = none := I.hok.fresh ge
    generalize eh : g.push (PySem.W.kla_obj "<lambda>" (X.env.qual ++ "<lambda>") params body scope (cloFrom X.env.cells scope.names []) ((X.mg "__name__").getD .none) c' ctv) = g2
    have up : ∀ b o, g.get? b = some o → g2.get? b = some o := fun b o e => by
      rw [← eh]
      exact Heap.get?_push_of_some _ e
    have I2 := inv_table (t' := tk) (more := #[rawInt pos.line, rawInt pos.col, .ref c']) (h' := g2) I eP (fun b o n e => up b o (kp b o n e)) (up _ _ gtab) ge ⟨oc, vs, t, up _ _ goc, gd, gv⟩
    have nPc : P ≠ c' := fun z => by
      rw [z, fresh] at eP
      cases eP
    have grow : ExtN H (upd (upd H P (.tbl (ps ++ #[rawInt pos.line, rawInt pos.col, .ref c']))) c' (CodeO c' (X.env.qual ++ "<lambda>"))) := fun b o e n => by
      have n1 : b ≠ c' := fun z => by
        rw [z, fresh] at e
        cases e
      have n2 : b ≠ P := fun z => by
        rw [z, eP] at e
        exact n ps (Option.some.inj e).symm
      rw [upd_ne n1, upd_ne n2]
      exact e
    have gone : ∀ b, (upd (upd H P (.tbl (ps ++ #[rawInt pos.line, rawInt pos.col, .ref c']))) c' (CodeO c' (X.env.qual ++ "<lambda>"))) b = none → H b = none := fun b e => upd_none (upd_none e)
    have apart : (ps ++ #[rawInt pos.line, rawInt pos.col, .ref c']).toList = ps.toList ++ [rawInt pos.line, rawInt pos.col, .ref c'] := by simp
    have T2 : Tabs T (upd (upd H P (.tbl (ps ++ #[rawInt pos.line, rawInt pos.col, .ref c']))) c' (CodeO c' (X.env.qual ++ "<lambda>"))) := fun p mp => by
      by_cases w : p.1 = P
      · rw [hu p mp w, w]
        refine ⟨ps ++ #[rawInt pos.line, rawInt pos.col, .ref c'], by rw [upd_ne nPc, upd_same], ?_, fun pos2 cv2 e2 => ?_⟩
        · rw [apart]
          exact PySem.TriplesOk_snoc _ _ _ _ trip
        · rw [apart] at e2
          rcases among_app _ trip e2 with z | z
          · obtain ⟨c0, z1, z2⟩ := among pos2 cv2 z
            exact ⟨c0, z1, grow _ _ z2 codeO_ne⟩
          · exact ⟨c', z, upd_same⟩
      · obtain ⟨qs, q1, q2, q3⟩ := tT p mp
        have n1 : p.1 ≠ c' := fun z => by
          rw [z, fresh] at q1
          cases q1
        refine ⟨qs, by rw [upd_ne n1, upd_ne w]; exact q1, q2, fun pos2 cv2 e2 => ?_⟩
        obtain ⟨c0, z1, z2⟩ := q3 pos2 cv2 e2
        exact ⟨c0, z1, grow _ _ z2 codeO_ne⟩
    have at2 : g2.get? g.objs.size = some (PySem.W.kla_obj "<lambda>" (X.env.qual ++ "<lambda>") params body scope (cloFrom X.env.cells scope.names []) ((X.mg "__name__").getD .none) c' ctv) := by
      rw [← eh]
      exact Heap.get?_push_size _ rfl
    refine go g.objs.size c' ((X.mg "__name__").getD .none) ctv _ _ I2 ⟨exN grow, gone, T2⟩ at2 ?_ (frameless _ sz) upd_same
    have nP : g.objs.size ≠ P := Nat.ne_of_gt (Nat.lt_of_lt_of_le (Heap.lt_size getP) sz)
    rw [upd_ne (Nat.ne_of_gt lt), upd_ne nP]
    exact I.hok.fresh sz
end
/-! ### a lambda's promise -/
/-- of the lambda's words F and its body, called with us; sp tells of what its captured names hold, of the arguments and the heap -/
structure LamFn (P : Program) (w : World) (K : PySem.W.Frag) (mg : Str → Option Value) (base : Heap) (CX : CXT) (k : Nat) (F : NF) (body : Expr) (ps fr : List Str) (sp : List (Option V) → Sp) : Prop where
  len : ∀ ws vs H Q E, sp ws vs H Q E → vs.length = ps.length
  run : ∀ (A : Around) (outer : List Env) (s : Shared) (H : Hp) (f : Addr) (pm ctv : Value) (us : List Value) (vs : List V) (ws : List (Option V)) (Q : VK) (E : XK), Room k A → Env0 P w K mg base A outer s H →
    s.heap.get? f = some (PySem.W.kla_obj "<lambda>" F.qual F.params body F.scope F.cl pm F.c ctv) → H F.c = some (CodeO F.c F.qual) → CellsAt F.cl fr ws s.heap H → Vals vs us → sp ws vs H Q E →
    codeAny (model P w) A (.call (.ref f) ⟨us, []⟩) (CR CX outer P w H s Q E) s
theorem lamfn_of {CX : CXT} {P : Program} {w : World} {K : PySem.W.Frag} {mg : Str → Option Value} {base : Heap} {N ps fr : List Str} {F : NF} {body : Expr} {k : Nat} {sp : List (Option V) → Sp} (S : NScope N ps fr F.scope)
    (hb : ∀ (pm ctv : Value) (us : List Value), us.length = ps.length → bindArgs (PySem.W.kla_fn "<lambda>" F.qual F.params body F.scope F.cl pm (.ref F.c) ctv) ⟨us, []⟩ = pure (ps.zip us))
    (len : ∀ ws vs H Q E, sp ws vs H Q E → vs.length = ps.length)
    (hbody : ∀ (A : Around) (outer : List Env) (s : Shared) (H : Hp) (f : Addr) (vs : List V) (ws : List (Option V)) (Q : VK) (E : XK), Room k (A.deeper (envF F f s.heap.objs.size)) → ws.length = fr.length → sp ws vs H Q E →
      ∃ t, PE (ncx CX P w K mg base N F f A outer s H E) body t ∧ t (startF N vs ws) H Q) :
    LamFn P w K mg base CX (k + 1) F body ps fr sp := by
  refine ⟨len, fun A outer s H f pm ctv us vs ws Q E hr e0 hf hc C r q => ?_⟩
  have many := len _ _ _ _ _ q
  have lim : s.heap.NoLimit := e0.mod.nolimit.keeps fun b o e => (e0.bs b o e).1
  refine PySem.W.kla_callFunE hr.depth hf rfl S.co S.gen rfl (codeO_at e0.hok hc) ?_
  rw [hb pm ctv us (by rw [← r.length]; exact many)]
  refine wpAny_pure (wpAny_newFunctionEnv S.nocell (fun ⟨n, _⟩ hy => S.par n (List.of_mem_zip hy).1) (fun g hns hsb => ⟨lim.fresh _ hsb, ?_⟩) S.kind)
  show codeAny _ _ (.expr body (envF F f s.heap.objs.size)) _ _
  have kp : ∀ b o, s.heap.get? b = some o → g.get? b = some o := fun b o e => hsb.extBut b o (Nat.ne_of_lt (Heap.lt_size e)) (Heap.get?_push_of_some _ e)
  obtain ⟨t, ht, hq⟩ := hbody A outer s H f vs ws Q E (hr.deeper _) C.len q
  have I : Inv (ncx CX P w K mg base N F f A outer s H E) [] (startF N vs ws) H { s with heap := g, toks := s.toks + (ps.zip us).length } := inv_startN S hr.hd e0 many r C hns kp
  refine PySem.W.kla_codeExpr (wpAny_mono (ht.run [] _ _ H Q I hq) (fun v s' hv => ?_) fun e s' he => he)
  obtain ⟨x, J, I2, rx, qx⟩ := hv
  exact ⟨x, J, I2.os, I2.bare, I2.base, I2.hok, rx, qx⟩
/-- what the captured cells held when the frame began they hold still -/
theorem cells_later {X : Cx} {pins : List (Addr × Obj)} {σ : L2.St} {H : Hp} {s : Shared} {cl : List (Str × Addr)} {fr : List Str} {ws : List (Option V)} (C : CellsAt cl fr ws X.s_0.heap X.H_0) (hx : X.ex = []) (I : Inv X pins σ H s) : CellsAt cl fr ws s.heap H := by
  have out : ∀ b, b ∉ X.ex := fun b z => by
    rw [hx] at z
    cases z
  have still : ∀ (y : Str) (c : Addr), cl.lookup y = some c → ∀ v, X.s_0.heap.IsCell c v → s.heap.IsCell c v := fun y c e v ⟨o, ho, hd⟩ => by
    obtain ⟨sl, z⟩ := I.base.any ho (C.all y c e).1 (out c)
    exact ⟨_, z, hd⟩
  refine ⟨C.len, fun y c e => ?_, C.inj, fun i y e => ?_⟩
  · obtain ⟨n, v, z⟩ := C.all y c e
    have z2 := still y c e v z
    obtain ⟨o, ho, _⟩ := z
    exact ⟨I.base.free c o ho n (out c), v, z2⟩
  · obtain ⟨c, hc, hv⟩ := C.has i y e
    refine ⟨c, hc, fun v ev => ?_⟩
    obtain ⟨u, r, z⟩ := hv v ev
    exact ⟨u, r, still y c hc _ z⟩
/-- what a def knows at its entry of a lambda that it is given -/
structure Given (X : Cx) (f : Addr) (F : NF) (body : Expr) (fr : List Str) (ws : List (Option V)) : Prop where
  obj : ∃ pm ctv : Value, X.s_0.heap.get? f = some (PySem.W.kla_obj "<lambda>" F.qual F.params body F.scope F.cl pm F.c ctv)
  un : X.H_0 f = none
  nofr : f ∉ X.fs
  cells : CellsAt F.cl fr ws X.s_0.heap X.H_0
  noex : X.ex = []
section
variable {X : Cx} {CX : CXT} {f : Addr} {F : NF} {body : Expr} {ps fr : List Str} {ws : List (Option V)} {i k : Nat} {a : Str} {sp : List (Option V) → Sp} {E : XK} {t : TA} {e : Expr} {es : List Expr} {p pos : Pos}
/-- a(e, ..), the parameter a holds the lambda -/
theorem pe_given (G : Given X f F body fr ws) (L : LamFn X.prog X.w X.K X.mg X.base CX k F body ps fr sp) (hr : Room k X.A) (hx : Passes CX X E) (hN : X.N[i]? = some a) (hv : Vis X.env.scope a) (ha : PA X (e :: es) t)
    (hd : (a == ("__debug__" : Str)) = false := by decide) (hcd : (a == ("__classdict__" : Str)) = false := by decide)
    (he : starEach (e :: es) X.env = (false, eval e X.env) :: starEach es X.env := by rfl) (hpl : (backTo pos (starEach es X.env)).any (·.1) = false := by rfl) :
    PE X (.Call (.Name a p) (e :: es) [] pos) (fun σ H Q => σ[i]? = some (some (.ref f)) ∧ t σ H fun vs H1 => H1 F.c = some (CodeO F.c F.qual) ∧ sp ws vs H1 Q E) := by
  refine ⟨fun pins s σ H Q I ⟨hs, ht⟩ => ?_⟩
  refine wpAny_Call_Name_kw (thn ((pe_var (pos := p) hN hv hd hcd).run pins s σ H (fun v H1 => v = .ref f ∧ H1 = H) I ⟨.ref f, hs, rfl, rfl⟩) fun u s1 ⟨v, H1, I1, r1, q1⟩ => ?_)
  obtain ⟨rfl, rfl⟩ := q1
  obtain rfl : u = Value.ref f := r1
  have kept : ∀ {H : Hp} {s : Shared}, Inv X pins σ H s → ∃ pm ctv : Value, s.heap.get? f = some (PySem.W.kla_obj "<lambda>" F.qual F.params body F.scope F.cl pm F.c ctv) := fun {H s} I => by
    obtain ⟨pm, ctv, e⟩ := G.obj
    exact ⟨pm, ctv, I.base.keep f _ e G.un G.nofr (fun z => by rw [G.noex] at z; cases z)⟩
  have fnAt : ∀ {H : Hp} {s : Shared}, Inv X pins σ H s → PySem.W.FnAt f s.heap := fun {H s} I => by
    obtain ⟨pm, ctv, e⟩ := kept I
    exact ⟨_, _, _, _, e⟩
  refine PySem.W.callWith_F (first := []) (fnAt I1) (thn (ha.run pos pins s1 σ _ _ I1 ht) fun us s2 ⟨vs, H2, I2, r, hc, q⟩ => ⟨fnAt I2, ?_⟩) he hpl
  obtain ⟨pm, ctv, hf⟩ := kept I2
  show wpAny _ _ (call (.ref f) us) _ _ _
  refine wpAny_call (codeAny_mono (L.run X.A X.stack s2 H2 f pm ctv us vs ws Q E hr I2.env0 hf hc (cells_later G.cells G.noex I2) r q) fun r s' hq => ?_)
  cases r with
  | error e => exact hx pins σ H2 s2 e s' I2 hq
  | ok fl =>
    cases fl with
    | ret u => exact I2.after hq
    | next => exact False.elim hq
    | brk => exact False.elim hq
    | cont => exact False.elim hq
end
/-- x(e, lambda ..): what the called def makes of it -/
def tGive (T : TabL) (te : TE) (js : List Nat) (sp : V → List (Option V) → Hp → VK → XK → Prop) (E : XK) : TE := fun σ H Q => te σ H fun v H1 => Tabs T H1 ∧ ∀ J, SameN T H1 J → sp v (js.map (slotAt σ)) J Q E
section
variable {X : Cx} {CX : CXT}
theorem pe_give {T : TabL} {te : TE} {x : Str} {g c P : Addr} {k : Nat} {pg : Arguments} {bg : List Stmt} {sg : Scope} {dV kV doc pm cdv ct oc : Value} {an od : Option Addr} {osl : Array (Option Value)} {Ng ps fr : List Str} {js : List Nat} {E : XK}
    {params : Arguments} {body : Expr} {scope : Scope} {p lpos pos : Pos} {e : Expr} {sp : V → List (Option V) → Hp → VK → XK → Prop} (hg : Gl X x) (hm : X.mg x = some (.ref g)) (hk : PySem.W.keepIn X.K (.ref g) = true)
    (lk : X.K.lookup g = some ⟨oc, od, .func (PySem.W.fnOf x x pg bg sg dV kV doc pm an cdv ct), osl⟩) (hcg : PySem.W.codeIn X.K cdv x = true) (hb : L2.Binds X.K (PySem.W.fnOf x x pg bg sg dV kV doc pm an cdv ct) ps []) (Sg : FnScope Ng ps sg) (two : ps.length = 2)
    (he : PE X e te) (hx : Passes CX X E) (TB : TabB X.base X.mg c P) (hcode : X.env.code = .ref c) (hmT : (P, X.env.qual ++ "<lambda>") ∈ T) (hu : ∀ p ∈ T, p.1 = P → p.2 = X.env.qual ++ "<lambda>") (hr : Room (k + 1) X.A)
    (hfree : ∀ y ∈ scope.names, y.2 = .free → X.env.scope.names.lookup y.1 = some .cell ∨ X.env.scope.names.lookup y.1 = some .free) (hfr : ∀ y ∈ fr, (y, NameKind.free) ∈ scope.names) (hjs : js.map (fun j => X.N[j]?) = fr.map some) (hdef : defaultsOf params X.env = ([], []))
    (hbody : ∀ (v : V) (s : Shared) (H : Hp) (f c' : Addr) (ws : List (Option V)) (Q : VK), Room k (X.A.deeper (envOfC x sg s.heap.objs.size g cdv)) → ws.length = fr.length →
      Given (cxOf CX X.prog X.w X.K X.mg X.base Ng x sg g cdv X.A X.stack s H E) f ⟨"<lambda>", X.env.qual ++ "<lambda>", params, [], scope, cloFrom X.env.cells scope.names [], c'⟩ body fr ws →
      H c' = some (CodeO c' (X.env.qual ++ "<lambda>")) → sp v ws H Q E →
      ∃ t, PSs (cxOf CX X.prog X.w X.K X.mg X.base Ng x sg g cdv X.A X.stack s H E) bg t ∧ t { nx := fun _ H' => Q .non H', rt := Q } (L2.start Ng [v, .ref f]) H)
    (hdb : (x == ("__debug__" : Str)) = false := by decide) (hs : starEach [e, .Lambda params body scope lpos] X.env = (false, eval e X.env) :: starEach [.Lambda params body scope lpos] X.env := by rfl) :
    PE X (.Call (.Name x p) [e, .Lambda params body scope lpos] [] pos) (tGive T te js sp E) := by
  refine ⟨fun pins s σ H Q I h => ?_⟩
  have free2 : ∀ y ∈ scope.names, y.2 = .free → ∃ c, X.env.cells.lookup y.1 = some c := fun y hy z => (hfree y hy z).elim (fun q => I.ok.has _ (.inl q)) fun q => I.ok.has _ (.inr q)
  refine wpAny_Call_Name_kw (ld_glob I hg hm ?_ hdb)
  refine PySem.W.callWith_K (h₀ := X.base) I.ok.mod.kin hk ?_ hs (by rfl)
  rw [hs]
  show wpAny _ _ (spliced ((false, eval e X.env) :: (false, eval (.Lambda params body scope lpos) X.env) :: [])) _ _ s
  refine Calls.spliced_cons (thn (he.run pins s σ H _ I h) fun u1 s1 ⟨v, H1, I1, r1, t1, q1⟩ => ?_)
  refine Calls.spliced_cons (lam_new I1 TB hcode hmT hu t1 hdef free2 fun f c' pm' ctv J s2 I2 sN hf hfn hfr2 hco => ?_)
  refine Calls.spliced_nil ⟨I2.kIn, ?_⟩
  have C := cells_of I2 (Caps.made (fr := fr) (js := js) I2.ok hfree hfr hjs)
  have lenW : (js.map (slotAt σ)).length = fr.length := C.len
  show wpAny _ _ (call (.ref g) [u1, .ref f]) _ _ _
  refine wpAny_call (codeAny_mono (run_ofS (CX := CX) (N := Ng) (ps := ps) (us := [u1, .ref f]) (vs := [v, .ref f]) (Q := Q) (E := E) lk hcg Sg hr I2.env0 (hb s2 [u1, .ref f] I2.kIn (by rw [two]; rfl)) (.cons r1 (.cons rfl .nil)) (by rw [two]; rfl) fun hr' => ?_) fun r s3 hq => ?_)
  · exact hbody v s2 J f c' _ Q hr' lenW ⟨⟨_, _, hf⟩, hfn, hfr2, C, rfl⟩ hco (q1 J sN)
  · cases r with
    | error e => exact hx pins σ J s2 e s3 I2 hq
    | ok fl =>
      cases fl with
      | ret u => exact I2.after hq
      | next => exact False.elim hq
      | brk => exact False.elim hq
      | cont => exact False.elim hq
end
end L3
namespace LT
open PySem L2
/-- a list or a tuple -/
def Sq (K : PySem.W.Frag) (H : Hp) (a : Addr) (xs : List V) : Prop := SqL K H a xs ∨ SqT K H a xs
theorem Sq.monoX {K : PySem.W.Frag} {H J : Hp} {a : Addr} {xs : List V} (s : L3.Ex H J) (h : Sq K H a xs) : Sq K J a xs := h.elim (fun z => .inl (s.seq z)) fun z => .inr (s.seqT z)
theorem Sq.mono {K : PySem.W.Frag} {H J : Hp} {a : Addr} {xs : List V} (s : Same H J) (h : Sq K H a xs) : Sq K J a xs := h.monoX (L3.exOf s)
def ForW (J : It) (g : TG) (tb : TS) (D : Ends) (σ : L2.St) (H : Hp) : Prop := ∃ W : Nat → Nat → L2.St → Hp → Prop, (∃ m, W 0 m σ H) ∧
  ∀ i m σ H, W i m σ H → (J.stop i H ∧ D.nx σ H) ∨ (J.go i H ∧ ∃ N : L2.St → Hp → Prop, (∀ σ' H', N σ' H' → ∃ m', m' < m ∧ W (i + 1) m' σ' H') ∧ ∀ x H', J.yld i H x H' → g x σ H' fun σ2 H2 => tb { D with nx := N, ct := N, bk := D.nx } σ2 H2)
theorem same_both {K : PySem.W.Frag} {H J : Hp} {a : Addr} {xs : List V} (s : Same H J) : (SqL K H a xs → SqL K J a xs) ∧ (SqT K H a xs → SqT K J a xs) := ⟨fun e => s.seq e, fun e => SqT.ext e s⟩
theorem for_seq {K : PySem.W.Frag} {a : Addr} {xs : List V} {g : TG} {tb : TS} {D : Ends} {σ : L2.St} {H0 H : Hp} (hq : Sq K H0 a xs) (Pv : Nat → L2.St → Hp → Prop) (h0 : Pv 0 σ H)
    (keep : ∀ i σ J, i ≤ xs.length → Pv i σ J → (SqL K H0 a xs → SqL K J a xs) ∧ (SqT K H0 a xs → SqT K J a xs))
    (turn : ∀ i x σ J, xs[i]? = some x → Pv i σ J → g x σ J fun σ2 H2 => tb { D with nx := Pv (i + 1), ct := Pv (i + 1), bk := D.nx } σ2 H2) (fin : ∀ σ J, Pv xs.length σ J → D.nx σ J) :
    ((∃ ys, SqL K H a ys) ∧ ForW (Itl K a) g tb D σ H) ∨ ((∃ ys, SqT K H a ys) ∧ ForW (Itt K a) g tb D σ H) := by
  rcases hq with h | h
  · exact .inl ⟨⟨_, (keep 0 _ _ (Nat.zero_le _) h0).1 h⟩, for_list Pv h0 (fun i σ J le p => (keep i σ J le p).1 h) turn fin⟩
  · exact .inr ⟨⟨_, (keep 0 _ _ (Nat.zero_le _) h0).2 h⟩, for_tup Pv h0 (fun i σ J le p => (keep i σ J le p).2 h) turn fin⟩
def LcW (J : It) (g : TG) (tt : TT) (te : TE) (vs : List Nat) (σ : L2.St) (H1 : Hp) (D : Addr) (Qd : Hp → Prop) : Prop := ∃ W : Nat → Nat → Hp → Prop, (∃ m, W 0 m (upd H1 D (.lst []))) ∧
  ∀ i m H, W i m H → (J.stop i H ∧ Qd H) ∨ (J.go i H ∧ ∃ Nx : Hp → Prop, (∀ H', Nx H' → ∃ m', m' < m ∧ W (i + 1) m' H') ∧ ∀ x H', J.yld i H x H' → g x (wipe σ vs) H' fun σ2 H2 => wipe σ2 vs = wipe σ vs ∧
    tt σ2 H2 fun b H3 => if b = true then te σ2 H3 fun y H4 => ∃ acc, H4 D = some (.lst acc) ∧ acc.length < sizeLine ∧ Nx (upd H4 D (.lst (acc ++ [y]))) else Nx H3)
theorem lc_seq {K : PySem.W.Frag} {a : Addr} {xs : List V} {g : TG} {tt : TT} {te : TE} {vs : List Nat} {σ : L2.St} {H1 : Hp} {Qd : Addr → Hp → Prop} (hq : Sq K H1 a xs) (Pv : Addr → Nat → Hp → Prop) (h0 : ∀ D, H1 D = none → Pv D 0 (upd H1 D (.lst [])))
    (keep : ∀ D i J, i ≤ xs.length → Pv D i J → (SqL K H1 a xs → SqL K J a xs) ∧ (SqT K H1 a xs → SqT K J a xs))
    (turn : ∀ D, H1 D = none → ∀ i x H, xs[i]? = some x → Pv D i H → g x (wipe σ vs) H fun σ2 H2 => wipe σ2 vs = wipe σ vs ∧ tt σ2 H2 fun b H3 =>
      if b = true then te σ2 H3 fun y H4 => ∃ acc, H4 D = some (.lst acc) ∧ acc.length < sizeLine ∧ Pv D (i + 1) (upd H4 D (.lst (acc ++ [y]))) else Pv D (i + 1) H3)
    (fin : ∀ D, H1 D = none → ∀ H, Pv D xs.length H → Qd D H) :
    ((∃ ys, SqL K H1 a ys) ∧ ∀ D, H1 D = none → LcW (Itl K a) g tt te vs σ H1 D (Qd D)) ∨ ((∃ ys, SqT K H1 a ys) ∧ ∀ D, H1 D = none → LcW (Itt K a) g tt te vs σ H1 D (Qd D)) := by
  rcases hq with h | h
  · exact .inl ⟨⟨_, h⟩, fun D hD => lc_list (Pv D) (h0 D hD) (fun i J le p => (keep D i J le p).1 h) (turn D hD) (fin D hD)⟩
  · exact .inr ⟨⟨_, h⟩, fun D hD => lc_tup (Pv D) (h0 D hD) (fun i J le p => (keep D i J le p).2 h) (turn D hD) (fin D hD)⟩
end LT
namespace LT
open PySem
theorem enum_laid {v : Value} {o : Obj} {G : Heap → Prop} (B : Begins v o G) :
    Meets (Builtin.«enumerate.__new__» ⟨[.type "enumerate", v], []⟩) (fun _ R s => G s.heap ∧
      R (.ok (.ret (.ref (s.heap.push o).objs.size))) { s with heap := (s.heap.push o).push { cls := .type "enumerate", data := .fields #[.none, .bool false, .ref s.heap.objs.size, rawInt 0, .none, .none] } }) :=
  .of_wp fun prog w A R s h => by
    obtain ⟨hp, g, d, tk, os⟩ := s
    obtain ⟨h1, h⟩ := h
    have sub := sub_enumerate
    have it : ∀ {A' : Around} {E : Value → Shared → Prop} {Q : Value → Shared → Prop}, Q (.ref hp.objs.size) ⟨hp.push o, g, d, tk, os⟩ → wpAny (model prog w) A' (pyIter v) Q E ⟨hp, g, d, tk, os⟩ := fun q => B.iter prog w _ _ ⟨hp, g, d, tk, os⟩ _ h1 q
    wp_walk using it
    refine wpAny_stack_any fun st => wpAny_pure ?_
    split
    · rename_i c _ _ _ _ _
      cases (c == Value.type "enumerate")
      · wp_walk using it
        exact ⟨_, rfl, h⟩
      · wp_walk using it
        exact ⟨_, rfl, h⟩
    · wp_walk using it
      exact ⟨_, rfl, h⟩
section
variable {prog : Program} {w : World} {A : Around} {E : Value → Shared → Prop} {s : Shared}
theorem enum_made {v : Value} {o : Obj} {G : Heap → Prop} {Q : Value → Shared → Prop} (B : Begins v o G) (h1 : G s.heap)
    (h : ∀ h', IsEnum h' (s.heap.objs.size + 1) s.heap.objs.size 0 .none → h'.get? s.heap.objs.size = some o → h'.objs.size = s.heap.objs.size + 2 →
      (∀ b u, s.heap.get? b = some u → h'.get? b = some u) → Q (.ref (s.heap.objs.size + 1)) { s with heap := h' }) :
    wpAny (model prog w) A (call (.type "enumerate") [v]) Q E s := by
  refine callType_new F.called_enumerate (by decide) (F.typeCall_enumerate_1 _) (F.newCall_enumerate_1 _) (fun obj => F.args_object_init_2 obj _) F.entry_enumerate_new (enum_laid B) ⟨h1, ?_⟩
  have one : (s.heap.push o).objs.size = s.heap.objs.size + 1 := Heap.size_push ..
  show _ ∧ _
  rw [one]
  have got := Heap.get?_push_size (s.heap.push o) (o := { cls := .type "enumerate", data := .fields #[.none, .bool false, .ref s.heap.objs.size, rawInt 0, .none, .none] }) rfl
  rw [one] at got
  exact ⟨⟨_, got, rfl⟩, h _ got (Heap.get?_push_of_some _ (Heap.get?_push_size _ B.free)) (by rw [Heap.size_push, one]) fun b u x => Heap.get?_push_of_some _ (Heap.get?_push_of_some _ x)⟩
end
end LT
namespace L2
open PySem PySem.Spec PyProof.Rows
/-- the tuple at a, each item in a new pair with its number -/
def ItEt (K : PySem.W.Frag) (a : Addr) : It :=
  ⟨fun i H => ∃ (xs : List V) (x : V), SqT K H a xs ∧ xs[i]? = some x, fun i H v H' => ∃ T x, v = .ref T ∧ H T = none ∧ H' = upd H T (.tup [.int (i : Nat), x]) ∧ ∀ xs, SqT K H a xs → xs[i]? = some x, fun i H => ∃ xs : List V, SqT K H a xs ∧ xs.length ≤ i⟩
theorem turn_enumT {P : Program} {w : World} {K : PySem.W.Frag} {elts : List Expr} {kk : Nat} {tpos : Pos} (a e it : Addr) :
    Turn P w K (.Tuple elts kk tpos) (ItEt K a) [e, it] e (fun i h => (∃ old, IsEnum h e it ((i : Nat) : Int) old) ∧ h.IsTupleIter it a i ∧ e ≠ it ∧ a ≠ it ∧ e ≠ a) where
  mem := by simp
  obj := fun i h st b hb => by
    obtain ⟨⟨old, he⟩, ⟨o, ho, hc, hd⟩, _⟩ := st
    rcases (by simpa using hb : b = e ∨ b = it) with z | z
    · rw [z]
      exact ⟨_, he, fun v q => nomatch q⟩
    · rw [z]
      exact ⟨o, ho, fun v q => by rw [hd] at q; cases q⟩
  keep := fun i h h' st k => by
    obtain ⟨⟨old, he⟩, hi, n1, n2, n3⟩ := st
    exact ⟨⟨old, k e (by simp) _ he⟩, hi.at fun o q => k it (by simp) o q, n1, n2, n3⟩
  item := by
    intro X hP hw hK hc i pins s σ H E I hf st hg
    subst hP hw hK
    obtain ⟨⟨old, he⟩, hit, n1, n2, n3⟩ := st
    obtain ⟨xs, x, hq, hx⟩ := hg
    obtain ⟨its, rv, p, hz⟩ := I.tuple hq
    obtain ⟨u, hu, ru⟩ := rv.get hx
    have hel : e < s.heap.objs.size := Heap.lt_size he
    have hil : it < s.heap.objs.size := by
      obtain ⟨_, q, _⟩ := hit
      exact Heap.lt_size q
    have hlt : i < its.toArray.size := by
      rw [List.size_toArray]
      exact (List.getElem?_eq_some_iff.mp hu).1
    refine wpAny_pyNext_enum_itemD (Draws.tuple (A := X.A.in1) (show X.A.in1.handled = none from I.ok.hd hc) it a n2 its.toArray) he ⟨hit, p⟩ hlt n1 (by simp [n1, n3]) fun y h' tk hy ho st' hT hsz hk => ?_
    have ey : y = u := by
      have e1 : its.toArray[i]? = some u := by simpa using hu
      rw [e1] at hy
      exact (Option.some.inj hy).symm
    subst ey
    refine ⟨_, rfl, wpAny_letOwnedTupleGo_enum (s := { s with heap := h', toks := tk + 1 }) ho fun h'' he' sb => ?_⟩
    have hT2 : h''.get? s.heap.objs.size = some { cls := .type "tuple", data := .seq #[.int i tk, y] } := (sb.2 _ (Nat.ne_of_gt hel)).trans hT
    have new : ObjOk X.prog X.w (upd H s.heap.objs.size (.tup [.int (i : Nat), x])) h'' s.heap.objs.size (.tup [.int (i : Nat), x]) :=
      ⟨by show 2 ≤ sizeLine; decide, [.int i tk, y], .cons ⟨_, rfl⟩ (.cons ru .nil), ⟨_, hT2, rfl, _, rfl⟩⟩
    have I1 : Inv X pins σ (upd H s.heap.objs.size (.tup [.int (i : Nat), x])) { s with heap := h'', toks := tk + 1 } :=
      I.turnedNew (ch := [e, it]) (fun b ob hb q => (sb.2 b (fun z => hb (by simp [z]))).trans (hk b ob (fun z => hb (by simp [z])) (fun z => hb (by simp [z])) q)) hf (Nat.le_refl _) new
    refine ⟨.ref s.heap.objs.size, _, I1, rfl, ⟨_, x, rfl, I.hok.fresh (Nat.le_refl _), rfl, fun ys hy' => by rw [I.tuple_inj hy' hq]; exact hx⟩, ⟨⟨y, ?_⟩, st'.1.at fun o q => (sb.2 it (Ne.symm n1)).trans q, n1, n2, n3⟩, fun b hb => ?_⟩
    · have e1 : ((i + 1 : Nat) : Int) = (i : Int) + 1 := by omega
      rw [e1]
      exact he'
    · have hb' : b < s.heap.objs.size := by
        rcases (by simpa using hb : b = e ∨ b = it) with z | z
        · rw [z]
          exact hel
        · rw [z]
          exact hil
      rw [upd_ne (Nat.ne_of_lt hb')]
      exact (hf b hb).1
  done := by
    intro X hP hw hK hc i pins s σ H E I hf st hg
    subst hP hw hK
    obtain ⟨⟨old, he⟩, hit, n1, n2, n3⟩ := st
    obtain ⟨xs, hq, hx⟩ := hg
    obtain ⟨its, rv, p, hz⟩ := I.tuple hq
    obtain ⟨f0, f1, f2, f3, f4, f5⟩ := hf it (by simp)
    have hl := rv.length
    have D : Draws X.prog X.w X.A.in1 it [it, a] i (fun _ _ => True) (fun j h => j = i ∧ h.IsTupleIter it a j ∧ h.IsTuple a its.toArray) := {
      live := fun _ _ st => let ⟨o, ho, _⟩ := st.2.1; ⟨o, ho⟩
      frame := fun _ _ _ st hk => ⟨st.1, st.2.1.at fun o e => hk it (by simp) o e, st.2.2.at fun o e => hk a (by simp) o e⟩
      item := fun j s Q E hj st hQ => absurd hj (by rw [st.1]; exact Nat.lt_irrefl i)
      done := fun s Q E st hE => wpAny_nextOf_tuple_end (show X.A.in1.handled = none from I.ok.hd hc) st.2.1 st.2.2 (by simp; omega) hE }
    exact wpAny_pyNext_enum_endD D he ⟨rfl, hit, p⟩ fun h' eb => ⟨rfl, I.turned (t' := s.toks) (fun b o hb q => eb b o hb q) f0 f1 f3 f4 f5⟩
  self := fun A i s Q E st h => let ⟨⟨_, he⟩, _⟩ := st; wpAny_pyIter_enum he h
def iEnumT (K : PySem.W.Frag) (ta : TA) : TI := fun σ H R => ta σ H fun vs H1 => ∃ a xs, vs = [.ref a] ∧ SqT K H1 a xs ∧ R (ItEt K a) H1
theorem pi_enumT {X : Cx} {e : Expr} {ta : TA} {p pos tpos : Pos} {elts : List Expr} {kk : Nat} (hg : Gl X "enumerate") (hm : X.mg "enumerate" = none) (ha : PA X [e] ta) (hs : starEach [e] X.env = [(false, eval e X.env)] := by rfl) :
    PI X (.Tuple elts kk tpos) (.Call (.Name "enumerate" p) [e] [] pos) (iEnumT X.K ta) := by
  refine ⟨fun pins s σ H R I h => ?_⟩
  refine Call_ (ld_blt I hg hm boot_enumerate (PyProof.Rows.callWith_type1 (thn (ha.run pos pins s σ H _ I h) fun us s1 ⟨vs, H1, I1, r1, q1⟩ => ?_) hs rfl))
  obtain ⟨a, xs, ex, hq, q⟩ := q1
  subst ex
  cases r1 with
  | cons r rr =>
    cases rr
    cases r
    obtain ⟨its, rv, p', hz⟩ := I1.tuple hq
    have al : a < s1.heap.objs.size := by
      obtain ⟨o, ho, _⟩ := p'
      exact Heap.lt_size ho
    refine LT.enum_made (begins_tuple a its.toArray) p' fun h' he hit hsz hk => wpAny_pyIter_enum he ?_
    have I2 : Inv X pins σ H1 { s1 with heap := h' } := I1.kept (t' := s1.toks) hk
    refine ⟨s1.heap.objs.size + 1, [s1.heap.objs.size + 1, s1.heap.objs.size], _, _, H1, rfl, I2, turn_enumT a (s1.heap.objs.size + 1) s1.heap.objs.size, ⟨⟨.none, he⟩, ⟨_, hit, rfl, rfl⟩, Nat.succ_ne_self _, Nat.ne_of_lt al, Nat.ne_of_gt (Nat.lt_succ_of_lt al)⟩, fun b hb => ?_, q⟩
    have hle : s1.heap.objs.size ≤ b := by
      rcases (by simpa using hb : b = s1.heap.objs.size + 1 ∨ b = s1.heap.objs.size) with z | z
      · rw [z]
        exact Nat.le_add_right _ _
      · rw [z]
        exact Nat.le_refl _
    exact I1.fpOk hle (I1.hok.fresh hle)
theorem walk_enumT {K : PySem.W.Frag} {a : Addr} {xs : List V} : Walk (ItEt K a) xs.length (fun H => SqT K H a xs) (YPair (fun i => some (.int (i : Nat))) (fun i => xs[i]?)) := by
  refine ⟨fun i _ hi q => ⟨xs, xs[i], q, by simp [hi]⟩, fun _ q => ⟨xs, q, Nat.le_refl _⟩, fun i H v H' _ q y => ?_⟩
  obtain ⟨T, x, h1, h2, h3, h4⟩ := y
  exact ⟨T, .int (i : Nat), x, h1, h2, h3, rfl, h4 xs q⟩
end L2
namespace LT
open PySem PySem.SeqAt
section
variable {prog : Program} {w : World} {A : Around} {E : Value → Shared → Prop} {s : Shared}
theorem str_no_own (b : Str) (u : Tok) (l C dx : Addr) :
    Meets (Builtin.«str.__eq__» ⟨[.str b u, .ref l], []⟩) (fun _ R s => s.heap.get? l = some (W.instObj C dx) ∧ R (.ok (.ret .notImplemented)) s) :=
  .of_wp fun prog w A R s h => by
    obtain ⟨hp, g, d, tk, os⟩ := s
    obtain ⟨hl, h⟩ := h
    wp_walk using AutoSeq1.wpAny_loadPart' hl, wpAny_load hl
    exact ⟨_, rfl, h⟩
/-- a text == an instance with an own ==: the text declines, the own one is asked -/
theorem rc_str_own {K : W.Frag} {b : Str} {u : Tok} {x C dx f : Addr} {Q : Value → Shared → Prop} (hu : A.units < cLine) (X : K.In s.heap) (ho : s.heap.get? x = some (W.instObj C dx)) {od : Option Obj} (I : W.InstAt s.heap x (W.instObj C dx) C od)
    (hb : W.subIn K (.ref C) (.type "str") = some false) (hs : W.findIn K (.ref C) "__eq__" = some (some (.ref f))) (hf : W.isFn K (.ref f) = true)
    (h : wpAny (model prog w) A (call (.ref f) [.ref x, .str b u]) (W.CmpBack Q) E s) : wpAny (model prog w) A (richCompare .Eq (.str b u) (.ref x)) Q E s := by
  have hT := typeIs_str s b u
  unfold richCompare
  simp only [hT.oneThing_none]
  refine wpAny_holding (wpAny_bind (wpAny_cRoomFor hu ?_))
  refine wpAny_bind (wpAny_typeOf hT (wpAny_bind (I.type.here ?_)))
  have hne : (Value.type "str" != Value.ref C) = true := rfl
  simp only [hne, if_true]
  refine wpAny_bind ((W.looks_subIn X hb).here ?_)
  simp only [Bool.false_eq_true, if_false, Bool.not_false, if_true]
  refine wpAny_bind (m := tryCompare (.str b u) _ (.ref x)) (wpAny_tryCompare_declines hT F.slot_str_eq (call_meets F.slot_str_eq hT F.entry_str_eq (F.args_str_eq_2 _ _) (str_no_own b u x C dx) ⟨ho, rfl, ?_⟩))
  refine wpAny_bind (m := tryCompare (.ref x) _ (.str b u)) ?_
  unfold tryCompare
  refine wpAny_bind (W.ifBound_K X I hs hf (wpAny_mono h (fun v s' hv => ?_) fun _ _ e => e))
  cases v <;> first | exact hv.elim | exact wpAny_pure (wpAny_pure hv)
/-- == of an item and an own instance within a tuple's own search -/
theorem eqBool_str_own {K : W.Frag} {b : Str} {u : Tok} {x C dx f : Addr} {Q : Bool → Shared → Prop} (hu : A.units < cLine) (X : K.In s.heap) (ho : s.heap.get? x = some (W.instObj C dx)) {od : Option Obj} (I : W.InstAt s.heap x (W.instObj C dx) C od)
    (hb : W.subIn K (.ref C) (.type "str") = some false) (hs : W.findIn K (.ref C) "__eq__" = some (some (.ref f))) (hf : W.isFn K (.ref f) = true)
    (h : wpAny (model prog w) A (call (.ref f) [.ref x, .str b u]) (fun v s' => ∃ r, v = .bool r ∧ Q r s') E s) : wpAny (model prog w) A (eqBool (.str b u) (.ref x)) Q E s := by
  unfold eqBool
  refine wpAny_holding ?_
  refine wpAny_ite_split (fun hab => absurd hab (by intro z; exact nomatch eq_of_beq z)) (fun _ => ?_)
  refine wpAny_bind (wpAny_mono (rc_str_own (Q := fun v s' => ∃ r, v = .bool r ∧ Q r s') hu X ho I hb hs hf (wpAny_mono h (fun v s' hv => ?_) fun _ _ z => z)) (fun v s' hv => ?_) fun _ _ z => z)
  · obtain ⟨r, rfl, q⟩ := hv
    exact ⟨r, rfl, q⟩
  · obtain ⟨r, rfl, q⟩ := hv
    exact wpAny_truthy_bool q
/-- a tuple is searched for x; I is kept by each comparison, none finds it -/
theorem tup_has_no {l : Addr} {items : Array Value} {n : Nat} {dd : Option Addr} {sl : Array (Option Value)} {x : Value} (J : Shared → Prop) (R : Result → Shared → Prop)
    (turn : ∀ y ∈ items, ∀ s, J s → wpAny (model prog w) A.in1 (eqBool y x) (fun r s' => r = false ∧ J s') (fun e s' => R (.error e) s') s)
    (fin : ∀ s, J s → R (.ok (.ret (.bool false))) s) (hl : s.heap.get? l = some { cls := .type "tuple", dict := dd, data := .seq items n, slots := sl }) (h : J s) :
    wpAny (model prog w) A.in1 (Builtin.«tuple.__contains__» ⟨[.ref l, x], []⟩) (GQ.FinOf prog w A R) (fun e s' => R (.error e) s') s := by
  have h0 := h
  obtain ⟨hp, g, d, tk, os⟩ := s
  wp_walk using AutoSeq1.wpAny_loadPart' hl, MeetsSeq2.wpAny_forIn_array _ (fun rest b s' => b.1 = none ∧ (∀ y, y ∈ rest → y ∈ items) ∧ J s') _
  case turn =>
    rintro y rest b s' ⟨hb, hmem, hJ⟩
    refine wpAny_bind (wpAny_mono (turn y (hmem y (List.mem_cons_self ..)) s' hJ) (fun r s2 hr => ?_) fun _ _ z => z)
    obtain ⟨rfl, hJ2⟩ := hr
    wp_walk
    exact ⟨rfl, fun z hz => hmem z (List.mem_cons_of_mem _ hz), hJ2⟩
  case fin =>
    rintro ⟨b1, b2⟩ s' ⟨hb, -, hJ⟩
    simp only at hb
    subst hb
    have hR : R (.ok (.ret (.bool false))) s' := fin s' hJ
    wp_walk
    exact hR
  case h =>
    exact ⟨rfl, fun y hy => by simpa using hy, h0⟩
theorem notIn_tup_no {l : Addr} {items : Array Value} {x : Value} {Q : Value → Shared → Prop} (J : Shared → Prop) (hl : s.heap.IsTuple l items)
    (turn : ∀ y ∈ items, ∀ s, J s → wpAny (model prog w) A.in1 (eqBool y x) (fun r s' => r = false ∧ J s') E s)
    (fin : ∀ s, J s → Q (.bool true) s) (h : J s) : wpAny (model prog w) A (compareOp .NotIn x (.ref l)) Q E s := by
  obtain ⟨⟨cls, dd, data, sl⟩, ho, hc, n, hd⟩ := id hl
  simp only at hc hd
  subst hc hd
  show wpAny _ A (do return .bool (!(← contains (.ref l) x))) Q E s
  have hT : s.TypeIs (.ref l) "tuple" := ⟨_, ho, rfl⟩
  refine wpAny_bind (wpAny_contains_slot hT F.slot_tuple_contains (wpAny_mono (GQ.call_here (Q := fun v s' => v = .bool false ∧ Q (.bool true) s') F.slot_tuple_contains hT F.entry_tuple_contains (F.args_tuple_contains_2 _ _)
    (tup_has_no J _ turn (fun s' hJ => ⟨rfl, fin s' hJ⟩) ho h)) (fun v s' hv => ?_) fun _ _ z => z))
  obtain ⟨rfl, q⟩ := hv
  exact wpAny_truthy_bool (wpAny_pure q)
end
end LT
namespace L2
open PySem PySem.Spec PyProof.Rows
section
variable {X : Cx}
/-- x not in a tuple of texts, x an instance of the class at C whose == says False of every text (and only makes objects) -/
def spEqT (C : Addr) : Sp := fun vs H Q _ => ∃ (a dx : Addr) (fs : List (Str × V)) (z : Str), vs = [.ref a, .str z] ∧ H a = some (.ins C dx fs) ∧ Q (.bl false) H
theorem op_notIn_own {CX : CXT} {C f : Addr} {fd : FuncData} {ps : List Str} {E : XK} {k : Nat} (F : FnOk X.prog X.w X.K X.mg X.base CX k f fd ps (spEqT C)) (hr : Room (k + 1) X.A)
    (hb : PySem.W.subIn X.K (.ref C) (.type "str") = some false) (hs : PySem.W.findIn X.K (.ref C) "__eq__" = some (some (.ref f))) (hf : PySem.W.isFn X.K (.ref f) = true) (bn : Binds X.K fd ps []) (hx : Passes CX X E) :
    OpR X (compareOp .NotIn) (fun x y H Q => ∃ (a dx p : Addr) (fs : List (Str × V)) (xs : List Str), x = .ref a ∧ H a = some (.ins C dx fs) ∧ y = .ref p ∧ SqT X.K H p (xs.map V.str) ∧ Q (.bl true) H) := by
  intro pins s σ H x y v u Q I rx ry h
  obtain ⟨a, dx, p, fs, xs, rfl, ha, rfl, hp, q⟩ := h
  cases rx
  cases ry
  obtain ⟨its, r, pl, hz⟩ := I.tuple hp
  refine LT.notIn_tup_no (fun s' => Inv X pins σ H s') pl (fun y hy s' J => ?_) (fun s' J => ⟨.bl true, H, J, rfl, q⟩) I
  obtain ⟨z, hzm⟩ : ∃ (z : Str), RelV (.str z) y := by
    have hy' : y ∈ its := by simpa using hy
    obtain ⟨i, hi⟩ := List.getElem?_of_mem hy'
    cases e : (xs.map V.str)[i]? with
    | none =>
      rw [r.none_of e] at hi
      cases hi
    | some v =>
      obtain ⟨w, ew, rw'⟩ := r.get e
      rw [hi] at ew
      cases ew
      rw [List.getElem?_map] at e
      cases e2 : xs[i]? with
      | none =>
        rw [e2] at e
        cases e
      | some z =>
        rw [e2] at e
        cases e
        exact ⟨z, rw'⟩
  obtain ⟨t, rfl⟩ := hzm
  obtain ⟨mA, O, _⟩ := ins_get J.hok ha
  obtain ⟨od, K1, _⟩ := O.look
  obtain ⟨_, _, _, hobj, _⟩ := (show ObjOk X.prog X.w H s'.heap a (.ins C dx fs) from J.hok a _ ha)
  refine LT.eqBool_str_own hr.in1.units0 J.kIn hobj K1 hb hs hf ?_
  have sp : spEqT C [.ref a, .str z] H (fun v H' => v = .bl false ∧ H' = H) E := ⟨a, dx, fs, z, rfl, ha, rfl, rfl⟩
  have e0 : Env0 X.prog X.w X.K X.mg X.base X.A.in1 X.stack s' H := J.env0.in1
  have hl := F.len _ _ _ _ sp
  have r2 : Vals [V.ref a, V.str z] [Value.ref a, Value.str z t] := .cons rfl (.cons ⟨t, rfl⟩ .nil)
  refine wpAny_call (codeAny_mono (F.run X.A.in1 X.stack s' H ⟨[.ref a, .str z t], []⟩ [.ref a, .str z t] [.ref a, .str z] _ E hr.in1 e0 (by
    have := bn s' [.ref a, .str z t] J.kIn (by simpa using hl)
    simpa using this) r2 sp) fun rr s2 hq => ?_)
  cases rr with
  | error e => exact hx pins σ H s' e s2 J hq
  | ok fl =>
    cases fl with
    | ret w =>
      obtain ⟨z2, H', J', rz, ez, eH⟩ := J.after hq
      subst ez eH
      cases rz
      exact ⟨false, rfl, rfl, J'⟩
    | next => exact False.elim hq
    | brk => exact False.elim hq
    | cont => exact False.elim hq
end
end L2
namespace LT
open PySem PySem.SeqAt PySem.Calls
section
variable {prog : Program} {w : World} {A : Around} {E : Value → Shared → Prop} {s : Shared}
/-- a value of a built-in class == an instance with an own ==: the first declines, the own one is asked -/
theorem rc_decl_own {T id : String} {B : Builtin} {v : Value} {K : W.Frag} {x C f : Addr} {ox : Obj} {Q : Value → Shared → Prop} (hu : A.units < cLine) (X : K.In s.heap) (hT : s.TypeIs v T) (slot : Slot T (cmpInfo .Eq).2.1 id)
    (entry : entryFor table id = some B) (args : argsOk id ⟨[v, .ref x], []⟩) {od : Option Obj} (I : W.InstAt s.heap x ox C od)
    (hb : W.subIn K (.ref C) (.type T) = some false) (hs : W.findIn K (.ref C) "__eq__" = some (some (.ref f))) (hf : W.isFn K (.ref f) = true)
    (dc : ∀ {A' : Around} (R : Result → Shared → Prop), R (.ok (.ret .notImplemented)) s → wpAny (model prog w) A' (B ⟨[v, .ref x], []⟩) (GQ.FinOf prog w A R) (fun e s' => R (.error e) s') s)
    (h : wpAny (model prog w) A (call (.ref f) [.ref x, v]) (W.CmpBack Q) E s) : wpAny (model prog w) A (richCompare .Eq v (.ref x)) Q E s := by
  unfold richCompare
  simp only [hT.oneThing_none]
  refine wpAny_holding (wpAny_bind (wpAny_cRoomFor hu ?_))
  refine wpAny_bind (wpAny_typeOf hT (wpAny_bind (I.type.here ?_)))
  have hne : (Value.type T != Value.ref C) = true := rfl
  simp only [hne, if_true]
  refine wpAny_bind ((W.looks_subIn X hb).here ?_)
  simp only [Bool.false_eq_true, if_false, Bool.not_false, if_true]
  refine wpAny_bind (m := tryCompare v _ (.ref x)) (wpAny_tryCompare_declines hT slot (GQ.call_here slot hT entry args (dc _ ⟨rfl, ?_⟩)))
  refine wpAny_bind (m := tryCompare (.ref x) _ v) ?_
  unfold tryCompare
  refine wpAny_bind (W.ifBound_K X I hs hf (wpAny_mono h (fun v s' hv => ?_) fun _ _ e => e))
  cases v <;> first | exact hv.elim | exact wpAny_pure (wpAny_pure hv)
theorem none_declines {x : Addr} {A' : Around} (R : Result → Shared → Prop) (h : R (.ok (.ret .notImplemented)) s) :
    wpAny (model prog w) A' (Builtin.«NoneType.__eq__» ⟨[.none, .ref x], []⟩) (GQ.FinOf prog w A R) (fun e s' => R (.error e) s') s := by
  obtain ⟨hp, g, d, tk, os⟩ := s
  wp_walk
  exact h
theorem inst_no {K : W.Frag} {x C : Addr} {ox : Obj} {od : Option Obj} {T : String} (X : K.In s.heap) (I : W.InstAt s.heap x ox C od) (hb : W.subIn K (.ref C) (.type T) = some false) :
    W.Looks (model prog w) s.heap (isInstance (.ref x) (.type T)) false := I.type.andThen (W.looks_subIn X hb)
theorem tuple_declines {K : W.Frag} {l x C : Addr} {ox : Obj} {od : Option Obj} {A' : Around} (X : K.In s.heap) (I : W.InstAt s.heap x ox C od) (hb : W.subIn K (.ref C) (.type "tuple") = some false)
    (R : Result → Shared → Prop) (h : R (.ok (.ret .notImplemented)) s) :
    wpAny (model prog w) A' (Builtin.«tuple.__eq__» ⟨[.ref l, .ref x], []⟩) (GQ.FinOf prog w A R) (fun e s' => R (.error e) s') s := by
  refine wpAny_bind (m := slotArgs "__eq__" 1 _) (wpAny_pure ?_)
  refine wpAny_bind ((inst_no X I hb).here ?_)
  exact wpAny_pure h
theorem list_declines {K : W.Frag} {l x C : Addr} {ox : Obj} {od : Option Obj} {A' : Around} (X : K.In s.heap) (I : W.InstAt s.heap x ox C od) (hb : W.subIn K (.ref C) (.type "list") = some false)
    (R : Result → Shared → Prop) (h : R (.ok (.ret .notImplemented)) s) :
    wpAny (model prog w) A' (Builtin.«list.__eq__» ⟨[.ref l, .ref x], []⟩) (GQ.FinOf prog w A R) (fun e s' => R (.error e) s') s := by
  refine wpAny_bind (m := slotArgs "__eq__" 1 _) (wpAny_pure ?_)
  refine wpAny_bind ((inst_no X I hb).here ?_)
  exact wpAny_pure h
/-- x != y, both of a class with an own == and the != of object -/
theorem rc_ne_own {K : W.Frag} {x y C f : Addr} {ox oy : Obj} {od oe : Option Obj} {Q : Value → Shared → Prop} (hu : A.units + 1 < cLine) (X : K.In s.heap) (I : W.InstAt s.heap x ox C od) (J : W.InstAt s.heap y oy C oe)
    (hn : W.findIn K (.ref C) "__ne__" = some (some (.builtin "object.__ne__"))) (hm : W.mroIn K C (.type "object") = some true)
    (hs : W.findIn K (.ref C) "__eq__" = some (some (.ref f))) (hf : W.isFn K (.ref f) = true)
    (h : wpAny (model prog w) A.in1 (call (.ref f) [.ref x, .ref y]) (fun v s' => ∃ b, v = .bool b ∧ Q (.bool (!b)) s') E s) : wpAny (model prog w) A (richCompare .NotEq (.ref x) (.ref y)) Q E s := by
  unfold richCompare
  simp only [oneThing_ref]
  refine wpAny_holding (wpAny_bind (wpAny_cRoomFor (Nat.lt_of_succ_lt hu) ?_))
  rw [cmpInfo_NotEq]
  dsimp only
  refine wpAny_bind (I.type.here (wpAny_bind (J.type.here ?_)))
  rw [show (Value.ref C != Value.ref C) = false from by simp]
  simp only [Bool.false_eq_true, if_false]
  refine wpAny_bind (wpAny_pure ?_)
  simp only [Bool.false_eq_true, if_false]
  refine wpAny_bind (m := tryCompare _ _ _) ?_
  unfold tryCompare
  have one : wpAny (model prog w) A (callSpecialIfBound? (.ref x) "__ne__" [.ref y]) (fun r s' => ∃ b, r = some (.bool (!b)) ∧ Q (.bool (!b)) s') E s := by
    simp only [callSpecialIfBound?, bindSpecialIfBound?]
    refine wpAny_holding (wpAny_bind (wpAny_bind (wpAny_bind (I.type.here ((W.looks_findIn X hn).here ?_)))))
    refine wpAny_bind (wpAny_askSetting (wpAny_ite ?_))
    have fin : wpAny (model prog w) A (call (.builtin "object.__ne__") ([.ref x] ++ [.ref y]) >>= fun v => pure (some v)) (fun r s' => ∃ b, r = some (.bool (!b)) ∧ Q (.bool (!b)) s') E s := by
      refine wpAny_bind (wpAny_call (codeAny_call_builtin (by decide +kernel) F.cmpEntry_ne (W.check_slot (owner := "object") (n := "__ne__") F.cmpKind_ne F.cmpSplit_ne (I.type.andThen (W.looks_mroIn X hm)) (F.cmpArgs_ne _ _) ?_)))
      unfold Builtin.«object.__ne__»
      refine wpAny_bind (m := slotArgs "__ne__" 1 _) (wpAny_pure ?_)
      refine wpAny_bind (m := cRoomFor _ _) (wpAny_cRoomFor (by show A.units + 1 < cLine; exact hu) ?_)
      refine wpAny_bind (m := callSpecialIfBound? (.ref x) (Str.ofString "__eq__") _) (W.ifBound_K X I hs hf (wpAny_mono h (fun v s' hv => ?_) fun _ _ e => e))
      obtain ⟨b, rfl, q⟩ := hv
      exact wpAny_bind (wpAny_truthy_bool (wpAny_pure (wpAny_pure ⟨b, rfl, q⟩)))
    split
    · exact wpAny_bind ((W.Looks.of_pure (F.slot_tuple_iterator_ne.bind _)).here (wpAny_pure (by exact fin)))
    · exact wpAny_tryCatch (wpAny_bind ((W.Looks.of_pure (F.slot_tuple_iterator_ne.bind _)).here (wpAny_pure (by exact fin))))
  refine wpAny_bind (wpAny_mono one (fun r s' hv => ?_) fun _ _ e => e)
  obtain ⟨b, rfl, q⟩ := hv
  exact wpAny_pure (wpAny_pure q)
end
end LT
namespace LT
open PySem PySem.SeqAt PySem.Calls
section
variable {prog : Program} {w : World} {A : Around} {E : Value → Shared → Prop} {s : Shared}
theorem in_tup_no {l : Addr} {items : Array Value} {x : Value} {Q : Value → Shared → Prop} (J : Shared → Prop) (hl : s.heap.IsTuple l items)
    (turn : ∀ y ∈ items, ∀ s, J s → wpAny (model prog w) A.in1 (eqBool y x) (fun r s' => r = false ∧ J s') E s)
    (fin : ∀ s, J s → Q (.bool false) s) (h : J s) : wpAny (model prog w) A (compareOp .In x (.ref l)) Q E s := by
  obtain ⟨⟨cls, dd, data, sl⟩, ho, hc, n, hd⟩ := id hl
  simp only at hc hd
  subst hc hd
  show wpAny _ A (do return .bool (← contains (.ref l) x)) Q E s
  have hT : s.TypeIs (.ref l) "tuple" := ⟨_, ho, rfl⟩
  refine wpAny_bind (wpAny_contains_slot hT F.slot_tuple_contains (wpAny_mono (GQ.call_here (Q := fun v s' => v = .bool false ∧ Q (.bool false) s') F.slot_tuple_contains hT F.entry_tuple_contains (F.args_tuple_contains_2 _ _)
    (tup_has_no J _ turn (fun s' hJ => ⟨rfl, fin s' hJ⟩) ho h)) (fun v s' hv => ?_) fun _ _ z => z))
  obtain ⟨rfl, q⟩ := hv
  exact wpAny_truthy_bool (wpAny_pure q)
/-- from a rich comparison to == inside a builtin, where the two are no one thing -/
theorem eqBool_rc {u : Value} {x : Addr} {Q : Bool → Shared → Prop} (hne : (u == .ref x) = false) (h : wpAny (model prog w) A (richCompare .Eq u (.ref x)) (fun r s' => ∃ b, r = .bool b ∧ Q b s') E s) : wpAny (model prog w) A (eqBool u (.ref x)) Q E s := by
  unfold eqBool
  refine wpAny_holding ?_
  refine wpAny_ite_split (fun hab => absurd hab (by simp [hne])) (fun _ => ?_)
  have one : wpAny (model prog w) A (richCompare .Eq u (.ref x) >>= fun r => truthOfDropped r) Q E s := by
    refine wpAny_bind (wpAny_mono h (fun r s' hv => ?_) fun _ _ x => x)
    obtain ⟨r, rfl, q⟩ := hv
    exact wpAny_truthy_bool q
  cases u <;> exact one
end
end LT
namespace L2
open PySem PySem.Spec PyProof.Rows
section
variable {X : Cx} {CX : CXT} {C f : Addr} {fd : FuncData} {ps : List Str} {E : XK} {k : Nat} {sp : Sp}
/-- an own function called with the values xs below the running body -/
theorem run_own {A : Around} {pins : List (Addr × Obj)} {s : Shared} {σ : St} {H : Hp} {us : List Value} {vs : List V} {Q : VK} {Q' : Value → Shared → Prop} (F : FnOk X.prog X.w X.K X.mg X.base CX k f fd ps sp) (sb : Sub X k A) (bn : Binds X.K fd ps []) (hx : Passes CX X E)
    (I : Inv X pins σ H s) (r : Vals vs us) (h : sp vs H Q E) (hq : ∀ u s' v J, RelV v u → Inv X pins σ J s' → Q v J → Q' u s') : wpAny (model X.prog X.w) A (call (.ref f) us) Q' X.xe s := by
  have e0 : Env0 X.prog X.w X.K X.mg X.base A X.stack s H := by
    have e := I.env0
    exact ⟨by rw [sb.fr]; exact e.frames, e.mod, e.bs, e.bsz, e.funs, e.frf, e.hok, e.bare⟩
  have hl := F.len _ _ _ _ h
  refine wpAny_call (codeAny_mono (F.run A X.stack s H ⟨us, []⟩ us vs Q E sb.room e0 (by
    have := bn s us I.kIn (by rw [← hl, r.length]; simp)
    simpa using this) r h) fun rr s2 z => ?_)
  cases rr with
  | error e => exact hx pins σ H s e s2 I z
  | ok fl =>
    cases fl with
    | ret u =>
      obtain ⟨v, H', J', rz, q⟩ := I.after z
      exact hq u s2 v H' rz J' q
    | next => exact False.elim z
    | brk => exact False.elim z
    | cont => exact False.elim z
theorem ins_look {pins : List (Addr × Obj)} {s : Shared} {σ : St} {H : Hp} {a C dx : Addr} {fs : List (Str × V)} (I : Inv X pins σ H s) (ha : H a = some (.ins C dx fs)) :
    ∃ od, PySem.W.InstAt s.heap a (PySem.W.instObj C dx) C (some od) := by
  obtain ⟨mA, O, _⟩ := ins_get I.hok ha
  obtain ⟨od, K1, _⟩ := O.look
  exact ⟨od, K1⟩
/-- str(x), x an instance of the class at C with an own __str__ -/
def rStrOwn (C : Addr) (sp : Sp) (E : XK) : List V → Hp → VK → Prop := fun xs H Q => ∃ (a dx : Addr) (fs : List (Str × V)), xs = [.ref a] ∧ H a = some (.ins C dx fs) ∧ sp [.ref a] H (fun v J => ∃ z, v = .str z ∧ Q v J) E
theorem call_strOwn (F : FnOk X.prog X.w X.K X.mg X.base CX k f fd ps sp) (hr : Room (k + 2) X.A) (hs : PySem.W.findIn X.K (.ref C) "__str__" = some (some (.ref f))) (hf : PySem.W.isFn X.K (.ref f) = true)
    (bn : Binds X.K fd ps []) (hx : Passes CX X E) : CallR X (.type "str") (rStrOwn C sp E) := by
  intro pins s σ H xs us Q I r h
  obtain ⟨a, dx, fs, rfl, ha, q⟩ := h
  obtain ⟨u, rfl, ru⟩ := vals1 r
  cases ru
  obtain ⟨od, K1⟩ := ins_look I ha
  refine PySem.W.kso_call hr.in1.in1.units0 I.kIn K1 hs hf (run_own F ⟨hr.in1.in1, rfl⟩ bn hx I (show Vals [V.ref a] [Value.ref a] from .cons rfl .nil) q fun u s' v J rv I' z => ?_)
  obtain ⟨z, rfl, q⟩ := z
  obtain ⟨t, rfl⟩ := rv
  exact ⟨.str z, J, I', ⟨t, rfl⟩, q⟩
/-- x == y, both of the class at C with an own __eq__ -/
def rEqOwn (C : Addr) (sp : Sp) (E : XK) : R2 := fun x y H Q => ∃ (a b dx dy : Addr) (fs gs : List (Str × V)), x = .ref a ∧ y = .ref b ∧ H a = some (.ins C dx fs) ∧ H b = some (.ins C dy gs) ∧ sp [x, y] H (fun v J => ∃ r, v = .bl r ∧ Q v J) E
def rNeOwn (C : Addr) (sp : Sp) (E : XK) : R2 := fun x y H Q => ∃ (a b dx dy : Addr) (fs gs : List (Str × V)), x = .ref a ∧ y = .ref b ∧ H a = some (.ins C dx fs) ∧ H b = some (.ins C dy gs) ∧ sp [x, y] H (fun v J => ∃ r, v = .bl r ∧ Q (.bl (!r)) J) E
theorem op_eqOwn (F : FnOk X.prog X.w X.K X.mg X.base CX k f fd ps sp) (hr : Room k X.A) (hs : PySem.W.findIn X.K (.ref C) "__eq__" = some (some (.ref f))) (hf : PySem.W.isFn X.K (.ref f) = true)
    (bn : Binds X.K fd ps []) (hx : Passes CX X E) : OpR X (compareOp .Eq) (rEqOwn C sp E) := by
  intro pins s σ H x y v u Q I rx ry h
  obtain ⟨a, b, dx, dy, fs, gs, rfl, rfl, ha, hb, q⟩ := h
  cases rx
  cases ry
  obtain ⟨od, K1⟩ := ins_look I ha
  obtain ⟨oe, K2⟩ := ins_look I hb
  obtain ⟨m, hF⟩ := I.fr
  show wpAny (model X.prog X.w) X.A (richCompare .Eq _ _) (EP X pins σ Q) X.xe s
  refine PySem.W.cmp_K (op := .Eq) (tb := .ref C) hr.units0 hF I.ok.mod.kin K1 K2.type (by simp [PySem.W.notFirst]) hs hf (run_own F ⟨hr, rfl⟩ bn hx I (show Vals [V.ref a, V.ref b] [Value.ref a, Value.ref b] from .cons rfl (.cons rfl .nil)) q fun u s' v J rv I' z => ?_)
  obtain ⟨z, rfl, q⟩ := z
  cases rv
  exact ⟨.bl z, J, I', rfl, q⟩
theorem op_neOwn (F : FnOk X.prog X.w X.K X.mg X.base CX k f fd ps sp) (hr : Room (k + 1) X.A) (hs : PySem.W.findIn X.K (.ref C) "__eq__" = some (some (.ref f))) (hf : PySem.W.isFn X.K (.ref f) = true)
    (hn : PySem.W.findIn X.K (.ref C) "__ne__" = some (some (.builtin "object.__ne__"))) (hm : PySem.W.mroIn X.K C (.type "object") = some true)
    (bn : Binds X.K fd ps []) (hx : Passes CX X E) : OpR X (compareOp .NotEq) (rNeOwn C sp E) := by
  intro pins s σ H x y v u Q I rx ry h
  obtain ⟨a, b, dx, dy, fs, gs, rfl, rfl, ha, hb, q⟩ := h
  cases rx
  cases ry
  obtain ⟨od, K1⟩ := ins_look I ha
  obtain ⟨oe, K2⟩ := ins_look I hb
  show wpAny (model X.prog X.w) X.A (richCompare .NotEq _ _) (EP X pins σ Q) X.xe s
  refine LT.rc_ne_own hr.in1.units0 I.kIn K1 K2 hn hm hs hf (run_own F ⟨hr.in1, rfl⟩ bn hx I (show Vals [V.ref a, V.ref b] [Value.ref a, Value.ref b] from .cons rfl (.cons rfl .nil)) q fun u s' v J rv I' z => ?_)
  obtain ⟨z, rfl, q⟩ := z
  cases rv
  exact ⟨_, rfl, .bl (!z), J, I', rfl, q⟩
/-- what is no instance of a written class: a text, None, a tuple, a list -/
def Oth (K : PySem.W.Frag) (H : Hp) (y : V) : Prop := (∃ z, y = .str z) ∨ y = .non ∨ (∃ a xs, y = .ref a ∧ SqT K H a xs) ∨ ∃ a xs, y = .ref a ∧ SqL K H a xs
structure NoSub (K : PySem.W.Frag) (C : Addr) : Prop where
  s : PySem.W.subIn K (.ref C) (.type "str") = some false
  n : PySem.W.subIn K (.ref C) (.type "NoneType") = some false
  t : PySem.W.subIn K (.ref C) (.type "tuple") = some false
  l : PySem.W.subIn K (.ref C) (.type "list") = some false
/-- x in a tuple, x an instance of the class at C, its own == says False of each thing there -/
def rInOwn (K : PySem.W.Frag) (C : Addr) (sp : Sp) (E : XK) : R2 := fun x y H Q => ∃ (a dx p : Addr) (fs : List (Str × V)) (xs : List V), x = .ref a ∧ H a = some (.ins C dx fs) ∧ y = .ref p ∧ SqT K H p xs ∧ (∀ v ∈ xs, Oth K H v ∧ sp [.ref a, v] H (fun r J => r = .bl false ∧ J = H) E) ∧ Q (.bl false) H
theorem op_inOwn (F : FnOk X.prog X.w X.K X.mg X.base CX k f fd ps sp) (hr : Room (k + 1) X.A) (hs : PySem.W.findIn X.K (.ref C) "__eq__" = some (some (.ref f))) (hf : PySem.W.isFn X.K (.ref f) = true)
    (N : NoSub X.K C) (bn : Binds X.K fd ps []) (hx : Passes CX X E) : OpR X (compareOp .In) (rInOwn X.K C sp E) := by
  intro pins s σ H x y v u Q I rx ry h
  obtain ⟨a, dx, p, fs, xs, rfl, ha, rfl, hp, all, q⟩ := h
  cases rx
  cases ry
  obtain ⟨its, r, pl, hz⟩ := I.tuple hp
  refine LT.in_tup_no (fun s' => Inv X pins σ H s') pl (fun y hy s' J => ?_) (fun s' J => ⟨.bl false, H, J, rfl, q⟩) I
  obtain ⟨z, hzm, rz⟩ : ∃ z ∈ xs, RelV z y := by
    have hy' : y ∈ its := by simpa using hy
    obtain ⟨i, hi⟩ := List.getElem?_of_mem hy'
    cases e : xs[i]? with
    | none =>
      rw [r.none_of e] at hi
      cases hi
    | some v =>
      obtain ⟨w, ew, rw'⟩ := r.get e
      rw [hi] at ew
      cases ew
      exact ⟨v, List.mem_of_getElem? e, rw'⟩
  obtain ⟨ot, sp0⟩ := all z hzm
  obtain ⟨od, K1⟩ := ins_look J ha
  obtain ⟨_, _, _, hobj, _⟩ := (show ObjOk X.prog X.w H s'.heap a (.ins C dx fs) from J.hok a _ ha)
  have go : wpAny (model X.prog X.w) X.A.in1 (call (.ref f) [.ref a, y]) (PySem.W.CmpBack fun v s2 => ∃ b, v = .bool b ∧ b = false ∧ Inv X pins σ H s2) X.xe s' :=
    run_own F ⟨hr.in1, rfl⟩ bn hx J (show Vals [V.ref a, z] [Value.ref a, y] from .cons rfl (.cons rz .nil)) sp0 fun u s2 v H' rv I' z => by
      obtain ⟨rfl, rfl⟩ := z
      cases rv
      exact ⟨_, rfl, rfl, I'⟩
  rcases ot with ⟨t, rfl⟩ | rfl | ⟨b, ys, rfl, hb⟩ | ⟨b, ys, rfl, hb⟩
  · obtain ⟨t, rfl⟩ := rz
    exact LT.eqBool_rc rfl (LT.rc_str_own hr.in1.units0 J.kIn hobj K1 N.s hs hf go)
  · cases rz
    exact LT.eqBool_rc rfl (LT.rc_decl_own hr.in1.units0 J.kIn (typeIs_none _) PySem.F.slot_NoneType_eq PySem.F.entry_NoneType_eq (PySem.F.args_NoneType_eq_2 _ _) K1 N.n hs hf (fun R h => LT.none_declines R h) go)
  · cases rz
    obtain ⟨_, _, ⟨o, ho, hc, n, hd⟩, _⟩ := J.tuple hb
    refine LT.eqBool_rc ?_ (LT.rc_decl_own hr.in1.units0 J.kIn ⟨_, ho, hc⟩ PySem.F.slot_tuple_eq PySem.F.entry_tuple_eq (PySem.F.args_tuple_eq_2 _ _) K1 N.t hs hf (fun R h => LT.tuple_declines J.kIn K1 N.t R h) go)
    refine beq_eq_false_iff_ne.mpr fun e => ?_
    cases e
    rw [hobj] at ho
    cases ho
    cases hc
  · cases rz
    obtain ⟨_, _, ⟨o, n, ho, hc, _, hd⟩, _⟩ := J.list hb
    refine LT.eqBool_rc ?_ (LT.rc_decl_own hr.in1.units0 J.kIn ⟨_, ho, hc⟩ PySem.F.slot_list_eq PySem.F.entry_list_eq (PySem.F.args_list_eq_2 _ _) K1 N.l hs hf (fun R h => LT.list_declines J.kIn K1 N.l R h) go)
    refine beq_eq_false_iff_ne.mpr fun e => ?_
    cases e
    rw [hobj] at ho
    cases ho
    cases hc
end
end L2
namespace L2
open PySem PySem.Spec PyProof.Rows
/-- a def's promise where nothing that repr looks for is under way -/
def FnG (P : Program) (w : World) (K : PySem.W.Frag) (mg : Str → Option Value) (base : Heap) (CX : CXT) (k : Nat) (f : Addr) (fd : FuncData) (ps : List Str) (sp : Sp) : Prop :=
  ∀ (A : Around) (outer : List Env) (s : Shared) (H : Hp) (args : Args) (us : List Value) (vs : List V) (Q : VK) (E : XK), A.guards = some [] → Room k A → Env0 P w K mg base A outer s H →
    BindsTo s fd args (ps.zip us) → Vals vs us → sp vs H Q E → codeAny (model P w) A (.call (.ref f) args) (CR CX outer P w H s Q E) s
section
variable {P : Program} {w : World} {K : PySem.W.Frag} {mg : Str → Option Value} {base : Heap}
theorem Fun.okG {x qual : Str} {st : Stmt} {f : Addr} {fd : FuncData} {N ps : List Str} {k : Nat} {sp : Sp} (F : Fun K x qual st f fd) (S : FnScope N ps (defScope st)) (len : ∀ vs H Q E, sp vs H Q E → vs.length = ps.length)
    (body : ∀ (cdv : Value) (A : Around) (outer : List Env) (s : Shared) (H : Hp) (vs : List V) (Q : VK) (E : XK), (A.deeper (envOfC qual (defScope st) s.heap.objs.size f cdv)).guards = some [] →
      Room k (A.deeper (envOfC qual (defScope st) s.heap.objs.size f cdv)) → sp vs H Q E →
      ∃ t, PSs (cxOf CX0 P w K mg base N qual (defScope st) f cdv A outer s H E).nox (defBody st) t ∧ t { nx := fun _ J => Q .non J, rt := Q } (start N vs) H) : FnG P w K mg base CX0 (k + 1) f fd ps sp := by
  obtain ⟨oc, od, kV, doc, pm, an, cdv, ct, osl, rfl, lk, code⟩ := F.ex
  intro A outer s H args us vs Q E hg hr env bind rel hsp
  have n := len _ _ _ _ hsp
  have inK : K.In s.heap := env.mod.kin.keeps fun b o e => (env.bs b o e).1
  have free : s.heap.NoLimit := env.mod.nolimit.keeps fun b o e => (env.bs b o e).1
  have names : ∀ y ∈ ps.zip us, (defScope st).names.lookup y.1 = some .local ∨
      ((defScope st).names.lookup y.1 = some .cell ∧ ((cellsFrom (s.heap.objs.size + 1) (defScope st).names []).lookup y.1).isSome = true) := by
    rintro ⟨z, v⟩ hz
    rcases S.par z (List.of_mem_zip hz).1 with e | e
    · exact .inl e
    · exact .inr ⟨e, PySem.W.cellsFrom_some _ _ _ (.inl e)⟩
  refine codeAny_call_function hr.depth (inK _ _ lk) rfl S.co S.gen rfl (PySem.W.codeRec_of inK code)
    (bind _ _ _ _ (wpAny_newFunctionEnv_cells S.kind names fun env' he s1 x => ?_))
  subst he
  refine ⟨free.keeps x.toInCall.keep, codeAny_func ?_⟩
  obtain ⟨t, ht, q⟩ := body cdv A outer s H vs Q E hg (hr.deeper _) hsp
  have I0 : Inv (cxOf CX0 P w K mg base N qual (defScope st) f cdv A outer s H E) [] (start N vs) H s1 :=
    inv_start S hr.hd env n rel x
  have done : ∀ {τ : St} {J : Hp} {v : V} {u : Value} {s' : Shared}, Inv (cxOf CX0 P w K mg base N qual (defScope st) f cdv A outer s H E) [] τ J s' → RelV v u → Q v J → CE outer P w H s Q u s' :=
    fun {τ J v u s'} I r z => ⟨v, J, I.os, I.bare, I.base, I.hok, r, z⟩
  refine wpAny_mono (ht.nox.run [] s1 (start N vs) H _ I0 q) (fun fl s' h => ?_) fun e s' h => h
  cases fl with
  | ret u =>
    obtain ⟨v, τ, J, I, r, z⟩ := h
    exact done I r z
  | next =>
    obtain ⟨τ, J, I, z⟩ := h
    exact done (v := V.non) (u := Value.none) I rfl z
  | brk =>
    obtain ⟨_, _, _, z⟩ := h
    exact False.elim z
  | cont =>
    obtain ⟨_, _, _, z⟩ := h
    exact False.elim z
end
/-- the law's own call, nothing being under way -/
theorem law_runG {P : Program} {w : World} {K : PySem.W.Frag} {mg mb : Str → Option Value} {k : Nat} {fa a : Addr} {fd : FuncData} {x : Str} {sp : Sp} {s0 : Shared} {us : List Value} {ns : List Int}
    (inK : K.In s0.heap) (hmg : s0.heap.Ns mainGlobals mg) (hmb : s0.heap.Ns builtinsNs mb) (boot : ∀ x : Str, x ≠ "__name__" → mb x = bootBuiltins x) (free : s0.heap.NoLimit) (hgens : s0.gens = #[])
    (obj : s0.heap.get? a = some { cls := .type "list", data := .seq us.toArray }) (isI : IntsAre us ns) (short : ns.length ≤ sizeLine) (room : Room k callerA)
    (F : ∀ base : Heap, K.In base → base.Ns mainGlobals mg → FnG P w K mg base CX0 k fa fd [x] sp) (bind : ∀ (s : Shared) (u : Value), BindsTo s fd ⟨[u], []⟩ [(x, u)])
    (hsp : ∀ H : Hp, SqL K H a (ns.map V.int) → sp [.ref a] H (fun v _ => v = .bl true) E0) :
    codeAny (model P w) callerA (.call (.ref fa) ⟨[.ref a], []⟩) (fun r s' => r = .ok (.ret (.bool true)) ∧ OldK s0.heap s'.heap ∧ s'.os = s0.os ∧ AllBare s'.gens) s0 := by
  have rel := vals_ints isI
  have nlen := isI.length
  have main : ∀ H : Hp, (∀ b, H b = none ∨ ∃ o xs, H b = some (.frz o (.lst xs))) → SqL K H a (ns.map V.int) → HOk P w H s0.heap → (∀ b u, H b = some u → b = a) → (∀ u, H a = some u → K.lookup a = none) →
      codeAny (model P w) callerA (.call (.ref fa) ⟨[.ref a], []⟩) (fun r s' => r = .ok (.ret (.bool true)) ∧ OldK s0.heap s'.heap ∧ s'.os = s0.os ∧ AllBare s'.gens) s0 := by
    intro H only hS ok atA notK
    have dictNo : ∀ {b : Addr} {o : Obj} {es : Array DictEntry} {ep : Nat}, s0.heap.get? b = some o → o.data = .dict es ep → H b = none := by
      intro b o es ep e d
      cases q : H b with
      | none => rfl
      | some u =>
        cases atA b u q
        rw [obj] at e
        cases e
        exact nomatch d
    have nsAt : ∀ {b : Addr} {m : Str → Option Value}, s0.heap.Ns b m → (hidT s0.heap H).Ns b m := by
      rintro b m ⟨o, es, ep, e, d, rest⟩
      exact ⟨o, es, ep, hidT_get e (dictNo e d), d, rest⟩
    have inB : K.In (hidT s0.heap H) := fun b o e => by
      refine hidT_get (inK b o e) ?_
      cases q : H b with
      | none => rfl
      | some u =>
        cases atA b u q
        rw [notK u q] at e
        cases e
    obtain ⟨mc, lim1, lim2⟩ := free
    have modB : Mod K mg (hidT s0.heap H) := ⟨inB, nsAt hmg, ⟨mb, nsAt hmb, boot⟩, mc, nsAt lim1, lim2⟩
    have env : Env0 P w K mg (hidT s0.heap H) callerA [] s0 H :=
      ⟨rfl, modB, fun b o => of_hidT, Nat.le_of_eq (hidT_size _ _), trivial, (fun b hb => by cases hb), ok, .of_eq hgens⟩
    refine codeAny_mono (F _ inB (nsAt hmg) callerA [] s0 H ⟨[.ref a], []⟩ [.ref a] [.ref a] _ _ rfl room env (bind s0 (.ref a)) (.cons rfl .nil) (hsp H hS)) fun r s' h => ?_
    cases r with
    | error e => exact h.elim
    | ok fl =>
      cases fl with
      | next => exact h.elim
      | brk => exact h.elim
      | cont => exact h.elim
      | ret u =>
        obtain ⟨v, J, os, bare, un, ok', rv, ev⟩ := h
        have ev' : v = .bl true := ev
        subst ev'
        obtain rfl : u = Value.bool true := rv
        refine ⟨rfl, OldK.of_keep fun b o e => ?_, os, bare⟩
        rcases only b with z | ⟨ob, xs, z⟩
        · exact un.keep b o e z (fun m => by cases m) (fun m => by cases m)
        · obtain ⟨e1, _⟩ := ok b _ z
          obtain ⟨e2, _⟩ := ok' b _ (un.frzs b ob _ z)
          rw [e] at e1
          cases e1
          exact e2
  cases inMod : K.lookup a with
  | some o =>
    have e := inK a o inMod
    rw [obj] at e
    cases e
    have sz : us.toArray.size ≤ sizeLine := by
      rw [List.size_toArray, nlen]
      exact short
    have no : ∀ (b : Addr) (u : HO), (fun _ : Addr => (none : Option HO)) b = some u → False := fun b u z => nomatch z
    exact main (fun _ => none) (fun _ => .inl rfl) (.inr ⟨_, us.toArray, _, inMod, rfl, rfl, rfl, sz, by simpa using rel⟩) (fun b u z => (no b u z).elim) (fun b u z => (no b u z).elim) fun u z => (no a u z).elim
  | none =>
    have hit : ∀ (b : Addr) (u : HO), (fun c : Addr => if c = a then some (HO.frz { cls := .type "list", data := .seq us.toArray } (.lst (ns.map V.int))) else none) b = some u →
        b = a ∧ u = .frz { cls := .type "list", data := .seq us.toArray } (.lst (ns.map V.int)) := by
      intro b u z
      by_cases hb : b = a
      · exact ⟨hb, (Option.some.inj ((if_pos hb).symm.trans z)).symm⟩
      · exact nomatch ((if_neg hb).symm.trans z)
    refine main (fun c => if c = a then some (.frz { cls := .type "list", data := .seq us.toArray } (.lst (ns.map V.int))) else none) (fun b => ?_) (.inl (.inr ⟨_, if_pos rfl⟩)) (fun b u z => ?_) (fun b u z => (hit b u z).1) fun _ _ => inMod
    · by_cases hb : b = a
      · exact .inr ⟨_, _, if_pos hb⟩
      · exact .inl (if_neg hb)
    · obtain ⟨rfl, rfl⟩ := hit b u z
      exact ⟨obj, by rw [List.length_map]; exact short, us, _, rel, obj⟩
theorem walk_ofG {l : PySem.W.OpenLaw} {n k : Nat} {q : Program} {loose : List Str} {XP : (Str → Option Value) → Heap → Prop} {YP : World → Heap → Prop} {d : DefRec} {K : Params → PySem.W.Frag} {sp : World → Sp} {x : Str}
    (hn : l.most = some n) (hn2 : n ≤ sizeLine) (hdf : d.params.defaults = []) (hr : Room k callerA) (hY : ∀ (w : World) (h : Heap), YP w h → (K w.params).In h)
    (F : ∀ (w : World) (mg : Str → Option Value) (fa : Addr) (h : Heap), (K w.params).In h → h.Ns mainGlobals mg → mg d.name = some (.ref fa) →
      ∃ fd : FuncData, (∀ (s : Shared) (u : Value), BindsTo s fd ⟨[u], []⟩ [(x, u)]) ∧
        ∀ base : Heap, (K w.params).In base → base.Ns mainGlobals mg → FnG l.prog w (K w.params) mg base CX0 k fa fd [x] (sp w))
    (hsp : ∀ (w : World) (H : Hp) (a : Addr) (ns : List Int), ns.length ≤ n → SqL (K w.params) H a (ns.map V.int) → sp w [.ref a] H (fun v _ => v = .bl true) E0) :
    PySem.W.WalkO q loose XP YP l.row.toRowW d [] (fun f vs => PySem.call f vs) := by
  refine Att.attach_call hn hdf fun w s₀ s₁ mg mb fa o pm cd doc a vs ns G Y ho hd hcd hmg hobj hints hlen hg => ?_
  obtain ⟨fd, hb, hF⟩ := F w mg fa _ (hY w _ Y) G.T.g hmg
  exact law_runG (hY w _ Y) G.T.g G.T.b G.T.builtins G.T.nolimit hg hobj hints (Nat.le_trans hlen hn2) hr hF hb fun H hS => hsp w H a ns hlen hS
/-! ### repr of data, nothing being under way -/
def rRepr (K : PySem.W.Frag) : List V → Hp → VK → Prop := fun xs H Q => ∃ (v : V) (d : PyData), xs = [v] ∧ Dp K H v d ∧ d.showable = true ∧ d.hasDict = false ∧ d.depth ≤ 50 ∧ d.shown.length ≤ sizeLine ∧ Q (.str d.shown) H
theorem call_reprD {X : Cx} {k : Nat} (hg : X.A.guards = some []) (hr : Room k X.A) : CallR X (.builtin "repr") (rRepr X.K) := by
  intro pins s σ H xs us Q I r h
  obtain ⟨v, d, rfl, hd, hs, hn, hdep, hsz, q⟩ := h
  obtain ⟨u, rfl, rv⟩ := vals1 r
  obtain ⟨as, rd⟩ := Dp.reads I d v u hd rv
  have hun := hr.un
  have key : ∀ a, u = .ref a → wpAny (model X.prog X.w) X.A (call (.builtin "repr") [u]) (EP X pins σ Q) X.xe s := by
    intro a e
    subst e
    exact PySem.repr_of_reads' rd hs (PyData.noDict_hsm hn) hg (by omega) (fun _ _ e => e) (fun h' t tk hk => ⟨.str _, H, I.kept hk, ⟨t, rfl⟩, q⟩) hsz
  cases hd with
  | non =>
    cases rv
    exact PySem.P.repr_of_none ⟨.str _, H, I.tok _, ⟨_, rfl⟩, q⟩
  | bl b =>
    cases rv
    exact PySem.P.repr_of_bool ⟨.str _, H, I.tok _, ⟨_, rfl⟩, q⟩
  | int i =>
    obtain ⟨t, rfl⟩ := rv
    exact PySem.P.repr_of_int (by simpa [PyData.showable] using hs) ⟨.str _, H, I.tok _, ⟨_, rfl⟩, q⟩
  | str x =>
    obtain ⟨t, rfl⟩ := rv
    exact PySem.P.repr_of_str ⟨.str _, H, I.tok _, ⟨_, rfl⟩, q⟩ hsz
  | lst _ _ =>
    cases rv
    exact key _ rfl
  | tup _ _ =>
    cases rv
    exact key _ rfl
end L2
namespace LT
open PySem L2
def top (i : Nat) : Stmt := PySem.Challenge.pw_lineturns_k04_rules_made.main.body.getD i (.Pass ⟨0, 0, 0, 0⟩)
abbrev sSeed : Stmt := top 34
abbrev sChoose : Stmt := top 35
abbrev sOneOf : Stmt := top 36
abbrev sIsName : Stmt := top 5
abbrev sLaw : Stmt := top 45
abbrev sIsWhole : Stmt := top 2
abbrev sIsSeq : Stmt := top 4
abbrev sReadRow : Stmt := top 17
abbrev sRegion : Stmt := top 18
abbrev sMoved : Stmt := top 19
abbrev sPlay : Stmt := top 22
abbrev sAscending : Stmt := top 23
abbrev sIsRound : Stmt := top 24
abbrev sPlayRound : Stmt := top 25
abbrev sGranted : Stmt := top 26
abbrev sFaults : Stmt := top 27
abbrev sFault : Stmt := top 28
abbrev sIsRows : Stmt := top 31
abbrev sIsBelow : Stmt := top 3
abbrev sModesOf : Stmt := top 32
abbrev sNames : Stmt := top 37
abbrev sAnyRow : Stmt := top 38
abbrev sFairRows : Stmt := top 39
abbrev sLRule : Stmt := top 40
abbrev sRowText : Stmt := top 41
abbrev sRuleText : Stmt := top 42
abbrev sMissed : Stmt := top 43
abbrev sMade : Stmt := top 44
abbrev sErrInit : Stmt := inClass (top 8) 0
abbrev sRowInit : Stmt := inClass (top 16) 0
abbrev sRowEq : Stmt := inClass (top 16) 1
abbrev sRowStr : Stmt := inClass (top 16) 2
abbrev sPlayedInit : Stmt := inClass (top 21) 0
abbrev sRuleErrI : Stmt := inClass (top 9) 0
abbrev sTextErrI : Stmt := inClass (top 10) 0
abbrev sRoundErrI : Stmt := inClass (top 11) 0
abbrev sNoRowI : Stmt := inClass (top 12) 0
abbrev sRuleInit : Stmt := inClass (top 30) 0
abbrev sRuleRead : Stmt := inClass (top 30) 1
abbrev sRuleWithout : Stmt := inClass (top 30) 2
abbrev sRuleRenamed : Stmt := inClass (top 30) 3
abbrev sRuleCall : Stmt := inClass (top 30) 4
abbrev sRuleLen : Stmt := inClass (top 30) 5
abbrev sRuleItem : Stmt := inClass (top 30) 6
abbrev sRuleAdd : Stmt := inClass (top 30) 8
abbrev sRuleEq : Stmt := inClass (top 30) 9
abbrev sRuleStr : Stmt := inClass (top 30) 10

/-- the heap without the box -/
def offB (H : Hp) (b : Addr) : Hp := fun c => if c = b then none else H c
theorem offB_ne {H : Hp} {b c : Addr} (h : c ≠ b) : offB H b c = H c := if_neg h
theorem offB_some {H : Hp} {b c : Addr} {o : HO} (h : offB H b c = some o) : c ≠ b ∧ H c = some o := by
  unfold offB at h
  by_cases e : c = b
  · rw [if_pos e] at h
    cases h
  · rw [if_neg e] at h
    exact ⟨e, h⟩
theorem offB_sub {H : Hp} {b : Addr} : Same (offB H b) H := fun _ _ h => (offB_some h).2
/-- from H to J all but the box at b is kept -/
def Kb (b : Addr) (H J : Hp) : Prop := ∀ c o, c ≠ b → H c = some o → J c = some o
theorem Kb.refl {b : Addr} {H : Hp} : Kb b H H := fun _ _ _ h => h
theorem Kb.trans {b : Addr} {H J L : Hp} (x : Kb b H J) (y : Kb b J L) : Kb b H L := fun c o n h => y c o n (x c o n h)
theorem Kb.of {b : Addr} {H J : Hp} (x : Same H J) : Kb b H J := fun c o _ h => x c o h
theorem Kb.box {b : Addr} {H : Hp} {o : HO} : Kb b H (upd H b o) := fun c u n h => by rw [upd_ne n]; exact h
theorem Kb.new {b p : Addr} {H : Hp} {o : HO} (h : H p = none) : Kb b H (upd H p o) := fun c u _ e => by rw [upd_ne (ne_of_none e h)]; exact e
theorem Kb.seq {K : PySem.W.Frag} {b : Addr} {H J : Hp} {a : Addr} {xs : List V} (x : Kb b H J) (n : a ≠ b) (h : SqL K H a xs) : SqL K J a xs := by
  rcases h with (h | ⟨o, h⟩) | h
  · exact .inl (.inl (x _ _ n h))
  · exact .inl (.inr ⟨o, x _ _ n h⟩)
  · exact .inr h
theorem new_same {H : Hp} {p : Addr} (h : H p = none) (o : HO) : Same H (upd H p o) := fun c u e => by rw [upd_ne (ne_of_none e h)]; exact e
/-- a box: a list of two ints -/
def Box (H : Hp) (b : Addr) : Prop := ∃ x y : Int, H b = some (.lst [.int x, .int y])

/-! ### promises -/
def spSeed (K : PySem.W.Frag) : Sp := fun vs H Q _ => ∃ (a : Addr) (ns : List Int) (k : Int), vs = [.ref a, .int k] ∧ SqL K H a (ns.map V.int) ∧ 0 ≤ k ∧ k ≤ 1000 ∧
  ∀ (p : Addr) (x y : Int), H p = none → Q (.ref p) (upd H p (.lst [.int x, .int y]))
def spChoose : Sp := fun vs H Q _ => ∃ (b : Addr) (m : Int), vs = [.ref b, .int m] ∧ Box H b ∧ 0 < m ∧ m ≤ 1000000000 ∧
  ∀ (d x y : Int), 0 ≤ d → d < m → Q (.int d) (upd H b (.lst [.int x, .int y]))
def spOneOf (K : PySem.W.Frag) : Sp := fun vs H Q _ => ∃ (b s : Addr) (xs : List V), vs = [.ref b, .ref s] ∧ Box H b ∧ s ≠ b ∧ SqL K H s xs ∧ 0 < xs.length ∧ xs.length ≤ 1000 ∧
  ∀ (i : Nat) (v : V) (x y : Int), xs[i]? = some v → Q v (upd H b (.lst [.int x, .int y]))
structure Blt (mg : Str → Option Value) : Prop where
  len : mg "len" = none
  abs : mg "abs" = none
  int : mg "int" = none
  range : mg "range" = none
  tuple : mg "tuple" = none
section
variable {P : Program} {w : World} {K : PySem.W.Frag} {mg : Str → Option Value} {base : Heap}
theorem mod_ix {k n : Int} (hn : 0 < n) : 0 ≤ k % n ∧ k % n < n := ⟨Int.emod_nonneg _ (by omega), Int.emod_lt_of_pos _ hn⟩
theorem at_in {ns : List Int} {i : Int} (h0 : 0 ≤ i) (h1 : i < (ns.length : Int)) : ∃ z, atI (ns.map V.int) i = some (.int z) := by
  obtain ⟨j, rfl⟩ : ∃ j : Nat, i = (j : Int) := ⟨i.toNat, by omega⟩
  have hj : j < ns.length := by omega
  exact ⟨ns[j], atI_nat (by rw [List.getElem?_map, List.getElem?_eq_getElem hj] <;> rfl)⟩
theorem scSeed : FnScope ["_law_script", "_law_k", "_law_cell"] ["_law_script", "_law_k"] (defScope sSeed) := ⟨rfl, rfl, rfl, by decide +kernel, rfl, by decide +kernel, by decide +kernel⟩
theorem ok_seed {f : Addr} {fd : FuncData} (F : Fun K "_law_seed" "_law_seed" sSeed f fd) (T : Blt mg) : FnOk P w K mg base CX0 1 f fd ["_law_script", "_law_k"] (spSeed K) := by
  refine F.ok scSeed (fun vs H Q E h => ?_) (fun cdv A outer s H vs Q E hr h => ?_)
  · obtain ⟨a, ns, k, rfl, _⟩ := h
    rfl
  obtain ⟨a, ns, k, rfl, hS, h0, h1, q⟩ := h
  refine ⟨_, pss_cons (ps_set (i := 2) scSeed.nd rfl (Or.inl rfl) (pe_op op_add (pe_op op_mul pe_int (pv 1)) pe_int))
    (pss_cons (ps_if (pt_cmpR op_lt (pv 1) (pe_callB call_len_seq (by rfl) T.len PySem.boot_len (pa_cons (pv 0) pa_nil)) (nomark _))
        (pss_one (ps_set (i := 2) scSeed.nd rfl (Or.inl rfl) (pe_callB call_abs (by rfl) T.abs (by decide +kernel) (pa_cons (pe_ix ix_list (pv 0) (pv 1) (fun _ _ => rfl)) pa_nil))))
        (pss_one (ps_if (pt_cmpR op_gt (pe_callB call_len_seq (by rfl) T.len PySem.boot_len (pa_cons (pv 0) pa_nil)) pe_int (nomark _))
          (pss_one (ps_set (i := 2) scSeed.nd rfl (Or.inl rfl) (pe_op op_add (pv 2) (pe_op op_mul (pe_op op_mod (pe_callTy call_int1 (by rfl) T.int (by decide +kernel) (pa_cons (pe_callB call_abs (by rfl) T.abs (by decide +kernel)
            (pa_cons (pe_ix ix_list (pv 0) (pe_op op_mod (pe_callTy call_int1 (by rfl) T.int (by decide +kernel) (pa_cons (pv 1) pa_nil)) (pe_callB call_len_seq (by rfl) T.len PySem.boot_len (pa_cons (pv 0) pa_nil))) (fun _ _ => rfl)) pa_nil)) pa_nil)) pe_int) pe_int))))
          pss_nil)))
    (pss_one (ps_ret (pe_lst (pa_cons (pe_ifExp (pt_cmpR op_ge (pv 2) (pe_op op_pow pe_int pe_int) (nomark _)) (pv 2) pe_int)
      (pa_cons (pe_op op_add (pe_op op_mod (pe_callTy call_int1 (by rfl) T.int (by decide +kernel) (pa_cons (pe_op op_add (pe_op op_mul (pe_op op_mod (pe_callTy call_int1 (by rfl) T.int (by decide +kernel) (pa_cons (pv 2) pa_nil)) pe_int) pe_int) (pe_op op_mul pe_int (pv 1))) pa_nil)) pe_int) pe_int) pa_nil)))))), ?_⟩
  have hl : (ns.map V.int).length = ns.length := List.length_map _
  refine ⟨_, rfl, _, _, rfl, rfl, .inl (by decide), _, _, rfl, rfl, ?_⟩
  refine ⟨_, rfl, _, rfl, a, _, rfl, .inl hS, _, _, rfl, rfl, _, rfl, ?_⟩
  refine ite2 (fun c => ?_) (fun c => ?_)
  · have c' : k < (((ns.map V.int).length : Nat) : Int) := of_decide_eq_true c
    rw [hl] at c'
    obtain ⟨z, hz⟩ := at_in h0 c'
    refine ⟨_, rfl, _, rfl, a, _, _, _, rfl, rfl, hS, hz, _, rfl, ?_⟩
    generalize hc : (if z < 0 then -z else z) = cell
    refine ⟨_, rfl, _, _, rfl, rfl, ⟨by decide, by decide, by decide⟩, _, _, rfl, rfl, _, rfl, ?_⟩
    refine ite2 (fun _ => ⟨_, rfl, ?_⟩) (fun _ => ?_)
    all_goals
      refine ⟨_, rfl, .inl ⟨_, rfl, _, _, rfl, rfl, (by show (0 : Int) < 2147483629; decide), _, _, rfl, rfl, .inr (by decide), _, rfl, _, _, rfl, rfl, .inl (by decide), _, _, rfl, rfl, ?_⟩⟩
      refine .inl ⟨_, rfl, _, _, rfl, rfl, (by show (0 : Int) < 2147483629; decide), _, _, rfl, rfl, (by show 2 ≤ sizeLine; decide), fun p hp => q p _ _ hp⟩
  · refine ⟨_, rfl, a, _, rfl, .inl hS, _, _, rfl, rfl, _, rfl, ?_⟩
    refine ite2 (fun d => ?_) (fun d => ?_)
    · have d' : (0 : Int) < (((ns.map V.int).length : Nat) : Int) := of_decide_eq_true d
      obtain ⟨m0, m1⟩ := mod_ix (k := k) d'
      obtain ⟨z, hz⟩ := at_in (ns := ns) m0 (by rw [hl] at m1 ⊢; exact m1)
      refine ⟨_, rfl, _, rfl, _, rfl, .inl ⟨_, rfl, _, rfl, a, _, rfl, .inl hS, _, _, rfl, rfl, d', a, _, _, _, rfl, rfl, hS, hz, _, rfl, ?_⟩⟩
      refine .inl ⟨_, rfl, _, _, rfl, rfl, (by show (0 : Int) < 2147483629; decide), _, _, rfl, rfl, .inr (by decide), _, _, rfl, rfl, ?_⟩
      generalize hc : (6481 * k + 37 + (if z < 0 then -z else z) % 2147483629 * 40093) = cell
      refine ⟨_, rfl, _, _, rfl, rfl, ⟨by decide, by decide, by decide⟩, _, _, rfl, rfl, _, rfl, ?_⟩
      refine ite2 (fun _ => ⟨_, rfl, ?_⟩) (fun _ => ?_)
      all_goals
        refine ⟨_, rfl, .inl ⟨_, rfl, _, _, rfl, rfl, (by show (0 : Int) < 2147483629; decide), _, _, rfl, rfl, .inr (by decide), _, rfl, _, _, rfl, rfl, .inl (by decide), _, _, rfl, rfl, ?_⟩⟩
        refine .inl ⟨_, rfl, _, _, rfl, rfl, (by show (0 : Int) < 2147483629; decide), _, _, rfl, rfl, (by show 2 ≤ sizeLine; decide), fun p hp => q p _ _ hp⟩
    · generalize hc : (6481 * k + 37) = cell
      refine ⟨_, rfl, _, _, rfl, rfl, ⟨by decide, by decide, by decide⟩, _, _, rfl, rfl, _, rfl, ?_⟩
      refine ite2 (fun _ => ⟨_, rfl, ?_⟩) (fun _ => ?_)
      all_goals
        refine ⟨_, rfl, .inl ⟨_, rfl, _, _, rfl, rfl, (by show (0 : Int) < 2147483629; decide), _, _, rfl, rfl, .inr (by decide), _, rfl, _, _, rfl, rfl, .inl (by decide), _, _, rfl, rfl, ?_⟩⟩
        refine .inl ⟨_, rfl, _, _, rfl, rfl, (by show (0 : Int) < 2147483629; decide), _, _, rfl, rfl, (by show 2 ≤ sizeLine; decide), fun p hp => q p _ _ hp⟩
theorem scChoose : FnScope ["_law_box", "_law_many", "_law_digit", "_law_first"] ["_law_box", "_law_many"] (defScope sChoose) := ⟨rfl, rfl, rfl, by decide +kernel, rfl, by decide +kernel, by decide +kernel⟩
theorem ok_choose {f : Addr} {fd : FuncData} (F : Fun K "_law_choose" "_law_choose" sChoose f fd) (T : Blt mg) : FnOk P w K mg base CX0 1 f fd ["_law_box", "_law_many"] spChoose := by
  refine F.ok scChoose (fun vs H Q E h => ?_) (fun cdv A outer s H vs Q E hr h => ?_)
  · obtain ⟨b, m, rfl, _⟩ := h
    rfl
  obtain ⟨b, m, rfl, ⟨x, y, hb⟩, h0, h1, q⟩ := h
  have hS : SqL K H b [.int x, .int y] := SqL.of hb
  refine ⟨_, pss_cons (ps_if (pt_cmpR op_gt (pe_ix ix_list (pv 0) pe_int (fun _ _ => rfl)) pe_int (nomark _))
      (pss_cons (ps_set (i := 2) scChoose.nd rfl (Or.inl rfl) (pe_op op_mod (pe_callTy call_int1 (by rfl) T.int (by decide +kernel) (pa_cons (pe_ix ix_list (pv 0) pe_int (fun _ _ => rfl)) pa_nil)) (pv 1)))
      (pss_cons (ps_asg (pe_op op_fdiv (pe_ix ix_list (pv 0) pe_int (fun _ _ => rfl)) (pv 1)) (pg_sub (pv 0) pe_int set_list))
      (pss_one (ps_ret (pv 2))))) pss_nil)
    (pss_cons (ps_set (i := 3) scChoose.nd rfl (Or.inl rfl) (pe_op op_mod (pe_callTy call_int1 (by rfl) T.int (by decide +kernel) (pa_cons (pe_op op_add (pe_op op_mul (pe_ix ix_list (pv 0) pe_int (fun _ _ => rfl)) pe_int) pe_int) pa_nil)) pe_int))
    (pss_cons (ps_asg (pe_op op_add (pe_op op_mod (pe_callTy call_int1 (by rfl) T.int (by decide +kernel) (pa_cons (pe_op op_add (pe_op op_mul (pv 3) pe_int) pe_int) pa_nil)) pe_int) pe_int) (pg_sub (pv 0) pe_int set_list))
    (pss_one (ps_ret (pe_op op_mod (pe_callTy call_int1 (by rfl) T.int (by decide +kernel) (pa_cons (pe_op op_fdiv (pe_op op_add (pe_op op_mul (pv 3) pe_int) (pe_ix ix_list (pv 0) pe_int (fun _ _ => rfl))) pe_int) pa_nil)) (pv 1)))))), ?_⟩
  have a0 : atI ([.int x, .int y] : List V) 0 = some (.int x) := rfl
  have a1 : atI ([.int x, .int y] : List V) 1 = some (.int y) := rfl
  refine ⟨_, rfl, b, _, _, _, rfl, rfl, hS, a0, _, _, rfl, rfl, _, rfl, ?_⟩
  refine ite2 (fun c => ?_) (fun c => ?_)
  · refine ⟨_, rfl, b, _, _, _, rfl, rfl, hS, a0, .inl ⟨_, rfl, _, rfl, _, _, rfl, rfl, h0, ?_⟩⟩
    refine ⟨_, rfl, b, _, _, _, rfl, rfl, hS, a0, _, rfl, _, _, rfl, rfl, ⟨h0, by omega⟩, ?_⟩
    refine ⟨_, rfl, b, _, _, 0, rfl, rfl, hb, rfl, ?_⟩
    exact ⟨_, rfl, q (x % m) (x / m) y (mod_ix h0).1 (mod_ix h0).2⟩
  · refine ⟨_, rfl, b, _, _, _, rfl, rfl, hS, a1, _, _, rfl, rfl, .inr (by decide), _, _, rfl, rfl, .inl ⟨_, rfl, _, _, rfl, rfl, (by show (0 : Int) < 2147483563; decide), ?_⟩⟩
    refine ⟨_, rfl, _, _, rfl, rfl, .inr (by decide), _, _, rfl, rfl, .inl ⟨_, rfl, _, _, rfl, rfl, (by show (0 : Int) < 2147483629; decide), _, _, rfl, rfl, ?_⟩⟩
    refine ⟨_, rfl, b, _, _, 1, rfl, rfl, hb, rfl, ?_⟩
    refine ⟨_, rfl, _, _, rfl, rfl, .inr (by decide), _, rfl, b, _, _, _, rfl, rfl, SqL.of upd_same, rfl, _, _, rfl, rfl, _, _, rfl, rfl, ⟨by decide, by decide⟩, .inl ⟨_, rfl, _, rfl, _, _, rfl, rfl, h0, ?_⟩⟩
    exact q _ x ((((y * 40014 + 17) % 2147483563) * 40692 + 3067) % 2147483629 + 1) (mod_ix h0).1 (mod_ix h0).2
theorem scOneOf : FnScope ["_law_box", "_law_some"] ["_law_box", "_law_some"] (defScope sOneOf) := ⟨rfl, rfl, rfl, by decide +kernel, rfl, by decide +kernel, by decide +kernel⟩
theorem ok_oneof {f g : Addr} {fd gd : FuncData} (F : Fun K "_law_one_of" "_law_one_of" sOneOf f fd) (T : Blt mg) (G : FnOk P w K mg base CX0 1 g gd ["_law_box", "_law_many"] spChoose) (bG : Binds K gd ["_law_box", "_law_many"] []) (kG : PySem.W.keepIn K (.ref g) = true) (mG : mg "_law_choose" = some (.ref g)) :
    FnOk P w K mg base CX0 2 f fd ["_law_box", "_law_some"] (spOneOf K) := by
  refine F.ok scOneOf (fun vs H Q E h => ?_) (fun cdv A outer s H vs Q E hr h => ?_)
  · obtain ⟨b, s, xs, rfl, _⟩ := h
    rfl
  obtain ⟨b, a, xs, rfl, hb, hn, hS, h0, h1, q⟩ := h
  refine ⟨_, pss_one (ps_ret (pe_ix ix_list (pv 1) (pe_call G hr rfl mG kG bG .nil pass0 (pa_cons (pv 0) (pa_cons (pe_callB call_len_seq (by rfl) T.len PySem.boot_len (pa_cons (pv 1) pa_nil)) pa_nil))) (fun _ _ => rfl))), ?_⟩
  refine ⟨_, rfl, _, rfl, _, rfl, a, xs, rfl, .inl hS, b, _, rfl, hb, by omega, by omega, fun d x y d0 d1 => ?_⟩
  obtain ⟨j, rfl⟩ : ∃ j : Nat, d = (j : Int) := ⟨d.toNat, by omega⟩
  have hj : j < xs.length := by omega
  have e : xs[j]? = some xs[j] := List.getElem?_eq_getElem hj
  exact ⟨a, xs, _, _, rfl, rfl, Kb.box.seq hn hS, atI_nat e, q j _ x y e⟩
end
end LT
namespace LT
open PySem L2
/-! ### data -/
mutual
theorem dp_monoX {K : PySem.W.Frag} {H J : Hp} (s : L3.Ex H J) : ∀ (d : PyData) (v : V), Dp K H v d → Dp K J v d
  | .none, _, h => by cases h; exact .non
  | .bool b, _, h => by cases h; exact .bl b
  | .int i, _, h => by cases h; exact .int i
  | .str x, _, h => by cases h; exact .str x
  | .list ds, _, h => by
    cases h with
    | lst hs ha => exact .lst (s.seq hs) (dpAll_monoX s ds _ ha)
  | .tuple ds, _, h => by
    cases h with
    | tup hs ha => exact .tup (same_tup s hs) (dpAll_monoX s ds _ ha)
  | .dict _, _, h => by cases h
where
  same_tup {K : PySem.W.Frag} {H J : Hp} {a : Addr} {xs : List V} (e : L3.Ex H J) (h : SqT K H a xs) : SqT K J a xs := by
    rcases h with (h | ⟨o, h⟩) | h
    · exact .inl (.inl (e _ _ h))
    · exact .inl (.inr ⟨o, e _ _ h⟩)
    · exact .inr h
theorem dpAll_monoX {K : PySem.W.Frag} {H J : Hp} (s : L3.Ex H J) : ∀ (ds : List PyData) (vs : List V), DpAll K H vs ds → DpAll K J vs ds
  | [], _, h => by cases h; exact .nil
  | d :: ds, _, h => by
    cases h with
    | cons h1 h2 => exact .cons (dp_monoX s d _ h1) (dpAll_monoX s ds _ h2)
end
theorem dp_mono {K : PySem.W.Frag} {H J : Hp} (s : Same H J) : ∀ (d : PyData) (v : V), Dp K H v d → Dp K J v d := dp_monoX (L3.exOf s)
theorem dpAll_mono {K : PySem.W.Frag} {H J : Hp} (s : Same H J) : ∀ (ds : List PyData) (vs : List V), DpAll K H vs ds → DpAll K J vs ds := dpAll_monoX (L3.exOf s)
theorem dpAll_get {K : PySem.W.Frag} {H : Hp} : ∀ {ds : List PyData} {vs : List V} {i : Nat} {v : V}, DpAll K H vs ds → vs[i]? = some v → ∃ d, d ∈ ds ∧ Dp K H v d
  | [], _, _, _, h, e => by
    cases h
    cases e
  | d :: ds, _, 0, _, h, e => by
    cases h with
    | cons h1 h2 =>
      cases e
      exact ⟨d, List.mem_cons_self, h1⟩
  | d :: ds, _, i + 1, _, h, e => by
    cases h with
    | cons h1 h2 =>
      obtain ⟨d', m, q⟩ := dpAll_get h2 (i := i) e
      exact ⟨d', List.mem_cons_of_mem _ m, q⟩
theorem dpAll_add {K : PySem.W.Frag} {H : Hp} {v : V} {d : PyData} (hd : Dp K H v d) : ∀ {ds : List PyData} {vs : List V}, DpAll K H vs ds → DpAll K H (vs ++ [v]) (ds ++ [d])
  | [], _, h => by
    cases h
    exact .cons hd .nil
  | _ :: _, _, h => by
    cases h with
    | cons h1 h2 => exact .cons h1 (dpAll_add hd h2)
theorem dpAll_len {K : PySem.W.Frag} {H : Hp} : ∀ {ds : List PyData} {vs : List V}, DpAll K H vs ds → vs.length = ds.length
  | [], _, h => by
    cases h
    rfl
  | _ :: _, _, h => by
    cases h with
    | cons h1 h2 => exact congrArg (· + 1) (dpAll_len h2)
/-- what is new from H to J -/
def frs (H J : Hp) : Hp := fun c => match H c with
  | some _ => none
  | none => J c
theorem frs_of {H J : Hp} {c : Addr} (h : H c = none) : frs H J c = J c := by
  unfold frs
  rw [h]
theorem frs_some {H J : Hp} {c : Addr} {o : HO} (h : frs H J c = some o) : H c = none ∧ J c = some o := by
  unfold frs at h
  split at h
  · cases h
  · rename_i e
    exact ⟨e, h⟩
/-- where what is new from H to J stands also in L, seen from G -/
theorem frs_same {G H J L : Hp} (h : ∀ c o, H c = none → J c = some o → G c = none ∧ L c = some o) : Same (frs H J) (frs G L) := fun c o e => by
  obtain ⟨e1, e2⟩ := frs_some e
  obtain ⟨q1, q2⟩ := h c o e1 e2
  rw [frs_of q1]
  exact q2
theorem frs_sub {H J : Hp} : Same (frs H J) J := fun _ _ e => (frs_some e).2
end LT
namespace LT
open PySem L2
/-! ### the mathematics of names -/
def nameP (z : Str) : Bool := !decide ((4 : Int) < (z.length : Int)) && !decide (V.str z = V.str "also") && (Txt.isascii z && (Txt.isalpha z && Txt.islower z))
def isStr : V → Bool
  | .str _ => true
  | _ => false
def isBl : V → Bool
  | .bl _ => true
  | _ => false
def nameV (f : Str → Bool) : V → Bool
  | .str z => f z
  | _ => false
/-- what isinstance tells of a value, and how long a text is -/
structure Kind (K : PySem.W.Frag) (H : Hp) (v : V) : Prop where
  ty : ∃ t, TyX K H v t ∧ PySem.W.kitOne K t (.type "str") = some (isStr v) ∧ PySem.W.kitOne K t (.type "bool") = some (isBl v)
  sz : ∀ z, v = .str z → z.length ≤ 100
def spIsName (K : PySem.W.Frag) : Sp := fun vs H Q _ => ∃ v, vs = [v] ∧ Kind K H v ∧ Q (.bl (nameV nameP v)) H
structure Blt2 (mg : Str → Option Value) : Prop where
  isin : mg "isinstance" = none
  str : mg "str" = none
  bool : mg "bool" = none
section
variable {P : Program} {w : World} {K : PySem.W.Frag} {mg : Str → Option Value} {base : Heap}
theorem boot_isin : bootBuiltins "isinstance" = some (.builtin "isinstance") := by decide +kernel
theorem boot_strT : bootBuiltins "str" = some (.type "str") := by decide +kernel
theorem boot_boolT : bootBuiltins "bool" = some (.type "bool") := by decide +kernel
theorem scIsName : FnScope ["value"] ["value"] (defScope sIsName) := ⟨rfl, rfl, rfl, by decide +kernel, rfl, by decide +kernel, by decide +kernel⟩
theorem ok_isname {f : Addr} {fd : FuncData} (F : Fun K "is_name" "is_name" sIsName f fd) (T : Blt mg) (U : Blt2 mg) : FnOk P w K mg base CX0 1 f fd ["value"] (spIsName K) := by
  refine F.ok scIsName (fun vs H Q E h => ?_) (fun cdv A outer s H vs Q E hr h => ?_)
  · obtain ⟨v, rfl, _⟩ := h
    rfl
  obtain ⟨v, rfl, ⟨⟨t, ty, e1, _⟩, hz⟩, q⟩ := h
  refine ⟨_, pss_cons (ps_if (PW.pt (pw_or (pt_not (pt_val (pe_callB call_isi (by rfl) U.isin boot_isin (pa_cons (pv 0) (pa_cons (pe_bltn (v := .ty "str") (by rfl) U.str boot_strT rfl) pa_nil)))))
      (pw_or (pt_cmpR op_gt (pe_callB call_len_str (by rfl) T.len PySem.boot_len (pa_cons (pv 0) pa_nil)) pe_int (nomark _)) (pw_or1 (pt_cmpR op_eq (pv 0) pe_str (nomark _))))))
      (pss_one (ps_ret pe_bl)) pss_nil)
    (pss_one (ps_ret (pe_and (pe_bm0 PySem.F.plainAttrs_str PySem.F.slot_str_isascii PySem.F.type_str_isascii mt_isascii (pv 0))
      (pe_and (pe_bm0 PySem.F.plainAttrs_str PySem.F.slot_str_isalpha PySem.F.type_str_isalpha mt_isalpha (pv 0)) (pe_one (pe_bm0 PySem.F.plainAttrs_str PySem.F.slot_str_islower PySem.F.type_str_islower mt_islower (pv 0))))))), ?_⟩
  refine ⟨_, rfl, v, _, t, _, isStr v, rfl, .ty "str", ty, e1, _, rfl, ?_⟩
  cases v with
  | str z =>
    have hz' : z.length ≤ sizeLine := Nat.le_of_lt (small1000 (Nat.le_trans (hz z rfl) (by decide)))
    refine iteF ⟨_, rfl, z, rfl, hz', _, _, rfl, rfl, _, rfl, ?_⟩
    refine ite2 (fun c => iteT ?_) (fun c => ⟨_, rfl, rfl, _, rfl, ?_⟩)
    · have e : nameV nameP (.str z) = false := by
        show (!decide ((4 : Int) < (z.length : Int)) && _ && _) = false
        rw [c]
        rfl
      rw [e] at q
      exact q
    · refine ite2 (fun d => ?_) (fun d => ?_)
      · have e : nameV nameP (.str z) = false := by
          show (!decide ((4 : Int) < (z.length : Int)) && !decide (V.str z = V.str "also") && _) = false
          rw [d, Bool.not_true, Bool.and_false, Bool.false_and]
        rw [e] at q
        exact q
      · have c' : decide ((4 : Int) < (z.length : Int)) = false := Bool.eq_false_iff.mpr c
        have d' : decide (V.str z = V.str "also") = false := Bool.eq_false_iff.mpr d
        have e : nameV nameP (.str z) = (Txt.isascii z && (Txt.isalpha z && Txt.islower z)) := by
          show (!decide ((4 : Int) < (z.length : Int)) && !decide (V.str z = V.str "also") && _) = _
          rw [c', d', Bool.not_false, Bool.and_true, Bool.true_and]
        rw [e] at q
        refine ⟨_, rfl, rfl, z, rfl, rfl, trivial, _, rfl, ?_⟩
        cases h1 : Txt.isascii z with
        | false =>
          rw [h1, Bool.false_and] at q
          exact iteF q
        | true =>
          rw [h1, Bool.true_and] at q
          refine iteT ⟨_, rfl, rfl, z, rfl, rfl, trivial, _, rfl, ?_⟩
          cases h2 : Txt.isalpha z with
          | false =>
            rw [h2, Bool.false_and] at q
            exact iteF q
          | true =>
            rw [h2, Bool.true_and] at q
            exact iteT ⟨_, rfl, rfl, z, rfl, rfl, trivial, q⟩
  | _ => exact iteT (iteT q)
end
end LT
namespace LT
open PySem L2
def spErr (C : Addr) : Sp := fun vs H Q _ => ∃ (a : Addr) (v : V), vs = [.ref a, v] ∧ H a = some (exo a C none) ∧
  ∀ dx, H dx = none → dx ≠ a → Q .non (upd (upd H dx (exd dx [("word", v)])) a (exo a C (some dx)))
section
variable {P : Program} {w : World} {K : PySem.W.Frag} {mg : Str → Option Value} {base : Heap}
theorem scErr : FnScope ["self", "word"] ["self", "word"] (defScope sErrInit) := ⟨rfl, rfl, rfl, by decide +kernel, rfl, by decide +kernel, by decide +kernel⟩
theorem ok_err {C f : Addr} {fd : FuncData} {q : Str} (F : Fun K "__init__" q sErrInit f fd) (T : OexC K C) (no : PySem.W.findIn K (.ref C) "word" = some none) : FnOk P w K mg base CX0 1 f fd ["self", "word"] (spErr C) := by
  refine F.ok scErr (fun vs H Q E h => ?_) (fun cdv A outer s H vs Q E hr h => ?_)
  · obtain ⟨a, v, rfl, _⟩ := h
    rfl
  obtain ⟨a, v, rfl, ha, q⟩ := h
  refine ⟨_, pss_one (ps_ost (pv 0) (pv 1)), ?_⟩
  exact ⟨_, rfl, _, rfl, a, C, rfl, T, no, .inl ⟨ha, q⟩⟩
end
/-! ### rows -/
def picks : List Str := ["keep", "at", "past", "under", "all"]
def moves : List Str := ["stay", "on", "home"]
def pickV (l : List Str) : V → Bool
  | .str z => l.any fun y => y == z
  | _ => false
def rowDue (m p mv t a : V) : Option Str :=
  if nameV nameP m = false then some "mode" else if pickV picks p = false then some "pick" else if pickV moves mv = false then some "move" else if nameV nameP t = false then some "then" else if isBl a = false then some "also" else none
def rowFs (m p mv t a : V) : List (Str × V) := [("mode", m), ("pick", p), ("move", mv), ("then", t), ("also", a)]
theorem rowFs_put (m p mv t a : V) : putF "also" a (putF "then" t (putF "move" mv (putF "pick" p (putF "mode" m [])))) = rowFs m p mv t a := by
  kernel_rfl
/-- what the law hands to a row: data, or a row -/
def Arg (K : PySem.W.Frag) (C : Addr) (H : Hp) (v : V) : Prop :=
  (∃ d, Dp K H v d ∧ SeqAt.shaped d = true ∧ ∀ z, v = .str z → z.length ≤ 100) ∨ ∃ a dx fs, v = .ref a ∧ H a = some (.ins C dx fs)
theorem Arg.mono {K : PySem.W.Frag} {C : Addr} {H J : Hp} {v : V} (s : Same H J) (h : Arg K C H v) : Arg K C J v := by
  rcases h with ⟨d, h1, h2, h3⟩ | ⟨a, dx, fs, h1, h2⟩
  · exact .inl ⟨d, dp_mono s d v h1, h2, h3⟩
  · exact .inr ⟨a, dx, fs, h1, s _ _ h2⟩
/-- what the written part says of the class Row -/
structure RowC (K : PySem.W.Frag) (mg : Str → Option Value) (C : Addr) : Prop where
  cl : Cls K C
  ha : PySem.W.findIn K (.ref C) "__class__" = some (some (.builtin "object.__class__"))
  hn : PySem.W.specialIn K (.builtin "object.__class__") "__get__" = some (some (.builtin "getset_descriptor.__get__"))
  ht : PySem.W.takesIn K (.builtin "object.__class__") = some true
  hm : PySem.W.mroIn K C (.type "object") = some true
  ks : PySem.W.kitOne K (.ref C) (.type "str") = some false
  kb : PySem.W.kitOne K (.ref C) (.type "bool") = some false
  n1 : NoAttr K C "mode"
  n2 : NoAttr K C "pick"
  n3 : NoAttr K C "move"
  n4 : NoAttr K C "then"
  n5 : NoAttr K C "also"
  mgC : mg "Row" = some (.ref C)
theorem tyx_seqL {K : PySem.W.Frag} {H : Hp} {a : Addr} {xs : List V} (h : SqL K H a xs) : TyX K H (.ref a) (.type "list") := by
  rcases h with (h | ⟨o, h⟩) | ⟨o, its, n, h, c, _⟩
  · exact .base (.lst h)
  · exact .base (.frz h)
  · exact .kList h c
theorem tyx_seqT {K : PySem.W.Frag} {H : Hp} {a : Addr} {xs : List V} (h : SqT K H a xs) : TyX K H (.ref a) (.type "tuple") := by
  rcases h with (h | ⟨o, h⟩) | ⟨o, its, n, h, c, _⟩
  · exact .base (.tup h)
  · exact .fTuple h
  · exact .kTuple h c
theorem kit_NoneType_str {K : PySem.W.Frag} : PySem.W.kitOne K (.type "NoneType") (.type "str") = some false := kit_ty (by decide +kernel)
theorem kit_NoneType_bool {K : PySem.W.Frag} : PySem.W.kitOne K (.type "NoneType") (.type "bool") = some false := kit_ty (by decide +kernel)
theorem kit_bool_str {K : PySem.W.Frag} : PySem.W.kitOne K (.type "bool") (.type "str") = some false := kit_ty (by decide +kernel)
theorem kit_bool_bool {K : PySem.W.Frag} : PySem.W.kitOne K (.type "bool") (.type "bool") = some true := kit_ty (by decide +kernel)
theorem kit_int_str {K : PySem.W.Frag} : PySem.W.kitOne K (.type "int") (.type "str") = some false := kit_ty (by decide +kernel)
theorem kit_int_bool {K : PySem.W.Frag} : PySem.W.kitOne K (.type "int") (.type "bool") = some false := kit_ty (by decide +kernel)
theorem kit_str_str {K : PySem.W.Frag} : PySem.W.kitOne K (.type "str") (.type "str") = some true := kit_ty (by decide +kernel)
theorem kit_str_bool {K : PySem.W.Frag} : PySem.W.kitOne K (.type "str") (.type "bool") = some false := kit_ty (by decide +kernel)
theorem kit_list_str {K : PySem.W.Frag} : PySem.W.kitOne K (.type "list") (.type "str") = some false := kit_ty (by decide +kernel)
theorem kit_list_bool {K : PySem.W.Frag} : PySem.W.kitOne K (.type "list") (.type "bool") = some false := kit_ty (by decide +kernel)
theorem kit_tuple_str {K : PySem.W.Frag} : PySem.W.kitOne K (.type "tuple") (.type "str") = some false := kit_ty (by decide +kernel)
theorem kit_tuple_bool {K : PySem.W.Frag} : PySem.W.kitOne K (.type "tuple") (.type "bool") = some false := kit_ty (by decide +kernel)
theorem Arg.kind {K : PySem.W.Frag} {mg : Str → Option Value} {C : Addr} {H : Hp} {v : V} (T : RowC K mg C) (h : Arg K C H v) : Kind K H v := by
  rcases h with ⟨d, h1, _, h3⟩ | ⟨a, dx, fs, rfl, h2⟩
  · refine ⟨?_, fun z e => h3 z e⟩
    cases h1 with
    | non => exact ⟨_, .base .non, kit_NoneType_str, kit_NoneType_bool⟩
    | bl b => exact ⟨_, .base (.bl b), kit_bool_str, kit_bool_bool⟩
    | int i => exact ⟨_, .base (.int i), kit_int_str, kit_int_bool⟩
    | str x => exact ⟨_, .base (.str x), kit_str_str, kit_str_bool⟩
    | lst hs _ => exact ⟨_, tyx_seqL hs, kit_list_str, kit_list_bool⟩
    | tup hs _ => exact ⟨_, tyx_seqT hs, kit_tuple_str, kit_tuple_bool⟩
  · exact ⟨⟨_, .base (.ins h2 T.cl T.ha T.hn T.ht T.hm), T.ks, T.kb⟩, fun z e => nomatch e⟩
/-! ### x not in a tuple of texts -/
def strD (xs : List Str) : List PyData := xs.map PyData.str
theorem dp_strs {K : PySem.W.Frag} {H : Hp} : ∀ xs : List Str, DpAll K H (xs.map V.str) (strD xs)
  | [] => .nil
  | x :: xs => .cons (.str x) (dp_strs xs)
theorem eqv_strs {K : PySem.W.Frag} {H : Hp} {v : V} {d : PyData} (h : Dp K H v d) : ∀ xs : List Str, (strD xs).any (fun y => PyData.eqv y d) = pickV xs v := by
  intro xs
  cases h with
  | str z =>
    show (xs.map PyData.str).any (fun y => PyData.eqv y (.str z)) = xs.any fun y => y == z
    rw [List.any_map]
    rfl
  | _ =>
    show (xs.map PyData.str).any _ = false
    rw [List.any_map]
    exact List.any_eq_false.mpr fun y _ => by simp [PyData.eqv]
theorem op_notInArg {X : Cx} {CX : CXT} {C f : Addr} {fd : FuncData} {ps : List Str} {E : XK} {k : Nat} (F : FnOk X.prog X.w X.K X.mg X.base CX k f fd ps (spEqT C)) (hr : Room (k + 1) X.A)
    (hb : PySem.W.subIn X.K (.ref C) (.type "str") = some false) (hs : PySem.W.findIn X.K (.ref C) "__eq__" = some (some (.ref f))) (hf : PySem.W.isFn X.K (.ref f) = true) (bn : Binds X.K fd ps []) (hx : Passes CX X E) :
    OpR X (compareOp .NotIn) (fun x y H Q => ∃ (p : Addr) (xs : List Str), Arg X.K C H x ∧ y = .ref p ∧ SqT X.K H p (xs.map V.str) ∧ PyData.canLayAll0 (strD xs) = true ∧ Q (.bl (!pickV xs x)) H) := by
  intro pins s σ H x y v u Q I rx ry h
  obtain ⟨p, xs, ha, rfl, hp, hlay, q⟩ := h
  rcases ha with ⟨d, h1, h2, _⟩ | ⟨a, dx, fs, rfl, h2⟩
  · obtain ⟨as, r1⟩ := Dp.reads I d x v h1 rx
    obtain ⟨bs, r2⟩ := Dp.reads I (.tuple (strD xs)) (.ref p) u (.tup hp (dp_strs xs)) ry
    have hdep : PyData.depthAll (strD xs) ≤ 1 := by
      have go : ∀ l : List Str, PyData.depthAll (strD l) ≤ 1 := fun l => by
        induction l with
        | nil => decide
        | cons a l ih =>
          show max (PyData.depth (.str a)) (PyData.depthAll (strD l)) ≤ 1
          exact Nat.max_le.mpr ⟨by simp [PyData.depth], ih⟩
      exact go xs
    have hun := hr.units
    refine SeqAt.notIn_tuple_reads r2 r1 hlay (SeqAt.canLay_of_shaped h2) (by have := Nat.min_le_left (PyData.depthAll (strD xs)) d.depth; omega) ⟨.bl _, H, I, rfl, ?_⟩
    rw [eqv_strs h1 xs]
    exact q
  · exact op_notIn_own F hr hb hs hf bn hx pins s σ H _ _ v u Q I rx ry ⟨a, dx, p, fs, xs, rfl, h2, rfl, hp, q⟩
/-! ### Row's own == (asked by a text) and Row's making -/
section
variable {P : Program} {w : World} {K : PySem.W.Frag} {mg : Str → Option Value} {base : Heap}
theorem pe_nev {X : Cx} {e : Expr} : PE X e (fun _ _ _ => False) := ⟨fun _ _ _ _ _ _ h => h.elim⟩
theorem scEq : FnScope ["self", "other"] ["self", "other"] (defScope sRowEq) := ⟨rfl, rfl, rfl, by decide +kernel, rfl, by decide +kernel, by decide +kernel⟩
theorem ok_eqT {C f : Addr} {fd : FuncData} (F : Fun K "__eq__" "Row.__eq__" sRowEq f fd) (T : RowC K mg C) (U : Blt2 mg) (ks : PySem.W.kitOne K (.type "str") (.ref C) = some false) : FnOk P w K mg base CX0 1 f fd ["self", "other"] (spEqT C) := by
  refine F.ok scEq (fun vs H Q E h => ?_) (fun cdv A outer s H vs Q E hr h => ?_)
  · obtain ⟨a, dx, fs, z, rfl, _⟩ := h
    rfl
  obtain ⟨a, dx, fs, z, rfl, ha, q⟩ := h
  refine ⟨_, pss_one (ps_ret (pe_and (pe_callB call_isi (by rfl) U.isin boot_isin (pa_cons (pv 1) (pa_cons (pe_glob (by rfl) T.mgC (v := .ref C) rfl) pa_nil))) pe_nev)), ?_⟩
  exact ⟨_, rfl, .str z, .ref C, _, _, false, rfl, .own C, .base (.str z), ks, false, rfl, iteF q⟩
end
end LT
namespace L2
open PySem PySem.Spec PyProof.Rows
section
variable {X : Cx} {CX : CXT} {k : Nat} {f C : Addr} {fd : FuncData} {ps : List Str} {sp : Sp} {E : St → XK} {x : Str} {p pos : Pos} {e : Expr} {es : List Expr} {t : TA} {ds : List Value} {dvs : List V}
/-- C(e, ..) where what is raised is wished for at the slots -/
def tMakeS (C : Addr) (sp : Sp) (dvs : List V) (E : St → XK) (t : TA) : TE := fun σ H Q => t σ H fun vs H1 => ∀ x dx, H1 x = none → H1 dx = none → dx ≠ x →
  sp (.ref x :: (vs ++ dvs)) (upd (upd H1 dx (.own x)) x (.ins C dx [])) (fun v H2 => v = .non ∧ Q (.ref x) H2) (E σ)
theorem run_makeS {pins : List (Addr × Obj)} {σ : St} {H : Hp} {s : Shared} {Q : VK} {us : List Value} {vs : List V} (M : Mk X.K C f) (F : FnOk X.prog X.w X.K X.mg X.base CX k f fd ps sp) (hr : Room (k + 1) X.A)
    (hb : Binds X.K fd ps ds) (hd : Vals dvs ds) (hx : PassesAt CX X σ (E σ)) (I : Inv X pins σ H s) (r : Vals vs us)
    (h : ∀ y dy, H y = none → H dy = none → dy ≠ y → sp (.ref y :: (vs ++ dvs)) (upd (upd H dy (.own y)) y (.ins C dy [])) (fun v H2 => v = .non ∧ Q (.ref y) H2) (E σ)) :
    wpAny (model X.prog X.w) X.A (call (.ref C) us) (EP X pins σ Q) X.xe s := by
  have here := h (s.heap.objs.size + 1) s.heap.objs.size (I.hok.fresh (Nat.le_succ _)) (I.hok.fresh (Nat.le_refl _))
    (Nat.ne_of_lt (Nat.lt_succ_self _))
  have J := Inv.made (C := C) I
  have rr : Vals (V.ref (s.heap.objs.size + 1) :: (vs ++ dvs)) (Value.ref (s.heap.objs.size + 1) :: (us ++ ds)) :=
    .cons rfl (r.append hd)
  have len : (Value.ref (s.heap.objs.size + 1) :: us ++ ds).length = ps.length := by
    have z := rr.length
    rw [F.len _ _ _ _ here] at z
    exact z.symm
  have run := F.run _ X.stack _ _ ⟨Value.ref (s.heap.objs.size + 1) :: us, []⟩ (Value.ref (s.heap.objs.size + 1) :: (us ++ ds)) _ _ (E σ)
    (hr.make C us []) (J.env0.make C us []) (hb _ (Value.ref (s.heap.objs.size + 1) :: us) J.kIn len) rr here
  refine wpAny_call (make_map (f := f) I.kIn M.makes M.init (beq_iff_eq.mp M.fn) (codeAny_mono run fun q s' hq => ?_))
  cases q with
  | error e => exact hx pins _ _ e s' J hq
  | ok fl =>
    cases fl with
    | ret u =>
      obtain ⟨v, H', J', rv, ev, fin⟩ := J.after hq
      subst ev
      exact ⟨rv, V.ref (s.heap.objs.size + 1), H', J', rfl, fin⟩
    | next => exact False.elim hq
    | brk => exact False.elim hq
    | cont => exact False.elim hq
theorem pe_makeS (M : Mk X.K C f) (F : FnOk X.prog X.w X.K X.mg X.base CX k f fd ps sp) (hr : Room (k + 1) X.A) (hg : Gl X x) (hm : X.mg x = some (.ref C)) (hb : Binds X.K fd ps ds) (hd : Vals dvs ds)
    (hx : ∀ σ, PassesAt CX X σ (E σ)) (ha : PA X (e :: es) t) (hdb : (x == ("__debug__" : Str)) = false := by decide)
    (he : starEach (e :: es) X.env = (false, eval e X.env) :: starEach es X.env := by rfl) (hpl : (backTo pos (starEach es X.env)).any (·.1) = false := by rfl) :
    PE X (.Call (.Name x p) (e :: es) [] pos) (tMakeS C sp dvs E t) := by
  refine ⟨fun pins s σ H Q I h => wpAny_Call_Name_kw (ld_glob I hg hm ?_ hdb)⟩
  refine PySem.W.callWith_K (h₀ := X.base) I.ok.mod.kin M.kp (thn (ha.run pos pins s σ H _ I h) fun us s1 hh => ?_) he hpl
  obtain ⟨vs, H1, I1, r, q⟩ := hh
  exact ⟨I1.kIn, run_makeS M F hr hb hd (hx σ) I1 r q⟩
end
end L2
namespace LT
open PySem L2
/-- the heap behind a made error: its own dict stands at d -/
theorem del_word {H : Hp} {a d C : Addr} {fs : List (Str × V)} (ha : H a = none) : upd (del (upd (upd (upd H a (exo a C none)) d (exd d fs)) a (exo a C (some d))) a) d (.xd fs) = upd H d (.xd fs) := by
  funext b
  by_cases hb : b = d
  · rw [hb, upd_same, upd_same]
  · rw [upd_ne hb, upd_ne hb]
    by_cases hc : b = a
    · rw [hc, del_same, ha]
    · rw [del_ne hc, upd_ne hc, upd_ne hb, upd_ne hc]
theorem raise_ok {CE : Addr} {H : Hp} {E : XK} {wd : Str} {σ : St} (kE : ∀ d, H d = none → E (.ref CE) (some d) (upd H d (.xd [("word", .str wd)]))) :
    tMkO CE (spErr CE) [] (tCons (tC (.str wd)) tNil) σ H (fun cls d H' => E cls d H') := by
  refine ⟨(by show 1 ≤ 1000; decide), fun a ha => ⟨a, .str wd, rfl, upd_same, fun dx n ne => ?_⟩⟩
  have hd : H dx = none := by
    rw [upd_ne ne] at n
    exact n
  refine ⟨rfl, dx, [("word", .str wd)], upd_same, by rw [upd_ne ne]; exact upd_same, hd, ?_⟩
  rw [del_word ha]
  exact kE dx hd
def spRow (K : PySem.W.Frag) (C CE : Addr) : Sp := fun vs H Q E => ∃ (x dx : Addr) (m p mv t a : V), vs = [.ref x, m, p, mv, t, a] ∧ H x = some (.ins C dx []) ∧ Arg K C H m ∧ Arg K C H p ∧ Arg K C H mv ∧ Arg K C H t ∧ Arg K C H a ∧
  (∀ wd, rowDue m p mv t a = some wd → ∀ d, H d = none → E (.ref CE) (some d) (upd H d (.xd [("word", .str wd)]))) ∧
  (rowDue m p mv t a = none → Q .non (upd H x (.ins C dx (rowFs m p mv t a))))
section
variable {P : Program} {w : World} {K : PySem.W.Frag} {mg : Str → Option Value} {base : Heap}
theorem scRow : FnScope ["self", "mode", "pick", "move", "then", "also"] ["self", "mode", "pick", "move", "then", "also"] (defScope sRowInit) := ⟨rfl, rfl, rfl, by decide +kernel, rfl, by decide +kernel, by decide +kernel⟩
/-- what Row.__init__ leans on -/
structure RowG (P : Program) (w : World) (K : PySem.W.Frag) (mg : Str → Option Value) (base : Heap) (C CE : Addr) : Prop where
  row : RowC K mg C
  nm : ∃ (f : Addr) (fd : FuncData), FnOk P w K mg base CX0 1 f fd ["value"] (spIsName K) ∧ Binds K fd ["value"] [] ∧ PySem.W.keepIn K (.ref f) = true ∧ mg "is_name" = some (.ref f)
  err : ∃ (f : Addr) (fd : FuncData), FnOk P w K mg base CX0 1 f fd ["self", "word"] (spErr CE) ∧ Binds K fd ["self", "word"] [] ∧ PySem.W.findIn K (.ref CE) "__init__" = some (some (.ref f)) ∧ PySem.W.typeIn K (.ref f) = some (.type "function")
  oex : OexC K CE
  mE : mg "InvalidRow" = some (.ref CE)
  eq : ∃ (f : Addr) (fd : FuncData), FnOk P w K mg base CX0 1 f fd ["self", "other"] (spEqT C) ∧ Binds K fd ["self", "other"] [] ∧ PySem.W.findIn K (.ref C) "__eq__" = some (some (.ref f)) ∧ PySem.W.isFn K (.ref f) = true
  sub : PySem.W.subIn K (.ref C) (.type "str") = some false
  pk : ∃ p, mg "PICKS" = some (.ref p) ∧ ∀ H, SqT K H p (picks.map V.str)
  mv : ∃ p, mg "MOVES" = some (.ref p) ∧ ∀ H, SqT K H p (moves.map V.str)
theorem ok_row {C CE f : Addr} {fd : FuncData} {dvs : List V} {kws : List (Str × V)} (F : FunD K "__init__" "Row.__init__" (defArgs sRowInit) (defBody sRowInit) (defScope sRowInit) dvs kws f fd) (G : RowG P w K mg base C CE) (U : Blt2 mg) :
    FnOk P w K mg base (L2.CX P w) 3 f fd ["self", "mode", "pick", "move", "then", "also"] (spRow K C CE) := by
  obtain ⟨fN, fdN, GN, bN, kN, mN⟩ := G.nm
  obtain ⟨fE, fdE, GE, bE, iE, tE⟩ := G.err
  obtain ⟨fQ, fdQ, GQ, bQ, iQ, tQ⟩ := G.eq
  obtain ⟨pP, mP, sP⟩ := G.pk
  obtain ⟨pM, mM, sM⟩ := G.mv
  refine F.ok scRow (fun vs H Q E h => ?_) (fun cdv A outer s H vs Q E hr h => ?_)
  · obtain ⟨x, dx, m, p, mv, t, a, rfl, _⟩ := h
    rfl
  obtain ⟨x, dx, m, p, mv, t, a, rfl, hx, a1, a2, a3, a4, a5, kE, kQ⟩ := h
  have hr1 : Room 1 _ := hr.mono (by decide)
  refine ⟨_, pss_cons (ps_if (pt_not (pt_val (pe_call GN hr1 rfl mN kN bN .nil pass0 (pa_cons (pv 1) pa_nil))))
      (pss_one (ps_raise rfl (takes_of rfl rfl rfl rfl) (pmk_oex G.oex iE tE GE hr bE .nil pass0 rfl G.mE (pa_cons pe_str pa_nil)))) pss_nil)
    (pss_cons (ps_if (pt_cmpR (op_notInArg GQ hr G.sub iQ tQ bQ pass0) (pv 2) (pe_glob (by rfl) mP (v := .ref pP) rfl) (by rfl))
      (pss_one (ps_raise rfl (takes_of rfl rfl rfl rfl) (pmk_oex G.oex iE tE GE hr bE .nil pass0 rfl G.mE (pa_cons pe_str pa_nil)))) pss_nil)
    (pss_cons (ps_if (pt_cmpR (op_notInArg GQ hr G.sub iQ tQ bQ pass0) (pv 3) (pe_glob (by rfl) mM (v := .ref pM) rfl) (by rfl))
      (pss_one (ps_raise rfl (takes_of rfl rfl rfl rfl) (pmk_oex G.oex iE tE GE hr bE .nil pass0 rfl G.mE (pa_cons pe_str pa_nil)))) pss_nil)
    (pss_cons (ps_if (pt_not (pt_val (pe_call GN hr1 rfl mN kN bN .nil pass0 (pa_cons (pv 4) pa_nil))))
      (pss_one (ps_raise rfl (takes_of rfl rfl rfl rfl) (pmk_oex G.oex iE tE GE hr bE .nil pass0 rfl G.mE (pa_cons pe_str pa_nil)))) pss_nil)
    (pss_cons (ps_if (pt_not (pt_val (pe_callB call_isi (by rfl) U.isin boot_isin (pa_cons (pv 5) (pa_cons (pe_bltn (v := .ty "bool") (by rfl) U.bool boot_boolT rfl) pa_nil)))))
      (pss_one (ps_raise rfl (takes_of rfl rfl rfl rfl) (pmk_oex G.oex iE tE GE hr bE .nil pass0 rfl G.mE (pa_cons pe_str pa_nil)))) pss_nil)
    (pss_cons (ps_fld (pv 0) (pv 1) rfl) (pss_cons (ps_fld (pv 0) (pv 2) rfl) (pss_cons (ps_fld (pv 0) (pv 3) rfl) (pss_cons (ps_fld (pv 0) (pv 4) rfl) (pss_one (ps_fld (pv 0) (pv 5) rfl)))))))))), ?_⟩
  refine ⟨_, rfl, m, rfl, a1.kind G.row, _, rfl, ?_⟩
  have no : ∀ wd, rowDue m p mv t a = some wd → tMkO CE (spErr CE) [] (tCons (tC (.str wd)) tNil) (start ["self", "mode", "pick", "move", "then", "also"] [.ref x, m, p, mv, t, a]) H (fun cls d H' => E cls d H') :=
    fun wd e => raise_ok (kE wd e)
  refine ite2 (fun c => ?_) (fun c => ?_)
  · exact no "mode" (if_pos (by simpa using c))
  have c1 : ¬ nameV nameP m = false := by simpa using c
  refine ⟨_, rfl, pP, picks, a2, rfl, sP _, (by decide +kernel), _, rfl, ?_⟩
  refine ite2 (fun c => ?_) (fun c => ?_)
  · exact no "pick" ((if_neg c1).trans (if_pos (by simpa using c)))
  have c2 : ¬ pickV picks p = false := by simpa using c
  refine ⟨_, rfl, pM, moves, a3, rfl, sM _, (by decide +kernel), _, rfl, ?_⟩
  refine ite2 (fun c => ?_) (fun c => ?_)
  · exact no "move" ((if_neg c1).trans ((if_neg c2).trans (if_pos (by simpa using c))))
  have c3 : ¬ pickV moves mv = false := by simpa using c
  refine ⟨_, rfl, t, rfl, a4.kind G.row, _, rfl, ?_⟩
  refine ite2 (fun c => ?_) (fun c => ?_)
  · exact no "then" ((if_neg c1).trans ((if_neg c2).trans ((if_neg c3).trans (if_pos (by simpa using c)))))
  have c4 : ¬ nameV nameP t = false := by simpa using c
  obtain ⟨⟨ty, h1, _, h3⟩, _⟩ := a5.kind G.row
  refine ⟨_, rfl, a, .ty "bool", ty, _, isBl a, rfl, .ty "bool", h1, h3, _, rfl, ?_⟩
  refine ite2 (fun c => ?_) (fun c => ?_)
  · exact no "also" ((if_neg c1).trans ((if_neg c2).trans ((if_neg c3).trans ((if_neg c4).trans (if_pos (by simpa using c))))))
  have c5 : ¬ isBl a = false := by simpa using c
  have q := kQ ((if_neg c1).trans ((if_neg c2).trans ((if_neg c3).trans ((if_neg c4).trans (if_neg c5)))))
  have R := G.row
  refine ⟨_, rfl, _, rfl, x, C, dx, [], rfl, hx, R.cl, R.n1, (by show 0 < 1000; decide), ?_⟩
  have l1 : putF "mode" m [] = ([("mode", m)] : List (Str × V)) := by kernel_rfl
  have l2 : putF "pick" p [("mode", m)] = ([("mode", m), ("pick", p)] : List (Str × V)) := by kernel_rfl
  have l3 : putF "move" mv [("mode", m), ("pick", p)] = ([("mode", m), ("pick", p), ("move", mv)] : List (Str × V)) := by kernel_rfl
  have l4 : putF "then" t [("mode", m), ("pick", p), ("move", mv)] = ([("mode", m), ("pick", p), ("move", mv), ("then", t)] : List (Str × V)) := by kernel_rfl
  have l5 : putF "also" a [("mode", m), ("pick", p), ("move", mv), ("then", t)] = rowFs m p mv t a := by kernel_rfl
  rw [l1]
  refine ⟨_, rfl, _, rfl, x, C, dx, _, rfl, upd_same, R.cl, R.n2, (by show 1 < 1000; decide), ?_⟩
  rw [l2, upd_upd]
  refine ⟨_, rfl, _, rfl, x, C, dx, _, rfl, upd_same, R.cl, R.n3, (by show 2 < 1000; decide), ?_⟩
  rw [l3, upd_upd]
  refine ⟨_, rfl, _, rfl, x, C, dx, _, rfl, upd_same, R.cl, R.n4, (by show 3 < 1000; decide), ?_⟩
  rw [l4, upd_upd]
  refine ⟨_, rfl, _, rfl, x, C, dx, _, rfl, upd_same, R.cl, R.n5, (by show 4 < 1000; decide), ?_⟩
  rw [l5, upd_upd]
  exact q
end
end LT
namespace LT
open PySem L2
/-! ### the text of a row -/
def base4 (m p mv t : Str) : Str := Str.empty ++ m ++ " " ++ p ++ " " ++ mv ++ " " ++ t
def rowText (m p mv t : Str) (al : Bool) : Str := if al then base4 m p mv t ++ " also" else base4 m p mv t
theorem len_app (a b : Str) : (a ++ b).length = a.length + b.length := by
  show (a.cps ++ b.cps).size = _
  exact Array.size_append
theorem tl_app (a b : Str) : (a ++ b).cps.toList = a.cps.toList ++ b.cps.toList := by
  show (a.cps ++ b.cps).toList = _
  exact Array.toList_append
theorem len_base4 (m p mv t : Str) : (base4 m p mv t).length = m.length + p.length + mv.length + t.length + 3 := by
  unfold base4
  simp only [len_app]
  have h1 : (" " : Str).length = 1 := rfl
  have h0 : Str.empty.length = 0 := rfl
  omega
/-- a row made of words -/
structure Row5 where
  m : Str
  p : Str
  mv : Str
  t : Str
  al : Bool
def Row5.text (r : Row5) : Str := rowText r.m r.p r.mv r.t r.al
def Row5.fs (r : Row5) : List (Str × V) := rowFs (.str r.m) (.str r.p) (.str r.mv) (.str r.t) (.bl r.al)
def Row5.vs (r : Row5) : List V := [.str r.m, .str r.p, .str r.mv, .str r.t, .bl r.al]
structure Row5.Ok (r : Row5) : Prop where
  m : r.m.length ≤ 10
  p : r.p.length ≤ 10
  mv : r.mv.length ≤ 10
  t : r.t.length ≤ 10
/-- a made row stands at a -/
def RowAt (C : Addr) (H : Hp) (a : Addr) (r : Row5) : Prop := (∃ dx, H a = some (.ins C dx r.fs)) ∧ r.Ok
def spStr (C : Addr) : Sp := fun vs H Q _ => ∃ (a : Addr) (r : Row5), vs = [.ref a] ∧ RowAt C H a r ∧ Q (.str r.text) H
section
variable {P : Program} {w : World} {K : PySem.W.Frag} {mg : Str → Option Value} {base : Heap}
theorem scStr : FnScope ["self"] ["self"] (defScope sRowStr) := ⟨rfl, rfl, rfl, by decide +kernel, rfl, by decide +kernel, by decide +kernel⟩
theorem ok_str {C f : Addr} {fd : FuncData} (F : Fun K "__str__" "Row.__str__" sRowStr f fd) (R : RowC K mg C) : FnOk P w K mg base CX0 1 f fd ["self"] (spStr C) := by
  refine F.ok scStr (fun vs H Q E h => ?_) (fun cdv A outer s H vs Q E hr h => ?_)
  · obtain ⟨a, r, rfl, _⟩ := h
    rfl
  obtain ⟨a, r, rfl, ⟨⟨dx, ha⟩, ok⟩, q⟩ := h
  refine ⟨_, pss_cons (ps_if (pt_val (pe_fld (pv 0) rfl)) (pss_one (ps_ret (pe_joined (.cons (pe_fmt (pe_fld (pv 0) rfl)) (.cons pe_str (.cons (pe_fmt (pe_fld (pv 0) rfl)) (.cons pe_str (.cons (pe_fmt (pe_fld (pv 0) rfl)) (.cons pe_str (.cons (pe_fmt (pe_fld (pv 0) rfl)) (.cons pe_str .nil))))))))))) pss_nil)
    (pss_one (ps_ret (pe_joined (.cons (pe_fmt (pe_fld (pv 0) rfl)) (.cons pe_str (.cons (pe_fmt (pe_fld (pv 0) rfl)) (.cons pe_str (.cons (pe_fmt (pe_fld (pv 0) rfl)) (.cons pe_str (.cons (pe_fmt (pe_fld (pv 0) rfl)) .nil)))))))))), ?_⟩
  have l1 : r.fs.lookup ("mode" : Str) = some (V.str r.m) := by kernel_rfl
  have l2 : r.fs.lookup ("pick" : Str) = some (V.str r.p) := by kernel_rfl
  have l3 : r.fs.lookup ("move" : Str) = some (V.str r.mv) := by kernel_rfl
  have l4 : r.fs.lookup ("then" : Str) = some (V.str r.t) := by kernel_rfl
  have l5 : r.fs.lookup ("also" : Str) = some (V.bl r.al) := by kernel_rfl
  have o1 := ok.m
  have o2 := ok.p
  have o3 := ok.mv
  have o4 := ok.t
  have e1 : (" " : Str).length = 1 := rfl
  have e5 : (" also" : Str).length = 5 := rfl
  have e0 : Str.empty.length = 0 := rfl
  have sz : ∀ n, n ≤ 1000 → n ≤ sizeLine := fun n h => Nat.le_of_lt (small1000 h)
  refine ⟨_, rfl, a, C, dx, _, _, rfl, ha, R.cl, R.n5, l5, _, rfl, ?_⟩
  have four : ∀ W : Str → Prop, W (base4 r.m r.p r.mv r.t) → W (base4 r.m r.p r.mv r.t) := fun _ h => h
  cases hal : r.al with
  | true =>
    have et : r.text = base4 r.m r.p r.mv r.t ++ " also" := by
      unfold Row5.text rowText
      rw [hal]
      rfl
    rw [et] at q
    refine iteT ?_
    refine ⟨_, rfl, a, C, dx, _, _, rfl, ha, R.cl, R.n1, l1, .inl ⟨_, rfl, sz _ (by omega), _, rfl, sz _ (by simp only [len_app]; omega), ?_⟩⟩
    refine ⟨_, rfl, sz _ (by simp only [len_app]; omega), _, rfl, a, C, dx, _, _, rfl, ha, R.cl, R.n2, l2, .inl ⟨_, rfl, sz _ (by omega), _, rfl, sz _ (by simp only [len_app]; omega), ?_⟩⟩
    refine ⟨_, rfl, sz _ (by simp only [len_app]; omega), _, rfl, a, C, dx, _, _, rfl, ha, R.cl, R.n3, l3, .inl ⟨_, rfl, sz _ (by omega), _, rfl, sz _ (by simp only [len_app]; omega), ?_⟩⟩
    refine ⟨_, rfl, sz _ (by simp only [len_app]; omega), _, rfl, a, C, dx, _, _, rfl, ha, R.cl, R.n4, l4, .inl ⟨_, rfl, sz _ (by omega), _, rfl, sz _ (by simp only [len_app]; omega), ?_⟩⟩
    exact ⟨_, rfl, sz _ (by simp only [len_app]; omega), q⟩
  | false =>
    have et : r.text = base4 r.m r.p r.mv r.t := by
      unfold Row5.text rowText
      rw [hal]
      rfl
    rw [et] at q
    refine iteF ?_
    refine ⟨_, rfl, a, C, dx, _, _, rfl, ha, R.cl, R.n1, l1, .inl ⟨_, rfl, sz _ (by omega), _, rfl, sz _ (by simp only [len_app]; omega), ?_⟩⟩
    refine ⟨_, rfl, sz _ (by simp only [len_app]; omega), _, rfl, a, C, dx, _, _, rfl, ha, R.cl, R.n2, l2, .inl ⟨_, rfl, sz _ (by omega), _, rfl, sz _ (by simp only [len_app]; omega), ?_⟩⟩
    refine ⟨_, rfl, sz _ (by simp only [len_app]; omega), _, rfl, a, C, dx, _, _, rfl, ha, R.cl, R.n3, l3, .inl ⟨_, rfl, sz _ (by omega), _, rfl, sz _ (by simp only [len_app]; omega), ?_⟩⟩
    refine ⟨_, rfl, sz _ (by simp only [len_app]; omega), _, rfl, a, C, dx, _, _, rfl, ha, R.cl, R.n4, l4, .inl ⟨_, rfl, sz _ (by omega), _, rfl, sz _ (by simp only [len_app]; omega), ?_⟩⟩
    exact q
/-- Row's ==: asked by a row, or by what is none -/
def spEqR (K : PySem.W.Frag) (C : Addr) : Sp := fun vs H Q _ => ∃ (a : Addr) (r : Row5) (v : V), vs = [.ref a, v] ∧ RowAt C H a r ∧
  ((Oth K H v ∧ Q (.bl false) H) ∨ ∃ (b : Addr) (q : Row5), v = .ref b ∧ RowAt C H b q ∧ Q (.bl (decide (r.text = q.text))) H)
structure KitC (K : PySem.W.Frag) (C : Addr) : Prop where
  s : PySem.W.kitOne K (.type "str") (.ref C) = some false
  n : PySem.W.kitOne K (.type "NoneType") (.ref C) = some false
  t : PySem.W.kitOne K (.type "tuple") (.ref C) = some false
  l : PySem.W.kitOne K (.type "list") (.ref C) = some false
  c : PySem.W.kitOne K (.ref C) (.ref C) = some true
theorem oth_ty {C : Addr} {H : Hp} {v : V} (T : KitC K C) (h : Oth K H v) : ∃ t, TyX K H v t ∧ PySem.W.kitOne K t (.ref C) = some false := by
  rcases h with ⟨z, rfl⟩ | rfl | ⟨a, xs, rfl, h⟩ | ⟨a, xs, rfl, h⟩
  · exact ⟨_, .base (.str z), T.s⟩
  · exact ⟨_, .base .non, T.n⟩
  · exact ⟨_, tyx_seqT h, T.t⟩
  · exact ⟨_, tyx_seqL h, T.l⟩
theorem ok_eqR {C f g : Addr} {fd gd : FuncData} (F : Fun K "__eq__" "Row.__eq__" sRowEq f fd) (T : RowC K mg C) (U : Blt2 mg) (Kc : KitC K C)
    (G : FnOk P w K mg base CX0 1 g gd ["self"] (spStr C)) (bG : Binds K gd ["self"] []) (iG : PySem.W.findIn K (.ref C) "__str__" = some (some (.ref g))) (tG : PySem.W.isFn K (.ref g) = true) :
    FnOk P w K mg base CX0 4 f fd ["self", "other"] (spEqR K C) := by
  refine F.ok scEq (fun vs H Q E h => ?_) (fun cdv A outer s H vs Q E hr h => ?_)
  · obtain ⟨a, r, v, rfl, _⟩ := h
    rfl
  obtain ⟨a, r, v, rfl, ha, h⟩ := h
  refine ⟨_, pss_one (ps_ret (pe_and (pe_callB call_isi (by rfl) U.isin boot_isin (pa_cons (pv 1) (pa_cons (pe_glob (by rfl) T.mgC (v := .ref C) rfl) pa_nil)))
    (pe_one (pe_cmpR op_eq (pe_callTy (call_strOwn G hr iG tG bG pass0) (by rfl) U.str boot_strT (pa_cons (pv 0) pa_nil)) (pe_callTy (call_strOwn G hr iG tG bG pass0) (by rfl) U.str boot_strT (pa_cons (pv 1) pa_nil)) (nomark _))))), ?_⟩
  rcases h with ⟨ot, q⟩ | ⟨b, r2, rfl, hb, q⟩
  · obtain ⟨t, h1, h2⟩ := oth_ty Kc ot
    exact ⟨_, rfl, v, .ref C, _, _, false, rfl, .own C, h1, h2, false, rfl, iteF q⟩
  · obtain ⟨⟨dx, ea⟩, oa⟩ := ha
    obtain ⟨⟨dy, eb⟩, ob⟩ := hb
    refine ⟨_, rfl, .ref b, .ref C, _, _, true, rfl, .own C, .base (.ins eb T.cl T.ha T.hn T.ht T.hm), Kc.c, true, rfl, iteT ?_⟩
    refine ⟨_, rfl, a, dx, _, rfl, ea, a, r, rfl, ⟨⟨dx, ea⟩, oa⟩, _, rfl, ?_⟩
    refine ⟨_, rfl, b, dy, _, rfl, eb, b, r2, rfl, ⟨⟨dy, eb⟩, ob⟩, _, rfl, rfl, ?_⟩
    show Q (.bl (decide (V.str r.text = V.str r2.text))) H
    have e : decide (V.str r.text = V.str r2.text) = decide (r.text = r2.text) := by
      by_cases c : r.text = r2.text
      · rw [decide_eq_true c, c]
        exact decide_eq_true rfl
      · rw [decide_eq_false c]
        exact decide_eq_false fun z => c (V.str.inj z)
    rw [← e] at q
    exact q
end
end LT
namespace LT
open PySem L2
def az : List Nat := [97, 98, 99, 100, 101, 102, 103, 104, 105, 106, 107, 108, 109, 110, 111, 112, 113, 114, 115, 116, 117, 118, 119, 120, 121, 122]
/-- a word: one to four small letters, not «also» -/
structure Wd (z : Str) : Prop where
  pos : 0 < z.length
  len : z.length ≤ 4
  az : ∀ c ∈ z.cps.toList, c ∈ az
  no : z ≠ "also"
theorem az_ok : ∀ c ∈ az, (decide (c < 128) && Unicode.isAlpha c && Unicode.isLower c && !(Unicode.isUpper c || Unicode.isTitle c)) = true := by decide +kernel
theorem az_no : ∀ c ∈ az, c ≠ 32 ∧ c < 16 ^ 8 := by decide +kernel
theorem Wd.name {z : Str} (h : Wd z) : nameP z = true := by
  have ok : ∀ c ∈ z.cps.toList, c < 128 ∧ Unicode.isAlpha c = true ∧ Unicode.isLower c = true ∧ (Unicode.isUpper c || Unicode.isTitle c) = false := fun c hc => by
    have := az_ok c (h.az c hc)
    simp only [Bool.and_eq_true, decide_eq_true_eq, Bool.not_eq_true'] at this
    exact ⟨this.1.1.1, this.1.1.2, this.1.2, this.2⟩
  have e1 : decide ((4 : Int) < (z.length : Int)) = false := decide_eq_false (by have := h.len; omega)
  have e2 : decide (V.str z = V.str "also") = false := decide_eq_false fun q => h.no (V.str.inj q)
  have e3 : Txt.isascii z = true := Array.all_eq_true'.mpr fun c hc => by
    have := (ok c (Array.mem_toList_iff.mpr hc)).1
    simpa using this
  have e4 : Txt.isalpha z = true := by
    unfold Txt.isalpha
    rw [Bool.and_eq_true]
    exact ⟨by simpa using h.pos, Array.all_eq_true'.mpr fun c hc => (ok c (Array.mem_toList_iff.mpr hc)).2.1⟩
  have e5 : Txt.islower z = true := by
    unfold Txt.islower
    rw [Bool.and_eq_true, Bool.not_eq_true']
    refine ⟨?_, ?_⟩
    · have hp : 0 < z.cps.size := h.pos
      exact Array.any_eq_true'.mpr ⟨z.cps[0], Array.getElem_mem hp, (ok _ (Array.mem_toList_iff.mpr (Array.getElem_mem hp))).2.2.1⟩
    · exact Array.any_eq_false'.mpr fun c hc => by
        rw [(ok c (Array.mem_toList_iff.mpr hc)).2.2.2]
        exact Bool.false_ne_true
  unfold nameP
  rw [e1, e2, e3, e4, e5]
  rfl
structure Good (r : Row5) : Prop where
  m : Wd r.m
  p : r.p ∈ picks
  mv : r.mv ∈ moves
  t : Wd r.t
theorem picks_ok : ∀ z ∈ picks, z.length ≤ 10 ∧ (∀ c ∈ z.cps.toList, c ≠ 32 ∧ c < 16 ^ 8) ∧ pickV picks (.str z) = true := by decide +kernel
theorem moves_ok : ∀ z ∈ moves, z.length ≤ 10 ∧ (∀ c ∈ z.cps.toList, c ≠ 32 ∧ c < 16 ^ 8) ∧ pickV moves (.str z) = true := by decide +kernel
theorem Wd.cs {z : Str} (h : Wd z) : ∀ c ∈ z.cps.toList, c ≠ 32 ∧ c < 16 ^ 8 := fun c hc => az_no c (h.az c hc)
theorem Good.ok {r : Row5} (h : Good r) : r.Ok := ⟨by have := h.m.len; omega, (picks_ok _ h.p).1, (moves_ok _ h.mv).1, by have := h.t.len; omega⟩
theorem Good.due {r : Row5} (h : Good r) : rowDue (.str r.m) (.str r.p) (.str r.mv) (.str r.t) (.bl r.al) = none := by
  have e1 : nameV nameP (.str r.m) = true := h.m.name
  have e4 : nameV nameP (.str r.t) = true := h.t.name
  unfold rowDue
  rw [e1, (picks_ok _ h.p).2.2, (moves_ok _ h.mv).2.2, e4]
  rfl
/-! ### the text tells the row -/
theorem cut_eq : ∀ {a b x y : List Nat}, (∀ c ∈ a, c ≠ 32) → (∀ c ∈ b, c ≠ 32) → a ++ 32 :: x = b ++ 32 :: y → a = b ∧ x = y
  | [], [], x, y, _, _, e => ⟨rfl, by simpa using e⟩
  | [], c :: b, x, y, _, hb, e => by
    have : (32 : Nat) = c := by
      have := congrArg List.head? e
      simpa using this
    exact absurd this.symm (hb c List.mem_cons_self)
  | c :: a, [], x, y, ha, _, e => by
    have : c = (32 : Nat) := by
      have := congrArg List.head? e
      simpa using this
    exact absurd this (ha c List.mem_cons_self)
  | c :: a, d :: b, x, y, ha, hb, e => by
    rw [List.cons_append, List.cons_append] at e
    injection e with e1 e2
    obtain ⟨q1, q2⟩ := cut_eq (fun c h => ha c (List.mem_cons_of_mem _ h)) (fun c h => hb c (List.mem_cons_of_mem _ h)) e2
    exact ⟨by rw [e1, q1], q2⟩
def tailC (al : Bool) : List Nat := if al then 32 :: [97, 108, 115, 111] else []
theorem tail_eq {a b : List Nat} {s t : Bool} (ha : ∀ c ∈ a, c ≠ 32) (hb : ∀ c ∈ b, c ≠ 32) (e : a ++ tailC s = b ++ tailC t) : a = b ∧ s = t := by
  cases s <;> cases t
  · exact ⟨by simpa [tailC] using e, rfl⟩
  · exfalso
    have e' : a = b ++ 32 :: [97, 108, 115, 111] := by simpa [tailC] using e
    exact ha 32 (by rw [e']; simp) rfl
  · exfalso
    have e' : a ++ 32 :: [97, 108, 115, 111] = b := by simpa [tailC] using e
    exact hb 32 (by rw [← e']; simp) rfl
  · exact ⟨(cut_eq (x := [97, 108, 115, 111]) (y := [97, 108, 115, 111]) ha hb e).1, rfl⟩
theorem sp_c : (" " : Str).cps.toList = [32] := by decide +kernel
theorem also_c : (" also" : Str).cps.toList = [32, 97, 108, 115, 111] := by decide +kernel
theorem emp_c : Str.empty.cps.toList = [] := rfl
theorem text_c (r : Row5) : r.text.cps.toList = r.m.cps.toList ++ 32 :: (r.p.cps.toList ++ 32 :: (r.mv.cps.toList ++ 32 :: (r.t.cps.toList ++ tailC r.al))) := by
  unfold Row5.text rowText base4
  cases r.al
  · simp only [Bool.false_eq_true, if_false, tl_app, sp_c, emp_c, tailC, List.nil_append, List.append_assoc, List.cons_append, List.append_nil]
  · simp only [if_true, tl_app, sp_c, also_c, emp_c, tailC, List.nil_append, List.append_assoc, List.cons_append]
theorem str_of {a b : Str} (h : a.cps.toList = b.cps.toList) : a = b := by
  cases a
  cases b
  exact congrArg Str.mk (Array.toList_inj.mp h)
theorem text_inj {r q : Row5} (h : Good r) (g : Good q) (e : r.text = q.text) : r = q := by
  have e' := congrArg (fun z : Str => z.cps.toList) e
  simp only [text_c] at e'
  obtain ⟨e1, e'⟩ := cut_eq (fun c hc => (h.m.cs c hc).1) (fun c hc => (g.m.cs c hc).1) e'
  obtain ⟨e2, e'⟩ := cut_eq (fun c hc => ((picks_ok _ h.p).2.1 c hc).1) (fun c hc => ((picks_ok _ g.p).2.1 c hc).1) e'
  obtain ⟨e3, e'⟩ := cut_eq (fun c hc => ((moves_ok _ h.mv).2.1 c hc).1) (fun c hc => ((moves_ok _ g.mv).2.1 c hc).1) e'
  obtain ⟨e4, e5⟩ := tail_eq (fun c hc => (h.t.cs c hc).1) (fun c hc => (g.t.cs c hc).1) e'
  cases r
  cases q
  simp only at e1 e2 e3 e4 e5
  rw [str_of e1, str_of e2, str_of e3, str_of e4, e5]
def Row5.d (r : Row5) : PyData := .tuple [.str r.m, .str r.p, .str r.mv, .str r.t, .bool r.al]
theorem eqv_row {r q : Row5} (h : Good r) (g : Good q) : PyData.eqv r.d q.d = decide (r.text = q.text) := by
  show PyData.eqvAll [.str r.m, .str r.p, .str r.mv, .str r.t, .bool r.al] [.str q.m, .str q.p, .str q.mv, .str q.t, .bool q.al] = _
  simp only [PyData.eqvAll, PyData.eqv, Bool.and_true]
  by_cases c : r.text = q.text
  · rw [decide_eq_true c, text_inj h g c]
    simp
  · rw [decide_eq_false c]
    refine Bool.eq_false_iff.mpr fun z => c ?_
    simp only [Bool.and_eq_true, beq_iff_eq] at z
    obtain ⟨z1, z2, z3, z4, z5⟩ := z
    cases r
    cases q
    simp only at z1 z2 z3 z4 z5
    subst z1 z2 z3 z4 z5
    rfl
theorem az_top : ∀ c ∈ az, c < 0x110000 := by decide +kernel
theorem Wd.top {z : Str} (h : Wd z) : PyData.strOk z = true := Array.all_eq_true'.mpr fun c hc => by
  have := az_top c (h.az c (Array.mem_toList_iff.mpr hc))
  simpa using this
theorem picks_top : ∀ z ∈ picks, PyData.strOk z = true := by decide +kernel
theorem moves_top : ∀ z ∈ moves, PyData.strOk z = true := by decide +kernel
theorem d_shaped {r : Row5} (h : Good r) : SeqAt.shaped r.d = true := by
  show ((PyData.tuple _).canLay0 && decide ((PyData.tuple _).depth ≤ 64)) = true
  simp [PyData.canLay0, PyData.canLayAll0, PyData.depth, PyData.depthAll, h.m.top, h.t.top, picks_top _ h.p, moves_top _ h.mv]
theorem str_arg {K : PySem.W.Frag} {C : Addr} {H : Hp} {z : Str} (h : PyData.strOk z = true) (hl : z.length ≤ 100) : Arg K C H (.str z) :=
  .inl ⟨.str z, .str z, by
    show ((PyData.str z).canLay0 && decide ((PyData.str z).depth ≤ 64)) = true
    simp [PyData.canLay0, PyData.depth, h], fun y e => by cases e; exact hl⟩
theorem bl_arg {K : PySem.W.Frag} {C : Addr} {H : Hp} {b : Bool} : Arg K C H (.bl b) := .inl ⟨.bool b, .bl b, rfl, fun y e => nomatch e⟩
theorem Good.args {K : PySem.W.Frag} {C : Addr} {H : Hp} {r : Row5} (h : Good r) : Arg K C H (.str r.m) ∧ Arg K C H (.str r.p) ∧ Arg K C H (.str r.mv) ∧ Arg K C H (.str r.t) ∧ Arg K C H (.bl r.al) :=
  ⟨str_arg h.m.top (by have := h.ok.m; omega), str_arg (picks_top _ h.p) (by have := h.ok.p; omega), str_arg (moves_top _ h.mv) (by have := h.ok.mv; omega), str_arg h.t.top (by have := h.ok.t; omega), bl_arg⟩
theorem d_depth (r : Row5) : r.d.depth ≤ 50 := by
  show PyData.depth (.tuple _) ≤ 50
  simp [PyData.depth, PyData.depthAll]
theorem d_showable (r : Row5) : r.d.showable = true := by
  show PyData.showable (.tuple _) = true
  simp [PyData.showable, PyData.showableAll]
theorem d_noDict (r : Row5) : r.d.hasDict = false := by
  show PyData.hasDict (.tuple _) = false
  simp [PyData.hasDict, PyData.hasDictAll]
theorem d_shown {r : Row5} (h : Good r) : r.d.shown.length ≤ sizeLine := by
  have e : r.d.shown = tupleText [reprText r.m, reprText r.p, reprText r.mv, reprText r.t, (PyData.bool r.al).shown] := by
    show PyData.shown (.tuple _) = _
    simp only [PyData.shown, PyData.shownAll]
  rw [e]
  have h1 := StrLaws.reprText_len r.m fun c hc => (h.m.cs c hc).2
  have h2 := StrLaws.reprText_len r.p fun c hc => ((picks_ok _ h.p).2.1 c hc).2
  have h3 := StrLaws.reprText_len r.mv fun c hc => ((moves_ok _ h.mv).2.1 c hc).2
  have h4 := StrLaws.reprText_len r.t fun c hc => (h.t.cs c hc).2
  have h5 : ((PyData.bool r.al).shown).length ≤ 5 := by
    cases r.al <;> decide +kernel
  have o := h.ok
  have o1 := o.m
  have o2 := o.p
  have o3 := o.mv
  have o4 := o.t
  have k := fmt_text [reprText r.m, reprText r.p, reprText r.mv, reprText r.t, (PyData.bool r.al).shown]
  simp only [piled_cons, piled_nil] at k
  exact Nat.le_of_lt (small1000 (by omega))
theorem dp_row {K : PySem.W.Frag} {H : Hp} {a : Addr} {r : Row5} (h : SqT K H a r.vs) : Dp K H (.ref a) r.d := .tup h (.cons (.str _) (.cons (.str _) (.cons (.str _) (.cons (.str _) (.cons (.bl _) .nil)))))
theorem row_join (r : Row5) : Txt.join " " [r.m, r.p, r.mv, r.t] ++ (if r.al then (" also" : Str) else "") = r.text := by
  refine str_of ?_
  rw [text_c, tl_app]
  have e : (Txt.join " " [r.m, r.p, r.mv, r.t]).cps.toList = r.m.cps.toList ++ 32 :: (r.p.cps.toList ++ 32 :: (r.mv.cps.toList ++ 32 :: r.t.cps.toList)) := by
    show (r.m.cps ++ (" " : Str).cps ++ r.p.cps ++ (" " : Str).cps ++ r.mv.cps ++ (" " : Str).cps ++ r.t.cps).toList = _
    simp only [Array.toList_append, sp_c, List.append_assoc, List.cons_append, List.nil_append]
  rw [e]
  cases r.al
  · have z : (("" : Str)).cps.toList = [] := rfl
    simp [tailC, z]
  · simp [tailC, also_c]
end LT
namespace LT
open PySem L2
/-! ### one asker and one row -/
def ptrV : Option Int → V
  | none => .non
  | some p => .int p
def inReg (pick : Str) (p : Option Int) (a : Int) : Bool :=
  if pick = "all" then true else match p with
    | none => decide (pick = "at") || decide (pick = "past")
    | some p => if pick = "keep" then decide (a = p) else if pick = "at" then decide (p ≤ a) else if pick = "past" then decide (p < a) else decide (a < p)
def movedP (move : Str) (p : Option Int) (g : Int) : Option Int := if move = "on" then some g else if move = "home" then none else p
def grantedBy (r : Row5) (mode : Str) (p : Option Int) (asking : List Int) : Option Int := if r.m = mode then asking.find? (inReg r.p p) else none
def spRegion : Sp := fun vs H Q _ => ∃ (pick : Str) (p : Option Int) (a : Int), vs = [.str pick, ptrV p, .int a] ∧ pick ∈ picks ∧ ∀ J, Same H J → Q (.bl (inReg pick p a)) J
def spMoved : Sp := fun vs H Q _ => ∃ (move : Str) (p : Option Int) (g : Int), vs = [.str move, ptrV p, .int g] ∧ Q (ptrV (movedP move p g)) H
theorem str_dec (a b : Str) : decide (V.str a = V.str b) = decide (a = b) := by
  by_cases h : a = b
  · rw [decide_eq_true h, h]
    exact decide_eq_true rfl
  · rw [decide_eq_false h]
    exact decide_eq_false fun z => h (V.str.inj z)
theorem op_inT {X : Cx} {k : Nat} (hr : Room k X.A) : OpR X (compareOp .In) (fun x y H Q => ∃ (z : Str) (p : Addr) (xs : List Str), x = .str z ∧ y = .ref p ∧ SqT X.K H p (xs.map V.str) ∧ PyData.canLayAll0 (strD xs) = true ∧ PyData.strOk z = true ∧ Q (.bl (pickV xs (.str z))) H) := by
  intro pins s σ H x y v u Q I rx ry h
  obtain ⟨z, p, xs, rfl, rfl, hp, hlay, hz, q⟩ := h
  obtain ⟨as, r1⟩ := Dp.reads I (.str z) (.str z) v (.str z) rx
  obtain ⟨bs, r2⟩ := Dp.reads I (.tuple (strD xs)) (.ref p) u (.tup hp (dp_strs xs)) ry
  have hdep : PyData.depthAll (strD xs) ≤ 1 := by
    have go : ∀ l : List Str, PyData.depthAll (strD l) ≤ 1 := fun l => by
      induction l with
      | nil => decide
      | cons a l ih =>
        show max (PyData.depth (.str a)) (PyData.depthAll (strD l)) ≤ 1
        exact Nat.max_le.mpr ⟨by simp [PyData.depth], ih⟩
    exact go xs
  have hun := hr.units
  refine SeqAt.in_tuple_reads r2 r1 hlay (by simp [PyData.canLay0, hz]) (by have := Nat.min_le_left (PyData.depthAll (strD xs)) (PyData.str z).depth; omega) ⟨.bl _, H, I, rfl, ?_⟩
  rw [eqv_strs (K := X.K) (H := H) (v := .str z) (.str z) xs]
  exact q
section
variable {P : Program} {w : World} {K : PySem.W.Frag} {mg : Str → Option Value} {base : Heap}
theorem scRegion : FnScope ["pick", "pointer", "asker"] ["pick", "pointer", "asker"] (defScope sRegion) := ⟨rfl, rfl, rfl, by decide +kernel, rfl, by decide +kernel, by decide +kernel⟩
theorem scMoved : FnScope ["move", "pointer", "granted"] ["move", "pointer", "granted"] (defScope sMoved) := ⟨rfl, rfl, rfl, by decide +kernel, rfl, by decide +kernel, by decide +kernel⟩
theorem ok_moved {f : Addr} {fd : FuncData} (F : Fun K "moved" "moved" sMoved f fd) : FnOk P w K mg base CX0 1 f fd ["move", "pointer", "granted"] spMoved := by
  refine F.ok scMoved (fun vs H Q E h => ?_) (fun cdv A outer s H vs Q E hr h => ?_)
  · obtain ⟨m, p, g, rfl, _⟩ := h
    rfl
  obtain ⟨m, p, g, rfl, q⟩ := h
  refine ⟨_, (pss_cons (ps_if (pt_cmpR op_eq (pv 0) pe_str (nomark _)) (pss_one (ps_ret (pv 2))) pss_nil)
    (pss_cons (ps_if (pt_cmpR op_eq (pv 0) pe_str (nomark _)) (pss_one (ps_ret pe_non)) pss_nil)
    (pss_one (ps_ret (pv 1))))), ?_⟩
  unfold movedP at q
  refine ⟨_, rfl, rfl, _, rfl, ?_⟩
  rw [str_dec]
  refine ite2 (fun c => ⟨_, rfl, ?_⟩) (fun c => ⟨_, rfl, rfl, _, rfl, ?_⟩)
  · rw [if_pos (of_decide_eq_true c)] at q
    exact q
  · have c' : ¬ m = "on" := by simpa using c
    rw [if_neg c'] at q
    rw [str_dec]
    refine ite2 (fun d => ?_) (fun d => ⟨_, rfl, ?_⟩)
    · rw [if_pos (of_decide_eq_true d)] at q
      exact q
    · have d' : ¬ m = "home" := by simpa using d
      rw [if_neg d'] at q
      exact q
theorem atpast_lay : PyData.canLayAll0 (strD ["at", "past"]) = true := by decide +kernel
theorem ok_region {f : Addr} {fd : FuncData} (F : Fun K "in_region" "in_region" sRegion f fd) : FnOk P w K mg base CX0 1 f fd ["pick", "pointer", "asker"] spRegion := by
  refine F.ok scRegion (fun vs H Q E h => ?_) (fun cdv A outer s H vs Q E hr h => ?_)
  · obtain ⟨m, p, g, rfl, _⟩ := h
    rfl
  obtain ⟨pick, p, a, rfl, hpick, q⟩ := h
  refine ⟨_, (pss_cons (ps_if (pt_cmpR op_eq (pv 0) pe_str (nomark _)) (pss_one (ps_ret pe_bl)) pss_nil)
    (pss_cons (ps_if (pt_cmpR op_isN (pv 1) pe_non (nomark _)) (pss_one (ps_ret (pe_cmpR (op_inT hr) (pv 0) (pe_tup (pa_cons pe_str (pa_cons pe_str pa_nil))) (by rfl)))) pss_nil)
    (pss_cons (ps_if (pt_cmpR op_eq (pv 0) pe_str (nomark _)) (pss_one (ps_ret (pe_cmpR op_eq (pv 2) (pv 1) (nomark _)))) pss_nil)
    (pss_cons (ps_if (pt_cmpR op_eq (pv 0) pe_str (nomark _)) (pss_one (ps_ret (pe_cmpR op_ge (pv 2) (pv 1) (nomark _)))) pss_nil)
    (pss_cons (ps_if (pt_cmpR op_eq (pv 0) pe_str (nomark _)) (pss_one (ps_ret (pe_cmpR op_gt (pv 2) (pv 1) (nomark _)))) pss_nil)
    (pss_one (ps_ret (pe_cmpR op_lt (pv 2) (pv 1) (nomark _))))))))), ?_⟩
  unfold inReg at q
  refine ⟨_, rfl, rfl, _, rfl, ?_⟩
  rw [str_dec]
  refine ite2 (fun c => ?_) (fun c => ⟨_, rfl, rfl, _, rfl, ?_⟩)
  · rw [if_pos (of_decide_eq_true c)] at q
    exact q _ (Same.refl _)
  have c' : ¬ pick = "all" := by simpa using c
  rw [if_neg c'] at q
  cases p with
  | none =>
    refine iteT ⟨_, rfl, (by show 2 ≤ sizeLine; decide), fun t nt => ⟨pick, t, ["at", "past"], rfl, rfl, SqT.of upd_same, atpast_lay, picks_top _ hpick, ?_⟩⟩
    have z := q _ (new_same nt (.tup [V.str "at", V.str "past"]))
    have e : pickV ["at", "past"] (.str pick) = (decide (pick = "at") || decide (pick = "past")) := by
      show (["at", "past"] : List Str).any (fun y => y == pick) = _
      have b : ∀ y : Str, (y == pick) = decide (pick = y) := fun y => by
        by_cases h : pick = y
        · rw [decide_eq_true h, h]
          exact beq_self_eq_true y
        · rw [decide_eq_false h]
          exact beq_eq_false_iff_ne.mpr fun k => h k.symm
      simp only [List.any_cons, List.any_nil, b, Bool.or_false]
    rw [← e] at z
    exact z
  | some p =>
    have q := q _ (Same.refl _)
    refine iteF ⟨_, rfl, rfl, _, rfl, ?_⟩
    rw [str_dec]
    refine ite2 (fun c => ⟨_, rfl, _, rfl, rfl, ?_⟩) (fun c => ⟨_, rfl, rfl, _, rfl, ?_⟩)
    · simp only [if_pos (of_decide_eq_true c)] at q
      have e : decide (V.int a = V.int p) = decide (a = p) := by
        by_cases h : a = p
        · rw [decide_eq_true h, h]
          exact decide_eq_true rfl
        · rw [decide_eq_false h]
          exact decide_eq_false fun z => h (V.int.inj z)
      rw [← e] at q
      exact q
    have c1 : ¬ pick = "keep" := by simpa using c
    simp only [if_neg c1] at q
    rw [str_dec]
    refine ite2 (fun c => ⟨_, rfl, _, rfl, _, _, rfl, rfl, ?_⟩) (fun c => ⟨_, rfl, rfl, _, rfl, ?_⟩)
    · simp only [if_pos (of_decide_eq_true c)] at q
      exact q
    have c2 : ¬ pick = "at" := by simpa using c
    simp only [if_neg c2] at q
    rw [str_dec]
    refine ite2 (fun c => ⟨_, rfl, _, rfl, _, _, rfl, rfl, ?_⟩) (fun c => ⟨_, rfl, _, rfl, _, _, rfl, rfl, ?_⟩)
    · simp only [if_pos (of_decide_eq_true c)] at q
      exact q
    have c3 : ¬ pick = "past" := by simpa using c
    simp only [if_neg c3] at q
    exact q
end
end LT
namespace LT
open PySem L2
theorem find_at {p : Int → Bool} : ∀ {l : List Int} {i : Nat} {a : Int}, l[i]? = some a → p a = true → (∀ (j : Nat) (b : Int), j < i → l[j]? = some b → p b = false) → l.find? p = some a
  | [], i, a, h, _, _ => by simp at h
  | c :: l, 0, a, h, hp, _ => by
    have e : c = a := by simpa using h
    rw [List.find?_cons, e, hp]
  | c :: l, i + 1, a, h, hp, no => by
    have n : p c = false := no 0 c (Nat.succ_pos _) rfl
    rw [List.find?_cons, n]
    exact find_at (l := l) (i := i) (by simpa using h) hp fun j b hj hb => no (j + 1) b (Nat.succ_lt_succ hj) (by simpa using hb)
theorem find_no {p : Int → Bool} {l : List Int} (h : ∀ (j : Nat) (b : Int), l[j]? = some b → p b = false) : l.find? p = none := by
  refine List.find?_eq_none.mpr fun x hx => ?_
  obtain ⟨j, hj⟩ := List.getElem?_of_mem hx
  rw [h j x hj]
  exact Bool.false_ne_true
def spGranted (K : PySem.W.Frag) (C : Addr) : Sp := fun vs H Q _ => ∃ (a l : Addr) (r : Row5) (mode : Str) (p : Option Int) (asking : List Int), vs = [.ref a, .str mode, ptrV p, .ref l] ∧ RowAt C H a r ∧ r.p ∈ picks ∧ SqT K H l (asking.map V.int) ∧
  ∀ J, Same H J → Q (ptrV (grantedBy r mode p asking)) J
/-- what is wrong with one round: nobody of those who ask, or more than one -/
def faultP (asks grants : Nat) : V := if 0 < asks ∧ grants = 0 then .str "none" else if 1 < grants then .str "two" else .non
def spFault (K : PySem.W.Frag) : Sp := fun vs H Q _ => ∃ (a g : Addr) (xs ys : List V), vs = [.ref a, .ref g] ∧ SqT K H a xs ∧ SqT K H g ys ∧ Q (faultP xs.length ys.length) H
section
variable {P : Program} {w : World} {K : PySem.W.Frag} {mg : Str → Option Value} {base : Heap}
theorem scGranted : FnScope ["row", "mode", "pointer", "asking", "asker"] ["row", "mode", "pointer", "asking"] (defScope sGranted) := ⟨rfl, rfl, rfl, by decide +kernel, rfl, by decide +kernel, by decide +kernel⟩
theorem scFault : FnScope ["asking", "granted"] ["asking", "granted"] (defScope sFault) := ⟨rfl, rfl, rfl, by decide +kernel, rfl, by decide +kernel, by decide +kernel⟩
theorem get_int {l : List Int} {i : Nat} {v : V} (h : (l.map V.int)[i]? = some v) : ∃ a, l[i]? = some a ∧ v = .int a := by
  rw [List.getElem?_map] at h
  cases e : l[i]? with
  | none =>
    rw [e] at h
    cases h
  | some a =>
    rw [e] at h
    exact ⟨a, rfl, (Option.some.inj h).symm⟩
theorem ok_granted {C f g : Addr} {fd gd : FuncData} (F : Fun K "granted_by" "granted_by" sGranted f fd) (R : RowC K mg C)
    (G : FnOk P w K mg base CX0 1 g gd ["pick", "pointer", "asker"] spRegion) (bG : Binds K gd ["pick", "pointer", "asker"] []) (kG : PySem.W.keepIn K (.ref g) = true) (mG : mg "in_region" = some (.ref g)) :
    FnOk P w K mg base CX0 2 f fd ["row", "mode", "pointer", "asking"] (spGranted K C) := by
  refine F.ok scGranted (fun vs H Q E h => ?_) (fun cdv A outer s H vs Q E hr h => ?_)
  · obtain ⟨a, l, r, mode, p, asking, rfl, _⟩ := h
    rfl
  obtain ⟨a, l, r, mode, p, asking, rfl, ⟨⟨dx, ha⟩, ok⟩, hp, hl, q⟩ := h
  refine ⟨_, (pss_cons (ps_if (pt_cmpR op_ne (pe_fld (pv 0) rfl) (pv 1) (nomark _)) (pss_one (ps_ret pe_non)) pss_nil)
    (pss_cons (ps_for PassesOwn.never rfl (pi_tup (pv 3)) (pg_name (i := 4) scGranted.nd rfl (Or.inl rfl))
    (pss_one (ps_if (pt_val (pe_call G hr (by rfl) mG kG bG .nil pass0 (pa_cons (pe_fld (pv 0) rfl) (pa_cons (pv 2) (pa_cons (pv 4) pa_nil))))) (pss_one (ps_ret (pv 4))) pss_nil)))
    (pss_one (ps_ret pe_non)))), ?_⟩
  have f1 : r.fs.lookup ("mode" : Str) = some (V.str r.m) := by kernel_rfl
  have f2 : r.fs.lookup ("pick" : Str) = some (V.str r.p) := by kernel_rfl
  unfold grantedBy at q
  refine ⟨_, rfl, a, C, dx, _, _, rfl, ha, R.cl, R.n1, f1, _, rfl, rfl, _, rfl, ?_⟩
  rw [str_dec]
  refine ite2 (fun c => ?_) (fun c => ?_)
  · have c' : ¬ r.m = mode := by simpa using c
    rw [if_neg c'] at q
    exact q _ (Same.refl _)
  have c' : r.m = mode := by simpa using c
  rw [if_pos c'] at q
  refine ⟨_, rfl, l, rfl, ⟨_, hl⟩, for_tup (K := K) (a := l) (xs := asking.map V.int) (fun i σ J => ∃ v4, σ = [some (.ref a), some (.str mode), some (ptrV p), some (.ref l), v4] ∧ Same H J ∧ ∀ (j : Nat) (b : Int), j < i → asking[j]? = some b → inReg r.p p b = false)
    ⟨none, rfl, Same.refl _, fun j b hj => absurd hj (Nat.not_lt_zero _)⟩ (fun i σ J _ ⟨_, _, z, _⟩ => SqT.ext hl z) ?_ ?_⟩
  · rintro i x σ J hx ⟨v4, rfl, sJ, no⟩
    obtain ⟨b, hb, rfl⟩ := get_int hx
    refine ⟨_, rfl, a, C, dx, _, _, rfl, sJ _ _ ha, R.cl, R.n2, f2, _, rfl, _, rfl, r.p, p, b, rfl, hp, fun J2 s2 => ?_⟩
    have sJ2 := sJ.trans s2
    cases hi : inReg r.p p b with
    | true =>
      refine ⟨true, rfl, iteT ⟨_, rfl, ?_⟩⟩
      have z := q _ sJ2
      rw [find_at hb hi no] at z
      exact z
    | false =>
      refine ⟨false, rfl, iteF ⟨_, rfl, sJ2, fun j b' hj hb' => ?_⟩⟩
      rcases Nat.lt_succ_iff_lt_or_eq.mp hj with h | h
      · exact no j b' h hb'
      · rw [h, hb] at hb'
        cases hb'
        exact hi
  · rintro σ J ⟨v4, rfl, sJ, no⟩
    have z := q _ sJ
    rw [find_no fun j b hb => no j b (by rw [List.length_map]; exact (List.getElem?_eq_some_iff.mp hb).1) hb] at z
    exact z
theorem ok_fault {f : Addr} {fd : FuncData} (F : Fun K "round_fault" "round_fault" sFault f fd) (T : Blt mg) : FnOk P w K mg base CX0 1 f fd ["asking", "granted"] (spFault K) := by
  refine F.ok scFault (fun vs H Q E h => ?_) (fun cdv A outer s H vs Q E hr h => ?_)
  · obtain ⟨a, g, xs, ys, rfl, _⟩ := h
    rfl
  obtain ⟨a, g, xs, ys, rfl, ha, hg, q⟩ := h
  refine ⟨_, (pss_cons (ps_if (PW.pt (pw_and (pt_truth (pv 0) (fun _ => rfl)) (pw_and1 (pt_not (pt_truth (pv 1) (fun _ => rfl)))))) (pss_one (ps_ret pe_str)) pss_nil)
    (pss_cons (ps_if (pt_cmpR op_gt (pe_callB call_len_seq (by rfl) T.len PySem.boot_len (pa_cons (pv 1) pa_nil)) pe_int (nomark _)) (pss_one (ps_ret pe_str)) pss_nil)
    (pss_one (ps_ret pe_non)))), ?_⟩
  have tail : ¬ (0 < xs.length ∧ ys.length = 0) → (if decide ((1 : Int) < ((ys.length : Nat) : Int)) = true then Q (.str "two") H else Q .non H) := fun no => by
    unfold faultP at q
    rw [if_neg no] at q
    refine ite2 (fun c => ?_) (fun c => ?_)
    · rw [if_pos (by have := of_decide_eq_true c; omega)] at q
      exact q
    · rw [if_neg (by
        have : ¬ ((1 : Int) < ((ys.length : Nat) : Int)) := by simpa using c
        omega)] at q
      exact q
  refine ⟨_, rfl, _, .inr (.inl ⟨xs, ha, rfl⟩), ?_⟩
  refine ite2 (fun c => ⟨_, rfl, _, .inr (.inl ⟨ys, hg, rfl⟩), ?_⟩) (fun c => ⟨_, rfl, g, ys, rfl, .inr hg, _, _, rfl, rfl, _, rfl, tail fun z => c ?_⟩)
  · have hx : 0 < xs.length := by
      cases xs with
      | nil => exact absurd c (by decide)
      | cons _ _ => exact Nat.succ_pos _
    refine ite2 (fun d => ?_) (fun d => ⟨_, rfl, g, ys, rfl, .inr hg, _, _, rfl, rfl, _, rfl, tail fun z => d ?_⟩)
    · have hy : ys.length = 0 := by
        cases ys with
        | nil => rfl
        | cons _ _ => exact absurd d (by simp)
      unfold faultP at q
      rw [if_pos ⟨hx, hy⟩] at q
      exact q
    · have e : ys = [] := List.length_eq_zero_iff.mp z.2
      rw [e]
      rfl
  · cases xs with
    | nil => exact absurd z.1 (by decide)
    | cons _ _ => rfl
end
end LT
namespace LT
open PySem L2
/-! ### one round -/
/-- what row number i does to what is done and granted so far -/
def stepR (mode : Str) (p : Option Int) (asking : List Int) (i : Nat) (r : Row5) (st : Option Nat × List Int) : Option Nat × List Int :=
  if st.1.isSome = true ∧ r.al = false then st else match grantedBy r mode p asking with
    | none => st
    | some a => (match st.1 with | none => some i | some d => some d, st.2 ++ [a])
def scanR (rows : List Row5) (mode : Str) (p : Option Int) (asking : List Int) : Nat → Option Nat × List Int
  | 0 => (none, [])
  | i + 1 => match rows[i]? with
    | none => scanR rows mode p asking i
    | some r => stepR mode p asking i r (scanR rows mode p asking i)
structure ScanOk (n i : Nat) (st : Option Nat × List Int) : Prop where
  len : st.2.length ≤ i
  no : st.1 = none → st.2 = []
  yes : ∀ d, st.1 = some d → d < n ∧ st.2 ≠ []
theorem ScanOk.more {n i : Nat} {st : Option Nat × List Int} (h : ScanOk n i st) : ScanOk n (i + 1) st := ⟨Nat.le_succ_of_le h.len, h.no, h.yes⟩
theorem step_ok {mode : Str} {p : Option Int} {asking : List Int} {n i : Nat} {r : Row5} {st : Option Nat × List Int} (h : ScanOk n i st) (hi : i < n) : ScanOk n (i + 1) (stepR mode p asking i r st) := by
  unfold stepR
  by_cases c : st.1.isSome = true ∧ r.al = false
  · rw [if_pos c]
    exact h.more
  · rw [if_neg c]
    cases g : grantedBy r mode p asking with
    | none => exact h.more
    | some a =>
      obtain ⟨dn, gr⟩ := st
      have hl := h.len
      simp only at hl
      cases dn with
      | none => exact ⟨by simp only [List.length_append, List.length_singleton]; omega, fun z => (nomatch z), fun d z => ⟨by cases z; exact hi, by simp⟩⟩
      | some d0 => exact ⟨by simp only [List.length_append, List.length_singleton]; omega, fun z => (nomatch z), fun d z => ⟨by cases z; exact (h.yes d0 rfl).1, by simp⟩⟩
theorem scan_ok (rows : List Row5) (mode : Str) (p : Option Int) (asking : List Int) : ∀ i, ScanOk rows.length i (scanR rows mode p asking i)
  | 0 => ⟨Nat.le_refl _, fun _ => rfl, fun d h => (nomatch h)⟩
  | i + 1 => by
    have h := scan_ok rows mode p asking i
    cases e : rows[i]? with
    | none =>
      have z : scanR rows mode p asking (i + 1) = scanR rows mode p asking i := by
        show (match rows[i]? with | none => _ | some r => _) = _
        rw [e]
      rw [z]
      exact h.more
    | some r =>
      have z : scanR rows mode p asking (i + 1) = stepR mode p asking i r (scanR rows mode p asking i) := by
        show (match rows[i]? with | none => _ | some r => _) = _
        rw [e]
      rw [z]
      exact step_ok h (List.getElem?_eq_some_iff.mp e).1
/-- what is done in a round, and what stands behind it -/
def endDone (rows : List Row5) (mode : Str) (p : Option Int) (asking : List Int) : Option Nat := (scanR rows mode p asking rows.length).1
def endGrants (rows : List Row5) (mode : Str) (p : Option Int) (asking : List Int) : List Int := (scanR rows mode p asking rows.length).2
def endMode (rows : List Row5) (mode : Str) (p : Option Int) (asking : List Int) : Str := match endDone rows mode p asking with
  | none => mode
  | some d => (rows[d]?.map (·.t)).getD mode
def endPtr (rows : List Row5) (mode : Str) (p : Option Int) (asking : List Int) : Option Int := match endDone rows mode p asking with
  | none => p
  | some d => match rows[d]?, (endGrants rows mode p asking)[0]? with
    | some r, some g => movedP r.mv p g
    | _, _ => p
def doneV : Option Nat → V
  | none => .non
  | some d => .int (d : Nat)
theorem seq_c {c : Prop} {tt : TT} {a1 a2 b : TS} {D : Ends} {σ : L2.St} {H : Hp} (m : (c → b D σ H) → tSeq (tIfS tt a1 a2) b D σ H) (r : c → b D σ H) : tSeq (tIfS tt a1 a2) b D σ H := m r
theorem step_some {mode : Str} {p : Option Int} {asking : List Int} {i : Nat} {r : Row5} {dn : Option Nat} {gr : List Int} {g0 : Int} (nc : ¬ (dn.isSome = true ∧ r.al = false)) (h : grantedBy r mode p asking = some g0) :
    stepR mode p asking i r (dn, gr) = (match dn with | none => some i | some d => some d, gr ++ [g0]) := by
  unfold stepR
  rw [if_neg nc, h]
  cases dn <;> rfl
structure Blt4 (mg : Str → Option Value) : Prop where
  enumerate : mg "enumerate" = none
  sorted : mg "sorted" = none
  set : mg "set" = none
/-- what the written part says of the class Rule -/
structure RuleC (K : PySem.W.Frag) (CR : Addr) : Prop where
  cl : Cls K CR
  nr : NoAttr K CR "rows"
/-- a rule's rows -/
structure RowsAt (K : PySem.W.Frag) (C CR : Addr) (H : Hp) (a : Addr) (rows : List Row5) : Prop where
  ex : ∃ (dx tp : Addr) (fs : List (Str × V)) (xs : List V), H a = some (.ins CR dx fs) ∧ fs.lookup ("rows" : Str) = some (V.ref tp) ∧ SqT K H tp xs ∧ xs.length = rows.length ∧ ∀ (i : Nat) (x : V), xs[i]? = some x → ∃ (b : Addr) (r : Row5), x = .ref b ∧ rows[i]? = some r ∧ RowAt C H b r ∧ r.p ∈ picks
def spPlayRound (K : PySem.W.Frag) (C CR : Addr) : Sp := fun vs H Q _ => ∃ (a l : Addr) (mode : Str) (p : Option Int) (rows : List Row5) (asking : List Int), vs = [.ref a, .str mode, ptrV p, .ref l] ∧ RowsAt K C CR H a rows ∧ rows.length < 60 ∧ SqT K H l (asking.map V.int) ∧
  ∀ (q g : Addr) (out : List Int) (J : Hp), Same H J → H q = none → H g = none → J q = some (.tup [.ref g, doneV (endDone rows mode p asking), .str (endMode rows mode p asking), ptrV (endPtr rows mode p asking)]) → J g = some (.tup (out.map V.int)) →
    out.Pairwise (· < ·) → (∀ k, k ∈ out ↔ k ∈ endGrants rows mode p asking) → Q (.ref q) J
abbrev nPlayRound : List Str := ["rule", "mode", "pointer", "asking", "done", "granted", "at", "row", "asker"]
section
variable {P : Program} {w : World} {K : PySem.W.Frag} {mg : Str → Option Value} {base : Heap}
theorem scPlayRound : FnScope nPlayRound ["rule", "mode", "pointer", "asking"] (defScope sPlayRound) := ⟨rfl, rfl, rfl, by decide +kernel, rfl, by decide +kernel, by decide +kernel⟩
theorem ok_playround {C CR f g h : Addr} {fd gd hd : FuncData} (F : Fun K "play_round" "play_round" sPlayRound f fd) (T : Blt mg) (Z : Blt4 mg) (R : RowC K mg C) (RC : RuleC K CR)
    (G : FnOk P w K mg base CX0 2 g gd ["row", "mode", "pointer", "asking"] (spGranted K C)) (bG : Binds K gd ["row", "mode", "pointer", "asking"] []) (kG : PySem.W.keepIn K (.ref g) = true) (mG : mg "granted_by" = some (.ref g))
    (Gm : FnOk P w K mg base CX0 1 h hd ["move", "pointer", "granted"] spMoved) (bM : Binds K hd ["move", "pointer", "granted"] []) (kM : PySem.W.keepIn K (.ref h) = true) (mM : mg "moved" = some (.ref h)) :
    FnOk P w K mg base CX0 3 f fd ["rule", "mode", "pointer", "asking"] (spPlayRound K C CR) := by
  refine F.ok scPlayRound (fun vs H Q E h => ?_) (fun cdv A outer s H vs Q E hr h => ?_)
  · obtain ⟨a, l, mode, p, rows, asking, rfl, _⟩ := h
    rfl
  obtain ⟨a, l, mode, p, rows, asking, rfl, ⟨dx, tp, fs, xs, ha, hrows, htp, hlen, hx⟩, h60, hl, q⟩ := h
  have hr2 : Room 2 _ := hr
  have hr1 : Room 1 _ := hr.mono (by decide)
  refine ⟨_, (pss_cons (ps_set (i := 4) scPlayRound.nd rfl (Or.inl rfl) pe_non)
    (pss_cons (ps_set (i := 5) scPlayRound.nd rfl (Or.inl rfl) (pe_lst pa_nil))
    (pss_cons (ps_for PassesOwn.never rfl (L2.pi_enumT (by rfl) Z.enumerate (pa_cons (pe_fld (pv 0) rfl) pa_nil)) (pg_tup rfl (pgs_cons (pg_name (i := 6) scPlayRound.nd rfl (Or.inl rfl)) (pgs_cons (pg_name (i := 7) scPlayRound.nd rfl (Or.inl rfl)) pgs_nil)))
    (pss_cons (ps_if (PW.pt (pw_and (pt_cmpR op_notN (pv 4) pe_non (nomark _)) (pw_and1 (pt_not (pt_val (pe_fld (pv 7) rfl)))))) (pss_one ps_continue) pss_nil)
      (pss_cons (ps_set (i := 8) scPlayRound.nd rfl (Or.inl rfl) (pe_call G hr2 (by rfl) mG kG bG .nil pass0 (pa_cons (pv 7) (pa_cons (pv 1) (pa_cons (pv 2) (pa_cons (pv 3) pa_nil))))))
      (pss_cons (ps_if (pt_cmpR op_isN (pv 8) pe_non (nomark _)) (pss_one ps_continue) pss_nil)
      (pss_cons (ps_if (pt_cmpR op_isN (pv 4) pe_non (nomark _)) (pss_one (ps_set (i := 4) scPlayRound.nd rfl (Or.inl rfl) (pv 6))) pss_nil)
      (pss_one (ps_expr (pe_bm PySem.F.plainAttrs_list PySem.F.slot_list_append PySem.F.type_list_append mt_append (pv 5) (pa_cons (pv 8) pa_nil)))))))))
    (pss_cons (ps_if (pt_cmpR op_isN (pv 4) pe_non (nomark _)) (pss_one (ps_ret (pe_tup (pa_cons (pe_tup pa_nil) (pa_cons pe_non (pa_cons (pv 1) (pa_cons (pv 2) pa_nil))))))) pss_nil)
    (pss_cons (ps_set (i := 7) scPlayRound.nd rfl (Or.inl rfl) (pe_ix ix_tup (pe_fld (pv 0) rfl) (pv 4) (fun _ _ => rfl)))
    (pss_one (ps_ret (pe_tup (pa_cons (pe_callTy call_tuple_of (by rfl) T.tuple (by decide +kernel) (pa_cons (pe_callB (cr_sortedSet rfl) (by rfl) Z.sorted (by decide +kernel) (pa_cons (pe_callTy (cr_setI rfl) (by rfl) Z.set (by decide +kernel) (pa_cons (pv 5) pa_nil)) pa_nil)) pa_nil)) (pa_cons (pv 4) (pa_cons (pe_fld (pv 7) rfl) (pa_cons (pe_call Gm hr1 (by rfl) mM kM bM .nil pass0 (pa_cons (pe_fld (pv 7) rfl) (pa_cons (pv 2) (pa_cons (pe_ix ix_list (pv 5) pe_int (fun _ _ => rfl)) pa_nil)))) pa_nil)))))))))))), ?_⟩
  refine ⟨(by show 0 ≤ sizeLine; decide), fun gl ngl => ?_⟩
  have hg0 : upd H gl (.lst []) gl = some (.lst []) := upd_same
  have s0 := new_same ngl (.lst [])
  generalize upd H gl (.lst []) = H0 at hg0 s0 ⊢
  refine ⟨_, rfl, a, CR, dx, fs, _, rfl, s0 _ _ ha, RC.cl, RC.nr, hrows, tp, xs, rfl, SqT.ext htp s0, for_it (walk_enumT (K := K) (a := tp) (xs := xs)) (fun i σ J => ∃ v6 v7 v8, σ = [some (.ref a), some (.str mode), some (ptrV p), some (.ref l), some (doneV (scanR rows mode p asking i).1), some (.ref gl), v6, v7, v8] ∧ Same H J ∧ J gl = some (.lst ((scanR rows mode p asking i).2.map V.int)))
    ⟨none, none, none, rfl, s0, hg0⟩ (fun i σ J _ ⟨_, _, _, _, z, _⟩ => SqT.ext htp z) ?_ ?_⟩
  · rintro i x σ J J' hi ⟨v6, v7, v8, rfl, sJ, hgl⟩ ⟨W, x1, e, rfl, nW, rfl, ex1, ee⟩
    cases ex1
    obtain ⟨b, r, rfl, er, ⟨⟨dy, hb⟩, okr⟩, hp⟩ := hx i e ee
    have sW := new_same nW (.tup [V.int (i : Nat), .ref b])
    refine ⟨W, _, rfl, SqT.of upd_same, rfl, _, _, rfl, _, _, rfl, rfl, ?_⟩
    have hgl1 := sW _ _ hgl
    have s1 := sJ.trans sW
    clear hgl sJ
    generalize upd J W _ = J1 at s1 hgl1 ⊢
    have es : scanR rows mode p asking (i + 1) = stepR mode p asking i r (scanR rows mode p asking i) := by
      show (match rows[i]? with | none => _ | some r => _) = _
      rw [er]
    generalize hst : scanR rows mode p asking i = st at es hgl1 ⊢
    obtain ⟨dn, gr⟩ := st
    have f5 : r.fs.lookup ("also" : Str) = some (V.bl r.al) := by kernel_rfl
    have hb1 := s1 _ _ hb
    refine seq_c (c := ¬ (dn.isSome = true ∧ r.al = false)) (fun k => ?_) (fun nc => ?_)
    · refine ⟨_, rfl, rfl, _, rfl, ?_⟩
      cases dn with
      | none => exact iteF (k fun z => nomatch z.1)
      | some d =>
        refine iteT ⟨_, rfl, b, C, dy, _, _, rfl, hb1, R.cl, R.n5, f5, r.al, rfl, ?_⟩
        cases hal : r.al with
        | true => exact iteF (k fun z => by rw [hal] at z; cases z.2)
        | false =>
          refine iteT ⟨some (.int (i : Nat)), some (.ref b), v8, ?_, s1, ?_⟩
          · rw [es]
            unfold stepR
            rw [if_pos ⟨rfl, hal⟩]
            rfl
          · rw [es]
            unfold stepR
            rw [if_pos ⟨rfl, hal⟩]
            exact hgl1
    refine ⟨_, rfl, _, rfl, _, rfl, _, rfl, b, l, r, mode, p, asking, rfl, ⟨⟨dy, hb1⟩, okr⟩, hp, SqT.ext hl s1, fun J2 s2 => ?_⟩
    have s3 := s1.trans s2
    have hgl2 := s2 _ _ hgl1
    clear s1 s2 hgl1 hb1
    refine ⟨_, rfl, rfl, _, rfl, ?_⟩
    cases hgb : grantedBy r mode p asking with
    | none =>
      refine iteT ⟨some (.int (i : Nat)), some (.ref b), some .non, ?_, s3, ?_⟩
      · rw [es]
        unfold stepR
        rw [if_neg nc, hgb]
        rfl
      · rw [es]
        unfold stepR
        rw [if_neg nc, hgb]
        exact hgl2
    | some g0 =>
      have e2 := step_some (i := i) (gr := gr) nc hgb
      have sk := scan_ok rows mode p asking i
      rw [hst] at sk
      have hgr : gr.length ≤ i := sk.len
      have fit : (gr.map V.int).length < sizeLine := by
        rw [List.length_map]
        exact small1000 (by have := hlen; omega)
      have sN : Same H (upd J2 gl (.lst (gr.map V.int ++ [V.int g0]))) := fun c o z => by
        rw [upd_ne (ne_of_none z ngl)]
        exact s3 c o z
      have hN : upd J2 gl (.lst (gr.map V.int ++ [V.int g0])) gl = some (.lst ((gr ++ [g0]).map V.int)) := by
        rw [upd_same, List.map_append, List.map_singleton]
      refine iteF ⟨_, rfl, rfl, _, rfl, ?_⟩
      cases dn with
      | none =>
        refine iteT ⟨_, rfl, ?_⟩
        refine ⟨_, rfl, .inl ⟨rfl, _, SqL.of hgl2⟩, _, rfl, gl, _, _, rfl, rfl, hgl2, fit, ?_⟩
        refine ⟨some (.int (i : Nat)), some (.ref b), some (.int g0), ?_, sN, ?_⟩
        · rw [es, e2]
          rfl
        · rw [es, e2]
          exact hN
      | some d =>
        refine iteF ⟨_, rfl, .inl ⟨rfl, _, SqL.of hgl2⟩, _, rfl, gl, _, _, rfl, rfl, hgl2, fit, ?_⟩
        refine ⟨some (.int (i : Nat)), some (.ref b), some (.int g0), ?_, sN, ?_⟩
        · rw [es, e2]
          rfl
        · rw [es, e2]
          exact hN
  · rintro σ J ⟨v6, v7, v8, rfl, sJ, hgl⟩
    rw [hlen] at hgl ⊢
    have sk := scan_ok rows mode p asking rows.length
    have d0 : endDone rows mode p asking = (scanR rows mode p asking rows.length).1 := rfl
    have g0' : endGrants rows mode p asking = (scanR rows mode p asking rows.length).2 := rfl
    have m0 : endMode rows mode p asking = match endDone rows mode p asking with | none => mode | some d => (rows[d]?.map (·.t)).getD mode := rfl
    have p0 : endPtr rows mode p asking = match endDone rows mode p asking with | none => p | some d => match rows[d]?, (endGrants rows mode p asking)[0]? with | some r, some g => movedP r.mv p g | _, _ => p := rfl
    generalize hst : scanR rows mode p asking rows.length = st at hgl sk d0 g0' ⊢
    obtain ⟨dn, gr⟩ := st
    refine ⟨_, rfl, rfl, _, rfl, ?_⟩
    cases dn with
    | none =>
      have eg : gr = [] := sk.no rfl
      rw [d0] at m0 p0
      refine iteT ⟨(by show 0 ≤ sizeLine; decide), fun e ne => ⟨_, rfl, _, rfl, (by show 4 ≤ sizeLine; decide), fun z nz => ?_⟩⟩
      have s4 := sJ.trans (new_same ne (.tup []))
      refine q z e [] _ (s4.trans (new_same nz _)) (s4.free nz) (sJ.free ne) ?_ (new_same nz _ _ _ upd_same) .nil fun k => ?_
      · rw [d0, m0, p0]
        exact upd_same
      · rw [g0', eg]
    | some d =>
      obtain ⟨hd, hne⟩ := sk.yes d rfl
      have hdx : d < xs.length := by omega
      obtain ⟨b, r, ex, er, ⟨⟨dy, hb⟩, okr⟩, hp⟩ := hx d xs[d] (List.getElem?_eq_getElem hdx)
      have ex' : xs[d]? = some (.ref b) := by
        rw [List.getElem?_eq_getElem hdx, ex]
      have f3 : r.fs.lookup ("move" : Str) = some (V.str r.mv) := by kernel_rfl
      have f4 : r.fs.lookup ("then" : Str) = some (V.str r.t) := by kernel_rfl
      obtain ⟨g1, gs, rfl⟩ : ∃ g1 gs, gr = g1 :: gs := by
        cases gr with
        | nil => exact absurd rfl hne
        | cons g1 gs => exact ⟨g1, gs, rfl⟩
      have hgl3 : (g1 :: gs).length ≤ rows.length := sk.len
      have e3 : endMode rows mode p asking = r.t := by
        rw [m0, d0]
        show (rows[d]?.map (·.t)).getD mode = r.t
        rw [er]
        rfl
      have e4 : endPtr rows mode p asking = movedP r.mv p g1 := by
        rw [p0, d0, g0']
        show (match rows[d]?, (g1 :: gs)[0]? with | some r, some g => movedP r.mv p g | _, _ => p) = _
        rw [er]
        rfl
      refine iteF ⟨_, rfl, a, CR, dx, fs, _, rfl, sJ _ _ ha, RC.cl, RC.nr, hrows, _, rfl, tp, xs, (d : Nat), .ref b, rfl, rfl, SqT.ext htp sJ, atI_nat ex', ?_⟩
      refine ⟨_, rfl, gl, g1 :: gs, rfl, .inl (SqL.of hgl), (by omega), fun sq n ks nsq hn k1 k2 k3 => ?_⟩
      have sS := new_same nsq (SetO w sq (fun j => decide (j ∈ g1 :: gs)) n)
      refine ⟨sq, _, n, rfl, upd_same, (by omega), fun out op pw mem ln nop => ?_⟩
      have sO := sS.trans (new_same nop (.lst (out.map V.int)))
      refine ⟨op, out.map V.int, rfl, .inl ⟨SqL.of upd_same, fun tq ntq => ?_⟩⟩
      have sT := sO.trans (new_same ntq (.tup (out.map V.int)))
      have hT : (upd (upd (upd J sq (SetO w sq (fun j => decide (j ∈ g1 :: gs)) n)) op (.lst (out.map V.int))) tq (.tup (out.map V.int))) tq = some (.tup (out.map V.int)) := upd_same
      have ntJ : J tq = none := sO.free ntq
      clear nsq nop ntq sS sO
      have sL := sJ.trans sT
      refine ⟨_, rfl, _, rfl, b, C, dy, _, _, rfl, sL _ _ hb, R.cl, R.n4, f4, _, rfl, b, C, dy, _, _, rfl, sL _ _ hb, R.cl, R.n3, f3, _, rfl, _, rfl, gl, _, 0, .int g1, rfl, rfl, SqL.of (sT _ _ hgl), (show atI (((g1 :: gs).map V.int)) (((0 : Nat)) : Int) = some (.int g1) from atI_nat rfl), r.mv, p, g1, rfl, (by show 4 ≤ sizeLine; decide), fun z nz => ?_⟩
      refine q z tq out _ (sL.trans (new_same nz _)) (sL.free nz) (sJ.free ntJ) ?_ (new_same nz _ _ _ hT) pw fun k => ?_
      · rw [d0, e3, e4]
        exact upd_same
      · rw [mem k, g0', decide_eq_true_eq]
end
end LT
namespace L2
open PySem PySem.Spec PyProof.Rows
section
variable {X : Cx} {tg : Expr}
/-- a walk over what is a list or a tuple -/
def iSeq (K : PySem.W.Frag) (tl : TE) : TI := fun σ H R => tl σ H fun x H1 => ∃ a, x = .ref a ∧ (((∃ xs, SqL K H1 a xs) ∧ R (Itl K a) H1) ∨ ((∃ xs, SqT K H1 a xs) ∧ R (Itt K a) H1))
theorem pi_seq {l : Expr} {tl : TE} (hl : PE X l tl) : PI X tg l (iSeq X.K tl) := by
  refine ⟨fun pins s σ H R I h => thn (hl.run pins s σ H _ I h) fun v s1 hh => ?_⟩
  obtain ⟨x, H1, I1, r1, a, rfl, q⟩ := hh
  obtain rfl : v = Value.ref a := r1
  have newIt : ∀ b, b ∈ [s1.heap.objs.size] → FpOk X pins H1 b := fun b hb => by
    rw [List.mem_singleton.mp hb]
    exact I1.fpOk (Nat.le_refl _) (I1.hok.fresh (Nat.le_refl _))
  have more : ∀ o : Obj, Inv X pins σ H1 { s1 with heap := s1.heap.push o } := fun o => I1.kept (t' := s1.toks) fun b u e => Heap.get?_push_of_some _ e
  rcases q with ⟨⟨xs, hq⟩, q⟩ | ⟨⟨xs, hq⟩, q⟩
  · obtain ⟨its, rv, p, hz⟩ := I1.list hq
    exact wpAny_pyIter_list p.isList ⟨_, _, _, _, H1, rfl, more _, turn_list a _, ⟨_, Heap.get?_push_size _ rfl, rfl, rfl⟩, newIt, q⟩
  · obtain ⟨its, rv, p, hz⟩ := I1.tuple hq
    exact wpAny_pyIter_tuple (show s1.heap.IsTuple a its.toArray from p) ⟨_, _, _, _, H1, rfl, more _, turn_tuple a _, ⟨_, Heap.get?_push_size _ rfl, rfl, rfl⟩, newIt, q⟩
end
end L2
namespace LT
open PySem L2
structure Blt5 (mg : Str → Option Value) : Prop where
  int : mg "int" = none
  bool : mg "bool" = none
  list : mg "list" = none
  tuple : mg "tuple" = none
def spWhole (K : PySem.W.Frag) : Sp := fun vs H Q _ => ∃ (x : V) (t : Value) (b c : Bool), vs = [x] ∧ TyX K H x t ∧ PySem.W.kitOne K t (.type "int") = some b ∧ PySem.W.kitOne K t (.type "bool") = some c ∧ Q (.bl (b && !c)) H
def spSeq (K : PySem.W.Frag) : Sp := fun vs H Q _ => ∃ (x : V) (t : Value) (b : Bool), vs = [x] ∧ (∀ J, Same H J → TyX K J x t) ∧ PySem.W.kitAny K t [.type "list", .type "tuple"] = some b ∧ ∀ J, Same H J → Q (.bl b) J
/-- a round of ints is good -/
def goodRound (askers : Int) (ns : List Int) : Bool := (ns.all fun n => decide (0 ≤ n) && decide (n < askers)) && decide ns.Nodup
def spBelow (K : PySem.W.Frag) : Sp := fun vs H Q _ => ∃ (x : V) (t : Value) (b c : Bool) (n : Int), vs = [x, .int n] ∧ (∀ J, Same H J → TyX K J x t) ∧ PySem.W.kitOne K t (.type "int") = some b ∧ PySem.W.kitOne K t (.type "bool") = some c ∧
  (∀ J, Same H J → ((b && !c) = false → Q (.bl false) J) ∧ ((b && !c) = true → ∃ k : Int, x = .int k ∧ Q (.bl (decide (0 ≤ k) && decide (k < n))) J))
def spIsRound (K : PySem.W.Frag) : Sp := fun vs H Q _ => ∃ (a : Addr) (ns : List Int) (askers : Int), vs = [.ref a, .int askers] ∧ (SqL K H a (ns.map V.int) ∨ SqT K H a (ns.map V.int)) ∧ ns.length ≤ 1000 ∧ ∀ J, Same H J → Q (.bl (goodRound askers ns)) J
theorem nodup_len : ∀ {ns ks : List Int}, ks.Nodup → (∀ k, k ∈ ks ↔ k ∈ ns) → ks.length ≤ ns.length ∧ ((ks.length = ns.length) ↔ ns.Nodup)
  | [], ks, _, m => by
    have e : ks = [] := List.eq_nil_iff_forall_not_mem.mpr fun k hk => nomatch (m k).mp hk
    subst e
    exact ⟨Nat.le_refl _, fun _ => .nil, fun _ => rfl⟩
  | a :: t, ks, h, m => by
    by_cases c : a ∈ t
    · obtain ⟨l, _⟩ := nodup_len (ns := t) (ks := ks) h fun k => by
        rw [m k, List.mem_cons]
        exact ⟨fun z => z.elim (fun e => e ▸ c) id, .inr⟩
      refine ⟨by rw [List.length_cons]; omega, fun e => ?_, fun n => absurd c (List.nodup_cons.mp n).1⟩
      rw [List.length_cons] at e
      omega
    · have ha : a ∈ ks := (m a).mpr List.mem_cons_self
      obtain ⟨l, i⟩ := nodup_len (ns := t) (ks := ks.erase a) (h.erase a) fun k => by
        rw [h.mem_erase_iff, m k, List.mem_cons]
        refine ⟨fun z => z.2.elim (fun e => absurd e z.1) id, fun z => ⟨fun e => c (e ▸ z), .inr z⟩⟩
      have len : ks.length = (ks.erase a).length + 1 := by
        rw [List.length_erase_of_mem ha]
        have : 0 < ks.length := List.length_pos_of_mem ha
        omega
      refine ⟨by rw [len, List.length_cons]; omega, ?_⟩
      rw [len, List.length_cons, List.nodup_cons]
      exact ⟨fun e => ⟨c, i.mp (by omega)⟩, fun n => by rw [i.mpr n.2]⟩
section
variable {P : Program} {w : World} {K : PySem.W.Frag} {mg : Str → Option Value} {base : Heap}
theorem scWhole : FnScope ["value"] ["value"] (defScope sIsWhole) := ⟨rfl, rfl, rfl, by decide +kernel, rfl, by decide +kernel, by decide +kernel⟩
theorem scSeq : FnScope ["value"] ["value"] (defScope sIsSeq) := ⟨rfl, rfl, rfl, by decide +kernel, rfl, by decide +kernel, by decide +kernel⟩
theorem scBelow : FnScope ["value", "bound"] ["value", "bound"] (defScope sIsBelow) := ⟨rfl, rfl, rfl, by decide +kernel, rfl, by decide +kernel, by decide +kernel⟩
abbrev nIsRound : List Str := ["value", "askers", "asker"]
theorem scIsRound : FnScope nIsRound ["value", "askers"] (defScope sIsRound) := ⟨rfl, rfl, rfl, by decide +kernel, rfl, by decide +kernel, by decide +kernel⟩
theorem ok_whole {f : Addr} {fd : FuncData} (F : Fun K "is_whole" "is_whole" sIsWhole f fd) (U : Blt2 mg) (Y : Blt5 mg) : FnOk P w K mg base CX0 1 f fd ["value"] (spWhole K) := by
  refine F.ok scWhole (fun vs H Q E h => ?_) (fun cdv A outer s H vs Q E hr h => ?_)
  · obtain ⟨x, t, b, c, rfl, _⟩ := h
    rfl
  obtain ⟨x, t, b, c, rfl, ty, k1, k2, q⟩ := h
  refine ⟨_, (pss_one (ps_ret (pe_and (pe_callB call_isi (by rfl) U.isin boot_isin (pa_cons (pv 0) (pa_cons (pe_bltn (v := .ty "int") (by rfl) Y.int (by decide +kernel) rfl) pa_nil))) (pe_one (pe_not (pe_callB call_isi (by rfl) U.isin boot_isin (pa_cons (pv 0) (pa_cons (pe_bltn (v := .ty "bool") (by rfl) Y.bool (by decide +kernel) rfl) pa_nil)))))))), ?_⟩
  refine ⟨_, rfl, x, _, t, _, b, rfl, .ty "int", ty, k1, b, rfl, ?_⟩
  cases b with
  | false => exact iteF q
  | true => exact iteT ⟨_, rfl, x, _, t, _, c, rfl, .ty "bool", ty, k2, c, rfl, q⟩
theorem ok_seq {f : Addr} {fd : FuncData} (F : Fun K "is_sequence" "is_sequence" sIsSeq f fd) (U : Blt2 mg) (Y : Blt5 mg) : FnOk P w K mg base CX0 1 f fd ["value"] (spSeq K) := by
  refine F.ok scSeq (fun vs H Q E h => ?_) (fun cdv A outer s H vs Q E hr h => ?_)
  · obtain ⟨x, t, b, rfl, _⟩ := h
    rfl
  obtain ⟨x, t, b, rfl, ty, k1, q⟩ := h
  refine ⟨_, (pss_one (ps_ret (pe_callB call_isiT (by rfl) U.isin boot_isin (pa_cons (pv 0) (pa_cons (pe_tup (pa_cons (pe_bltn (v := .ty "list") (by rfl) Y.list (by decide +kernel) rfl) (pa_cons (pe_bltn (v := .ty "tuple") (by rfl) Y.tuple (by decide +kernel) rfl) pa_nil))) pa_nil))))), ?_⟩
  refine ⟨_, rfl, (by show 2 ≤ sizeLine; decide), fun p np => ?_⟩
  have sp := new_same np (.tup [V.ty "list", .ty "tuple"])
  exact ⟨x, p, _, t, _, b, rfl, upd_same, .cons (.ty "list") (.cons (.ty "tuple") .nil), ty _ sp, k1, q _ sp⟩
theorem len_iff {ks ns : List Int} (h : ks.Nodup) (m : ∀ k, k ∈ ks ↔ k ∈ ns) : decide (V.int (ks.length : Nat) = V.int (ns.length : Nat)) = decide ns.Nodup := by
  have e := (nodup_len h m).2
  by_cases c : ns.Nodup
  · rw [decide_eq_true c, e.mpr c]
    exact decide_eq_true rfl
  · rw [decide_eq_false c]
    refine decide_eq_false fun z => c (e.mp ?_)
    have := V.int.inj z
    omega
theorem kit_int_int {K : PySem.W.Frag} : PySem.W.kitOne K (.type "int") (.type "int") = some true := kit_ty (by decide +kernel)
theorem kit_list_seq {K : PySem.W.Frag} : PySem.W.kitAny K (.type "list") [.type "list", .type "tuple"] = some true :=
  kitAny_cons (b := true) (kit_ty (by decide +kernel)) (fun z => nomatch z) fun _ => rfl
theorem kit_tuple_seq {K : PySem.W.Frag} : PySem.W.kitAny K (.type "tuple") [.type "list", .type "tuple"] = some true :=
  kitAny_cons (b := false) (kit_ty (by decide +kernel)) (fun _ => kitAny_cons (b := true) (kit_ty (by decide +kernel)) (fun z => nomatch z) fun _ => rfl) fun z => nomatch z
theorem ok_below {f h : Addr} {fd hd : FuncData} (F : Fun K "is_below" "is_below" sIsBelow f fd)
    (Gw : FnOk P w K mg base CX0 1 h hd ["value"] (spWhole K)) (bW : Binds K hd ["value"] []) (kW : PySem.W.keepIn K (.ref h) = true) (mW : mg "is_whole" = some (.ref h)) : FnOk P w K mg base CX0 2 f fd ["value", "bound"] (spBelow K) := by
  refine F.ok scBelow (fun vs H Q E h => ?_) (fun cdv A outer s H vs Q E hr h => ?_)
  · obtain ⟨x, t, b, c, n, rfl, _⟩ := h
    rfl
  obtain ⟨x, t, b, c, n, rfl, ty, k1, k2, q⟩ := h
  refine ⟨_, pss_one (ps_ret (pe_and (pe_call Gw hr (by rfl) mW kW bW .nil pass0 (pa_cons (pv 0) pa_nil)) (pe_one (pe_chain op_le op_lt pe_int (pv 0) (pv 1))))), ?_⟩
  refine ⟨_, rfl, x, t, b, c, rfl, ty _ (Same.refl _), k1, k2, ?_⟩
  have z := q _ (Same.refl _)
  cases e : (b && !c) with
  | false => exact ⟨false, rfl, iteF (z.1 e)⟩
  | true =>
    obtain ⟨k, rfl, z2⟩ := z.2 e
    refine ⟨true, rfl, iteT ⟨_, rfl, _, _, rfl, rfl, _, rfl, ?_⟩⟩
    cases c1 : decide (0 ≤ k) with
    | false =>
      rw [c1, Bool.false_and] at z2
      exact iteF z2
    | true =>
      rw [c1, Bool.true_and] at z2
      exact iteT ⟨_, rfl, _, _, rfl, rfl, z2⟩
theorem ok_isround {f g h : Addr} {fd gd hd : FuncData} (F : Fun K "is_round" "is_round" sIsRound f fd) (Z : Blt4 mg) (T : Blt mg) (zAll : mg "all" = none)
    (Gs : FnOk P w K mg base CX0 1 g gd ["value"] (spSeq K)) (bS : Binds K gd ["value"] []) (kS : PySem.W.keepIn K (.ref g) = true) (mS : mg "is_sequence" = some (.ref g))
    (Gb : FnOk P w K mg base CX0 2 h hd ["value", "bound"] (spBelow K)) (bB : Binds K hd ["value", "bound"] []) (kB : PySem.W.keepIn K (.ref h) = true) (mB : mg "is_below" = some (.ref h)) :
    FnOk P w K mg base CX0 3 f fd ["value", "askers"] (spIsRound K) := by
  refine F.ok scIsRound (fun vs H Q E h => ?_) (fun cdv A outer s H vs Q E hr h => ?_)
  · obtain ⟨a, ns, n, rfl, _⟩ := h
    rfl
  obtain ⟨a, ns, n, rfl, ha, hz, q⟩ := h
  have hr2 : Room 2 _ := hr
  have hr1 : Room 1 _ := hr2.mono (by decide)
  refine ⟨_, (pss_cons (ps_if (PW.pt (pw_or (pt_not (pt_val (pe_call Gs hr1 (by rfl) mS kS bS .nil pass0 (pa_cons (pv 0) pa_nil)))) (pw_or1 (pt_not (pt_val (pe_callB (cr_all rfl) (by rfl) zAll (by decide +kernel)
        (pa_cons (pe_lc (own := [("asker", 2)]) (g := gName 2) (tt := tYes) (by rfl) scIsRound.nd (L2.pi_seq (pv 0)) (blkOk_by (N := nIsRound) (sc := defScope sIsRound) (own := [("asker", 2)]) (by decide +kernel)) (fun _ _ _ _ _ => pg_name (i := 2) scIsRound.nd rfl (Or.inl rfl)) (fun _ _ _ _ _ => pts_nil)
          (fun _ _ _ _ _ => pe_call Gb hr2 (by rfl) mB kB bB .nil pass0 (pa_cons (pv 2) (pa_cons (pv 1) pa_nil)))) pa_nil)))))))
      (pss_one (ps_ret pe_bl)) pss_nil)
    (pss_one (ps_ret (pe_cmpR op_eq (pe_callB L2.cr_lenSet (by rfl) T.len PySem.boot_len (pa_cons (pe_callTy (cr_setI rfl) (by rfl) Z.set (by decide +kernel) (pa_cons (pv 0) pa_nil)) pa_nil)) (pe_callB call_len_seq (by rfl) T.len PySem.boot_len (pa_cons (pv 0) pa_nil)) (nomark _))))), ?_⟩
  have hq : Sq K H a (ns.map V.int) := ha
  obtain ⟨t, ty, kS'⟩ : ∃ t, (∀ J, Same H J → TyX K J (.ref a) t) ∧ PySem.W.kitAny K t [.type "list", .type "tuple"] = some true := by
    rcases ha with ha | ha
    · exact ⟨_, fun J s => tyx_seqL (s.seq ha), kit_list_seq⟩
    · exact ⟨_, fun J s => tyx_seqT (SqT.ext ha s), kit_tuple_seq⟩
  refine ⟨_, rfl, .ref a, t, true, rfl, ty, kS', fun J s0 => ⟨true, rfl, iteF ?_⟩⟩
  refine ⟨_, rfl, a, rfl, lc_seq (K := K) (a := a) (xs := ns.map V.int) (hq.mono s0) (fun D i M => Same J M ∧ M D = some (.lst (((ns.map fun b => decide (0 ≤ b) && decide (b < n)).take i).map V.bl))) (fun D hD => ⟨new_same hD _, upd_same⟩)
    (fun D i M _ ⟨z, _⟩ => same_both z) (fun D hD i v M hv ⟨z, e⟩ => ?_) (fun D hD M ⟨z, e⟩ => ?_)⟩
  · obtain ⟨b, hb, rfl⟩ := get_int hv
    have hi : i < ns.length := (List.getElem?_eq_some_iff.mp hb).1
    refine ⟨rfl, _, rfl, _, rfl, .int b, _, true, false, n, rfl, fun _ _ => .base (.int b), kit_int_int, kit_int_bool, fun M2 s2 => ⟨(fun z => nomatch z), fun _ => ⟨b, rfl, _, s2 _ _ e, ?_, fun c o h => ?_, ?_⟩⟩⟩
    · rw [List.length_map, List.length_take, List.length_map]
      exact small1000 (by omega)
    · rw [upd_ne (fun q => by rw [q, hD] at h; cases h)]
      exact s2 c o (z c o h)
    · have hb2 : (ns.map fun b => decide (0 ≤ b) && decide (b < n))[i]? = some (decide (0 ≤ b) && decide (b < n)) := by rw [List.getElem?_map, hb]; rfl
      rw [upd_same, List.take_add_one, hb2, List.map_append]
      rfl
  · have sM := s0.trans z
    refine ⟨D, ns.map fun b => decide (0 ≤ b) && decide (b < n), rfl, SqL.of ?_, ?_⟩
    · rw [e, List.length_map, ← List.length_map (f := fun b => decide (0 ≤ b) && decide (b < n)), List.take_length]
    have eall : (ns.map fun b => decide (0 ≤ b) && decide (b < n)).all id = ns.all fun b => decide (0 ≤ b) && decide (b < n) := by rw [List.all_map]; rfl
    refine ⟨_, rfl, ?_⟩
    rw [eall]
    cases c : ns.all fun b => decide (0 ≤ b) && decide (b < n) with
    | false =>
      refine iteT ?_
      have z2 := q _ sM
      unfold goodRound at z2
      rw [c, Bool.false_and] at z2
      exact z2
    | true =>
      refine iteF ?_
      have seqJ : ∀ J, Same H J → SqL K J a (ns.map V.int) ∨ SqT K J a (ns.map V.int) := fun J s => Sq.mono s hq
      refine ⟨_, rfl, a, ns, rfl, seqJ _ sM, hz, fun p m ks np hm k1 k2 k3 => ?_⟩
      have sp := new_same np (SetO w p (fun j => decide (j ∈ ns)) m)
      refine ⟨p, _, m, rfl, upd_same, by omega, _, rfl, a, ns.map V.int, rfl, seqJ _ (sM.trans sp), rfl, ?_⟩
      have z2 := q _ (sM.trans sp)
      unfold goodRound at z2
      rw [c, Bool.true_and, ← len_iff k1 k3, k2] at z2
      rw [List.length_map]
      exact z2
end
end LT
namespace L2
open PySem PySem.Spec PyProof.Rows
section
variable {X : Cx}
/-- enumerate of what is a list or a tuple -/
def iEnumA (K : PySem.W.Frag) (ta : TA) : TI := fun σ H R => ta σ H fun vs H1 => ∃ a xs, vs = [.ref a] ∧ ((SqL K H1 a xs ∧ R (Ite K a) H1) ∨ (SqT K H1 a xs ∧ R (ItEt K a) H1))
theorem pi_enumA {e : Expr} {ta : TA} {p pos tpos : Pos} {elts : List Expr} {kk : Nat} (hg : Gl X "enumerate") (hm : X.mg "enumerate" = none) (ha : PA X [e] ta) (hs : starEach [e] X.env = [(false, eval e X.env)] := by rfl) :
    PI X (.Tuple elts kk tpos) (.Call (.Name "enumerate" p) [e] [] pos) (iEnumA X.K ta) := by
  refine ⟨fun pins s σ H R I h => ?_⟩
  refine Call_ (ld_blt I hg hm boot_enumerate (PyProof.Rows.callWith_type1 (thn (ha.run pos pins s σ H _ I h) fun us s1 hh => ?_) hs rfl))
  obtain ⟨vs, H1, I1, r1, a, xs, rfl, hq⟩ := hh
  obtain ⟨u, rfl, ru⟩ := vals1 r1
  obtain rfl : u = Value.ref a := ru
  have laid : ∀ b, b ∈ [s1.heap.objs.size + 1, s1.heap.objs.size] → FpOk X pins H1 b := fun b hb => by
    have hle : s1.heap.objs.size ≤ b := by
      rcases (by simpa using hb : b = s1.heap.objs.size + 1 ∨ b = s1.heap.objs.size) with z | z
      · rw [z]
        exact Nat.le_add_right _ _
      · rw [z]
        exact Nat.le_refl _
    exact I1.fpOk hle (I1.hok.fresh hle)
  rcases hq with ⟨hq, q⟩ | ⟨hq, q⟩
  · obtain ⟨its, rv, p', hz⟩ := I1.list hq
    exact call_enumerate_list p'.isList fun h' he hit hsz hk => wpAny_pyIter_enum he ⟨_, _, _, _, H1, rfl, I1.kept (t' := s1.toks) hk, turn_enum a (s1.heap.objs.size + 1) s1.heap.objs.size, ⟨⟨.none, he⟩, hit, Nat.succ_ne_self _⟩, laid, q⟩
  · obtain ⟨its, rv, p', hz⟩ := I1.tuple hq
    have al : a < s1.heap.objs.size := by
      obtain ⟨o, ho, _⟩ := p'
      exact Heap.lt_size ho
    exact LT.enum_made (begins_tuple a its.toArray) p' fun h' he hit hsz hk => wpAny_pyIter_enum he ⟨_, _, _, _, H1, rfl, I1.kept (t' := s1.toks) hk, turn_enumT a (s1.heap.objs.size + 1) s1.heap.objs.size, ⟨⟨.none, he⟩, ⟨_, hit, rfl, rfl⟩, Nat.succ_ne_self _, Nat.ne_of_lt al, Nat.ne_of_gt (Nat.lt_succ_of_lt al)⟩, laid, q⟩
def rTupOf (K : PySem.W.Frag) : List V → Hp → VK → Prop := fun xs H Q => ∃ p ys, xs = [.ref p] ∧ ((SqL K H p ys ∧ ∀ l, H l = none → Q (.ref l) (upd H l (.tup ys))) ∨ (SqT K H p ys ∧ Q (.ref p) H))
end
end L2
namespace LT
open PySem L2
theorem ps_nev {X : Cx} {st : Stmt} : PS X st (fun _ _ _ => False) := ⟨fun _ _ _ _ _ _ h => h.elim⟩
theorem get_snoc {us : List V} {z u : V} {j : Nat} (h : (us ++ [z])[j]? = some u) : us[j]? = some u ∨ (j = us.length ∧ u = z) := by
  by_cases c : j < us.length
  · rw [List.getElem?_append_left c] at h
    exact .inl h
  · rw [List.getElem?_append_right (by omega)] at h
    have e : j - us.length = 0 := by
      cases w : j - us.length with
      | zero => rfl
      | succ n =>
        rw [w] at h
        simp at h
    rw [e] at h
    simp at h
    exact .inr ⟨by omega, h.symm⟩
/-- rounds as they are given: each a list or a tuple of ints, all good -/
def RoundsAt (K : PySem.W.Frag) (askers : Int) (H : Hp) (xs : List V) (rs : List (List Int)) : Prop := xs.length = rs.length ∧ ∀ (i : Nat) (x : V), xs[i]? = some x → ∃ (a : Addr) (ns : List Int), x = .ref a ∧ rs[i]? = some ns ∧ (SqL K H a (ns.map V.int) ∨ SqT K H a (ns.map V.int)) ∧ ns.length ≤ 1000 ∧ goodRound askers ns = true
theorem RoundsAt.monoX {K : PySem.W.Frag} {askers : Int} {H J : Hp} {xs : List V} {rs : List (List Int)} (s : L3.Ex H J) (h : RoundsAt K askers H xs rs) : RoundsAt K askers J xs rs :=
  ⟨h.1, fun i x e => by
    obtain ⟨a, ns, e1, e2, hq, e3, e4⟩ := h.2 i x e
    exact ⟨a, ns, e1, e2, hq.elim (fun z => .inl (s.seq z)) fun z => .inr (s.seqT z), e3, e4⟩⟩
theorem RoundsAt.mono {K : PySem.W.Frag} {askers : Int} {H J : Hp} {xs : List V} {rs : List (List Int)} (s : Same H J) (h : RoundsAt K askers H xs rs) : RoundsAt K askers J xs rs := h.monoX (L3.exOf s)
/-- the rounds, each sorted, as new tuples -/
def SortedAt (J : Hp) (ys : List V) (rs : List (List Int)) (n : Nat) : Prop := ys.length = n ∧ ∀ (i : Nat) (y : V), ys[i]? = some y → ∃ (p : Addr) (out ns : List Int), y = .ref p ∧ J p = some (.tup (out.map V.int)) ∧ rs[i]? = some ns ∧ out.Perm ns ∧ out.Pairwise (· ≤ ·)
def spAscending (K : PySem.W.Frag) : V → List (Option V) → Hp → VK → XK → Prop := fun v ws H Q _ => ∃ (r : Addr) (xs : List V) (rs : List (List Int)) (askers : Int), v = .ref r ∧ ws = [some (.int askers)] ∧ (SqL K H r xs ∨ SqT K H r xs) ∧ xs.length ≤ 1000 ∧ RoundsAt K askers H xs rs ∧
  ∀ (D : Addr) (ys : List V) (J : Hp), Same H J → H D = none → J D = some (.lst ys) → SortedAt J ys rs rs.length → Q (.ref D) J
/-- the lambda that is handed on: is_round of its argument and the captured number -/
def spLamRound (K : PySem.W.Frag) : List (Option V) → Sp := fun ws vs H Q E => ∃ (x : V) (n : Int), ws = [some (.int n)] ∧ vs = [x] ∧ spIsRound K [x, .int n] H Q E
abbrev nAscending : List Str := ["rounds", "is_right", "at", "asking"]
section
variable {P : Program} {w : World} {K : PySem.W.Frag} {mg : Str → Option Value} {base : Heap}
theorem scAscending : FnScope nAscending ["rounds", "is_right"] (defScope sAscending) := ⟨rfl, rfl, rfl, by decide +kernel, rfl, by decide +kernel, by decide +kernel⟩
theorem asc_body {A : Around} {outer : List Env} {s : Shared} {H : Hp} {E : XK} {g f : Addr} {cdv : Value} {gs : Addr} {ds : FuncData} {F : NdefX.NF} {lb : Expr} {ws : List (Option V)} {v : V} {Q : VK} (Z : Blt4 mg) (T : Blt mg)
    (Gs : FnOk P w K mg base CX0 1 gs ds ["value"] (spSeq K)) (bS : Binds K ds ["value"] []) (kS : PySem.W.keepIn K (.ref gs) = true) (mS : mg "is_sequence" = some (.ref gs))
    (L : L3.LamFn P w K mg base CX0 4 F lb ["asking"] ["askers"] (spLamRound K)) (hr : Room 4 (A.deeper (PyProof.Rows.envOfC "ascending_rounds" (defScope sAscending) s.heap.objs.size g cdv)))
    (GV : L3.Given (cxOf CX0 P w K mg base nAscending "ascending_rounds" (defScope sAscending) g cdv A outer s H E) f F lb ["askers"] ws) (hc : H F.c = some (LamX.CodeO F.c F.qual)) (h : spAscending K v ws H Q E) :
    ∃ t, PSs (cxOf CX0 P w K mg base nAscending "ascending_rounds" (defScope sAscending) g cdv A outer s H E) (defBody sAscending) t ∧ t { nx := fun _ H' => Q .non H', rt := Q } (L2.start nAscending [v, .ref f]) H := by
  obtain ⟨r, xs, rs, n, rfl, rfl, hq, hz, hR, q⟩ := h
  have hr1 : Room 1 _ := hr.mono (by decide)
  have GN : L3.Given (cxOf CX0 P w K mg base nAscending "ascending_rounds" (defScope sAscending) g cdv A outer s H E).nox f F lb ["askers"] [some (.int n)] := ⟨GV.obj, GV.un, GV.nofr, GV.cells, GV.noex⟩
  suffices hN : ∃ t, PSs (cxOf CX0 P w K mg base nAscending "ascending_rounds" (defScope sAscending) g cdv A outer s H E).nox (defBody sAscending) t ∧ t { nx := fun _ H' => Q .non H', rt := Q } (L2.start nAscending [.ref r, .ref f]) H by
    obtain ⟨t, a, b⟩ := hN
    exact ⟨t, a.nox, b⟩
  refine ⟨_, pss_cons (ps_if (pt_not (pt_val (pe_call Gs hr1 (by rfl) mS kS bS .nil pass0 (pa_cons (pv 0) pa_nil)))) (pss_one ps_nev) pss_nil)
    (pss_cons (ps_for PassesOwn.never rfl (L2.pi_enumA (by rfl) Z.enumerate (pa_cons (pv 0) pa_nil)) (pg_tup rfl (pgs_cons (pg_name (i := 2) scAscending.nd rfl (Or.inl rfl)) (pgs_cons (pg_name (i := 3) scAscending.nd rfl (Or.inl rfl)) pgs_nil)))
      (pss_one (ps_if (pt_not (pt_val (L3.pe_given (i := 1) GN L hr pass0 (by rfl) (Or.inl rfl) (pa_cons (pv 3) pa_nil)))) (pss_one ps_nev) pss_nil)))
    (pss_one (ps_ret (pe_lc (own := [("asking", 3)]) (g := gName 3) (tt := tYes) (by rfl) scAscending.nd (L2.pi_seq (pv 0)) (blkOk_by (N := nAscending) (sc := defScope sAscending) (own := [("asking", 3)]) (by decide +kernel)) (fun _ _ _ _ _ => pg_name (i := 3) scAscending.nd rfl (Or.inl rfl)) (fun _ _ _ _ _ => pts_nil)
      (fun _ _ _ _ _ => pe_callTy (r := rTupOf K) call_tuple_of (by rfl) T.tuple (by decide +kernel) (pa_cons (pe_callB (r := rSortedA K) cr_sortedA (by rfl) Z.sorted (by decide +kernel) (pa_cons (pv 3) pa_nil)) pa_nil)))))), ?_⟩
  have tyS : ∃ t, (∀ J, Same H J → TyX K J (.ref r) t) ∧ PySem.W.kitAny K t [.type "list", .type "tuple"] = some true := by
    rcases hq with hq | hq
    · exact ⟨_, fun J s => tyx_seqL (s.seq hq), kit_list_seq⟩
    · exact ⟨_, fun J s => tyx_seqT (SqT.ext hq s), kit_tuple_seq⟩
  obtain ⟨t, ty, kS'⟩ := tyS
  refine ⟨_, rfl, .ref r, t, true, rfl, ty, kS', fun J s0 => ⟨true, rfl, iteF ?_⟩⟩
  let Pv : Nat → L2.St → Hp → Prop := fun _ σ J => ∃ v2 v3, σ = [some (.ref r), some (.ref f), v2, v3] ∧ Same H J
  have next : ∀ {D : Addr} {i : Nat} {x : V} {M : Hp} {ys : List V} {J1 : Hp}, Same H J1 → J1 D = none → xs[i]? = some x → M D = some (.lst ys) → Same J1 M → SortedAt M ys rs i →
      ∃ (a : Addr) (ns : List Int), x = .ref a ∧ (SqL K M a (ns.map V.int) ∨ SqT K M a (ns.map V.int)) ∧ ∀ (out : List Int) (p u : Addr), out.Perm ns → out.Pairwise (· ≤ ·) → M p = none → (upd M p (.lst (out.map V.int))) u = none →
        ∃ acc, (upd (upd M p (.lst (out.map V.int))) u (.tup (out.map V.int))) D = some (.lst acc) ∧ acc.length < sizeLine ∧ ∃ ys', (upd (upd (upd M p (.lst (out.map V.int))) u (.tup (out.map V.int))) D (.lst (acc ++ [.ref u]))) D = some (.lst ys') ∧
          Same J1 (upd (upd (upd M p (.lst (out.map V.int))) u (.tup (out.map V.int))) D (.lst (acc ++ [.ref u]))) ∧ SortedAt (upd (upd (upd M p (.lst (out.map V.int))) u (.tup (out.map V.int))) D (.lst (acc ++ [.ref u]))) ys' rs (i + 1) := by
    intro D i x M ys J1 s1 hD hx m1 m2 m3
    obtain ⟨a, ns, rfl, er, hs, hz2, hg⟩ := hR.2 i x hx
    have sM := s1.trans m2
    refine ⟨a, ns, rfl, hs.elim (fun z => .inl (sM.seq z)) (fun z => .inr (SqT.ext z sM)), fun out p u pm pw np nu => ?_⟩
    have s3 := (new_same np (.lst (out.map V.int))).trans (new_same nu (.tup (out.map V.int)))
    have hu : upd (upd M p (.lst (out.map V.int))) u (.tup (out.map V.int)) u = some (.tup (out.map V.int)) := upd_same
    have uD : u ≠ D := fun z => by
      have w := new_same np (.lst (out.map V.int)) _ _ m1
      rw [← z, nu] at w
      cases w
    generalize upd (upd M p (.lst (out.map V.int))) u (.tup (out.map V.int)) = L at s3 hu ⊢
    have hi : i < xs.length := (List.getElem?_eq_some_iff.mp hx).1
    refine ⟨ys, s3 _ _ m1, by rw [m3.1]; exact small1000 (by omega), ys ++ [.ref u], upd_same, fun c o e => ?_, ?_⟩
    · rw [upd_ne (ne_of_none e hD)]
      exact s3 _ _ (m2 _ _ e)
    · refine ⟨by rw [List.length_append, m3.1]; rfl, fun j y e => ?_⟩
      have keep : ∀ c ts, M c = some (HO.tup ts) → upd L D (.lst (ys ++ [.ref u])) c = some (.tup ts) := fun c ts e => by
        have nc : c ≠ D := fun z => by rw [z, m1] at e; cases e
        rw [upd_ne nc]
        exact s3 _ _ e
      rcases get_snoc e with e9 | ⟨e9, rfl⟩
      · obtain ⟨p', out', ns', e1, e2, e3, e4, e5⟩ := m3.2 j y e9
        exact ⟨p', out', ns', e1, keep _ _ e2, e3, e4, e5⟩
      · exact ⟨u, out, ns, rfl, by rw [upd_ne uD]; exact hu, by rw [e9, m3.1]; exact er, pm, pw⟩
  refine ⟨_, rfl, r, xs, rfl, ?_⟩
  rcases hq with hq | hq
  · refine .inl ⟨s0.seq hq, for_it (walk_enum (K := K) (a := r) (xs := xs)) Pv ⟨none, none, rfl, s0⟩ (fun i σ J _ ⟨_, _, _, z⟩ => z.seq hq) ?_ ?_⟩
    · rintro i x σ J1 J2 hi ⟨v2, v3, rfl, s1⟩ ⟨W, x1, e, rfl, nW, rfl, ex1, ee⟩
      cases ex1
      obtain ⟨a, ns, rfl, er, hs, hz2, hg⟩ := hR.2 i e ee
      have s2 := s1.trans (new_same nW (.tup [V.int (i : Nat), .ref a]))
      refine ⟨W, _, rfl, SqT.of upd_same, rfl, _, _, rfl, _, _, rfl, rfl, ?_⟩
      refine ⟨rfl, _, rfl, s2 _ _ hc, .ref a, n, rfl, rfl, a, ns, n, rfl, hs.elim (fun z => .inl (s2.seq z)) (fun z => .inr (SqT.ext z s2)), hz2, fun J3 s3 => ⟨true, by rw [hg], iteF ?_⟩⟩
      exact ⟨_, _, rfl, s2.trans s3⟩
    · rintro σ J1 ⟨v2, v3, rfl, s1⟩
      refine ⟨_, rfl, r, rfl, .inl ⟨⟨_, s1.seq hq⟩, fun D hD => lc_it (walk_list (K := K) (a := r) (xs := xs)) (fun i M => ∃ ys : List V, M D = some (.lst ys) ∧ Same J1 M ∧ SortedAt M ys rs i) ⟨[], upd_same, new_same hD _, rfl, fun i y e => nomatch e⟩ (fun i M _ ⟨_, _, z, _⟩ => (s1.trans z).seq hq) ?_ (fun M ⟨ys, m1, m2, m3⟩ => q D ys M (s1.trans m2) (s1.free hD) m1 (by rw [← hR.1]; exact m3))⟩⟩
      rintro i x M M' hi ⟨ys, m1, m2, m3⟩ ⟨rfl, hx⟩
      obtain ⟨a, ns, rfl, sq, go⟩ := next s1 hD hx m1 m2 m3
      exact ⟨rfl, _, rfl, a, ns, rfl, sq, fun out p pm pw np => ⟨p, _, rfl, .inl ⟨SqL.of upd_same, fun u nu => go out p u pm pw np nu⟩⟩⟩
  · refine .inr ⟨SqT.ext hq s0, for_it (walk_enumT (K := K) (a := r) (xs := xs)) Pv ⟨none, none, rfl, s0⟩ (fun i σ J _ ⟨_, _, _, z⟩ => SqT.ext hq z) ?_ ?_⟩
    · rintro i x σ J1 J2 hi ⟨v2, v3, rfl, s1⟩ ⟨W, x1, e, rfl, nW, rfl, ex1, ee⟩
      cases ex1
      obtain ⟨a, ns, rfl, er, hs, hz2, hg⟩ := hR.2 i e ee
      have s2 := s1.trans (new_same nW (.tup [V.int (i : Nat), .ref a]))
      refine ⟨W, _, rfl, SqT.of upd_same, rfl, _, _, rfl, _, _, rfl, rfl, ?_⟩
      refine ⟨rfl, _, rfl, s2 _ _ hc, .ref a, n, rfl, rfl, a, ns, n, rfl, hs.elim (fun z => .inl (s2.seq z)) (fun z => .inr (SqT.ext z s2)), hz2, fun J3 s3 => ⟨true, by rw [hg], iteF ?_⟩⟩
      exact ⟨_, _, rfl, s2.trans s3⟩
    · rintro σ J1 ⟨v2, v3, rfl, s1⟩
      refine ⟨_, rfl, r, rfl, .inr ⟨⟨_, SqT.ext hq s1⟩, fun D hD => lc_it (walk_tup (K := K) (a := r) (xs := xs)) (fun i M => ∃ ys : List V, M D = some (.lst ys) ∧ Same J1 M ∧ SortedAt M ys rs i) ⟨[], upd_same, new_same hD _, rfl, fun i y e => nomatch e⟩ (fun i M _ ⟨_, _, z, _⟩ => SqT.ext hq (s1.trans z)) ?_ (fun M ⟨ys, m1, m2, m3⟩ => q D ys M (s1.trans m2) (s1.free hD) m1 (by rw [← hR.1]; exact m3))⟩⟩
      rintro i x M M' hi ⟨ys, m1, m2, m3⟩ ⟨rfl, hx⟩
      obtain ⟨a, ns, rfl, sq, go⟩ := next s1 hD hx m1 m2 m3
      exact ⟨rfl, _, rfl, a, ns, rfl, sq, fun out p pm pw np => ⟨p, _, rfl, .inl ⟨SqL.of upd_same, fun u nu => go out p u pm pw np nu⟩⟩⟩
end
end LT
namespace LT
open PySem L2
def faultD (p : Nat × Nat) : PyData := if 0 < p.1 ∧ p.2 = 0 then .str "none" else if 1 < p.2 then .str "two" else .none
def faultX (p : Nat × Nat) : V := faultP p.1 p.2
def hasFault (fl : List (Nat × Nat)) (z : Str) : Bool := (fl.map faultD).any fun y => PyData.eqv y (.str z)
def faultsV (fl : List (Nat × Nat)) : List V := ((["none", "two"] : List Str).filter (hasFault fl)).map V.str
theorem dp_fault {K : PySem.W.Frag} {H : Hp} (p : Nat × Nat) : Dp K H (faultX p) (faultD p) := by
  unfold faultX faultP faultD
  split
  · exact .str _
  · split
    · exact .str _
    · exact .non
theorem dp_faults {K : PySem.W.Frag} {H : Hp} : ∀ fl : List (Nat × Nat), DpAll K H (fl.map faultX) (fl.map faultD)
  | [] => .nil
  | p :: fl => .cons (dp_fault p) (dp_faults fl)
theorem lay_faults : ∀ fl : List (Nat × Nat), PyData.canLayAll0 (fl.map faultD) = true ∧ PyData.depthAll (fl.map faultD) ≤ 1
  | [] => by simp [PyData.canLayAll0, PyData.depthAll]
  | p :: fl => by
    obtain ⟨e1, e2⟩ := lay_faults fl
    have k1 : PyData.strOk "none" = true := by decide +kernel
    have k2 : PyData.strOk "two" = true := by decide +kernel
    have k : (faultD p).canLay0 = true ∧ (faultD p).depth ≤ 1 := by
      unfold faultD
      split
      · exact ⟨by simp [PyData.canLay0, k1], by simp [PyData.depth]⟩
      · split
        · exact ⟨by simp [PyData.canLay0, k2], by simp [PyData.depth]⟩
        · exact ⟨by simp [PyData.canLay0], by simp [PyData.depth]⟩
    simp only [List.map_cons, PyData.canLayAll0, PyData.depthAll]
    exact ⟨by rw [k.1, e1]; rfl, Nat.max_le.mpr ⟨k.2, e2⟩⟩
theorem shaped_faults (fl : List (Nat × Nat)) : SeqAt.shaped (.list (fl.map faultD)) = true := by
  obtain ⟨e1, e2⟩ := lay_faults fl
  show ((PyData.list (fl.map faultD)).canLay0 && decide ((PyData.list (fl.map faultD)).depth ≤ 64)) = true
  rw [Bool.and_eq_true, decide_eq_true_eq]
  exact ⟨by simp only [PyData.canLay0]; exact e1, by simp only [PyData.depth]; omega⟩
def SeqsAt (K : PySem.W.Frag) (H : Hp) (xs : List V) (ls : List Nat) : Prop := xs.length = ls.length ∧ ∀ (i : Nat) (x : V), xs[i]? = some x → ∃ (p : Addr) (us : List V), x = .ref p ∧ SqT K H p us ∧ ls[i]? = some us.length
def spFaults (K : PySem.W.Frag) : Sp := fun vs H Q _ => ∃ (a g : Addr) (xs ys : List V) (fl : List (Nat × Nat)), vs = [.ref a, .ref g] ∧ SqL K H a xs ∧ SqL K H g ys ∧ SeqsAt K H xs (fl.map Prod.fst) ∧ SeqsAt K H ys (fl.map Prod.snd) ∧ fl.length ≤ 1000 ∧
  ∀ (t : Addr) (J : Hp), Same H J → H t = none → J t = some (.tup (faultsV fl)) → Q (.ref t) J
abbrev nFaults : List Str := ["asked", "grants", "found", "asking", "granted", "fault"]
section
variable {P : Program} {w : World} {K : PySem.W.Frag} {mg : Str → Option Value} {base : Heap}
theorem scFaults : FnScope nFaults ["asked", "grants"] (defScope sFaults) := ⟨rfl, rfl, rfl, by decide +kernel, rfl, by decide +kernel, by decide +kernel⟩
theorem ok_faults {f g : Addr} {fd gd : FuncData} (F : Fun K "faults_of" "faults_of" sFaults f fd) (T : Blt mg) (Zz : mg "zip" = none)
    (Gf : FnOk P w K mg base CX0 1 g gd ["asking", "granted"] (spFault K)) (bF : Binds K gd ["asking", "granted"] []) (kF : PySem.W.keepIn K (.ref g) = true) (mF : mg "round_fault" = some (.ref g)) :
    FnOk P w K mg base CX0 2 f fd ["asked", "grants"] (spFaults K) := by
  refine F.ok scFaults (fun vs H Q E h => ?_) (fun cdv A outer s H vs Q E hr h => ?_)
  · obtain ⟨a, g, xs, ys, fl, rfl, _⟩ := h
    rfl
  obtain ⟨a, g, xs, ys, fl, rfl, ha, hg, hx, hy, hz, q⟩ := h
  have hu65 : (A.deeper (PyProof.Rows.envOfC "faults_of" (defScope sFaults) s.heap.objs.size f cdv)).units + 65 < cLine := by
    have := hr.un
    omega
  refine ⟨_, pss_cons (ps_set (i := 2) scFaults.nd rfl (Or.inr rfl) (pe_lc (own := [("asking", 3), ("granted", 4)]) (g := gTup K 2 (gCons (gName 3) (gCons (gName 4) gNil))) (tt := tYes) (by rfl) scFaults.nd (RZ.pi_zipA (by rfl) Zz (pa_cons (pv 0) (pa_cons (pv 1) pa_nil)))
      (blkOk_by (N := nFaults) (sc := defScope sFaults) (own := [("asking", 3), ("granted", 4)]) (by decide +kernel)) (fun _ _ _ _ _ => pg_tup rfl (pgs_cons (pg_name (i := 3) scFaults.nd rfl (Or.inl rfl)) (pgs_cons (pg_name (i := 4) scFaults.nd rfl (Or.inl rfl)) pgs_nil))) (fun _ _ _ _ _ => pts_nil)
      (fun _ _ _ _ _ => pe_call Gf hr (by rfl) mF kF bF .nil pass0 (pa_cons (pv 3) (pa_cons (pv 4) pa_nil)))))
    (pss_one (ps_ret (pe_callTy call_tuple_of (by rfl) T.tuple (by decide +kernel) (pa_cons (pe_lc (own := [("fault", 5)]) (g := gName 5) (by rfl) scFaults.nd (pi_tup (pe_tup (pa_cons pe_str (pa_cons pe_str pa_nil)))) (blkOk_by (N := nFaults) (sc := defScope sFaults) (own := [("fault", 5)]) (by decide +kernel)) (fun _ _ _ _ _ => pg_name (i := 5) scFaults.nd rfl (Or.inl rfl))
      (fun _ _ _ _ _ => (pts_one (pt_cmpR (r := rInD K) (op_inD hu65) (pv 5) (pv 2) (by rfl)))) (fun _ _ _ _ _ => (pv 5))) pa_nil)))), ?_⟩
  have lx : xs.length = fl.length := by rw [hx.1, List.length_map]
  have ly : ys.length = fl.length := by rw [hy.1, List.length_map]
  refine ⟨_, rfl, _, rfl, a, g, xs, ys, rfl, .inl ⟨ha, hg, fun D hD => lc_it (walk_zip (K := K) (a := a) (b := g) (xs := xs) (ys := ys) (n := fl.length) (by omega)) (fun i M => M D = some (.lst ((fl.take i).map faultX)) ∧ Same H M) ⟨upd_same, new_same hD _⟩ (fun i M _ z => ⟨z.2.seq ha, z.2.seq hg⟩) ?_ (fun M z => ?_)⟩⟩
  · rintro i x M M' hi ⟨md, sm⟩ ⟨W, x1, y1, rfl, nW, rfl, ex, ey⟩
    obtain ⟨p1, us, rfl, t1, e1⟩ := hx.2 i x1 ex
    obtain ⟨p2, ts, rfl, t2, e2⟩ := hy.2 i y1 ey
    obtain ⟨f0, ef⟩ : ∃ f0, fl[i]? = some f0 := ⟨fl[i], List.getElem?_eq_getElem hi⟩
    have sW := new_same nW (.tup [V.ref p1, .ref p2])
    have e3 : faultP us.length ts.length = faultX f0 := by
      rw [List.getElem?_map, ef] at e1 e2
      have q1 : f0.1 = us.length := Option.some.inj e1
      have q2 : f0.2 = ts.length := Option.some.inj e2
      unfold faultX
      rw [q1, q2]
    have s2 := sm.trans sW
    refine ⟨W, _, rfl, SqT.of upd_same, rfl, _, _, rfl, _, _, rfl, rfl, rfl, _, rfl, _, rfl, p1, p2, us, ts, rfl, SqT.ext t1 s2, SqT.ext t2 s2, _, sW _ _ md, ?_, ?_, ?_⟩
    · rw [List.length_map, List.length_take]
      exact small1000 (by omega)
    · rw [upd_same, e3, List.take_add_one, ef, List.map_append]
      rfl
    · exact fun c o e => by
        rw [upd_ne (ne_of_none e hD)]
        exact s2 c o e
  obtain ⟨md, sm⟩ := z
  rw [List.take_length] at md
  refine ⟨(by show 2 ≤ sizeLine; decide), fun tp ntp => ⟨tp, rfl, ⟨_, SqT.of upd_same⟩, fun D2 hD2 => lc_it (walk_tup (K := K) (a := tp) (xs := [V.str "none", .str "two"])) (fun i J => J D2 = some (.lst ((((["none", "two"] : List Str).take i).filter (hasFault fl)).map V.str)) ∧ Same (upd M tp (.tup [V.str "none", .str "two"])) J) ⟨upd_same, new_same hD2 _⟩ (fun i J _ z => SqT.of (z.2 _ _ upd_same)) ?_ (fun J z => ?_)⟩⟩
  · rintro i x J J' hi ⟨jd, sj⟩ ⟨rfl, hxi⟩
    obtain ⟨z, hz', rfl⟩ : ∃ z, (["none", "two"] : List Str)[i]? = some z ∧ x = .str z := by
      have e : ([V.str "none", V.str "two"] : List V) = (["none", "two"] : List Str).map V.str := rfl
      rw [e, List.getElem?_map] at hxi
      cases w : (["none", "two"] : List Str)[i]? with
      | none =>
        rw [w] at hxi
        cases hxi
      | some z =>
        rw [w] at hxi
        exact ⟨z, rfl, (Option.some.inj hxi).symm⟩
    have zs : SeqAt.shaped (.str z) = true := by
      have all : ∀ z ∈ (["none", "two"] : List Str), SeqAt.shaped (.str z) = true := by decide +kernel
      exact all z (List.mem_of_getElem? hz')
    have found := sj _ _ (new_same ntp (.tup [V.str "none", .str "two"]) _ _ md)
    have tk : ((["none", "two"] : List Str).take (i + 1)).filter (hasFault fl) = (((["none", "two"] : List Str).take i).filter (hasFault fl)) ++ ([z].filter (hasFault fl)) := by
      rw [List.take_add_one, hz', List.filter_append]
      rfl
    refine ⟨rfl, _, rfl, _, rfl, .str z, fl.map faultD, .str z, .lst (SqL.of found) (dp_faults fl), zs, shaped_faults fl, _, rfl, ?_⟩
    refine ite2 (fun c => ⟨_, rfl, _, jd, ?_, ?_, ?_⟩) (fun c => ⟨?_, sj⟩)
    · have := List.length_filter_le (hasFault fl) ((["none", "two"] : List Str).take i)
      rw [List.length_take] at this
      rw [List.length_map]
      have two : ((["none", "two"] : List Str)).length = 2 := rfl
      rw [two] at this
      exact small1000 (by omega)
    · have c' : hasFault fl z = true := c
      rw [upd_same, tk, List.map_append, List.filter_cons, if_pos c']
      rfl
    · exact fun q o e => by
        rw [upd_ne (ne_of_none e hD2)]
        exact sj q o e
    · have c' : ¬ hasFault fl z = true := c
      rw [tk, List.filter_cons, if_neg c', List.filter_nil, List.append_nil]
      exact jd
  obtain ⟨jd, sj⟩ := z
  have e2 : (["none", "two"] : List Str).take [V.str "none", V.str "two"].length = (["none", "two"] : List Str) := rfl
  rw [e2] at jd
  have sH := sm.trans ((new_same ntp (.tup [V.str "none", .str "two"])).trans sj)
  exact ⟨D2, _, rfl, .inl ⟨SqL.of jd, fun t nt => q t _ (sH.trans (new_same nt _)) (sH.free nt) upd_same⟩⟩
end
end LT
namespace LT
open PySem L2
/-- what the written part says of the class Played -/
structure PlC (K : PySem.W.Frag) (C : Addr) : Prop where
  cl : Cls K C
  n0 : NoAttr K C "grants"
  n1 : NoAttr K C "done"
  n2 : NoAttr K C "modes"
  n3 : NoAttr K C "pointers"
  n4 : NoAttr K C "faults"
def playFs (a b c d e : V) : List (Str × V) := [("grants", a), ("done", b), ("modes", c), ("pointers", d), ("faults", e)]
def spPlayedI (C : Addr) : Sp := fun vs H Q _ => ∃ (x dx : Addr) (a b c d e : V), vs = [.ref x, a, b, c, d, e] ∧ H x = some (.ins C dx []) ∧ Q .non (upd H x (.ins C dx (playFs a b c d e)))
theorem choose_list {α β : Type} {R : Nat → α → β → Prop} : ∀ (ys : List α) (k : Nat), (∀ (i : Nat) y, ys[i]? = some y → ∃ b, R (k + i) y b) → ∃ bs : List β, bs.length = ys.length ∧ ∀ (i : Nat) y, ys[i]? = some y → ∃ b, bs[i]? = some b ∧ R (k + i) y b
  | [], _, _ => ⟨[], rfl, fun _ _ h => by simp at h⟩
  | y :: ys, k, h => by
    obtain ⟨b, hb⟩ := h 0 y rfl
    obtain ⟨bs, l, hs⟩ := choose_list ys (k + 1) fun i z hz => by
      have := h (i + 1) z (by simpa using hz)
      rwa [show k + (i + 1) = k + 1 + i by omega] at this
    refine ⟨b :: bs, by rw [List.length_cons, List.length_cons, l], fun i z hz => ?_⟩
    cases i with
    | zero =>
      have e : y = z := by simpa using hz
      subst e
      exact ⟨b, rfl, hb⟩
    | succ i =>
      obtain ⟨c, e, r⟩ := hs i z (by simpa using hz)
      exact ⟨c, by simpa using e, by rwa [show k + 1 + i = k + (i + 1) by omega] at r⟩
/-- mode and pointer before round i -/
def stAt (rows : List Row5) (first : Str) (os : List (List Int)) : Nat → Str × Option Int
  | 0 => (first, none)
  | i + 1 => match os[i]? with
    | none => stAt rows first os i
    | some o => (endMode rows (stAt rows first os i).1 (stAt rows first os i).2 o, endPtr rows (stAt rows first os i).1 (stAt rows first os i).2 o)
def doneAt (rows : List Row5) (first : Str) (os : List (List Int)) (i : Nat) : V := match os[i]? with
  | none => .non
  | some o => doneV (endDone rows (stAt rows first os i).1 (stAt rows first os i).2 o)
def grantsAt (rows : List Row5) (first : Str) (os : List (List Int)) (i : Nat) : List Int := match os[i]? with
  | none => []
  | some o => endGrants rows (stAt rows first os i).1 (stAt rows first os i).2 o
theorem st_next {rows : List Row5} {first : Str} {os : List (List Int)} {i : Nat} {o : List Int} (h : os[i]? = some o) : stAt rows first os (i + 1) = (endMode rows (stAt rows first os i).1 (stAt rows first os i).2 o, endPtr rows (stAt rows first os i).1 (stAt rows first os i).2 o) := by
  show (match os[i]? with | none => _ | some o => _) = _
  rw [h]
/-- all is kept but lists -/
def Keep (J L : Hp) : Prop := ∀ c o, (∀ ys, o ≠ HO.lst ys) → J c = some o → L c = some o
/-- the grants as tuples -/
def GrantsAt (J : Hp) (gs : List V) (us : List (List Int)) (gr : Nat → List Int) (n : Nat) : Prop := gs.length = n ∧ us.length = n ∧ ∀ (j : Nat) (v : V), gs[j]? = some v → ∃ (q : Addr) (out : List Int), v = .ref q ∧ us[j]? = some out ∧ J q = some (.tup (out.map V.int)) ∧ out.Pairwise (· < ·) ∧ ∀ k, k ∈ out ↔ k ∈ gr j
theorem GrantsAt.keep {J L : Hp} {gs : List V} {us : List (List Int)} {gr : Nat → List Int} {n : Nat} (k : Keep J L) (h : GrantsAt J gs us gr n) : GrantsAt L gs us gr n :=
  ⟨h.1, h.2.1, fun j v e => by
    obtain ⟨q, out, e1, e0, e2, e3⟩ := h.2.2 j v e
    exact ⟨q, out, e1, e0, k _ _ (fun _ z => nomatch z) e2, e3⟩⟩
theorem GrantsAt.add {J : Hp} {gs : List V} {us : List (List Int)} {gr : Nat → List Int} {n : Nat} {q : Addr} {out : List Int} (h : GrantsAt J gs us gr n) (e : J q = some (.tup (out.map V.int))) (pw : out.Pairwise (· < ·)) (m : ∀ k, k ∈ out ↔ k ∈ gr n) :
    GrantsAt J (gs ++ [.ref q]) (us ++ [out]) gr (n + 1) := by
  refine ⟨by rw [List.length_append, h.1]; rfl, by rw [List.length_append, h.2.1]; rfl, fun j v z => ?_⟩
  rcases get_snoc z with z9 | ⟨z9, rfl⟩
  · obtain ⟨q', out', e1, e0, e2⟩ := h.2.2 j v z9
    exact ⟨q', out', e1, by rw [List.getElem?_append_left (List.getElem?_eq_some_iff.mp e0).1]; exact e0, e2⟩
  · refine ⟨q, out, rfl, ?_, e, pw, by rw [z9, h.1]; exact m⟩
    rw [z9, h.1, ← h.2.1]
    exact List.getElem?_concat_length
/-- the rounds in order, by their numbers -/
def OrderAt (J : Hp) (ys : List V) (os : List (List Int)) : Prop := ys.length = os.length ∧ ∀ (i : Nat) (y : V), ys[i]? = some y → ∃ (p : Addr) (o : List Int), y = .ref p ∧ J p = some (.tup (o.map V.int)) ∧ os[i]? = some o
theorem OrderAt.keep {J L : Hp} {ys : List V} {os : List (List Int)} (k : Keep J L) (h : OrderAt J ys os) : OrderAt L ys os :=
  ⟨h.1, fun i y e => by
    obtain ⟨p, o, e1, e2, e3⟩ := h.2 i y e
    exact ⟨p, o, e1, k _ _ (fun _ z => nomatch z) e2, e3⟩⟩
theorem zip_len : ∀ {os us : List (List Int)}, os.length = us.length → (List.zipWith (fun o u : List Int => (o.length, u.length)) os us).map Prod.fst = os.map List.length ∧ (List.zipWith (fun o u : List Int => (o.length, u.length)) os us).map Prod.snd = us.map List.length
  | [], [], _ => ⟨rfl, rfl⟩
  | [], _ :: _, h => absurd h (by simp)
  | _ :: _, [], h => absurd h (by simp)
  | o :: os, u :: us, h => by
    obtain ⟨a, b⟩ := zip_len (os := os) (us := us) (by simpa using h)
    exact ⟨by rw [List.zipWith_cons_cons, List.map_cons, a]; rfl, by rw [List.zipWith_cons_cons, List.map_cons, b]; rfl⟩
abbrev nPlay : List Str := ["rule", "askers", "rounds", "asked", "grants", "done", "modes", "pointers", "asking", "granted", "at", "mode", "pointer", "faults"]
section
variable {P : Program} {w : World} {K : PySem.W.Frag} {mg : Str → Option Value} {base : Heap}
theorem scPlayedI : FnScope ["self", "grants", "done", "modes", "pointers", "faults"] ["self", "grants", "done", "modes", "pointers", "faults"] (defScope sPlayedInit) := ⟨rfl, rfl, rfl, by decide +kernel, rfl, by decide +kernel, by decide +kernel⟩
theorem scPlay : FnScope nPlay ["rule", "askers", "rounds"] (defScope sPlay) := ⟨rfl, rfl, rfl, by decide +kernel, rfl, by decide +kernel, by decide +kernel⟩
theorem ok_playedI {C f : Addr} {fd : FuncData} (F : Fun K "__init__" "Played.__init__" sPlayedInit f fd) (R : PlC K C) : FnOk P w K mg base CX0 1 f fd ["self", "grants", "done", "modes", "pointers", "faults"] (spPlayedI C) := by
  refine F.ok scPlayedI (fun vs H Q E h => ?_) (fun cdv A outer s H vs Q E hr h => ?_)
  · obtain ⟨x, dx, a, b, c, d, e, rfl, _⟩ := h
    rfl
  obtain ⟨x, dx, a, b, c, d, e, rfl, hx, q⟩ := h
  refine ⟨_, (pss_cons (ps_fld (pv 0) (pv 1) rfl)
    (pss_cons (ps_fld (pv 0) (pv 2) rfl)
    (pss_cons (ps_fld (pv 0) (pv 3) rfl)
    (pss_cons (ps_fld (pv 0) (pv 4) rfl)
    (pss_one (ps_fld (pv 0) (pv 5) rfl)))))), ?_⟩
  have l1 : putF "grants" a [] = ([("grants", a)] : List (Str × V)) := by kernel_rfl
  have l2 : putF "done" b [("grants", a)] = ([("grants", a), ("done", b)] : List (Str × V)) := by kernel_rfl
  have l3 : putF "modes" c [("grants", a), ("done", b)] = ([("grants", a), ("done", b), ("modes", c)] : List (Str × V)) := by kernel_rfl
  have l4 : putF "pointers" d [("grants", a), ("done", b), ("modes", c)] = ([("grants", a), ("done", b), ("modes", c), ("pointers", d)] : List (Str × V)) := by kernel_rfl
  have l5 : putF "faults" e [("grants", a), ("done", b), ("modes", c), ("pointers", d)] = playFs a b c d e := by kernel_rfl
  refine ⟨_, rfl, _, rfl, x, C, dx, [], rfl, hx, R.cl, R.n0, (by show 0 < 1000; decide), ?_⟩
  rw [l1]
  refine ⟨_, rfl, _, rfl, x, C, dx, _, rfl, upd_same, R.cl, R.n1, (by show 1 < 1000; decide), ?_⟩
  rw [l2, upd_upd]
  refine ⟨_, rfl, _, rfl, x, C, dx, _, rfl, upd_same, R.cl, R.n2, (by show 2 < 1000; decide), ?_⟩
  rw [l3, upd_upd]
  refine ⟨_, rfl, _, rfl, x, C, dx, _, rfl, upd_same, R.cl, R.n3, (by show 3 < 1000; decide), ?_⟩
  rw [l4, upd_upd]
  refine ⟨_, rfl, _, rfl, x, C, dx, _, rfl, upd_same, R.cl, R.n4, (by show 4 < 1000; decide), ?_⟩
  rw [l5, upd_upd]
  exact q
end
end LT
namespace LT
open PySem L2
/-- what play tells -/
structure PlayedAt (J : Hp) (CP x : Addr) (rows : List Row5) (first : Str) (rs : List (List Int)) : Prop where
  ex : ∃ (os us : List (List Int)) (gs : List V) (dx t1 t2 t3 t4 t5 : Addr), os.length = rs.length ∧ (∀ (i : Nat) (o : List Int), os[i]? = some o → ∃ ns, rs[i]? = some ns ∧ o.Perm ns ∧ o.Pairwise (· ≤ ·)) ∧ J x = some (.ins CP dx (playFs (.ref t1) (.ref t2) (.ref t3) (.ref t4) (.ref t5))) ∧
    J t1 = some (.tup gs) ∧ GrantsAt J gs us (grantsAt rows first os) rs.length ∧ J t2 = some (.tup ((List.range rs.length).map (doneAt rows first os))) ∧ J t3 = some (.tup ((List.range (rs.length + 1)).map fun i => V.str (stAt rows first os i).1)) ∧
    J t4 = some (.tup ((List.range (rs.length + 1)).map fun i => ptrV (stAt rows first os i).2)) ∧ J t5 = some (.tup (faultsV (List.zipWith (fun o u : List Int => (o.length, u.length)) os us)))
def spPlay (K : PySem.W.Frag) (T : L3.TabL) (C CR CP : Addr) : Sp := fun vs H Q _ => ∃ (a r dx : Addr) (askers : Int) (xs : List V) (rs : List (List Int)) (rows : List Row5) (first : Str) (fs : List (Str × V)), vs = [.ref a, .int askers, .ref r] ∧ RowsAt K C CR H a rows ∧ rows.length < 60 ∧
  H a = some (.ins CR dx fs) ∧ fs.lookup ("first" : Str) = some (V.str first) ∧ (SqL K H r xs ∨ SqT K H r xs) ∧ xs.length ≤ 900 ∧ RoundsAt K askers H xs rs ∧ LamX.Tabs T H ∧ ∀ (x : Addr) (J : Hp), L3.SameN T H J → H x = none → PlayedAt J CP x rows first rs → Q (.ref x) J
/-- the lambda that play hands on -/
def playLam : Arguments × Expr × Scope := match defBody sPlay with
  | .Assign _ (.Call _ [_, .Lambda a b c _] _ _) _ :: _ => (a, b, c)
  | _ => default
theorem lamFr : NdefX.ndefB (defScope sPlay) playLam.2.2 ["askers"] = true := by decide +kernel
theorem nsLam : NdefX.NScope ["asking", "askers"] ["asking"] ["askers"] playLam.2.2 := NdefX.nscope_by (by decide +kernel)
theorem RowsAt.monoX {K : PySem.W.Frag} {C CR : Addr} {H J : Hp} {a : Addr} {rows : List Row5} (s : L3.Ex H J) (h : RowsAt K C CR H a rows) : RowsAt K C CR J a rows := by
  obtain ⟨dx, tp, fs, xs, h1, h2, h3, h4, h5⟩ := h.ex
  exact ⟨dx, tp, fs, xs, s _ _ h1, h2, s.seqT h3, h4, fun i x e => by
    obtain ⟨b, r, e1, e2, ⟨⟨dy, e3⟩, e4⟩, e5⟩ := h5 i x e
    exact ⟨b, r, e1, e2, ⟨⟨dy, s _ _ e3⟩, e4⟩, e5⟩⟩
theorem RowsAt.mono {K : PySem.W.Frag} {C CR : Addr} {H J : Hp} {a : Addr} {rows : List Row5} (s : Same H J) (h : RowsAt K C CR H a rows) : RowsAt K C CR J a rows := h.monoX (L3.exOf s)
section
variable {P : Program} {w : World} {K : PySem.W.Frag} {mg : Str → Option Value} {base : Heap}
/-- the lambda's body -/
theorem lam_round {h : Addr} {hd : FuncData} {q : Str} {cl : List (Str × Addr)} {c' : Addr}
    (Gr : FnOk P w K mg base CX0 3 h hd ["value", "askers"] (spIsRound K)) (bR : Binds K hd ["value", "askers"] []) (kR : PySem.W.keepIn K (.ref h) = true) (mR : mg "is_round" = some (.ref h)) :
    L3.LamFn P w K mg base CX0 4 ⟨"<lambda>", q, playLam.1, [], playLam.2.2, cl, c'⟩ playLam.2.1 ["asking"] ["askers"] (spLamRound K) := by
  refine L3.lamfn_of nsLam (fun pm ctv us hl => ?_) (fun ws vs H Q E h => ?_) fun A outer s H f vs ws Q E hr hw h => ?_
  · match us, hl with
    | [_], _ => rfl
  · obtain ⟨x, n, _, rfl, _⟩ := h
    rfl
  obtain ⟨x, n, rfl, rfl, h⟩ := h
  refine ⟨_, pe_call Gr hr (by rfl) mR kR bR .nil pass0 (pa_cons (pv 0) (pa_cons (pv 1) pa_nil)), ?_⟩
  exact ⟨_, rfl, _, rfl, h⟩
theorem ok_play {TL : L3.TabL} {cP tP : Addr} {C CR CP f fa fp ff g fr : Addr} {da dp df gd dr : FuncData} {oc kV doc pm ct : Value} {od an : Option Addr} {osl : Array (Option Value)}
    (lk : K.lookup f = some ⟨oc, od, .func (PySem.W.fnOf "play" "play" (defArgs sPlay) (defBody sPlay) (defScope sPlay) .none kV doc pm an (.ref cP) ct), osl⟩) (hcd : PySem.W.codeIn K (.ref cP) "play" = true) (T : Blt mg) (Z4 : Blt4 mg) (RC : RuleC K CR) (nf : NoAttr K CR "first")
    (TB : LamX.TabB base mg cP tP) (hTL : TL = [(tP, ("play.<locals>.<lambda>" : Str))])
    (Gs : FnOk P w K mg base CX0 1 g gd ["value"] (spSeq K)) (bS : Binds K gd ["value"] []) (kS : PySem.W.keepIn K (.ref g) = true) (mS : mg "is_sequence" = some (.ref g))
    (Gr : FnOk P w K mg base CX0 3 fr dr ["value", "askers"] (spIsRound K)) (bR : Binds K dr ["value", "askers"] []) (kR : PySem.W.keepIn K (.ref fr) = true) (mR : mg "is_round" = some (.ref fr))
    (Fa : Fun K "ascending_rounds" "ascending_rounds" sAscending fa da) (bA : Binds K da ["rounds", "is_right"] []) (mA : mg "ascending_rounds" = some (.ref fa))
    (Gp : FnOk P w K mg base CX0 3 fp dp ["rule", "mode", "pointer", "asking"] (spPlayRound K C CR)) (bP : Binds K dp ["rule", "mode", "pointer", "asking"] []) (kP : PySem.W.keepIn K (.ref fp) = true) (mP : mg "play_round" = some (.ref fp))
    (Gf : FnOk P w K mg base CX0 2 ff df ["asked", "grants"] (spFaults K)) (bF : Binds K df ["asked", "grants"] []) (kF : PySem.W.keepIn K (.ref ff) = true) (mF : mg "faults_of" = some (.ref ff))
    {gi : Addr} {di : FuncData} (M : Mk K CP gi) (GI : FnOk P w K mg base CX0 1 gi di ["self", "grants", "done", "modes", "pointers", "faults"] (spPlayedI CP)) (bI : Binds K di ["self", "grants", "done", "modes", "pointers", "faults"] []) (mI : mg "Played" = some (.ref CP)) :
    FnOk P w K mg base CX0 6 f (PySem.W.fnOf "play" "play" (defArgs sPlay) (defBody sPlay) (defScope sPlay) .none kV doc pm an (.ref cP) ct) ["rule", "askers", "rounds"] (spPlay K TL C CR CP) := by
  have len : ∀ (vs : List V) (H : Hp) (Q : VK) (E : XK), spPlay K TL C CR CP vs H Q E → vs.length = 3 := fun vs H Q E h => by
    obtain ⟨a, r, dx, n, xs, rs, rows, first, fs, rfl, _⟩ := h
    rfl
  refine ⟨len, fun A outer s H args us vs Q E hr0 e0 hb rv h => LamX.run_ofS (k := 5) (CX := CX0) (N := nPlay) lk hcd scPlay hr0 e0 hb rv (len _ _ _ _ h) fun hr => ?_⟩
  obtain ⟨a, r, dx, n, xs, rs, rows, first, fs, rfl, hrows0, h60, ha0, hf, hq, hz, hR, hT, q⟩ := h
  obtain ⟨oc2, od2, kV2, doc2, pm2, an2, cd2, ct2, osl2, rfl, lkA, hcA⟩ := Fa.ex
  have hr3 : Room 3 _ := hr.mono (by decide)
  have hr2 : Room 2 _ := hr.mono (by decide)
  suffices hN : ∃ t, PSs (cxOf CX0 P w K mg base nPlay "play" (defScope sPlay) f (.ref cP) A outer s H E).nox (defBody sPlay) t ∧ t { nx := fun _ H' => Q .non H', rt := Q } (L2.start nPlay [.ref a, .int n, .ref r]) H by
    obtain ⟨t, a, b⟩ := hN
    exact ⟨t, a.nox, b⟩
  refine ⟨_, (pss_cons (ps_set (i := 3) scPlay.nd rfl (Or.inl rfl) (L3.pe_give (T := TL) (CX := CX0) (k := 4) (fr := ["askers"]) (js := [1]) (E := fun _ _ _ => False) (sp := spAscending K) (params := playLam.1) (body := playLam.2.1) (scope := playLam.2.2) (by rfl) mA Fa.kp lkA hcA bA scAscending rfl (pv 2) pass0 TB rfl
      (by rw [hTL]; exact List.mem_singleton.mpr rfl) (fun p hp _ => by rw [hTL] at hp; rw [List.mem_singleton.mp hp]; rfl) hr (NdefX.ndef_free lamFr) (NdefX.ndef_fr lamFr) rfl rfl
      (fun v s H f c' ws Q hr4 hw GV hc h => asc_body Z4 T Gs bS kS mS (lam_round Gr bR kR mR) hr4 GV hc h)))
    (pss_cons (ps_set (i := 4) scPlay.nd rfl (Or.inl rfl) (pe_lst pa_nil))
    (pss_cons (ps_set (i := 5) scPlay.nd rfl (Or.inl rfl) (pe_lst pa_nil))
    (pss_cons (ps_set (i := 6) scPlay.nd rfl (Or.inl rfl) (pe_lst (pa_cons (pe_fld (pv 0) rfl) pa_nil)))
    (pss_cons (ps_set (i := 7) scPlay.nd rfl (Or.inl rfl) (pe_lst (pa_cons pe_non pa_nil)))
    (pss_cons (ps_for PassesOwn.never rfl (pi_list (pv 3)) (pg_name (i := 8) scPlay.nd rfl (Or.inl rfl))
    (pss_cons (ps_asg (pe_call Gp hr3 (by rfl) mP kP bP .nil pass0 (pa_cons (pv 0) (pa_cons (pe_ix ix_list (pv 6) (pe_un un_neg pe_int) (fun _ _ => rfl)) (pa_cons (pe_ix ix_list (pv 7) (pe_un un_neg pe_int) (fun _ _ => rfl)) (pa_cons (pv 8) pa_nil))))) (pg_tup rfl (pgs_cons (pg_name (i := 9) scPlay.nd rfl (Or.inl rfl)) (pgs_cons (pg_name (i := 10) scPlay.nd rfl (Or.inl rfl)) (pgs_cons (pg_name (i := 11) scPlay.nd rfl (Or.inl rfl)) (pgs_cons (pg_name (i := 12) scPlay.nd rfl (Or.inl rfl)) pgs_nil))))))
      (pss_cons (ps_expr (pe_bm PySem.F.plainAttrs_list PySem.F.slot_list_append PySem.F.type_list_append mt_append (pv 4) (pa_cons (pv 9) pa_nil)))
      (pss_cons (ps_expr (pe_bm PySem.F.plainAttrs_list PySem.F.slot_list_append PySem.F.type_list_append mt_append (pv 5) (pa_cons (pv 10) pa_nil)))
      (pss_cons (ps_expr (pe_bm PySem.F.plainAttrs_list PySem.F.slot_list_append PySem.F.type_list_append mt_append (pv 6) (pa_cons (pv 11) pa_nil)))
      (pss_one (ps_expr (pe_bm PySem.F.plainAttrs_list PySem.F.slot_list_append PySem.F.type_list_append mt_append (pv 7) (pa_cons (pv 12) pa_nil)))))))))
    (pss_cons (ps_set (i := 13) scPlay.nd rfl (Or.inl rfl) (pe_call Gf hr2 (by rfl) mF kF bF .nil pass0 (pa_cons (pv 3) (pa_cons (pv 4) pa_nil))))
    (pss_one (ps_ret (pe_make M GI hr2 (by rfl) mI bI .nil pass0 (pa_cons (pe_callTy call_tuple_of (by rfl) T.tuple (by decide +kernel) (pa_cons (pv 4) pa_nil)) (pa_cons (pe_callTy call_tuple_of (by rfl) T.tuple (by decide +kernel) (pa_cons (pv 5) pa_nil)) (pa_cons (pe_callTy call_tuple_of (by rfl) T.tuple (by decide +kernel) (pa_cons (pv 6) pa_nil)) (pa_cons (pe_callTy call_tuple_of (by rfl) T.tuple (by decide +kernel) (pa_cons (pv 7) pa_nil)) (pa_cons (pv 13) pa_nil))))))))))))))), ?_⟩
  refine ⟨_, rfl, hT, fun B sB => ?_⟩
  have hrows := hrows0.monoX sB.ex
  have ha := sB _ _ ha0
  refine ⟨r, xs, rs, n, rfl, rfl, hq.elim (fun z => .inl (sB.seq z)) (fun z => .inr (sB.seqT z)), by omega, hR.monoX sB.ex, fun as ys J0 s0 nas has hS => ?_⟩
  obtain ⟨os, los, hos⟩ := choose_list (R := fun (i : Nat) (y : V) (o : List Int) => ∃ (p : Addr) (ns : List Int), y = .ref p ∧ J0 p = some (.tup (o.map V.int)) ∧ rs[i]? = some ns ∧ o.Perm ns ∧ o.Pairwise (· ≤ ·)) ys 0 fun i y e => by
    obtain ⟨p, o, ns, e1, e2, e3, e4, e5⟩ := hS.2 i y e
    exact ⟨o, p, ns, e1, e2, by rw [Nat.zero_add]; exact e3, e4, e5⟩
  have ln : os.length = rs.length := by rw [los, hS.1]
  have lys : ys.length = rs.length := hS.1
  have ord0 : OrderAt J0 ys os := ⟨los.symm, fun i y e => by
    obtain ⟨o, e0, p, ns, e1, e2, _⟩ := hos i y e
    exact ⟨p, o, e1, e2, e0⟩⟩
  have ordP : ∀ (i : Nat) (o : List Int), os[i]? = some o → ∃ ns, rs[i]? = some ns ∧ o.Perm ns ∧ o.Pairwise (· ≤ ·) := fun i o e => by
    have hi : i < ys.length := by
      rw [← los]
      exact (List.getElem?_eq_some_iff.mp e).1
    obtain ⟨o', e0, p, ns, e1, e2, e3, e4, e5⟩ := hos i ys[i] (List.getElem?_eq_getElem hi)
    rw [e] at e0
    cases e0
    exact ⟨ns, by rw [Nat.zero_add] at e3; exact e3, e4, e5⟩
  refine ⟨(by show 0 ≤ sizeLine; decide), fun gl ngl => ⟨(by show 0 ≤ sizeLine; decide), fun dl ndl => ⟨_, rfl, a, CR, dx, fs, _, rfl, ?_, RC.cl, nf, hf, (by show 1 ≤ sizeLine; decide), fun ml nml => ⟨(by show 1 ≤ sizeLine; decide), fun pl npl => ?_⟩⟩⟩⟩
  · exact new_same ndl _ _ _ (new_same ngl _ _ _ (s0 _ _ ha))
  have d1 : dl ≠ gl := fun z => by rw [z, upd_same] at ndl; cases ndl
  have d2 : ml ≠ dl := fun z => by rw [z, upd_same] at nml; cases nml
  have d3 : ml ≠ gl := fun z => by rw [z, upd_ne (Ne.symm d1), upd_same] at nml; cases nml
  have d4 : pl ≠ ml := fun z => by rw [z, upd_same] at npl; cases npl
  have d5 : pl ≠ dl := fun z => by rw [z, upd_ne (Ne.symm d2), upd_same] at npl; cases npl
  have d6 : pl ≠ gl := fun z => by rw [z, upd_ne (Ne.symm d3), upd_ne (Ne.symm d1), upd_same] at npl; cases npl
  have a1 : as ≠ gl := fun z => by rw [← z, has] at ngl; cases ngl
  have e1 := new_same ngl (.lst [])
  have e2 := e1.trans (new_same ndl (.lst []))
  have e3 := e2.trans (new_same nml (.lst [V.str first]))
  have e4 := e3.trans (new_same npl (.lst [V.non]))
  have a2 : as ≠ dl := fun z => by rw [← z, e1 _ _ has] at ndl; cases ndl
  have a3 : as ≠ ml := fun z => by rw [← z, e2 _ _ has] at nml; cases nml
  have a4 : as ≠ pl := fun z => by rw [← z, e3 _ _ has] at npl; cases npl
  have fg : B gl = none := s0.free ngl
  have fdl : B dl = none := (s0.trans e1).free ndl
  have fml : B ml = none := (s0.trans e2).free nml
  have fpl : B pl = none := (s0.trans e3).free npl
  let Pv : Nat → L2.St → Hp → Prop := fun i σ J => ∃ w8 w9 wa wb wc wd, σ = [some (.ref a), some (.int n), some (.ref r), some (.ref as), some (.ref gl), some (.ref dl), some (.ref ml), some (.ref pl), w8, w9, wa, wb, wc, wd] ∧ Same B J ∧ J as = some (.lst ys) ∧ OrderAt J ys os ∧
    ∃ gs us, J gl = some (.lst gs) ∧ GrantsAt J gs us (grantsAt rows first os) i ∧ J dl = some (.lst ((List.range i).map (doneAt rows first os))) ∧ J ml = some (.lst ((List.range (i + 1)).map fun i => V.str (stAt rows first os i).1)) ∧ J pl = some (.lst ((List.range (i + 1)).map fun i => ptrV (stAt rows first os i).2))
  refine ⟨_, rfl, as, rfl, ⟨ys, SqL.of (e4 _ _ has)⟩, for_list (K := K) (a := as) (xs := ys) Pv ?_ (fun i σ J _ ⟨_, _, _, _, _, _, _, _, z, _⟩ => SqL.of z) ?_ ?_⟩
  · refine ⟨none, none, none, none, none, none, rfl, s0.trans e4, e4 _ _ has, ⟨ord0.1, fun i y e => ?_⟩, [], [], ?_, ⟨rfl, rfl, fun j v e => nomatch e⟩, ?_, ?_, ?_⟩
    · obtain ⟨p, o, q1, q2, q3⟩ := ord0.2 i y e
      exact ⟨p, o, q1, e4 _ _ q2, q3⟩
    · rw [upd_ne (Ne.symm d6), upd_ne (Ne.symm d3), upd_ne (Ne.symm d1), upd_same]
    · rw [upd_ne (Ne.symm d5), upd_ne (Ne.symm d2), upd_same]
      rfl
    · rw [upd_ne (Ne.symm d4), upd_same]
      rfl
    · rw [upd_same]
      rfl
  · rintro i x σ J hx ⟨w8, w9, wa, wb, wc, wd, rfl, sJ, jas, jo, gs, us, jg, ga, jd, jm, jp⟩
    obtain ⟨p, o, rfl, hp, ho⟩ := jo.2 i x hx
    have hi : i < ys.length := (List.getElem?_eq_some_iff.mp hx).1
    have em : ((List.range (i + 1)).map fun i => V.str (stAt rows first os i).1) = ((List.range i).map fun i => V.str (stAt rows first os i).1) ++ [V.str (stAt rows first os i).1] := by rw [List.range_succ, List.map_append, List.map_singleton]
    have ep : ((List.range (i + 1)).map fun i => ptrV (stAt rows first os i).2) = ((List.range i).map fun i => ptrV (stAt rows first os i).2) ++ [ptrV (stAt rows first os i).2] := by rw [List.range_succ, List.map_append, List.map_singleton]
    have lastM : atI ((List.range (i + 1)).map fun i => V.str (stAt rows first os i).1) (-1) = some (V.str (stAt rows first os i).1) := by rw [em]; exact L2.atI_last _ _
    have lastP : atI ((List.range (i + 1)).map fun i => ptrV (stAt rows first os i).2) (-1) = some (ptrV (stAt rows first os i).2) := by rw [ep]; exact L2.atI_last _ _
    refine ⟨_, rfl, _, rfl, _, rfl, ml, _, _, _, rfl, rfl, SqL.of jm, lastM, _, rfl, _, rfl, pl, _, _, _, rfl, rfl, SqL.of jp, lastP, _, rfl, a, p, _, _, rows, o, rfl, hrows.mono sJ, h60, SqT.of hp, fun t g out J1 s1 nt ng jt jtg pw mem => ?_⟩
    have sN := st_next (rows := rows) (first := first) ho
    have dN : doneAt rows first os i = doneV (endDone rows (stAt rows first os i).1 (stAt rows first os i).2 o) := by unfold doneAt; rw [ho]
    have gN : grantsAt rows first os i = endGrants rows (stAt rows first os i).1 (stAt rows first os i).2 o := by unfold grantsAt; rw [ho]
    refine ⟨t, _, rfl, SqT.of jt, rfl, _, _, rfl, _, _, rfl, _, _, rfl, _, _, rfl, rfl, ?_⟩
    have s2 := sJ.trans s1
    have jg1 := s1 _ _ jg
    have jd1 := s1 _ _ jd
    have jm1 := s1 _ _ jm
    have jp1 := s1 _ _ jp
    have ga1 := (ga.keep (fun c o _ e => s1 c o e)).add jtg pw (fun k => by rw [gN]; exact mem k)
    have small : ∀ n, n ≤ 901 → n < sizeLine := fun n h => small1000 (by omega)
    have k0 := lys
    have k1 : xs.length = rs.length := hR.1
    refine ⟨_, rfl, .inl ⟨rfl, _, SqL.of jg1⟩, _, rfl, gl, _, _, rfl, rfl, jg1, small _ (by rw [ga.1]; omega), ?_⟩
    have jd2 : upd J1 gl (.lst (gs ++ [V.ref g])) dl = some (.lst ((List.range i).map (doneAt rows first os))) := by rw [upd_ne d1]; exact jd1
    refine ⟨_, rfl, .inl ⟨rfl, _, SqL.of jd2⟩, _, rfl, dl, _, _, rfl, rfl, jd2, small _ (by rw [List.length_map, List.length_range]; omega), ?_⟩
    have jm2 : upd (upd J1 gl (.lst (gs ++ [V.ref g]))) dl (.lst ((List.range i).map (doneAt rows first os) ++ [doneV (endDone rows (stAt rows first os i).1 (stAt rows first os i).2 o)])) ml = some (.lst ((List.range (i + 1)).map fun i => V.str (stAt rows first os i).1)) := by
      rw [upd_ne d2, upd_ne d3]
      exact jm1
    refine ⟨_, rfl, .inl ⟨rfl, _, SqL.of jm2⟩, _, rfl, ml, _, _, rfl, rfl, jm2, small _ (by rw [List.length_map, List.length_range]; omega), ?_⟩
    generalize hJ2 : upd (upd J1 gl (.lst (gs ++ [V.ref g]))) dl (.lst ((List.range i).map (doneAt rows first os) ++ [doneV (endDone rows (stAt rows first os i).1 (stAt rows first os i).2 o)])) = J2 at jm2 ⊢
    have f2 : ∀ c, c ≠ gl → c ≠ dl → J2 c = J1 c := fun c h1 h2 => by rw [← hJ2, upd_ne h2, upd_ne h1]
    have g2 : J2 gl = some (.lst (gs ++ [V.ref g])) := by rw [← hJ2, upd_ne (Ne.symm d1), upd_same]
    have dd2 : J2 dl = some (.lst ((List.range (i + 1)).map (doneAt rows first os))) := by rw [← hJ2, upd_same, List.range_succ, List.map_append, List.map_singleton, dN]
    have jp3 : upd J2 ml (.lst (((List.range (i + 1)).map fun i => V.str (stAt rows first os i).1) ++ [V.str (endMode rows (stAt rows first os i).1 (stAt rows first os i).2 o)])) pl = some (.lst ((List.range (i + 1)).map fun i => ptrV (stAt rows first os i).2)) := by
      rw [upd_ne d4, f2 _ d6 d5]
      exact jp1
    refine ⟨_, rfl, .inl ⟨rfl, _, SqL.of jp3⟩, _, rfl, pl, _, _, rfl, rfl, jp3, small _ (by rw [List.length_map, List.length_range]; omega), ?_⟩
    have kp : Keep J1 (upd (upd J2 ml (.lst (((List.range (i + 1)).map fun i => V.str (stAt rows first os i).1) ++ [V.str (endMode rows (stAt rows first os i).1 (stAt rows first os i).2 o)]))) pl (.lst (((List.range (i + 1)).map fun i => ptrV (stAt rows first os i).2) ++ [ptrV (endPtr rows (stAt rows first os i).1 (stAt rows first os i).2 o)]))) := fun c u no e => by
      have n1 : c ≠ gl := fun z => by rw [z, jg1] at e; exact no _ (Option.some.inj e).symm
      have n2 : c ≠ dl := fun z => by rw [z, jd1] at e; exact no _ (Option.some.inj e).symm
      have n3 : c ≠ ml := fun z => by rw [z, jm1] at e; exact no _ (Option.some.inj e).symm
      have n4 : c ≠ pl := fun z => by rw [z, jp1] at e; exact no _ (Option.some.inj e).symm
      rw [upd_ne n4, upd_ne n3, f2 _ n1 n2]
      exact e
    refine ⟨_, _, _, _, _, _, rfl, fun c u e => ?_, ?_, (jo.keep (fun c o _ e => s1 c o e)).keep kp, gs ++ [V.ref g], us ++ [out], ?_, ga1.keep kp, ?_, ?_, ?_⟩
    · rw [upd_ne (ne_of_none e fpl), upd_ne (ne_of_none e fml), f2 _ (ne_of_none e fg) (ne_of_none e fdl)]
      exact s2 c u e
    · rw [upd_ne a4, upd_ne a3, f2 _ a1 a2]
      exact s1 _ _ jas
    · rw [upd_ne (Ne.symm d6), upd_ne (Ne.symm d3)]
      exact g2
    · rw [upd_ne (Ne.symm d5), upd_ne (Ne.symm d2)]
      exact dd2
    · rw [upd_ne (Ne.symm d4), upd_same, List.range_succ (n := i + 1), List.map_append, List.map_singleton, sN]
    · rw [upd_same, List.range_succ (n := i + 1), List.map_append, List.map_singleton, sN]
  · rintro σ J ⟨w8, w9, wa, wb, wc, wd, rfl, sJ, jas, jo, gs, us, jg, ga, jd, jm, jp⟩
    have lu : os.length = us.length := by rw [ln, ga.2.1, lys]
    refine ⟨_, rfl, _, rfl, as, gl, ys, gs, List.zipWith (fun o u : List Int => (o.length, u.length)) os us, rfl, SqL.of jas, SqL.of jg, ?_, ?_, ?_, fun t5 J5 s5 n5 j5 => ?_⟩
    · rw [(zip_len lu).1]
      refine ⟨by rw [List.length_map]; exact los.symm, fun i y e => ?_⟩
      obtain ⟨p, o, q1, q2, q3⟩ := jo.2 i y e
      exact ⟨p, o.map V.int, q1, SqT.of q2, by rw [List.getElem?_map, q3, List.length_map]; rfl⟩
    · rw [(zip_len lu).2]
      refine ⟨by rw [List.length_map, ga.1, ga.2.1], fun i y e => ?_⟩
      obtain ⟨p, o, q1, q3, q2, _⟩ := ga.2.2 i y e
      exact ⟨p, o.map V.int, q1, SqT.of q2, by rw [List.getElem?_map, q3, List.length_map]; rfl⟩
    · have k1 : xs.length = rs.length := hR.1
      have k2 : us.length ≤ 1000 := by rw [ga.2.1, lys]; omega
      rw [List.length_zipWith]
      omega
    have sA := sJ.trans s5
    refine ⟨_, rfl, gl, gs, rfl, .inl ⟨SqL.of (s5 _ _ jg), fun t1 n1 => ?_⟩⟩
    have z1 := s5.trans (new_same n1 (.tup gs))
    refine ⟨_, rfl, dl, _, rfl, .inl ⟨SqL.of (z1 _ _ jd), fun t2 n2 => ?_⟩⟩
    have z2 := z1.trans (new_same n2 (.tup ((List.range ys.length).map (doneAt rows first os))))
    refine ⟨_, rfl, ml, _, rfl, .inl ⟨SqL.of (z2 _ _ jm), fun t3 n3 => ?_⟩⟩
    have z3 := z2.trans (new_same n3 (.tup ((List.range (ys.length + 1)).map fun i => V.str (stAt rows first os i).1)))
    refine ⟨_, rfl, pl, _, rfl, .inl ⟨SqL.of (z3 _ _ jp), fun t4 n4 => ?_⟩⟩
    have z4 := z3.trans (new_same n4 (.tup ((List.range (ys.length + 1)).map fun i => ptrV (stAt rows first os i).2)))
    refine ⟨_, rfl, fun x dx nx ndx ne => ?_⟩
    refine ⟨x, dx, .ref t1, .ref t2, .ref t3, .ref t4, .ref t5, rfl, upd_same, rfl, ?_⟩
    rw [upd_upd]
    rw [lys] at ga z2 n3 z3 n4 z4 ndx nx ⊢
    have q2 := new_same n2 (.tup ((List.range rs.length).map (doneAt rows first os)))
    have q3 := new_same n3 (.tup ((List.range (rs.length + 1)).map fun i => V.str (stAt rows first os i).1))
    have q4 := new_same n4 (.tup ((List.range (rs.length + 1)).map fun i => ptrV (stAt rows first os i).2))
    have q5 := new_same ndx (.own x)
    have nx' : (upd (upd (upd (upd (upd J5 t1 (.tup gs)) t2 (.tup ((List.range rs.length).map (doneAt rows first os)))) t3 (.tup ((List.range (rs.length + 1)).map fun i => V.str (stAt rows first os i).1))) t4 (.tup ((List.range (rs.length + 1)).map fun i => ptrV (stAt rows first os i).2))) dx (.own x)) x = none := by
      rw [upd_ne (Ne.symm ne)]
      exact nx
    have q6 := new_same nx' (.ins CP dx (playFs (.ref t1) (.ref t2) (.ref t3) (.ref t4) (.ref t5)))
    have r4 := q5.trans q6
    have r3 := q4.trans r4
    have r2 := q3.trans r3
    have r1 := q2.trans r2
    have z5 := z4.trans q5
    have z6 := z5.trans q6
    exact q x _ (sB.on (sJ.trans z6)) (sB.free ((sJ.trans z5).free nx')) ⟨os, us, gs, dx, t1, t2, t3, t4, t5, ln, ordP, upd_same, r1 _ _ upd_same, ga.keep (fun c o _ e => z6 c o e), r2 _ _ upd_same, r3 _ _ upd_same, r4 _ _ upd_same, ((new_same n1 (.tup gs)).trans (r1)) _ _ j5⟩
end
end LT
namespace LT
open PySem L2
/-- one list of ints only is sorted and has these elements -/
theorem sorted_one : ∀ {a b : List Int}, a.Pairwise (· ≤ ·) → b.Pairwise (· ≤ ·) → a.Perm b → a = b
  | [], [], _, _, _ => rfl
  | [], _ :: _, _, _, p => absurd p.length_eq (by simp)
  | _ :: _, [], _, _, p => absurd p.length_eq (by simp)
  | x :: a, y :: b, ha, hb, p => by
    obtain ⟨a1, a2⟩ := List.pairwise_cons.mp ha
    obtain ⟨b1, b2⟩ := List.pairwise_cons.mp hb
    have e : x = y := by
      rcases List.mem_cons.mp (p.mem_iff.mp List.mem_cons_self) with z | z
      · exact z
      rcases List.mem_cons.mp (p.mem_iff.mpr List.mem_cons_self) with u | u
      · exact u.symm
      have h1 := b1 _ z
      have h2 := a1 _ u
      omega
    subst e
    rw [sorted_one a2 b2 p.cons_inv]
/-- a growing list of ints is one only, by its members -/
theorem lt_pairwise_one : ∀ {a b : List Int}, a.Pairwise (· < ·) → b.Pairwise (· < ·) → (∀ k, k ∈ a ↔ k ∈ b) → a = b
  | [], [], _, _, _ => rfl
  | [], y :: _, _, _, m => absurd ((m y).mpr List.mem_cons_self) (by simp)
  | x :: _, [], _, _, m => absurd ((m x).mp List.mem_cons_self) (by simp)
  | x :: a, y :: b, ha, hb, m => by
    obtain ⟨a1, a2⟩ := List.pairwise_cons.mp ha
    obtain ⟨b1, b2⟩ := List.pairwise_cons.mp hb
    have e : x = y := by
      rcases List.mem_cons.mp ((m x).mp List.mem_cons_self) with z | z
      · exact z
      rcases List.mem_cons.mp ((m y).mpr List.mem_cons_self) with u | u
      · exact u.symm
      have h1 := b1 _ z
      have h2 := a1 _ u
      omega
    subst e
    rw [lt_pairwise_one a2 b2 fun k => ⟨fun z => ?_, fun z => ?_⟩]
    · rcases List.mem_cons.mp ((m k).mp (List.mem_cons_of_mem _ z)) with u | u
      · have := a1 _ z
        omega
      · exact u
    · rcases List.mem_cons.mp ((m k).mpr (List.mem_cons_of_mem _ z)) with u | u
      · have := b1 _ z
        omega
      · exact u
end LT
namespace LT
open PySem L2
/-- an own error's making: one attribute named by x -/
def spErrA (C : Addr) (x : Str) : Sp := fun vs H Q _ => ∃ (a : Addr) (v : V), vs = [.ref a, v] ∧ H a = some (exo a C none) ∧
  ∀ dx, H dx = none → dx ≠ a → Q .non (upd (upd H dx (exd dx [(x, v)])) a (exo a C (some dx)))
section
variable {P : Program} {w : World} {K : PySem.W.Frag} {mg : Str → Option Value} {base : Heap}
theorem scErrW : FnScope ["self", "word"] ["self", "word"] (defScope sRuleErrI) := ⟨rfl, rfl, rfl, by decide +kernel, rfl, by decide +kernel, by decide +kernel⟩
theorem ok_errRule {C f : Addr} {fd : FuncData} {q : Str} (F : Fun K "__init__" q sRuleErrI f fd) (T : OexC K C) (no : PySem.W.findIn K (.ref C) "word" = some none) : FnOk P w K mg base CX0 1 f fd ["self", "word"] (spErrA C "word") := by
  refine F.ok scErrW (fun vs H Q E h => ?_) (fun cdv A outer s H vs Q E hr h => ?_)
  · obtain ⟨a, v, rfl, _⟩ := h
    rfl
  obtain ⟨a, v, rfl, ha, q⟩ := h
  refine ⟨_, pss_one (ps_ost (pv 0) (pv 1)), ?_⟩
  exact ⟨_, rfl, _, rfl, a, C, rfl, T, no, .inl ⟨ha, q⟩⟩
theorem scErrT : FnScope ["self", "at"] ["self", "at"] (defScope sTextErrI) := ⟨rfl, rfl, rfl, by decide +kernel, rfl, by decide +kernel, by decide +kernel⟩
theorem ok_errText {C f : Addr} {fd : FuncData} {q : Str} (F : Fun K "__init__" q sTextErrI f fd) (T : OexC K C) (no : PySem.W.findIn K (.ref C) "at" = some none) : FnOk P w K mg base CX0 1 f fd ["self", "at"] (spErrA C "at") := by
  refine F.ok scErrT (fun vs H Q E h => ?_) (fun cdv A outer s H vs Q E hr h => ?_)
  · obtain ⟨a, v, rfl, _⟩ := h
    rfl
  obtain ⟨a, v, rfl, ha, q⟩ := h
  refine ⟨_, pss_one (ps_ost (pv 0) (pv 1)), ?_⟩
  exact ⟨_, rfl, _, rfl, a, C, rfl, T, no, .inl ⟨ha, q⟩⟩
/-- the heap behind a made error: its own dict stands at d -/
theorem del_at {H : Hp} {a d C : Addr} {fs : List (Str × V)} (ha : H a = none) : upd (del (upd (upd (upd H a (exo a C none)) d (exd d fs)) a (exo a C (some d))) a) d (.xd fs) = upd H d (.xd fs) := del_word ha
theorem raise_okA {CE : Addr} {H : Hp} {E : XK} {x : Str} {v : V} {σ : L2.St} {t : TE} (ht : ∀ H1 Q, Q v H1 → t σ H1 Q) (kE : ∀ d, H d = none → E (.ref CE) (some d) (upd H d (.xd [(x, v)]))) :
    tMkO CE (spErrA CE x) [] (tCons t tNil) σ H (fun cls d H' => E cls d H') := by
  refine ht _ _ ⟨(by show 1 ≤ 1000; decide), fun a ha => ⟨a, v, rfl, upd_same, fun dx n ne => ?_⟩⟩
  have hd : H dx = none := by
    rw [upd_ne ne] at n
    exact n
  refine ⟨rfl, dx, [(x, v)], upd_same, by rw [upd_ne ne]; exact upd_same, hd, ?_⟩
  rw [del_word ha]
  exact kE dx hd
end
end LT
namespace LT
open PySem L2
/-- rows in a sequence -/
def RowsIn (C : Addr) (H : Hp) (xs : List V) (rows : List Row5) : Prop := xs.length = rows.length ∧ ∀ (i : Nat) (x : V), xs[i]? = some x → ∃ (b : Addr) (r : Row5), x = .ref b ∧ rows[i]? = some r ∧ (∃ dx, H b = some (.ins C dx r.fs)) ∧ Good r
theorem RowsIn.monoX {C : Addr} {H J : Hp} {xs : List V} {rows : List Row5} (s : L3.Ex H J) (h : RowsIn C H xs rows) : RowsIn C J xs rows :=
  ⟨h.1, fun i x e => by
    obtain ⟨b, r, e1, e2, ⟨dx, e3⟩, g⟩ := h.2 i x e
    exact ⟨b, r, e1, e2, ⟨dx, s _ _ e3⟩, g⟩⟩
theorem RowsIn.mono {C : Addr} {H J : Hp} {xs : List V} {rows : List Row5} (s : Same H J) (h : RowsIn C H xs rows) : RowsIn C J xs rows := h.monoX (L3.exOf s)
theorem seq_ty {K : PySem.W.Frag} {H : Hp} {a : Addr} {xs : List V} (h : Sq K H a xs) : ∃ t, (∀ J, Same H J → TyX K J (.ref a) t) ∧ PySem.W.kitAny K t [.type "list", .type "tuple"] = some true := by
  rcases h with h | h
  · exact ⟨_, fun J s => tyx_seqL (s.seq h), kit_list_seq⟩
  · exact ⟨_, fun J s => tyx_seqT (SqT.ext h s), kit_tuple_seq⟩
/-- what is handed as rows: no sequence, or one whose things are rows or not -/
def spIsRows (K : PySem.W.Frag) (C : Addr) : Sp := fun vs H Q _ => ∃ x : V, vs = [x] ∧
  ((∃ t, (∀ J, Same H J → TyX K J x t) ∧ PySem.W.kitAny K t [.type "list", .type "tuple"] = some false ∧ ∀ J, Same H J → Q (.bl false) J) ∨
   (∃ (a : Addr) (xs : List V) (bs : List Bool), x = .ref a ∧ Sq K H a xs ∧ xs.length ≤ 1000 ∧ xs.length = bs.length ∧
     (∀ (i : Nat) (v : V), xs[i]? = some v → ∃ t b, (∀ J, Same H J → TyX K J v t) ∧ PySem.W.kitOne K t (.ref C) = some b ∧ bs[i]? = some b) ∧ ∀ J, Same H J → Q (.bl (bs.all id)) J))
abbrev nIsRows : List Str := ["value", "thing"]
section
variable {P : Program} {w : World} {K : PySem.W.Frag} {mg : Str → Option Value} {base : Heap}
theorem scIsRows : FnScope nIsRows ["value"] (defScope sIsRows) := ⟨rfl, rfl, rfl, by decide +kernel, rfl, by decide +kernel, by decide +kernel⟩
theorem take_snoc {α : Type} {l : List α} {i : Nat} {x : α} (h : l[i]? = some x) : l.take (i + 1) = l.take i ++ [x] := by
  rw [List.take_add_one, h]
  rfl
theorem ok_isrows {C f g : Addr} {fd gd : FuncData} (F : Fun K "is_row_sequence" "is_row_sequence" sIsRows f fd) (U : Blt2 mg) (zAll : mg "all" = none) (mC : mg "Row" = some (.ref C))
    (Gs : FnOk P w K mg base CX0 1 g gd ["value"] (spSeq K)) (bS : Binds K gd ["value"] []) (kS : PySem.W.keepIn K (.ref g) = true) (mS : mg "is_sequence" = some (.ref g)) :
    FnOk P w K mg base CX0 2 f fd ["value"] (spIsRows K C) := by
  refine F.ok scIsRows (fun vs H Q E h => ?_) (fun cdv A outer s H vs Q E hr h => ?_)
  · obtain ⟨x, rfl, _⟩ := h
    rfl
  obtain ⟨x, rfl, h⟩ := h
  refine ⟨_, pss_one (ps_ret (pe_and (pe_call Gs hr (by rfl) mS kS bS .nil pass0 (pa_cons (pv 0) pa_nil))
    (pe_one (pe_callB (cr_all rfl) (by rfl) zAll (by decide +kernel) (pa_cons (pe_lc (own := [("thing", 1)]) (g := gName 1) (tt := tYes) (by rfl) scIsRows.nd (L2.pi_seq (pv 0)) (blkOk_by (N := nIsRows) (sc := defScope sIsRows) (own := [("thing", 1)]) (by decide +kernel)) (fun _ _ _ _ _ => pg_name (i := 1) scIsRows.nd rfl (Or.inl rfl)) (fun _ _ _ _ _ => pts_nil)
      (fun _ _ _ _ _ => pe_callB (r := rIsi K) call_isi (by rfl) U.isin boot_isin (pa_cons (pv 1) (pa_cons (pe_glob (by rfl) mC (v := .ref C) rfl) pa_nil)))) pa_nil))))), ?_⟩
  rcases h with ⟨t, ty, k1, q⟩ | ⟨a, xs, bs, rfl, hq, hz, hl, hb, q⟩
  · exact ⟨_, rfl, x, t, false, rfl, ty, k1, fun J s => ⟨false, rfl, iteF (q J s)⟩⟩
  · obtain ⟨t, ty, k1⟩ := seq_ty hq
    refine ⟨_, rfl, .ref a, t, true, rfl, ty, k1, fun J s0 => ⟨true, rfl, iteT ?_⟩⟩
    refine ⟨_, rfl, a, rfl, lc_seq (K := K) (a := a) (xs := xs) (hq.mono s0) (fun D i M => Same J M ∧ M D = some (.lst ((bs.take i).map V.bl))) (fun D hD => ⟨new_same hD _, upd_same⟩)
      (fun D i M _ ⟨z, _⟩ => same_both z) (fun D hD i v M hv ⟨z, e⟩ => ?_) (fun D hD M ⟨z, e⟩ => ?_)⟩
    · obtain ⟨tv, b, ty, kb, hb2⟩ := hb i v hv
      have hi : i < xs.length := (List.getElem?_eq_some_iff.mp hv).1
      refine ⟨rfl, _, rfl, v, .ref C, tv, _, b, rfl, .own C, ty M (s0.trans z), kb, _, e, ?_, fun c o h => ?_, ?_⟩
      · rw [List.length_map, List.length_take]
        exact small1000 (by omega)
      · rw [upd_ne (fun q => by rw [q, hD] at h; cases h)]
        exact z c o h
      · rw [upd_same, take_snoc hb2, List.map_append]
        rfl
    · refine ⟨D, bs, rfl, SqL.of ?_, q M (s0.trans z)⟩
      rw [e, hl, List.take_length]
end
end LT
namespace LT
open PySem L2
def namesOf (first : Str) (rows : List Row5) : List Str := first :: rows.flatMap fun r => [r.m, r.t]
theorem names_len (first : Str) (rows : List Row5) : (namesOf first rows).length = 2 * rows.length + 1 := by
  unfold namesOf
  rw [List.length_cons]
  congr 1
  induction rows with
  | nil => rfl
  | cons r rows ih =>
    rw [List.flatMap_cons, List.length_append, ih, List.length_cons (a := r)]
    show 2 + 2 * rows.length = 2 * (rows.length + 1)
    omega
theorem names_snoc {first : Str} {rows : List Row5} {i : Nat} {r : Row5} (h : rows[i]? = some r) : namesOf first (rows.take (i + 1)) = namesOf first (rows.take i) ++ [r.m] ++ [r.t] := by
  unfold namesOf
  rw [take_snoc h, List.flatMap_append]
  simp
theorem once_len (xs : List Str) : (onceOf xs).length ≤ xs.length := by
  have go : ∀ (xs ys : List Str), (xs.foldl put1 ys).length ≤ ys.length + xs.length := fun xs => by
    induction xs with
    | nil => intro ys; simp
    | cons x xs ih =>
      intro ys
      have h1 := ih (put1 ys x)
      have h2 := put1_len (ys := ys) (z := x)
      rw [List.foldl_cons, List.length_cons]
      omega
  have := go xs []
  simpa [onceOf] using this
/-- the modes of a rule -/
structure ModesOf (first : Str) (rows : List Row5) (zs : List Str) : Prop where
  perm : zs.Perm (onceOf (namesOf first rows))
  up : PyProof.Rows.sortedS zs = true
def spModes (K : PySem.W.Frag) (C : Addr) : Sp := fun vs H Q _ => ∃ (first : Str) (a : Addr) (xs : List V) (rows : List Row5), vs = [.str first, .ref a] ∧ Sq K H a xs ∧ RowsIn C H xs rows ∧ rows.length ≤ 31 ∧
  ∀ (zs : List Str) (t : Addr) (J : Hp), Same H J → H t = none → J t = some (.tup (zs.map V.str)) → ModesOf first rows zs → Q (.ref t) J
abbrev nModes : List Str := ["first", "rows", "names", "row"]
section
variable {P : Program} {w : World} {K : PySem.W.Frag} {mg : Str → Option Value} {base : Heap}
theorem scModes : FnScope nModes ["first", "rows"] (defScope sModesOf) := ⟨rfl, rfl, rfl, by decide +kernel, rfl, by decide +kernel, by decide +kernel⟩
theorem ok_modes {C f : Addr} {fd : FuncData} (F : Fun K "modes_of" "modes_of" sModesOf f fd) (T : Blt mg) (Z : Blt4 mg) (R : RowC K mg C) : FnOk P w K mg base CX0 1 f fd ["first", "rows"] (spModes K C) := by
  refine F.ok scModes (fun vs H Q E h => ?_) (fun cdv A outer s H vs Q E hr h => ?_)
  · obtain ⟨first, a, xs, rows, rfl, _⟩ := h
    rfl
  obtain ⟨first, a, xs, rows, rfl, hq, hR, h31, q⟩ := h
  refine ⟨_, (pss_cons (ps_set (i := 2) scModes.nd rfl (Or.inl rfl) (pe_lst (pa_cons (pv 0) pa_nil)))
    (pss_cons (ps_for PassesOwn.never rfl (L2.pi_seq (pv 1)) (pg_name (i := 3) scModes.nd rfl (Or.inl rfl))
      (pss_cons (ps_expr (pe_bm PySem.F.plainAttrs_list PySem.F.slot_list_append PySem.F.type_list_append mt_append (pv 2) (pa_cons (pe_fld (pv 3) rfl) pa_nil)))
      (pss_one (ps_expr (pe_bm PySem.F.plainAttrs_list PySem.F.slot_list_append PySem.F.type_list_append mt_append (pv 2) (pa_cons (pe_fld (pv 3) rfl) pa_nil))))))
    (pss_one (ps_ret (pe_callTy call_tuple_of (by rfl) T.tuple (by decide +kernel) (pa_cons (pe_callB (cr_sortedT rfl) (by rfl) Z.sorted (by decide +kernel) (pa_cons (pe_callTy (cr_setT rfl) (by rfl) Z.set (by decide +kernel) (pa_cons (pv 2) pa_nil)) pa_nil)) pa_nil)))))), ?_⟩
  refine ⟨_, rfl, (by show 1 ≤ sizeLine; decide), fun nl nnl => ?_⟩
  have s0 := new_same nnl (.lst [V.str first])
  have hlen := hR.1
  refine ⟨_, rfl, a, rfl, for_seq (K := K) (a := a) (xs := xs) hq (fun i σ J => ∃ v3, σ = [some (.str first), some (.ref a), some (.ref nl), v3] ∧ Same H J ∧ J nl = some (.lst ((namesOf first (rows.take i)).map V.str)))
    ⟨none, rfl, s0, upd_same⟩ (fun i σ J _ ⟨_, _, z, _⟩ => same_both z) ?_ ?_⟩
  · rintro i x σ J hx ⟨v3, rfl, z, e⟩
    obtain ⟨b, r, rfl, er, ⟨dx, hb⟩, gr⟩ := hR.2 i x hx
    have hi : i < xs.length := (List.getElem?_eq_some_iff.mp hx).1
    have f1 : r.fs.lookup ("mode" : Str) = some (V.str r.m) := by kernel_rfl
    have f4 : r.fs.lookup ("then" : Str) = some (V.str r.t) := by kernel_rfl
    have l0 : ((namesOf first (rows.take i)).map V.str).length ≤ 64 := by
      rw [List.length_map, names_len, List.length_take]
      omega
    have bn : b ≠ nl := fun q => by rw [← q, hb] at nnl; cases nnl
    refine ⟨_, rfl, .inl ⟨rfl, _, SqL.of e⟩, _, rfl, b, C, dx, _, _, rfl, z _ _ hb, R.cl, R.n1, f1, nl, _, _, rfl, rfl, e, small1000 (by omega), ?_⟩
    refine ⟨_, rfl, .inl ⟨rfl, _, SqL.of upd_same⟩, _, rfl, b, C, dx, _, _, rfl, ?_, R.cl, R.n4, f4, nl, _, _, rfl, rfl, upd_same, ?_, ?_⟩
    · rw [upd_ne bn]
      exact z _ _ hb
    · rw [List.length_append]
      exact small1000 (by simp only [List.length_cons, List.length_nil]; omega)
    · refine ⟨_, rfl, fun c o h => ?_, ?_⟩
      · have cn : c ≠ nl := ne_of_none h nnl
        rw [upd_ne cn, upd_ne cn]
        exact z c o h
      · rw [upd_same, names_snoc er, List.map_append, List.map_append]
        rfl
  · rintro σ J ⟨v3, rfl, z, e⟩
    rw [hlen, List.take_length] at e
    have l0 : (namesOf first rows).length ≤ 63 := by
      rw [names_len]
      omega
    refine ⟨_, rfl, nl, namesOf first rows, rfl, SqL.of e, by omega, fun p np => ?_⟩
    have s1 := new_same np (SetT w p (onceOf (namesOf first rows)))
    refine ⟨p, _, rfl, upd_same, Nat.lt_of_le_of_lt (once_len _) (by omega), fun zs d pm up nd => ?_⟩
    have s2 := new_same nd (.lst (zs.map V.str))
    refine ⟨d, _, rfl, .inl ⟨SqL.of upd_same, fun t nt => ?_⟩⟩
    have s3 := new_same nt (.tup (zs.map V.str))
    have all := (z.trans s1).trans s2
    exact q zs t _ (all.trans s3) (all.free nt) upd_same ⟨pm, up⟩
end
end LT
namespace LT
open PySem L2
def ruleFs (f r m : V) : List (Str × V) := [("first", f), ("rows", r), ("modes", m)]
/-- a rule stands at a -/
structure RuleAt (K : PySem.W.Frag) (C CR : Addr) (H : Hp) (a : Addr) (first : Str) (rows : List Row5) : Prop where
  ex : ∃ (dx tp tm : Addr) (xs : List V) (zs : List Str), H a = some (.ins CR dx (ruleFs (.str first) (.ref tp) (.ref tm))) ∧ SqT K H tp xs ∧ RowsIn C H xs rows ∧ H tm = some (.tup (zs.map V.str)) ∧ ModesOf first rows zs
  wd : nameP first = true
  few : rows.length ≤ 31
theorem RuleAt.monoX {K : PySem.W.Frag} {C CR : Addr} {H J : Hp} {a : Addr} {first : Str} {rows : List Row5} (s : L3.Ex H J) (h : RuleAt K C CR H a first rows) : RuleAt K C CR J a first rows := by
  obtain ⟨⟨dx, tp, tm, xs, zs, h1, h2, h3, h4, h5⟩, h6, h7⟩ := h
  exact ⟨⟨dx, tp, tm, xs, zs, s _ _ h1, s.seqT h2, h3.monoX s, s _ _ h4, h5⟩, h6, h7⟩
theorem RuleAt.mono {K : PySem.W.Frag} {C CR : Addr} {H J : Hp} {a : Addr} {first : Str} {rows : List Row5} (s : Same H J) (h : RuleAt K C CR H a first rows) : RuleAt K C CR J a first rows := h.monoX (L3.exOf s)
theorem Good.rowAt {C : Addr} {H : Hp} {b : Addr} {r : Row5} (g : Good r) (h : ∃ dx, H b = some (.ins C dx r.fs)) : RowAt C H b r := ⟨h, g.ok⟩
theorem RuleAt.rows {K : PySem.W.Frag} {C CR : Addr} {H : Hp} {a : Addr} {first : Str} {rows : List Row5} (h : RuleAt K C CR H a first rows) : RowsAt K C CR H a rows := by
  obtain ⟨dx, tp, tm, xs, zs, h1, h2, h3, h4, h5⟩ := h.ex
  refine ⟨dx, tp, _, xs, h1, by kernel_rfl, h2, h3.1, fun i x e => ?_⟩
  obtain ⟨b, r, e1, e2, e3, g⟩ := h3.2 i x e
  exact ⟨b, r, e1, e2, g.rowAt e3, g.p⟩
/-- rows that are wrong -/
def BadRows (K : PySem.W.Frag) (C : Addr) (H : Hp) (x : V) : Prop :=
  (∃ t, (∀ J, Same H J → TyX K J x t) ∧ PySem.W.kitAny K t [.type "list", .type "tuple"] = some false) ∨
  (∃ (a : Addr) (xs : List V) (bs : List Bool), x = .ref a ∧ Sq K H a xs ∧ xs.length ≤ 1000 ∧ xs.length = bs.length ∧
     (∀ (i : Nat) (v : V), xs[i]? = some v → ∃ t b, (∀ J, Same H J → TyX K J v t) ∧ PySem.W.kitOne K t (.ref C) = some b ∧ bs[i]? = some b) ∧ bs.all id = false)
def spRuleI (K : PySem.W.Frag) (C CR CE : Addr) : Sp := fun vs H Q E => ∃ (x dx : Addr) (f r : V), vs = [.ref x, f, r] ∧ H x = some (.ins CR dx []) ∧ Kind K H f ∧
  ((nameV nameP f = false ∧ ∀ d, H d = none → E (.ref CE) (some d) (upd H d (.xd [("word", .str "first")]))) ∨
   (nameV nameP f = true ∧ BadRows K C H r ∧ ∀ d J, Same H J → J d = none → E (.ref CE) (some d) (upd J d (.xd [("word", .str "rows")]))) ∨
   (∃ (z : Str) (a : Addr) (xs : List V) (rows : List Row5), f = .str z ∧ nameP z = true ∧ r = .ref a ∧ Sq K H a xs ∧ RowsIn C H xs rows ∧ rows.length ≤ 31 ∧
     ∀ J, (∀ c o, c ≠ x → H c = some o → J c = some o) → RuleAt K C CR J x z rows → Q .non J))
/-- all but x is kept -/
def Off (x : Addr) (H J : Hp) : Prop := ∀ c o, c ≠ x → H c = some o → J c = some o
theorem Off.of {x : Addr} {H J : Hp} (s : Same H J) : Off x H J := fun c o _ h => s c o h
theorem Off.trans {x : Addr} {H J L : Hp} (a : Off x H J) (b : Off x J L) : Off x H L := fun c o n h => b c o n (a c o n h)
theorem Off.put {x : Addr} {H : Hp} {o : HO} : Off x H (upd H x o) := fun c u n h => by rw [upd_ne n]; exact h
theorem SqT.off {K : PySem.W.Frag} {H J : Hp} {x C dx a : Addr} {fs : List (Str × V)} {xs : List V} (hx : H x = some (.ins C dx fs)) (k : Off x H J) (h : SqT K H a xs) : SqT K J a xs := by
  rcases h with (h | ⟨o, h⟩) | h
  · exact .inl (.inl (k _ _ (fun e => by rw [e, hx] at h; cases h) h))
  · exact .inl (.inr ⟨o, k _ _ (fun e => by rw [e, hx] at h; cases h) h⟩)
  · exact .inr h
theorem SqL.off {K : PySem.W.Frag} {H J : Hp} {x C dx a : Addr} {fs : List (Str × V)} {xs : List V} (hx : H x = some (.ins C dx fs)) (k : Off x H J) (h : SqL K H a xs) : SqL K J a xs := by
  rcases h with (h | ⟨o, h⟩) | h
  · exact .inl (.inl (k _ _ (fun e => by rw [e, hx] at h; cases h) h))
  · exact .inl (.inr ⟨o, k _ _ (fun e => by rw [e, hx] at h; cases h) h⟩)
  · exact .inr h
theorem Sq.off {K : PySem.W.Frag} {H J : Hp} {x C dx a : Addr} {fs : List (Str × V)} {xs : List V} (hx : H x = some (.ins C dx fs)) (k : Off x H J) (h : Sq K H a xs) : Sq K J a xs := h.elim (fun z => .inl (SqL.off hx k z)) fun z => .inr (SqT.off hx k z)
theorem RowsIn.off {C CR : Addr} {H J : Hp} {x dx : Addr} {xs : List V} {rows : List Row5} {fs : List (Str × V)} (hx : H x = some (.ins CR dx fs)) (nf : ∀ r : Row5, fs ≠ r.fs) (k : Off x H J) (h : RowsIn C H xs rows) : RowsIn C J xs rows :=
  ⟨h.1, fun i v e => by
    obtain ⟨b, r, e1, e2, ⟨dy, e3⟩, g⟩ := h.2 i v e
    refine ⟨b, r, e1, e2, ⟨dy, k _ _ (fun q => ?_) e3⟩, g⟩
    rw [q, hx] at e3
    injection e3 with e3
    injection e3 with _ _ e4
    exact nf r e4⟩
section
variable {P : Program} {w : World} {K : PySem.W.Frag} {mg : Str → Option Value} {base : Heap}
theorem scRuleI : FnScope ["self", "first", "rows"] ["self", "first", "rows"] (defScope sRuleInit) := ⟨rfl, rfl, rfl, by decide +kernel, rfl, by decide +kernel, by decide +kernel⟩
/-- what Rule.__init__ leans on -/
structure RuleG (P : Program) (w : World) (K : PySem.W.Frag) (mg : Str → Option Value) (base : Heap) (C CR CE : Addr) : Prop where
  row : RowC K mg C
  kc : PySem.W.kitOne K (.ref C) (.ref C) = some true
  cl : Cls K CR
  n0 : NoAttr K CR "first"
  n1 : NoAttr K CR "rows"
  n2 : NoAttr K CR "modes"
  nm : ∃ (f : Addr) (fd : FuncData), FnOk P w K mg base CX0 1 f fd ["value"] (spIsName K) ∧ Binds K fd ["value"] [] ∧ PySem.W.keepIn K (.ref f) = true ∧ mg "is_name" = some (.ref f)
  rs : ∃ (f : Addr) (fd : FuncData), FnOk P w K mg base CX0 2 f fd ["value"] (spIsRows K C) ∧ Binds K fd ["value"] [] ∧ PySem.W.keepIn K (.ref f) = true ∧ mg "is_row_sequence" = some (.ref f)
  mo : ∃ (f : Addr) (fd : FuncData), FnOk P w K mg base CX0 1 f fd ["first", "rows"] (spModes K C) ∧ Binds K fd ["first", "rows"] [] ∧ PySem.W.keepIn K (.ref f) = true ∧ mg "modes_of" = some (.ref f)
  err : ∃ (f : Addr) (fd : FuncData), FnOk P w K mg base CX0 1 f fd ["self", "word"] (spErrA CE "word") ∧ Binds K fd ["self", "word"] [] ∧ PySem.W.findIn K (.ref CE) "__init__" = some (some (.ref f)) ∧ PySem.W.typeIn K (.ref f) = some (.type "function")
  oex : OexC K CE
  mE : mg "InvalidRule" = some (.ref CE)
theorem name_len {z : Str} (h : nameP z = true) : z.length ≤ 4 := by
  unfold nameP at h
  simp only [Bool.and_eq_true, Bool.not_eq_true', decide_eq_false_iff_not] at h
  have := h.1.1
  omega
theorem ok_ruleI {C CR CE f : Addr} {fd : FuncData} {dvs : List V} {kws : List (Str × V)} (F : FunD K "__init__" "Rule.__init__" (defArgs sRuleInit) (defBody sRuleInit) (defScope sRuleInit) dvs kws f fd) (G : RuleG P w K mg base C CR CE) (T : Blt mg) :
    FnOk P w K mg base (L2.CX P w) 3 f fd ["self", "first", "rows"] (spRuleI K C CR CE) := by
  obtain ⟨fN, fdN, GN, bN, kN, mN⟩ := G.nm
  obtain ⟨fR, fdR, GR, bR, kR, mR⟩ := G.rs
  obtain ⟨fM, fdM, GM, bM, kM, mM⟩ := G.mo
  obtain ⟨fE, fdE, GE, bE, iE, tE⟩ := G.err
  refine F.ok scRuleI (fun vs H Q E h => ?_) (fun cdv A outer s H vs Q E hr h => ?_)
  · obtain ⟨x, dx, f, r, rfl, _⟩ := h
    rfl
  obtain ⟨x, dx, f, r, rfl, hx, kf, h⟩ := h
  have hr1 : Room 1 _ := hr.mono (by decide)
  refine ⟨_, pss_cons (ps_if (pt_not (pt_val (pe_call GN hr1 rfl mN kN bN .nil pass0 (pa_cons (pv 1) pa_nil))))
      (pss_one (ps_raise rfl (takes_of rfl rfl rfl rfl) (pmk_oex G.oex iE tE GE hr bE .nil pass0 rfl G.mE (pa_cons pe_str pa_nil)))) pss_nil)
    (pss_cons (ps_if (pt_not (pt_val (pe_call GR hr rfl mR kR bR .nil pass0 (pa_cons (pv 2) pa_nil))))
      (pss_one (ps_raise rfl (takes_of rfl rfl rfl rfl) (pmk_oex G.oex iE tE GE hr bE .nil pass0 rfl G.mE (pa_cons pe_str pa_nil)))) pss_nil)
    (pss_cons (ps_fld (pv 0) (pv 1) rfl)
    (pss_cons (ps_fld (pv 0) (pe_callTy call_tuple_of (by rfl) T.tuple (by decide +kernel) (pa_cons (pv 2) pa_nil)) rfl)
    (pss_one (ps_fld (pv 0) (pe_call GM hr1 rfl mM kM bM .nil pass0 (pa_cons (pv 1) (pa_cons (pv 2) pa_nil))) rfl))))), ?_⟩
  refine ⟨_, rfl, f, rfl, kf, _, rfl, ?_⟩
  rcases h with ⟨e, kE⟩ | ⟨e, bad, kE⟩ | ⟨z, a, xs, rows, rfl, e, rfl, hq, hR, h31, kQ⟩
  · rw [e]
    exact iteT (raise_okA (fun _ _ q => q) kE)
  · rw [e]
    refine iteF ⟨_, rfl, r, rfl, ?_⟩
    have out : ∀ J, Same H J → ∃ k, V.bl false = V.bl k ∧ (if (!k) = true then tMkO CE (spErrA CE "word") [] (tCons (tC (.str "rows")) tNil) (start ["self", "first", "rows"] [.ref x, f, r]) J (fun cls d H' => E cls d H') else False) := fun J s => ⟨false, rfl, iteT (raise_okA (fun _ _ q => q) fun d hd => kE d J s hd)⟩
    rcases bad with ⟨t, ty, k1⟩ | ⟨a, xs, bs, rfl, hq, hz, hl, hb, e2⟩
    · refine .inl ⟨t, ty, k1, fun J s => ⟨false, rfl, iteT ?_⟩⟩
      exact raise_okA (fun _ _ q => q) fun d hd => kE d J s hd
    · refine .inr ⟨a, xs, bs, rfl, hq, hz, hl, hb, fun J s => ⟨bs.all id, rfl, ?_⟩⟩
      rw [e2]
      exact iteT (raise_okA (fun _ _ q => q) fun d hd => kE d J s hd)
  · have e' : nameV nameP (.str z) = true := e
    rw [e']
    refine iteF ⟨_, rfl, .ref a, rfl, .inr ⟨a, xs, List.replicate xs.length true, rfl, hq, (by have := hR.1; omega), by rw [List.length_replicate], fun i v hv => ?_, fun J s => ⟨_, rfl, ?_⟩⟩⟩
    · obtain ⟨b, r, rfl, er, ⟨dy, hb⟩, g⟩ := hR.2 i v hv
      have hi : i < xs.length := (List.getElem?_eq_some_iff.mp hv).1
      exact ⟨_, true, fun J s => .base (.ins (s _ _ hb) G.row.cl G.row.ha G.row.hn G.row.ht G.row.hm), G.kc, by rw [List.getElem?_replicate, if_pos hi]⟩
    have eall : (List.replicate xs.length true).all id = true := List.all_eq_true.mpr fun b hb => (List.eq_of_mem_replicate hb)
    rw [eall]
    refine iteF ?_
    have l1 : putF "first" (V.str z) [] = ([("first", V.str z)] : List (Str × V)) := by kernel_rfl
    refine ⟨_, rfl, _, rfl, x, CR, dx, [], rfl, s _ _ hx, G.cl, G.n0, (by show 0 < 1000; decide), ?_⟩
    rw [l1]
    have nf0 : ∀ r : Row5, ([] : List (Str × V)) ≠ r.fs := fun r e => by cases e
    have o1 : Off x H (upd J x (.ins CR dx [("first", V.str z)])) := (Off.of s).trans Off.put
    have q1 := hq.off hx o1
    have R1 := hR.off hx nf0 o1
    have x1 : upd J x (.ins CR dx [("first", V.str z)]) x = some (.ins CR dx [("first", V.str z)]) := upd_same
    generalize upd J x (.ins CR dx [("first", V.str z)]) = J1 at o1 q1 R1 x1 ⊢
    have nf1 : ∀ r : Row5, ([("first", V.str z)] : List (Str × V)) ≠ r.fs := fun r e => by cases e
    have nf2 : ∀ r : Row5, ∀ tp, ([("first", V.str z), ("rows", V.ref tp)] : List (Str × V)) ≠ r.fs := fun r tp e => by cases e
    have q0 := q1
    refine ⟨_, rfl, a, xs, rfl, ?_⟩
    rcases q0 with q0 | q0
    · refine .inl ⟨q0, fun tp ntp => ?_⟩
      have s2 := new_same ntp (.tup xs)
      have hT : SqT K (upd J1 tp (.tup xs)) tp xs := SqT.of upd_same
      generalize upd J1 tp (.tup xs) = J2 at s2 hT ⊢
      have x2 := s2 _ _ x1
      have q2 := q1.mono s2
      have R2 := R1.mono s2
      have o2 : Off x H J2 := o1.trans (Off.of s2)
      refine ⟨_, rfl, x, CR, dx, _, rfl, x2, G.cl, G.n1, (by show 1 < 1000; decide), ?_⟩
      have l2 : putF "rows" (V.ref tp) [("first", V.str z)] = ([("first", V.str z), ("rows", V.ref tp)] : List (Str × V)) := by kernel_rfl
      rw [l2]
      have o3 : Off x H (upd J2 x (.ins CR dx [("first", V.str z), ("rows", V.ref tp)])) := o2.trans Off.put
      have q3 := q2.off x2 (Off.put (o := .ins CR dx [("first", V.str z), ("rows", V.ref tp)]))
      have R3 := R2.off x2 nf1 (Off.put (o := .ins CR dx [("first", V.str z), ("rows", V.ref tp)]))
      have T3 := SqT.off x2 (Off.put (o := .ins CR dx [("first", V.str z), ("rows", V.ref tp)])) hT
      have x3 : upd J2 x (.ins CR dx [("first", V.str z), ("rows", V.ref tp)]) x = some (.ins CR dx [("first", V.str z), ("rows", V.ref tp)]) := upd_same
      generalize upd J2 x (.ins CR dx [("first", V.str z), ("rows", V.ref tp)]) = J3 at o3 q3 R3 T3 x3 ⊢
      refine ⟨_, rfl, _, rfl, z, a, xs, rows, rfl, q3, R3, h31, fun zs tm J4 s4 n4 e4 mo => ?_⟩
      refine ⟨_, rfl, x, CR, dx, _, rfl, s4 _ _ x3, G.cl, G.n2, (by show 2 < 1000; decide), ?_⟩
      have l3 : putF "modes" (V.ref tm) [("first", V.str z), ("rows", V.ref tp)] = ruleFs (V.str z) (V.ref tp) (V.ref tm) := by kernel_rfl
      rw [l3]
      have x4 := s4 _ _ x3
      have put : Off x J4 (upd J4 x (.ins CR dx (ruleFs (V.str z) (V.ref tp) (V.ref tm)))) := Off.put
      refine kQ _ ((o3.trans (Off.of s4)).trans put) ⟨⟨dx, tp, tm, xs, zs, upd_same, SqT.off x4 put (SqT.ext T3 s4), (R3.mono s4).off x4 (fun r => nf2 r tp) put, put _ _ (fun e => by rw [e, x4] at e4; cases e4) e4, mo⟩, e, h31⟩
    · refine .inr ⟨q0, ?_⟩
      have s2 : Same J1 J1 := Same.refl _
      have hT : SqT K J1 a xs := q0
      have x2 := s2 _ _ x1
      have q2 := q1.mono s2
      have R2 := R1.mono s2
      have o2 : Off x H J1 := o1.trans (Off.of s2)
      refine ⟨_, rfl, x, CR, dx, _, rfl, x2, G.cl, G.n1, (by show 1 < 1000; decide), ?_⟩
      have l2 : putF "rows" (V.ref a) [("first", V.str z)] = ([("first", V.str z), ("rows", V.ref a)] : List (Str × V)) := by kernel_rfl
      rw [l2]
      have o3 : Off x H (upd J1 x (.ins CR dx [("first", V.str z), ("rows", V.ref a)])) := o2.trans Off.put
      have q3 := q2.off x2 (Off.put (o := .ins CR dx [("first", V.str z), ("rows", V.ref a)]))
      have R3 := R2.off x2 nf1 (Off.put (o := .ins CR dx [("first", V.str z), ("rows", V.ref a)]))
      have T3 := SqT.off x2 (Off.put (o := .ins CR dx [("first", V.str z), ("rows", V.ref a)])) hT
      have x3 : upd J1 x (.ins CR dx [("first", V.str z), ("rows", V.ref a)]) x = some (.ins CR dx [("first", V.str z), ("rows", V.ref a)]) := upd_same
      generalize upd J1 x (.ins CR dx [("first", V.str z), ("rows", V.ref a)]) = J3 at o3 q3 R3 T3 x3 ⊢
      refine ⟨_, rfl, _, rfl, z, a, xs, rows, rfl, q3, R3, h31, fun zs tm J4 s4 n4 e4 mo => ?_⟩
      refine ⟨_, rfl, x, CR, dx, _, rfl, s4 _ _ x3, G.cl, G.n2, (by show 2 < 1000; decide), ?_⟩
      have l3 : putF "modes" (V.ref tm) [("first", V.str z), ("rows", V.ref a)] = ruleFs (V.str z) (V.ref a) (V.ref tm) := by kernel_rfl
      rw [l3]
      have x4 := s4 _ _ x3
      have put : Off x J4 (upd J4 x (.ins CR dx (ruleFs (V.str z) (V.ref a) (V.ref tm)))) := Off.put
      refine kQ _ ((o3.trans (Off.of s4)).trans put) ⟨⟨dx, a, tm, xs, zs, upd_same, SqT.off x4 put (SqT.ext T3 s4), (R3.mono s4).off x4 (fun r => nf2 r a) put, put _ _ (fun e => by rw [e, x4] at e4; cases e4) e4, mo⟩, e, h31⟩
end
end LT
namespace LT
open PySem L2 TL
/-! ### names -/
theorem small_letter : ∀ c, c < 128 → Unicode.isAlpha c = true → (Unicode.isUpper c || Unicode.isTitle c) = false → c ∈ az := by decide +kernel
theorem name_wd {z : Str} (h : nameP z = true) : Wd z := by
  have hl := name_len h
  unfold nameP at h
  simp only [Bool.and_eq_true, Bool.not_eq_true', decide_eq_false_iff_not] at h
  obtain ⟨⟨_, h2⟩, h3, h4, h5⟩ := h
  unfold Txt.isalpha at h4
  unfold Txt.islower at h5
  rw [Bool.and_eq_true] at h4 h5
  refine ⟨?_, hl, fun c hc => ?_, fun e => h2 (by rw [e])⟩
  · have := h4.1
    rcases Nat.eq_zero_or_pos z.length with q | q
    · have q' : z.cps.size = 0 := q
      have w : 0 < z.length := by simpa using this
      omega
    · exact q
  · have hm : c ∈ z.cps := Array.mem_toList_iff.mp hc
    have a1 := Array.all_eq_true'.mp h3 c hm
    have a2 := Array.all_eq_true'.mp h4.2 c hm
    have a3 := h5.2
    rw [Bool.not_eq_true'] at a3
    have a4 := Array.any_eq_false'.mp a3 c hm
    exact small_letter c (by simpa using a1) a2 (by simpa using a4)
theorem pick_mem {l : List Str} {z : Str} (h : pickV l (.str z) = true) : z ∈ l := by
  obtain ⟨y, hy, e⟩ := List.any_eq_true.mp (show (l.any fun y => y == z) = true from h)
  rw [← (beq_iff_eq.mp e)]
  exact hy
theorem nf_true {b : Bool} (h : ¬ b = false) : b = true := by
  cases b
  · exact absurd rfl h
  · rfl
theorem due_good {m p mv t : Str} {al : Bool} (h : rowDue (.str m) (.str p) (.str mv) (.str t) (.bl al) = none) : Good ⟨m, p, mv, t, al⟩ := by
  unfold rowDue at h
  by_cases h1 : nameV nameP (.str m) = false
  · rw [if_pos h1] at h
    cases h
  rw [if_neg h1] at h
  by_cases h2 : pickV picks (.str p) = false
  · rw [if_pos h2] at h
    cases h
  rw [if_neg h2] at h
  by_cases h3 : pickV moves (.str mv) = false
  · rw [if_pos h3] at h
    cases h
  rw [if_neg h3] at h
  by_cases h4 : nameV nameP (.str t) = false
  · rw [if_pos h4] at h
    cases h
  exact ⟨name_wd (nf_true h1), pick_mem (nf_true h2), pick_mem (nf_true h3), name_wd (nf_true h4)⟩
/-! ### texts cut at one sign -/
def cutL (s : Nat) : List Nat → List Nat → List (List Nat)
  | acc, [] => [acc]
  | acc, c :: r => if c = s then acc :: cutL s [] r else cutL s (acc ++ [c]) r
theorem spl_cut (s : Nat) : ∀ (l acc : List Nat), spl [s] 0 acc l = cutL s acc l
  | [], acc => rfl
  | c :: r, acc => by
    unfold cutL
    by_cases h : c = s
    · have hp : pre [s] (c :: r) = true := by
        rw [h]
        exact pre_self [s] r
      rw [if_pos h, spl_hit hp]
      exact congrArg _ (spl_cut s r [])
    · rw [if_neg h, spl_miss (pre_of_head _ _ h)]
      exact spl_cut s r _
theorem cut_mem {s : Nat} : ∀ {l acc w : List Nat}, s ∉ acc → w ∈ cutL s acc l → (∀ c ∈ w, c ∈ acc ∨ c ∈ l) ∧ w.length ≤ acc.length + l.length ∧ s ∉ w
  | [], acc, w, na, h => by
    rw [cutL, List.mem_singleton] at h
    subst h
    exact ⟨fun c hc => .inl hc, by simp, na⟩
  | c :: r, acc, w, na, h => by
    rw [cutL] at h
    by_cases e : c = s
    · rw [if_pos e] at h
      rcases List.mem_cons.mp h with h | h
      · subst h
        exact ⟨fun c hc => .inl hc, by omega, na⟩
      · obtain ⟨h1, h2, h3⟩ := cut_mem (by simp) h
        refine ⟨fun d hd => .inr ?_, ?_, h3⟩
        · rcases h1 d hd with q | q
          · cases q
          · exact List.mem_cons_of_mem _ q
        · simp only [List.length_nil, List.length_cons] at h2 ⊢
          omega
    · rw [if_neg e] at h
      obtain ⟨h1, h2, h3⟩ := cut_mem (by
        rw [List.mem_append, List.mem_singleton]
        rintro (q | q)
        · exact na q
        · exact e q.symm) h
      refine ⟨fun d hd => ?_, ?_, h3⟩
      · rcases h1 d hd with q | q
        · rcases List.mem_append.mp q with q | q
          · exact .inl q
          · rw [List.mem_singleton] at q
            exact .inr (q ▸ List.mem_cons_self)
        · exact .inr (List.mem_cons_of_mem _ q)
      · rw [List.length_append] at h2
        simp only [List.length_cons, List.length_nil] at h2 ⊢
        omega
theorem cut_join (s : Nat) : ∀ (l acc : List Nat), joinL [s] (cutL s acc l) = acc ++ l
  | [], acc => by simp [cutL, joinL]
  | c :: r, acc => by
    rw [cutL]
    by_cases e : c = s
    · rw [if_pos e]
      have ih := cut_join s r []
      cases q : cutL s [] r with
      | nil =>
        exfalso
        cases r with
        | nil => simp [cutL] at q
        | cons d r =>
          rw [cutL] at q
          split at q
          · cases q
          · have : ∀ (r acc : List Nat), cutL s acc r ≠ [] := fun r => by
              induction r with
              | nil => intro acc; simp [cutL]
              | cons d r ih =>
                intro acc
                rw [cutL]
                split
                · simp
                · exact ih _
            exact this _ _ q
      | cons p ps =>
        rw [q] at ih
        show acc ++ ([s] ++ joinL [s] (p :: ps)) = _
        rw [ih, e]
        rfl
    · rw [if_neg e, cut_join s r, List.append_assoc]
      rfl
def sepOk (y : Str) (s : Nat) : Prop := tl y = [s] ∧ y.cps.all (· < 256) = true
theorem sp_ok : sepOk " " 32 := ⟨by decide +kernel, by decide +kernel⟩
theorem nl_ok : sepOk "\n" 10 := ⟨by decide +kernel, by decide +kernel⟩
theorem split_cut {x y : Str} {s : Nat} (h : sepOk y s) : (Txt.split x y).map tl = cutL s [] (tl x) := by
  rw [split_spl x y (by rw [h.1]; simp) (kind_ok h.2), h.1, spl_cut]
theorem split_mem {x y w : Str} {s : Nat} (h : sepOk y s) (hw : w ∈ Txt.split x y) : (∀ c ∈ tl w, c ∈ tl x) ∧ w.length ≤ x.length ∧ s ∉ tl w := by
  have m : tl w ∈ cutL s [] (tl x) := by
    rw [← split_cut h]
    exact List.mem_map.mpr ⟨w, hw, rfl⟩
  obtain ⟨h1, h2, h3⟩ := cut_mem (by simp) m
  refine ⟨fun c hc => (h1 c hc).elim (fun q => nomatch q) id, ?_, h3⟩
  rw [len_tl w, len_tl x]
  simpa using h2
theorem strOk_mem {x : Str} : PyData.strOk x = true ↔ ∀ c ∈ tl x, c < 0x110000 := by
  unfold PyData.strOk
  rw [Array.all_eq_true']
  exact ⟨fun h c hc => by simpa using h c (Array.mem_toList_iff.mp hc), fun h c hc => by simpa using h c (Array.mem_toList_iff.mpr hc)⟩
theorem split_strOk {x y w : Str} {s : Nat} (h : sepOk y s) (ok : PyData.strOk x = true) (hw : w ∈ Txt.split x y) : PyData.strOk w = true :=
  strOk_mem.mpr fun c hc => strOk_mem.mp ok c ((split_mem h hw).1 c hc)
/-! ### the row that a line tells -/
def parse5 (m p mv t : Str) (al : Bool) : Option Row5 := if rowDue (.str m) (.str p) (.str mv) (.str t) (.bl al) = none then some ⟨m, p, mv, t, al⟩ else none
def parseWs : List Str → Option Row5
  | [m, p, mv, t] => parse5 m p mv t false
  | [m, p, mv, t, a] => if a = "also" then parse5 m p mv t true else none
  | _ => none
def parseRow (z : Str) : Option Row5 := parseWs (Txt.split z " ")
theorem parse5_good {m p mv t : Str} {al : Bool} {r : Row5} (h : parse5 m p mv t al = some r) : Good r ∧ r = ⟨m, p, mv, t, al⟩ := by
  unfold parse5 at h
  split at h
  · rename_i e
    cases h
    exact ⟨due_good e, rfl⟩
  · cases h
theorem row_split {r : Row5} (g : Good r) : Txt.split r.text " " = if r.al then [r.m, r.p, r.mv, r.t, "also"] else [r.m, r.p, r.mv, r.t] := by
  refine map_tl_inj ?_
  rw [split_cut sp_ok, ← spl_cut]
  have f1 := fun c hc => (g.m.cs c hc).1
  have f2 := fun c hc => ((picks_ok _ g.p).2.1 c hc).1
  have f3 := fun c hc => ((moves_ok _ g.mv).2.1 c hc).1
  have f4 := fun c hc => (g.t.cs c hc).1
  have al : (32 : Nat) ∉ tl ("also" : Str) := by decide +kernel
  have e : tl r.text = joinL [32] ((if r.al then [r.m, r.p, r.mv, r.t, "also"] else [r.m, r.p, r.mv, r.t] : List Str).map tl) := by
    show r.text.cps.toList = _
    rw [text_c]
    cases r.al
    · simp [joinL, tailC]
    · have q : tl ("also" : Str) = [97, 108, 115, 111] := by decide +kernel
      simp only [if_true, List.map_cons, List.map_nil, joinL, tailC, q]
      simp
  rw [e]
  refine spl_join ?_ fun p hp => ?_
  · cases r.al <;> simp
  · obtain ⟨w, hw, rfl⟩ := List.mem_map.mp hp
    cases hal : r.al
    · rw [hal] at hw
      simp only [Bool.false_eq_true, if_false, List.mem_cons, List.not_mem_nil, or_false] at hw
      rcases hw with rfl | rfl | rfl | rfl
      · exact fun q => f1 _ q rfl
      · exact fun q => f2 _ q rfl
      · exact fun q => f3 _ q rfl
      · exact fun q => f4 _ q rfl
    · rw [hal] at hw
      simp only [if_true, List.mem_cons, List.not_mem_nil, or_false] at hw
      rcases hw with rfl | rfl | rfl | rfl | rfl
      · exact fun q => f1 _ q rfl
      · exact fun q => f2 _ q rfl
      · exact fun q => f3 _ q rfl
      · exact fun q => f4 _ q rfl
      · exact al
theorem parse_row {r : Row5} (g : Good r) : parseRow r.text = some r := by
  unfold parseRow
  rw [row_split g]
  cases hal : r.al
  · have q : parse5 r.m r.p r.mv r.t false = some r := by
      have d := g.due
      rw [hal] at d
      unfold parse5
      rw [if_pos d, ← hal]
    exact q
  · have q : parse5 r.m r.p r.mv r.t true = some r := by
      have d := g.due
      rw [hal] at d
      unfold parse5
      rw [if_pos d, ← hal]
    exact q
theorem row_len {r : Row5} (g : Good r) : r.text.length ≤ 50 := by
  have o := g.ok
  have o1 := o.m
  have o2 := o.p
  have o3 := o.mv
  have o4 := o.t
  unfold Row5.text rowText
  cases r.al
  · have := len_base4 r.m r.p r.mv r.t
    rw [if_neg Bool.false_ne_true]
    omega
  · have := len_base4 r.m r.p r.mv r.t
    rw [if_pos rfl, len_app]
    have e5 : (" also" : Str).length = 5 := rfl
    omega
end LT
namespace LT
open PySem L2
theorem int_dec (a b : Int) : decide (V.int a = V.int b) = decide (a = b) := by
  by_cases h : a = b
  · rw [decide_eq_true h, h]
    exact decide_eq_true rfl
  · rw [decide_eq_false h]
    exact decide_eq_false fun z => h (V.int.inj z)
theorem four {ws : List Str} (h : ws.length = 4) : ∃ a b c d, ws = [a, b, c, d] := by
  match ws, h with
  | [a, b, c, d], _ => exact ⟨a, b, c, d, rfl⟩
theorem five {ws : List Str} (h : ws.length = 5) : ∃ a b c d e, ws = [a, b, c, d, e] := by
  match ws, h with
  | [a, b, c, d, e], _ => exact ⟨a, b, c, d, e, rfl⟩
theorem parse_else {ws : List Str} (h4 : ¬ ws.length = 4) (h5 : ¬ ws.length = 5) : parseWs ws = none := by
  match ws, h4, h5 with
  | [], _, _ => rfl
  | [_], _, _ => rfl
  | [_, _], _, _ => rfl
  | [_, _, _], _, _ => rfl
  | [_, _, _, _], h, _ => exact absurd rfl h
  | [_, _, _, _, _], _, h => exact absurd rfl h
  | _ :: _ :: _ :: _ :: _ :: _ :: _, _, _ => rfl
def spReadRow (C : Addr) : Sp := fun vs H Q _ => ∃ z : Str, vs = [.str z] ∧ z.length ≤ 100 ∧ PyData.strOk z = true ∧ (parseRow z = none → ∀ J, Same H J → Q .non J) ∧
  (∀ r, parseRow z = some r → Good r → ∀ x dx J, Same H J → H x = none → J x = some (.ins C dx r.fs) → Q (.ref x) J)
def tW (K : PySem.W.Frag) (i : Int) : TE := tOp (rIxL K) (tVar 1) (tC (.int i))
section
variable {P : Program} {w : World} {K : PySem.W.Frag} {mg : Str → Option Value} {base : Heap}
theorem scReadRow : FnScope ["line", "words", "also"] ["line"] (defScope sReadRow) := ⟨rfl, rfl, rfl, by decide +kernel, rfl, by decide +kernel, by decide +kernel⟩
theorem ok_readrow {C CE f g : Addr} {fd gd : FuncData} (F : Fun K "read_row" "read_row" sReadRow f fd) (T : Blt mg) (R : RowC K mg C) (mE : mg "InvalidRow" = some (.ref CE)) (te : PySem.W.exmOne K (.ref CE) (.ref CE) = some true) (M : Mk K C g)
    (G : FnOk P w K mg base (L2.CX P w) 3 g gd ["self", "mode", "pick", "move", "then", "also"] (spRow K C CE)) (bG : Binds K gd ["self", "mode", "pick", "move", "then", "also"] []) :
    FnOk P w K mg base CX0 5 f fd ["line"] (spReadRow C) := by
  refine F.ok scReadRow (fun vs H Q E h => ?_) (fun cdv A outer s H vs Q E hr h => ?_)
  · obtain ⟨z, rfl, _⟩ := h
    rfl
  obtain ⟨z, rfl, hz, hok, qN, qS⟩ := h
  refine ⟨_, pss_cons (ps_set (i := 1) scReadRow.nd rfl (Or.inl rfl) (pe_split (pv 0) pe_str))
    (pss_cons (ps_set (i := 2) scReadRow.nd rfl (Or.inl rfl) (pe_and (pe_cmpR op_eq (pe_callB call_len_seq (by rfl) T.len PySem.boot_len (pa_cons (pv 1) pa_nil)) pe_int (nomark _)) (pe_one (pe_cmpR op_eq (pe_ix ix_list (pv 1) pe_int (fun _ _ => rfl)) pe_str (nomark _)))))
    (pss_cons (ps_if (PW.pt (pw_and (pt_cmpR op_ne (pe_callB call_len_seq (by rfl) T.len PySem.boot_len (pa_cons (pv 1) pa_nil)) pe_int (nomark _)) (pw_and1 (pt_not (pt_val (pv 2)))))) (pss_one (ps_ret pe_non)) pss_nil)
    (pss_one (ps_try_only (tb := fun W => tRet (tMakeS C (spRow K C CE) [] (WE W) (tCons (tW K 0) (tCons (tW K 1) (tCons (tW K 2) (tCons (tW K 3) (tCons (tVar 2) tNil))))))) (ts := fun _ _ _ => tRet (tC .non)) (Wout := fun _ _ _ _ => False) rfl rfl ⟨rfl, by decide, Or.inl mE⟩ takes0
      (fun W pn xe tk _ => pss_one (ps_ret (by exact (pe_makeS M G hr (by rfl) R.mgC bG .nil (fun σ => passAt tk σ)
        (pa_cons (pe_ix ix_list (pv 1) pe_int (fun _ _ => rfl)) (pa_cons (pe_ix ix_list (pv 1) pe_int (fun _ _ => rfl)) (pa_cons (pe_ix ix_list (pv 1) pe_int (fun _ _ => rfl)) (pa_cons (pe_ix ix_list (pv 1) pe_int (fun _ _ => rfl)) (pa_cons (pv 2) pa_nil)))))))))
      (fun b oe cls d pn hz hf => pss_one (ps_ret pe_non)))))), ?_⟩
  refine ⟨_, rfl, ⟨_, rfl⟩, z, " ", rfl, rfl, rfl, Nat.le_of_lt (small1000 (by omega)), fun wl nwl => ?_⟩
  have s0 := new_same nwl (.lst ((Txt.split z " ").map V.str))
  have hS : SqL K (upd H wl (.lst ((Txt.split z " ").map V.str))) wl ((Txt.split z " ").map V.str) := SqL.of upd_same
  have words : ∀ w ∈ Txt.split z " ", w.length ≤ 100 ∧ PyData.strOk w = true := fun w hw => ⟨Nat.le_trans (split_mem sp_ok hw).2.1 hz, split_strOk sp_ok hok hw⟩
  unfold parseRow at qN qS
  revert hS words qN qS
  generalize upd H wl (.lst ((Txt.split z " ").map V.str)) = H1 at s0 ⊢
  generalize Txt.split z " " = ws
  intro qN qS hS words
  refine ⟨_, rfl, wl, _, rfl, .inl hS, rfl, _, rfl, ?_⟩
  by_cases h4 : ws.length = 4
  · obtain ⟨m, p, mv, t, rfl⟩ := four h4
    refine iteF ?_
    refine ⟨_, rfl, wl, _, rfl, .inl hS, rfl, _, rfl, ?_⟩
    refine iteF ?_
    refine ⟨_, rfl, wl, _, _, _, rfl, rfl, hS, rfl, _, rfl, wl, _, _, _, rfl, rfl, hS, rfl, _, rfl, wl, _, _, _, rfl, rfl, hS, rfl, _, rfl, wl, _, _, _, rfl, rfl, hS, rfl, _, rfl, fun x dx nx ndx ne => ?_⟩
    have s1 : Same H1 (upd (upd H1 dx (.own x)) x (.ins C dx [])) := fun b o e => by
      rw [upd_ne (ne_of_none e nx), upd_ne (ne_of_none e ndx)]
      exact e
    obtain ⟨w1, w2⟩ := words m (by simp)
    obtain ⟨w3, w4⟩ := words p (by simp)
    obtain ⟨w5, w6⟩ := words mv (by simp)
    obtain ⟨w7, w8⟩ := words t (by simp)
    refine ⟨x, dx, .str m, .str p, .str mv, .str t, .bl false, rfl, upd_same, str_arg w2 w1, str_arg w4 w3, str_arg w6 w5, str_arg w8 w7, bl_arg, fun wd e d hd => ?_, fun e => ⟨rfl, ?_⟩⟩
    · refine ⟨true, te, fun _ a0 _ => ?_, fun z => Bool.noConfusion z⟩
      refine qN ?_ _ (s0.trans (s1.trans (new_same hd _)))
      show parse5 m p mv t false = _
      unfold parse5
      rw [if_neg (by rw [e]; exact fun z => nomatch z)]
    · have ep : parseWs [m, p, mv, t] = some ⟨m, p, mv, t, false⟩ := by
        show parse5 m p mv t false = _
        unfold parse5
        rw [if_pos e]
      refine qS _ ep (parse5_good (show parse5 m p mv t false = _ by unfold parse5; rw [if_pos e])).1 x dx _ (fun b o h => ?_) (s0.free nx) ?_
      · rw [upd_upd]
        have h1 := s0 b o h
        rw [upd_ne (ne_of_none h1 nx), upd_ne (ne_of_none h1 ndx)]
        exact h1
      · exact upd_same
  · by_cases h5 : ws.length = 5
    · obtain ⟨m, p, mv, t, a, rfl⟩ := five h5
      refine iteT ⟨_, rfl, wl, _, _, _, rfl, rfl, hS, rfl, rfl, ?_⟩
      refine ⟨_, rfl, wl, _, rfl, .inl hS, rfl, _, rfl, ?_⟩
      refine iteT ⟨_, rfl, ?_⟩
      rw [str_dec]
      by_cases ha : a = "also"
      · subst ha
        refine ⟨_, rfl, iteF ?_⟩
        refine ⟨_, rfl, wl, _, _, _, rfl, rfl, hS, rfl, _, rfl, wl, _, _, _, rfl, rfl, hS, rfl, _, rfl, wl, _, _, _, rfl, rfl, hS, rfl, _, rfl, wl, _, _, _, rfl, rfl, hS, rfl, _, rfl, fun x dx nx ndx ne => ?_⟩
        have s1 : Same H1 (upd (upd H1 dx (.own x)) x (.ins C dx [])) := fun b o e => by
          rw [upd_ne (ne_of_none e nx), upd_ne (ne_of_none e ndx)]
          exact e
        obtain ⟨w1, w2⟩ := words m (by simp)
        obtain ⟨w3, w4⟩ := words p (by simp)
        obtain ⟨w5, w6⟩ := words mv (by simp)
        obtain ⟨w7, w8⟩ := words t (by simp)
        refine ⟨x, dx, .str m, .str p, .str mv, .str t, .bl true, rfl, upd_same, str_arg w2 w1, str_arg w4 w3, str_arg w6 w5, str_arg w8 w7, bl_arg, fun wd e d hd => ?_, fun e => ⟨rfl, ?_⟩⟩
        · refine ⟨true, te, fun _ a0 _ => ?_, fun z => Bool.noConfusion z⟩
          refine qN ?_ _ (s0.trans (s1.trans (new_same hd _)))
          (show (if ("also" : Str) = "also" then parse5 m p mv t true else none) = _; rw [if_pos rfl])
          unfold parse5
          rw [if_neg (by rw [e]; exact fun z => nomatch z)]
        · have ep : parseWs [m, p, mv, t, "also"] = some ⟨m, p, mv, t, true⟩ := by
            (show (if ("also" : Str) = "also" then parse5 m p mv t true else none) = _; rw [if_pos rfl])
            unfold parse5
            rw [if_pos e]
          refine qS _ ep (parse5_good (show parse5 m p mv t true = _ by unfold parse5; rw [if_pos e])).1 x dx _ (fun b o h => ?_) (s0.free nx) ?_
          · rw [upd_upd]
            have h1 := s0 b o h
            rw [upd_ne (ne_of_none h1 nx), upd_ne (ne_of_none h1 ndx)]
            exact h1
          · exact upd_same
      · rw [decide_eq_false ha]
        refine ⟨_, rfl, iteT ?_⟩
        refine qN ?_ _ s0
        show (if a = "also" then parse5 m p mv t true else none) = none
        rw [if_neg ha]
    · have e5 : decide (V.int ((ws.map V.str).length : Nat) = V.int 5) = false := by
        rw [int_dec, List.length_map]
        exact decide_eq_false (by omega)
      rw [e5]
      refine iteF ?_
      refine ⟨_, rfl, wl, _, rfl, .inl hS, rfl, _, rfl, ?_⟩
      have e4 : (!decide (V.int ((ws.map V.str).length : Nat) = V.int 4)) = true := by
        rw [int_dec, List.length_map, decide_eq_false (by omega)]
        rfl
      rw [e4]
      refine iteT ⟨_, rfl, _, rfl, iteT ?_⟩
      exact qN (parse_else h4 h5) _ s0
end
end LT
namespace L2
open PySem PySem.Spec PyProof.Rows
/-- c(e, ..): the i-th slot holds the class at C -/
def tMakeL (i : Nat) (C : Addr) (sp : Sp) (dvs : List V) (E : St → XK) (t : TA) : TE := fun σ H Q => σ[i]? = some (some (.ref C)) ∧ tMakeS C sp dvs E t σ H Q
theorem pe_makeL {X : Cx} {CX : CXT} {k i : Nat} {f C : Addr} {fd : FuncData} {ps : List Str} {sp : Sp} {E : St → XK} {x : Str} {p pos : Pos} {e : Expr} {es : List Expr} {t : TA} {ds : List Value} {dvs : List V}
    (M : Mk X.K C f) (F : FnOk X.prog X.w X.K X.mg X.base CX k f fd ps sp) (hr : Room (k + 1) X.A) (hN : X.N[i]? = some x) (hv : Vis X.env.scope x) (hb : Binds X.K fd ps ds) (hd : Vals dvs ds)
    (hx : ∀ σ, PassesAt CX X σ (E σ)) (ha : PA X (e :: es) t) (hdb : (x == ("__debug__" : Str)) = false := by decide) (hcd : (x == ("__classdict__" : Str)) = false := by decide)
    (he : starEach (e :: es) X.env = (false, eval e X.env) :: starEach es X.env := by rfl) (hpl : (backTo pos (starEach es X.env)).any (·.1) = false := by rfl) :
    PE X (.Call (.Name x p) (e :: es) [] pos) (tMakeL i C sp dvs E t) := by
  refine ⟨fun pins s σ H Q I ⟨slot, h⟩ => ?_⟩
  refine wpAny_Call_Name_kw (thn ((pe_var (pos := p) hN hv hdb hcd).run pins s σ H (fun v J => v = .ref C ∧ J = H) I ⟨.ref C, slot, rfl, rfl⟩) fun u s1 hh => ?_)
  obtain ⟨v, J, I1, rv, rfl, rfl⟩ := hh
  cases rv
  refine PySem.W.callWith_K (h₀ := X.base) I.ok.mod.kin M.kp (thn (ha.run pos pins s1 σ _ _ I1 h) fun us s2 hh => ?_) he hpl
  obtain ⟨vs, H2, I2, r, q⟩ := hh
  exact ⟨I2.kIn, run_makeS M F hr hb hd (hx σ) I2 r q⟩
end L2
namespace LT
open PySem L2
/-- the first mode that a line tells -/
def lineFirst (z : Str) : Option Str := match Txt.partition z " " with
  | (w, _, f) => if w = "first" ∧ nameP f = true then some f else none
theorem par_tail {S : List Nat} : ∀ {l acc a b : List Nat}, TL.par S acc l = some (a, b) → (∀ c ∈ b, c ∈ l) ∧ b.length ≤ l.length
  | [], acc, a, b, h => by cases h
  | c :: r, acc, a, b, h => by
    cases hp : TL.pre S (c :: r) with
    | true =>
      rw [TL.par_hit hp] at h
      have e : (c :: r).drop S.length = b := by
        have := Option.some.inj h
        exact (Prod.mk.inj this).2
      rw [← e]
      exact ⟨fun d hd => List.mem_of_mem_drop hd, by rw [List.length_drop]; omega⟩
    | false =>
      rw [TL.par_miss hp] at h
      obtain ⟨h1, h2⟩ := par_tail h
      exact ⟨fun d hd => List.mem_cons_of_mem _ (h1 d hd), by rw [List.length_cons]; omega⟩
theorem part_tail {x : Str} (ok : PyData.strOk x = true) (hl : x.length ≤ 100) : PyData.strOk (Txt.partition x " ").2.2 = true ∧ (Txt.partition x " ").2.2.length ≤ 100 := by
  rw [TL.partition_par x " " (by rw [sp_ok.1]; simp)]
  cases h : TL.par (TL.tl " ") [] (TL.tl x) with
  | none => exact ⟨(by decide +kernel : PyData.strOk Str.empty = true), (by decide +kernel : Str.empty.length ≤ 100)⟩
  | some p =>
    obtain ⟨a, b⟩ := p
    obtain ⟨h1, h2⟩ := par_tail h
    refine ⟨strOk_mem.mpr fun c hc => strOk_mem.mp ok c (h1 c hc), ?_⟩
    have e : (⟨b.toArray⟩ : Str).length = b.length := TL.len_tl _
    show (⟨b.toArray⟩ : Str).length ≤ 100
    rw [e]
    rw [TL.len_tl x] at hl
    omega
structure Parsed (ls : List Str) (rs : List Row5) (n : Nat) : Prop where
  len : rs.length = n
  each : ∀ j, j < n → ∃ l r, ls[j + 1]? = some l ∧ rs[j]? = some r ∧ parseRow l = some r
def spRead (K : PySem.W.Frag) (C CR CT : Addr) : Sp := fun vs H Q E => ∃ (z l0 : Str), vs = [.ref CR, .str z] ∧ z.length ≤ 10000 ∧ PyData.strOk z = true ∧ (Txt.split z "\n")[0]? = some l0 ∧ (∀ l ∈ Txt.split z "\n", l.length ≤ 100) ∧ (Txt.split z "\n").length ≤ 32 ∧
  (lineFirst l0 = none → ∀ d J, Same H J → J d = none → E (.ref CT) (some d) (upd J d (.xd [("at", .int 0)]))) ∧
  (∀ f, lineFirst l0 = some f → ∀ (i : Nat) l rs, (Txt.split z "\n")[i + 1]? = some l → parseRow l = none → Parsed (Txt.split z "\n") rs i → ∀ d J, Same H J → J d = none → E (.ref CT) (some d) (upd J d (.xd [("at", .int ((i + 1 : Nat) : Int))]))) ∧
  (∀ f rs, lineFirst l0 = some f → Parsed (Txt.split z "\n") rs ((Txt.split z "\n").length - 1) → ∀ x J, Same H J → H x = none → RuleAt K C CR J x f rs → Q (.ref x) J)
abbrev nRead : List Str := ["cls", "text", "lines", "word", "_", "first", "rows", "at", "row"]
section
variable {P : Program} {w : World} {K : PySem.W.Frag} {mg : Str → Option Value} {base : Heap}
theorem scRead : FnScope nRead ["cls", "text"] (defScope sRuleRead) := ⟨rfl, rfl, rfl, by decide +kernel, rfl, by decide +kernel, by decide +kernel⟩
/-- what Rule.read leans on -/
structure ReadG (P : Program) (w : World) (K : PySem.W.Frag) (mg : Str → Option Value) (base : Heap) (C CR CE CT : Addr) : Prop where
  row : RowC K mg C
  nm : ∃ (f : Addr) (fd : FuncData), FnOk P w K mg base CX0 1 f fd ["value"] (spIsName K) ∧ Binds K fd ["value"] [] ∧ PySem.W.keepIn K (.ref f) = true ∧ mg "is_name" = some (.ref f)
  rr : ∃ (f : Addr) (fd : FuncData), FnOk P w K mg base CX0 5 f fd ["line"] (spReadRow C) ∧ Binds K fd ["line"] [] ∧ PySem.W.keepIn K (.ref f) = true ∧ mg "read_row" = some (.ref f)
  ini : ∃ (f : Addr) (fd : FuncData), Mk K CR f ∧ FnOk P w K mg base (L2.CX P w) 3 f fd ["self", "first", "rows"] (spRuleI K C CR CE) ∧ Binds K fd ["self", "first", "rows"] []
  err : ∃ (f : Addr) (fd : FuncData), FnOk P w K mg base CX0 1 f fd ["self", "at"] (spErrA CT "at") ∧ Binds K fd ["self", "at"] [] ∧ PySem.W.findIn K (.ref CT) "__init__" = some (some (.ref f)) ∧ PySem.W.typeIn K (.ref f) = some (.type "function")
  oex : OexC K CT
  mT : mg "InvalidText" = some (.ref CT)
theorem ok_read {C CR CE CT f : Addr} {fd : FuncData} (F : Fun K "read" "Rule.read" sRuleRead f fd) (G : ReadG P w K mg base C CR CE CT) (T : Blt mg) :
    FnOk P w K mg base (L2.CX P w) 6 f fd ["cls", "text"] (spRead K C CR CT) := by
  obtain ⟨fN, fdN, GN, bN, kN, mN⟩ := G.nm
  obtain ⟨fR, fdR, GR, bR, kR, mR⟩ := G.rr
  obtain ⟨fI, fdI, MI, GI, bI⟩ := G.ini
  obtain ⟨fE, fdE, GE, bE, iE, tE⟩ := G.err
  refine F.okX scRead (fun vs H Q E h => ?_) (fun cdv A outer s H vs Q E hr h => ?_)
  · obtain ⟨z, l0, rfl, _⟩ := h
    rfl
  obtain ⟨z, l0, rfl, hz, hok, h0, hl, hn, kF, kB, kQ⟩ := h
  have hr1 : Room 1 _ := hr.mono (by decide)
  have hr2 : Room 2 _ := hr.mono (by decide)
  have hr4 : Room 4 _ := hr.mono (by decide)
  refine ⟨_, pss_cons (ps_set (i := 2) scRead.nd rfl (Or.inl rfl) (pe_split (pv 1) pe_str))
    (pss_cons (ps_asg (pe_partition (pe_ix ix_list (pv 2) pe_int (fun _ _ => rfl)) pe_str) (pg_tup rfl (pgs_cons (pg_name (i := 3) scRead.nd rfl (Or.inl rfl)) (pgs_cons (pg_name (i := 4) scRead.nd rfl (Or.inl rfl)) (pgs_cons (pg_name (i := 5) scRead.nd rfl (Or.inl rfl)) pgs_nil)))))
    (pss_cons (ps_if (PW.pt (pw_or (pt_cmpR op_ne (pv 3) pe_str (nomark _)) (pw_or1 (pt_not (pt_val (pe_call GN hr1 rfl mN kN bN .nil pass0 (pa_cons (pv 5) pa_nil)))))))
      (pss_one (ps_raise rfl (takes_of rfl rfl rfl rfl) (pmk_oex G.oex iE tE GE hr2 bE .nil pass0 rfl G.mT (pa_cons pe_int pa_nil)))) pss_nil)
    (pss_cons (ps_set (i := 6) scRead.nd rfl (Or.inl rfl) (pe_lst pa_nil))
    (pss_cons (ps_for PassesOwn.leaving rfl (pi_range2 (by rfl) T.range (pa_cons pe_int (pa_cons (pe_callB call_len_seq (by rfl) T.len PySem.boot_len (pa_cons (pv 2) pa_nil)) pa_nil))) (pg_name (i := 7) scRead.nd rfl (Or.inl rfl))
      (pss_cons (ps_set (i := 8) scRead.nd rfl (Or.inl rfl) (pe_call GR hr rfl mR kR bR .nil pass0 (pa_cons (pe_ix ix_list (pv 2) (pv 7) (fun _ _ => rfl)) pa_nil)))
      (pss_cons (ps_if (pt_cmpR op_isN (pv 8) pe_non (nomark _)) (pss_one (ps_raise rfl (takes_of rfl rfl rfl rfl) (pmk_oex G.oex iE tE GE hr2 bE .nil pass0 rfl G.mT (pa_cons (pv 7) pa_nil)))) pss_nil)
      (pss_one (ps_expr (pe_bm PySem.F.plainAttrs_list PySem.F.slot_list_append PySem.F.type_list_append mt_append (pv 6) (pa_cons (pv 8) pa_nil)))))))
    (pss_one (ps_ret (pe_makeL (i := 0) MI GI hr4 rfl (by first | exact Or.inl rfl | exact Or.inr (Or.inl rfl)) bI .nil (fun σ => passAt (takes_of rfl rfl rfl rfl) σ) (pa_cons (pv 5) (pa_cons (pv 6) pa_nil))))))))), ?_⟩
  refine ⟨_, rfl, ⟨_, rfl⟩, z, "\n", rfl, rfl, rfl, Nat.le_trans (Nat.add_le_add_right hz 2) (by decide), fun wl nwl => ?_⟩
  have s0 := new_same nwl (.lst ((Txt.split z "\n").map V.str))
  have w0 : upd H wl (.lst ((Txt.split z "\n").map V.str)) wl = some (.lst ((Txt.split z "\n").map V.str)) := upd_same
  have oks : ∀ l ∈ Txt.split z "\n", PyData.strOk l = true := fun l hw => split_strOk nl_ok hok hw
  revert w0 s0 h0 hl hn oks kF kB kQ
  generalize upd H wl (.lst ((Txt.split z "\n").map V.str)) = H1
  generalize Txt.split z "\n" = ls
  intro h0 hl hn kF kB kQ s0 w0 oks
  have at0 : atI (ls.map V.str) 0 = some (.str l0) := atI_nat (j := 0) (by rw [List.getElem?_map, h0]; rfl)
  have ml0 : l0 ∈ ls := List.mem_of_getElem? h0
  have ll0 := hl l0 ml0
  refine ⟨_, rfl, wl, _, _, _, rfl, rfl, SqL.of w0, at0, ⟨_, rfl⟩, l0, " ", rfl, rfl, rfl, Nat.le_of_lt (small1000 (by omega)), fun pt npt => ?_⟩
  have hok0 := oks l0 ml0
  have lf : lineFirst l0 = if (Txt.partition l0 " ").1 = "first" ∧ nameP (Txt.partition l0 " ").2.2 = true then some (Txt.partition l0 " ").2.2 else none := rfl
  have fok : PyData.strOk (Txt.partition l0 " ").2.2 = true ∧ (Txt.partition l0 " ").2.2.length ≤ 100 := part_tail hok0 (by omega)
  revert lf fok
  generalize Txt.partition l0 " " = pr
  obtain ⟨wd, us, f⟩ := pr
  intro lf fok
  dsimp only at lf fok
  have s1 := s0.trans (new_same npt (.tup [.str wd, .str us, .str f]))
  have w1 := new_same npt (.tup [V.str wd, .str us, .str f]) _ _ w0
  have p1 : upd H1 pt (.tup [.str wd, .str us, .str f]) pt = some (.tup [.str wd, .str us, .str f]) := upd_same
  refine ⟨pt, _, rfl, SqT.of p1, rfl, _, _, rfl, _, _, rfl, _, _, rfl, rfl, ?_⟩
  generalize upd H1 pt (.tup [.str wd, .str us, .str f]) = H2 at s1 w1 p1 ⊢
  refine ⟨_, rfl, rfl, _, rfl, ?_⟩
  rw [str_dec]
  by_cases c1 : wd = "first"
  · rw [decide_eq_true c1]
    refine iteF ⟨_, rfl, .str f, rfl, (str_arg fok.1 fok.2).kind G.row (C := C), _, rfl, ?_⟩
    have ef : nameV nameP (.str f) = nameP f := rfl
    rw [ef]
    cases c2 : nameP f with
    | false =>
      refine iteT ?_
      have e : lineFirst l0 = none := by rw [lf, if_neg (by rw [c2]; exact fun q => nomatch q.2)]
      exact raise_okA (fun _ _ q => q) fun d hd => kF e d H2 s1 hd
    | true =>
      have e : lineFirst l0 = some f := by rw [lf, if_pos ⟨c1, c2⟩]
      refine iteF ⟨(by show 0 ≤ sizeLine; decide), fun rl nrl => ?_⟩
      have s2 := s1.trans (new_same nrl (.lst []))
      have w2 := new_same nrl (.lst []) _ _ w1
      have wr : wl ≠ rl := fun q => by rw [← q, w1] at nrl; cases nrl
      have frl : H rl = none := s1.free nrl
      have r2 : upd H2 rl (.lst []) rl = some (.lst []) := upd_same
      generalize upd H2 rl (.lst []) = H3 at s2 w2 r2 ⊢
      refine ⟨_, rfl, wl, _, rfl, .inl (SqL.of w2), 1, _, rfl, ⟨by decide, by decide, by rw [List.length_map]; omega, by rw [List.length_map]; omega⟩,
        for_range (lo := 1) (n := (((ls.map V.str).length : Nat) - 1 : Int).toNat) (fun i σ J => ∃ v7 v8 rs xs, σ = [some (.ref CR), some (.str z), some (.ref wl), some (.str wd), some (.str us), some (.str f), some (.ref rl), v7, v8] ∧ Same H J ∧ J wl = some (.lst (ls.map V.str)) ∧
          Parsed ls rs i ∧ J rl = some (.lst xs) ∧ RowsIn C J xs rs) ?_ ?_ ?_⟩
      · exact ⟨none, none, [], [], rfl, s2, w2, ⟨rfl, fun j hj => absurd hj (Nat.not_lt_zero _)⟩, r2, rfl, fun i x q => nomatch q⟩
      · rintro i σ J hi ⟨v7, v8, rs, xs, rfl, sJ, jw, pa, jr, jR⟩
        have hi' : i + 1 < ls.length := by
          rw [List.length_map] at hi
          omega
        obtain ⟨l, el⟩ : ∃ l, ls[i + 1]? = some l := ⟨_, List.getElem?_eq_getElem hi'⟩
        have ati : atI (ls.map V.str) (1 + (i : Nat)) = some (.str l) := by
          have := atI_nat (xs := ls.map V.str) (j := i + 1) (v := .str l) (by rw [List.getElem?_map, el]; rfl)
          rwa [show ((i + 1 : Nat) : Int) = 1 + (i : Nat) by omega] at this
        have ml := List.mem_of_getElem? el
        refine ⟨_, rfl, _, rfl, wl, _, _, _, rfl, rfl, SqL.of jw, ati, l, rfl, hl l ml, oks l ml, fun pn J2 s3 => ?_, fun r pr gr x dx J2 s3 nx jx => ?_⟩
        · refine ⟨_, rfl, rfl, _, rfl, iteT ?_⟩
          refine raise_okA (v := .int (1 + (i : Nat))) (fun _ _ q => ⟨_, rfl, q⟩) fun d hd => ?_
          have k := kB f e i l rs el pn pa d J2 (sJ.trans s3) hd
          rwa [show ((i + 1 : Nat) : Int) = 1 + (i : Nat) by omega] at k
        · refine ⟨_, rfl, rfl, _, rfl, iteF ?_⟩
          have jr2 := s3 _ _ jr
          have lx : xs.length = i := by rw [jR.1, pa.len]
          refine ⟨_, rfl, .inl ⟨rfl, _, SqL.of jr2⟩, _, rfl, rl, _, _, rfl, rfl, jr2, small1000 (by omega), ?_⟩
          have sE : Same H J2 := sJ.trans s3
          have xr : x ≠ rl := fun q => by rw [q, jr2] at jx; cases jx
          refine ⟨_, _, rs ++ [r], xs ++ [.ref x], rfl, fun c o h => ?_, ?_, ⟨by rw [List.length_append, pa.len]; rfl, fun j hj => ?_⟩, upd_same, by rw [List.length_append, List.length_append, jR.1]; rfl, fun j y ey => ?_⟩
          · rw [upd_ne (ne_of_none h frl)]
            exact sE c o h
          · rw [upd_ne wr]
            exact s3 _ _ jw
          · rcases Nat.lt_succ_iff_lt_or_eq.mp hj with hj | hj
            · obtain ⟨l', r', q1, q2, q3⟩ := pa.each j hj
              exact ⟨l', r', q1, by rw [List.getElem?_append_left (by rw [pa.len]; exact hj)]; exact q2, q3⟩
            · subst hj
              exact ⟨l, r, el, by rw [← pa.len]; exact List.getElem?_concat_length, pr⟩
          · rcases get_snoc ey with q | ⟨q, rfl⟩
            · obtain ⟨b, r', q1, q2, ⟨dy, q3⟩, g'⟩ := jR.2 j y q
              refine ⟨b, r', q1, ?_, ⟨dy, ?_⟩, g'⟩
              · rw [List.getElem?_append_left (List.getElem?_eq_some_iff.mp q2).1]
                exact q2
              · have hb : b ≠ rl := fun q => by rw [q, jr] at q3; cases q3
                rw [upd_ne hb]
                exact s3 _ _ q3
            · refine ⟨x, r, rfl, ?_, ⟨dx, ?_⟩, gr⟩
              · rw [q, jR.1]
                exact List.getElem?_concat_length
              · rw [upd_ne xr]
                exact jx
      · rintro σ J ⟨v7, v8, rs, xs, rfl, sJ, jw, pa, jr, jR⟩
        have en : (((ls.map V.str).length : Nat) - 1 : Int).toNat = ls.length - 1 := by
          rw [List.length_map]
          omega
        rw [en] at pa
        have l31 : rs.length ≤ 31 := by
          rw [pa.len]
          omega
        refine ⟨rfl, _, rfl, _, rfl, fun x dx nx ndx ne => ?_⟩
        have s3 : Same J (upd (upd J dx (.own x)) x (.ins CR dx [])) := fun b o e => by
          rw [upd_ne (ne_of_none e nx), upd_ne (ne_of_none e ndx)]
          exact e
        refine ⟨x, dx, .str f, .ref rl, rfl, upd_same, (str_arg fok.1 fok.2).kind G.row (C := C), .inr (.inr ⟨f, rl, xs, rs, rfl, c2, rfl, .inl (SqL.of (s3 _ _ jr)), jR.mono s3, l31, fun L off ru => ⟨rfl, ?_⟩⟩)⟩
        have fx : H x = none := sJ.free nx
        refine kQ f rs e pa x L (fun c o h => ?_) fx ru
        exact off c o (ne_of_none h fx) ((sJ.trans s3) c o h)
  · rw [decide_eq_false c1]
    refine iteT ?_
    have e : lineFirst l0 = none := by rw [lf, if_neg (fun q => c1 q.1)]
    exact raise_okA (fun _ _ q => q) fun d hd => kF e d H2 s1 hd
end
end LT
namespace LT
open PySem L2
/-! ### lists of ints in order, each once -/
def insI (a : Int) : List Int → List Int
  | [] => [a]
  | b :: l => if a ≤ b then a :: b :: l else b :: insI a l
def sortI (l : List Int) : List Int := l.foldr insI []
def putI (a : Int) : List Int → List Int
  | [] => [a]
  | b :: l => if a < b then a :: b :: l else if a = b then b :: l else b :: putI a l
def canonI (l : List Int) : List Int := l.foldr putI []
theorem ins_perm (a : Int) : ∀ l : List Int, (insI a l).Perm (a :: l)
  | [] => List.Perm.refl _
  | b :: l => by
    unfold insI
    split
    · exact List.Perm.refl _
    · exact ((ins_perm a l).cons b).trans (List.Perm.swap a b l)
theorem ins_up {a : Int} : ∀ {l : List Int}, l.Pairwise (· ≤ ·) → (insI a l).Pairwise (· ≤ ·)
  | [], _ => List.pairwise_singleton _ _
  | b :: l, h => by
    obtain ⟨h1, h2⟩ := List.pairwise_cons.mp h
    unfold insI
    split
    · rename_i c
      refine List.pairwise_cons.mpr ⟨fun x hx => ?_, h⟩
      rcases List.mem_cons.mp hx with q | q
      · omega
      · have := h1 x q
        omega
    · rename_i c
      refine List.pairwise_cons.mpr ⟨fun x hx => ?_, ins_up h2⟩
      rcases List.mem_cons.mp ((ins_perm a l).mem_iff.mp hx) with q | q
      · omega
      · exact h1 x q
theorem sort_perm : ∀ l : List Int, (sortI l).Perm l
  | [] => List.Perm.refl _
  | a :: l => (ins_perm a (sortI l)).trans ((sort_perm l).cons a)
theorem sort_up : ∀ l : List Int, (sortI l).Pairwise (· ≤ ·)
  | [] => .nil
  | a :: l => ins_up (sort_up l)
theorem put_mem {a k : Int} : ∀ {l : List Int}, k ∈ putI a l ↔ k = a ∨ k ∈ l
  | [] => by simp [putI]
  | b :: l => by
    unfold putI
    split
    · simp
    · split
      · rename_i e
        subst e
        simp
      · rw [List.mem_cons, put_mem, List.mem_cons]
        exact ⟨fun h => h.elim (fun e => .inr (.inl e)) (fun h => h.elim .inl fun h => .inr (.inr h)), fun h => h.elim (fun e => .inr (.inl e)) fun h => h.elim .inl fun h => .inr (.inr h)⟩
theorem put_up {a : Int} : ∀ {l : List Int}, l.Pairwise (· < ·) → (putI a l).Pairwise (· < ·)
  | [], _ => List.pairwise_singleton _ _
  | b :: l, h => by
    obtain ⟨h1, h2⟩ := List.pairwise_cons.mp h
    unfold putI
    split
    · rename_i c
      refine List.pairwise_cons.mpr ⟨fun x hx => ?_, h⟩
      rcases List.mem_cons.mp hx with q | q
      · omega
      · have := h1 x q
        omega
    · split
      · exact h
      · refine List.pairwise_cons.mpr ⟨fun x hx => ?_, put_up h2⟩
        rcases put_mem.mp hx with q | q
        · omega
        · exact h1 x q
theorem canon_mem {k : Int} : ∀ {l : List Int}, k ∈ canonI l ↔ k ∈ l
  | [] => Iff.rfl
  | a :: l => by
    show k ∈ putI a (canonI l) ↔ _
    rw [put_mem, canon_mem, List.mem_cons]
theorem canon_up : ∀ l : List Int, (canonI l).Pairwise (· < ·)
  | [] => .nil
  | a :: l => put_up (canon_up l)
/-! ### what play tells, in one form -/
def osOf (rs : List (List Int)) : List (List Int) := rs.map sortI
def grantsL (rows : List Row5) (first : Str) (rs : List (List Int)) : List (List Int) := (List.range rs.length).map fun i => canonI (grantsAt rows first (osOf rs) i)
def doneL (rows : List Row5) (first : Str) (rs : List (List Int)) : List V := (List.range rs.length).map (doneAt rows first (osOf rs))
def modesL (rows : List Row5) (first : Str) (rs : List (List Int)) : List Str := (List.range (rs.length + 1)).map fun i => (stAt rows first (osOf rs) i).1
def ptrsL (rows : List Row5) (first : Str) (rs : List (List Int)) : List (Option Int) := (List.range (rs.length + 1)).map fun i => (stAt rows first (osOf rs) i).2
def faultsL (rows : List Row5) (first : Str) (rs : List (List Int)) : List V := faultsV (List.zipWith (fun o u : List Int => (o.length, u.length)) (osOf rs) (grantsL rows first rs))
/-- tuples of ints in a tuple -/
def GsAt (J : Hp) (gs : List V) (us : List (List Int)) : Prop := gs.length = us.length ∧ ∀ (j : Nat) (v : V), gs[j]? = some v → ∃ (q : Addr) (out : List Int), v = .ref q ∧ us[j]? = some out ∧ J q = some (.tup (out.map V.int))
theorem GsAt.monoX {J L : Hp} {gs : List V} {us : List (List Int)} (s : L3.Ex J L) (h : GsAt J gs us) : GsAt L gs us :=
  ⟨h.1, fun j v e => by
    obtain ⟨q, out, e1, e2, e3⟩ := h.2 j v e
    exact ⟨q, out, e1, e2, s _ _ e3⟩⟩
theorem GsAt.mono {J L : Hp} {gs : List V} {us : List (List Int)} (s : Same J L) (h : GsAt J gs us) : GsAt L gs us := h.monoX (L3.exOf s)
structure PlayedN (J : Hp) (CP x : Addr) (rows : List Row5) (first : Str) (rs : List (List Int)) : Prop where
  ex : ∃ (gs : List V) (dx t1 t2 t3 t4 t5 : Addr), J x = some (.ins CP dx (playFs (.ref t1) (.ref t2) (.ref t3) (.ref t4) (.ref t5))) ∧ J t1 = some (.tup gs) ∧ GsAt J gs (grantsL rows first rs) ∧ J t2 = some (.tup (doneL rows first rs)) ∧
    J t3 = some (.tup ((modesL rows first rs).map V.str)) ∧ J t4 = some (.tup ((ptrsL rows first rs).map ptrV)) ∧ J t5 = some (.tup (faultsL rows first rs))
theorem PlayedN.monoX {J L : Hp} {CP x : Addr} {rows : List Row5} {first : Str} {rs : List (List Int)} (s : L3.Ex J L) (h : PlayedN J CP x rows first rs) : PlayedN L CP x rows first rs := by
  obtain ⟨gs, dx, t1, t2, t3, t4, t5, h0, h1, h2, h3, h4, h5, h6⟩ := h.ex
  exact ⟨gs, dx, t1, t2, t3, t4, t5, s _ _ h0, s _ _ h1, h2.monoX s, s _ _ h3, s _ _ h4, s _ _ h5, s _ _ h6⟩
theorem PlayedN.mono {J L : Hp} {CP x : Addr} {rows : List Row5} {first : Str} {rs : List (List Int)} (s : Same J L) (h : PlayedN J CP x rows first rs) : PlayedN L CP x rows first rs := h.monoX (L3.exOf s)
theorem ext_get {α : Type} {a b : List α} (hl : a.length = b.length) (h : ∀ (i : Nat) x y, a[i]? = some x → b[i]? = some y → x = y) : a = b := by
  refine List.ext_getElem hl fun i h1 h2 => ?_
  exact h i _ _ (List.getElem?_eq_getElem h1) (List.getElem?_eq_getElem h2)
theorem PlayedAt.norm {J : Hp} {CP x : Addr} {rows : List Row5} {first : Str} {rs : List (List Int)} (h : PlayedAt J CP x rows first rs) : PlayedN J CP x rows first rs := by
  obtain ⟨os, us, gs, dx, t1, t2, t3, t4, t5, ln, op, h0, h1, hg, h2, h3, h4, h5⟩ := h.ex
  have eo : os = osOf rs := by
    refine ext_get (by rw [ln, osOf, List.length_map]) fun i o y e1 e2 => ?_
    obtain ⟨ns, er, pm, up⟩ := op i o e1
    rw [osOf, List.getElem?_map, er] at e2
    obtain rfl := Option.some.inj e2
    exact sorted_one up (sort_up ns) (pm.trans (sort_perm ns).symm)
  subst eo
  obtain ⟨g1, g2, g3⟩ := hg
  have eu : us = grantsL rows first rs := by
    refine ext_get (by rw [g2, grantsL, List.length_map, List.length_range]) fun i u y e1 e2 => ?_
    have hi : i < gs.length := by
      rw [g1, ← g2]
      exact (List.getElem?_eq_some_iff.mp e1).1
    obtain ⟨q, out, _, e4, _, up, mem⟩ := g3 i _ (List.getElem?_eq_getElem hi)
    rw [e1] at e4
    cases e4
    have hi' : i < rs.length := by omega
    rw [grantsL, List.getElem?_map, List.getElem?_range hi'] at e2
    obtain rfl := Option.some.inj e2
    exact lt_pairwise_one up (canon_up _) fun k => by rw [mem k, canon_mem]
  subst eu
  refine ⟨gs, dx, t1, t2, t3, t4, t5, h0, h1, ⟨by rw [g1, g2], fun j v e => ?_⟩, h2, ?_, ?_, h5⟩
  · obtain ⟨q, out, e1, e2, e3, _⟩ := g3 j v e
    exact ⟨q, out, e1, e2, e3⟩
  · rw [modesL, List.map_map]
    exact h3
  · rw [ptrsL, List.map_map]
    exact h4
/-! ### nested ints as data -/
def intsD (l : List Int) : PyData := .tuple (l.map .int)
def gsD (us : List (List Int)) : PyData := .tuple (us.map intsD)
theorem dp_ints {K : PySem.W.Frag} {H : Hp} : ∀ l : List Int, DpAll K H (l.map V.int) (l.map PyData.int)
  | [] => .nil
  | x :: l => .cons (.int x) (dp_ints l)
theorem dp_intsT {K : PySem.W.Frag} {H : Hp} {q : Addr} {l : List Int} (h : SqT K H q (l.map V.int)) : Dp K H (.ref q) (intsD l) := .tup h (dp_ints l)
theorem dp_all {K : PySem.W.Frag} {H : Hp} {α : Type} {f : α → PyData} : ∀ {gs : List V} {us : List α}, gs.length = us.length → (∀ (j : Nat) (v : V), gs[j]? = some v → ∃ u, us[j]? = some u ∧ Dp K H v (f u)) → DpAll K H gs (us.map f)
  | [], [], _, _ => .nil
  | [], _ :: _, h, _ => absurd h (by simp)
  | _ :: _, [], h, _ => absurd h (by simp)
  | g :: gs, u :: us, h, e => by
    obtain ⟨u', e1, e2⟩ := e 0 g rfl
    have : u = u' := by simpa using e1
    subst this
    exact .cons e2 (dp_all (by simpa using h) fun j v q => by
      obtain ⟨w, e3, e4⟩ := e (j + 1) v (by simpa using q)
      exact ⟨w, by simpa using e3, e4⟩)
theorem dp_gs {K : PySem.W.Frag} {H : Hp} {t : Addr} {gs : List V} {us : List (List Int)} (h : SqT K H t gs) (g : GsAt H gs us) : Dp K H (.ref t) (gsD us) :=
  .tup h (dp_all g.1 fun j v e => by
    obtain ⟨q, out, rfl, e2, e3⟩ := g.2 j v e
    exact ⟨out, e2, dp_intsT (SqT.of e3)⟩)
theorem ints_lay : ∀ l : List Int, PyData.canLayAll0 (l.map PyData.int) = true ∧ PyData.depthAll (l.map PyData.int) ≤ 1
  | [] => by simp [PyData.canLayAll0, PyData.depthAll]
  | x :: l => by
    obtain ⟨h1, h2⟩ := ints_lay l
    refine ⟨by simp [PyData.canLayAll0, PyData.canLay0, h1], ?_⟩
    show max (PyData.depth (.int x)) (PyData.depthAll (l.map PyData.int)) ≤ 1
    exact Nat.max_le.mpr ⟨by simp [PyData.depth], h2⟩
theorem gs_lay : ∀ us : List (List Int), PyData.canLayAll0 (us.map intsD) = true ∧ PyData.depthAll (us.map intsD) ≤ 3
  | [] => by simp [PyData.canLayAll0, PyData.depthAll]
  | u :: us => by
    obtain ⟨h1, h2⟩ := gs_lay us
    obtain ⟨k1, k2⟩ := ints_lay u
    refine ⟨by simp [PyData.canLayAll0, intsD, PyData.canLay0, h1, k1], ?_⟩
    show max (PyData.depth (.tuple (u.map PyData.int))) (PyData.depthAll (us.map intsD)) ≤ 3
    refine Nat.max_le.mpr ⟨?_, h2⟩
    simp only [PyData.depth]
    omega
theorem shaped_gs (us : List (List Int)) : SeqAt.shaped (gsD us) = true := by
  obtain ⟨h1, h2⟩ := gs_lay us
  show ((PyData.tuple (us.map intsD)).canLay0 && decide ((PyData.tuple (us.map intsD)).depth ≤ 64)) = true
  rw [Bool.and_eq_true, decide_eq_true_eq]
  refine ⟨by simpa [PyData.canLay0] using h1, ?_⟩
  simp only [PyData.depth]
  omega
theorem shaped_ints (l : List Int) : SeqAt.shaped (intsD l) = true := by
  obtain ⟨h1, h2⟩ := ints_lay l
  show ((PyData.tuple (l.map PyData.int)).canLay0 && decide ((PyData.tuple (l.map PyData.int)).depth ≤ 64)) = true
  rw [Bool.and_eq_true, decide_eq_true_eq]
  refine ⟨by simpa [PyData.canLay0] using h1, ?_⟩
  simp only [PyData.depth]
  omega
end LT
namespace LT
open PySem L2
/-! ### written data, as it is made -/
mutual
def Dt (H : Hp) : PyData → V → Prop
  | .none, v => v = .non
  | .bool b, v => v = .bl b
  | .int i, v => v = .int i
  | .str s, v => v = .str s
  | .list ds, v => ∃ a vs, v = .ref a ∧ H a = some (.lst vs) ∧ DtAll H ds vs
  | .tuple ds, v => ∃ a vs, v = .ref a ∧ H a = some (.tup vs) ∧ DtAll H ds vs
  | .dict _, _ => False
def DtAll (H : Hp) : List PyData → List V → Prop
  | [], vs => vs = []
  | d :: ds, vs => ∃ v ws, vs = v :: ws ∧ Dt H d v ∧ DtAll H ds ws
end
mutual
theorem dt_monoX {H J : Hp} (s : L3.Ex H J) : ∀ (d : PyData) (v : V), Dt H d v → Dt J d v
  | .none, _, h => h
  | .bool _, _, h => h
  | .int _, _, h => h
  | .str _, _, h => h
  | .list ds, _, ⟨a, vs, e, h, k⟩ => ⟨a, vs, e, s _ _ h, dtAll_monoX s ds vs k⟩
  | .tuple ds, _, ⟨a, vs, e, h, k⟩ => ⟨a, vs, e, s _ _ h, dtAll_monoX s ds vs k⟩
  | .dict _, _, h => h.elim
theorem dtAll_monoX {H J : Hp} (s : L3.Ex H J) : ∀ (ds : List PyData) (vs : List V), DtAll H ds vs → DtAll J ds vs
  | [], _, h => h
  | d :: ds, _, ⟨v, ws, e, h, k⟩ => ⟨v, ws, e, dt_monoX s d v h, dtAll_monoX s ds ws k⟩
end
theorem dt_mono {H J : Hp} (s : Same H J) : ∀ (d : PyData) (v : V), Dt H d v → Dt J d v := dt_monoX (L3.exOf s)
theorem dtAll_mono {H J : Hp} (s : Same H J) : ∀ (ds : List PyData) (vs : List V), DtAll H ds vs → DtAll J ds vs := dtAll_monoX (L3.exOf s)
mutual
theorem dt_dp {K : PySem.W.Frag} {H : Hp} : ∀ (d : PyData) (v : V), Dt H d v → Dp K H v d
  | .none, _, h => by
    have e : _ = V.non := h
    rw [e]
    exact .non
  | .bool b, _, h => by
    have e : _ = V.bl b := h
    rw [e]
    exact .bl b
  | .int i, _, h => by
    have e : _ = V.int i := h
    rw [e]
    exact .int i
  | .str x, _, h => by
    have e : _ = V.str x := h
    rw [e]
    exact .str x
  | .list ds, _, ⟨a, vs, e, h, k⟩ => by
    rw [e]
    exact .lst (SqL.of h) (dtAll_dp ds vs k)
  | .tuple ds, _, ⟨a, vs, e, h, k⟩ => by
    rw [e]
    exact .tup (SqT.of h) (dtAll_dp ds vs k)
  | .dict _, _, h => h.elim
theorem dtAll_dp {K : PySem.W.Frag} {H : Hp} : ∀ (ds : List PyData) (vs : List V), DtAll H ds vs → DpAll K H vs ds
  | [], _, h => by
    have e : _ = ([] : List V) := h
    rw [e]
    exact .nil
  | d :: ds, _, ⟨v, ws, e, h, k⟩ => by
    rw [e]
    exact .cons (dt_dp d v h) (dtAll_dp ds ws k)
end
theorem dtAll_len {H : Hp} : ∀ {ds : List PyData} {vs : List V}, DtAll H ds vs → vs.length = ds.length
  | [], _, h => by
    have e : _ = ([] : List V) := h
    rw [e]
    rfl
  | _ :: _, _, ⟨v, ws, e, _, k⟩ => by
    rw [e, List.length_cons, List.length_cons, dtAll_len k]
theorem dtAll_app {H : Hp} : ∀ {ds es : List PyData} {vs us : List V}, DtAll H ds vs → DtAll H es us → DtAll H (ds ++ es) (vs ++ us)
  | [], _, _, _, h, k => by
    have e : _ = ([] : List V) := h
    rw [e]
    exact k
  | _ :: _, _, _, _, ⟨v, ws, e, h, g⟩, k => by
    rw [e]
    exact ⟨v, _, rfl, h, dtAll_app g k⟩
theorem dtAll_drop {H : Hp} : ∀ {n : Nat} {ds : List PyData} {vs : List V}, DtAll H ds vs → DtAll H (ds.drop n) (vs.drop n)
  | 0, _, _, h => h
  | n + 1, [], _, h => by
    have e : _ = ([] : List V) := h
    rw [e]
    exact rfl
  | n + 1, _ :: _, _, ⟨v, ws, e, _, k⟩ => by
    rw [e]
    exact dtAll_drop (n := n) k
theorem dtAll_take {H : Hp} : ∀ {n : Nat} {ds : List PyData} {vs : List V}, DtAll H ds vs → DtAll H (ds.take n) (vs.take n)
  | 0, _, _, _ => rfl
  | n + 1, [], _, h => by
    have e : _ = ([] : List V) := h
    rw [e]
    exact rfl
  | n + 1, _ :: _, _, ⟨v, ws, e, h, k⟩ => by
    rw [e]
    exact ⟨v, _, rfl, h, dtAll_take (n := n) k⟩
theorem dtAll_rep {H : Hp} {d : PyData} {v : V} (h : Dt H d v) : ∀ n, DtAll H (List.replicate n d) (List.replicate n v)
  | 0 => rfl
  | n + 1 => ⟨v, _, rfl, h, dtAll_rep h n⟩
theorem dtAll_at {H : Hp} : ∀ {ds : List PyData} {vs : List V} {i : Nat} {d : PyData}, DtAll H ds vs → ds[i]? = some d → ∃ v, vs[i]? = some v ∧ Dt H d v
  | [], _, _, _, _, e => by simp at e
  | _ :: _, _, 0, _, ⟨v, ws, e1, h, _⟩, e => by
    rw [e1]
    have : _ = _ := Option.some.inj e
    subst this
    exact ⟨v, rfl, h⟩
  | _ :: _, _, i + 1, _, ⟨v, ws, e1, _, k⟩, e => by
    rw [e1]
    obtain ⟨u, q1, q2⟩ := dtAll_at (i := i) k (by simpa using e)
    exact ⟨u, by simpa using q1, q2⟩
/-- what is seen of a heap: all, or all but a list that grows -/
structure View (vw : Hp → Hp) (ok : Hp → Prop) : Prop where
  same : ∀ {H J : Hp}, ok H → Same H J → Same (vw H) (vw J) ∧ ok J
  new : ∀ {H : Hp} {p : Addr} {o : HO}, ok H → H p = none → vw (upd H p o) p = some o
theorem viewAll : View (fun H => H) (fun _ => True) := ⟨fun _ s => ⟨s, trivial⟩, fun _ _ => upd_same⟩
theorem viewOff (b : Addr) : View (fun H => offB H b) (fun H => ∃ o, H b = some o) :=
  ⟨fun ⟨o, h⟩ s => ⟨fun c u e => by
      obtain ⟨n, e⟩ := offB_some e
      show offB _ b c = some u
      rw [offB_ne n]
      exact s _ _ e, ⟨o, s _ _ h⟩⟩, fun {H p o} ⟨u, h⟩ n => by
      have : p ≠ b := fun q => by rw [q, h] at n; cases n
      show offB (upd H p o) b p = some o
      rw [offB_ne this]
      exact upd_same⟩
theorem off_put {H : Hp} {b : Addr} {o : HO} : offB (upd H b o) b = offB H b := by
  funext c
  by_cases h : c = b
  · simp [offB, h]
  · rw [offB_ne h, offB_ne h, upd_ne h]
def LitR (vw : Hp → Hp) (ok : Hp → Prop) (pre : L2.St → Hp → Prop) (t : TE) (d : PyData) : Prop := ∀ σ H (Q : VK), pre σ H → ok H → (∀ v J, Same H J → Dt (vw J) d v → Q v J) → t σ H Q
def LitA (vw : Hp → Hp) (ok : Hp → Prop) (pre : L2.St → Hp → Prop) (t : TA) (ds : List PyData) : Prop := ∀ σ H (Q : List V → Hp → Prop), pre σ H → ok H → (∀ vs J, Same H J → DtAll (vw J) ds vs → Q vs J) → t σ H Q
section
variable {vw : Hp → Hp} {ok : Hp → Prop} {pre : L2.St → Hp → Prop} {K : PySem.W.Frag}
theorem lit_int {n : Int} : LitR vw ok pre (tC (.int n)) (.int n) := fun _ _ _ _ _ q => q _ _ (Same.refl _) rfl
theorem lit_str {z : Str} : LitR vw ok pre (tC (.str z)) (.str z) := fun _ _ _ _ _ q => q _ _ (Same.refl _) rfl
theorem lit_non : LitR vw ok pre (tC .non) .none := fun _ _ _ _ _ q => q _ _ (Same.refl _) rfl
theorem la_nil : LitA vw ok pre tNil [] := fun _ _ _ _ _ q => q _ _ (Same.refl _) rfl
theorem la_cons (V0 : View vw ok) (mono : ∀ σ H J, pre σ H → Same H J → pre σ J) {t : TE} {ts : TA} {d : PyData} {ds : List PyData} (h : LitR vw ok pre t d) (hs : LitA vw ok pre ts ds) : LitA vw ok pre (tCons t ts) (d :: ds) :=
  fun σ H Q p o q => h σ H _ p o fun v J s1 h1 => hs σ J _ (mono _ _ _ p s1) (V0.same o s1).2 fun vs L s2 h2 =>
    q _ _ (s1.trans s2) ⟨v, vs, rfl, dt_mono (V0.same (V0.same o s1).2 s2).1 d v h1, h2⟩
theorem lit_tup (V0 : View vw ok) {t : TA} {ds : List PyData} (few : ds.length ≤ 1000) (h : LitA vw ok pre t ds) : LitR vw ok pre (tTup t) (.tuple ds) :=
  fun σ H Q p o q => h σ H _ p o fun vs J s1 h1 => ⟨by rw [dtAll_len h1]; exact Nat.le_of_lt (small1000 few), fun a na =>
    q _ _ (s1.trans (new_same na _)) ⟨a, vs, rfl, V0.new (V0.same o s1).2 na, dtAll_mono (V0.same (V0.same o s1).2 (new_same na _)).1 ds vs h1⟩⟩
theorem lit_lst (V0 : View vw ok) {t : TA} {ds : List PyData} (few : ds.length ≤ 1000) (h : LitA vw ok pre t ds) : LitR vw ok pre (tLst t) (.list ds) :=
  fun σ H Q p o q => h σ H _ p o fun vs J s1 h1 => ⟨by rw [dtAll_len h1]; exact Nat.le_of_lt (small1000 few), fun a na =>
    q _ _ (s1.trans (new_same na _)) ⟨a, vs, rfl, V0.new (V0.same o s1).2 na, dtAll_mono (V0.same (V0.same o s1).2 (new_same na _)).1 ds vs h1⟩⟩
theorem lit_cat (V0 : View vw ok) (sub : ∀ H, Same (vw H) H) (mono : ∀ σ H J, pre σ H → Same H J → pre σ J) {t u : TE} {ds es : List PyData} (few : ds.length + es.length ≤ 1000) (h : LitR vw ok pre t (.list ds)) (k : LitR vw ok pre u (.list es)) :
    LitR vw ok pre (tOp rCat t u) (.list (ds ++ es)) :=
  fun σ H Q p o q => h σ H _ p o fun v J s1 h1 => k σ J _ (mono _ _ _ p s1) (V0.same o s1).2 fun w L s2 h2 => by
    have o1 := (V0.same o s1).2
    have o2 := (V0.same o1 s2).2
    obtain ⟨a, vs, rfl, ha, g1⟩ := dt_mono (V0.same o1 s2).1 _ v h1
    obtain ⟨b, us, rfl, hb, g2⟩ := h2
    refine ⟨a, b, vs, us, rfl, rfl, sub _ _ _ ha, sub _ _ _ hb, ?_, fun c nc => ?_⟩
    · rw [dtAll_len g1, dtAll_len g2]
      exact Nat.le_of_lt (small1000 few)
    · have sc := new_same nc (.lst (vs ++ us))
      exact q _ _ ((s1.trans s2).trans sc) ⟨c, _, rfl, V0.new o2 nc, dtAll_mono (V0.same o2 sc).1 _ _ (dtAll_app g1 g2)⟩
theorem lit_var {i : Nat} {d : PyData} (h : ∀ σ H, pre σ H → ok H → ∃ v, σ[i]? = some (some v) ∧ Dt (vw H) d v) : LitR vw ok pre (tVar i) d := fun σ H Q p o q => by
  obtain ⟨v, e, g⟩ := h σ H p o
  exact ⟨v, e, q _ _ (Same.refl _) g⟩
end
end LT
namespace LT
open PySem L2
/-- what some slots hold -/
def SlotsD (vw : Hp → Hp) (ok : Hp → Prop) (L : List (Nat × PyData)) (σ : L2.St) (H : Hp) : Prop := ok H ∧ ∀ p ∈ L, ∃ v, σ[p.1]? = some (some v) ∧ Dt (vw H) p.2 v
section
variable {vw : Hp → Hp} {ok : Hp → Prop} {L : List (Nat × PyData)}
theorem slots_mono (V0 : View vw ok) : ∀ σ H J, SlotsD vw ok L σ H → Same H J → SlotsD vw ok L σ J := fun σ H J ⟨o, h⟩ s => ⟨(V0.same o s).2, fun p hp => by
  obtain ⟨v, e, g⟩ := h p hp
  exact ⟨v, e, dt_mono (V0.same o s).1 _ v g⟩⟩
theorem slots_set (V0 : View vw ok) {σ : L2.St} {H : Hp} {i : Nat} {d : PyData} {v : V} (h : SlotsD vw ok L σ H) (g : Dt (vw H) d v) (hi : i < σ.length) (nw : (L.all fun p => p.1 != i) = true) : SlotsD vw ok ((i, d) :: L) (σ.set i (some v)) H :=
  ⟨h.1, fun p hp => by
    rcases List.mem_cons.mp hp with rfl | hp
    · exact ⟨v, by simp [hi], g⟩
    · obtain ⟨u, e, k⟩ := h.2 p hp
      have n : p.1 ≠ i := by simpa using List.all_eq_true.mp nw p hp
      exact ⟨u, by rw [List.getElem?_set_ne (Ne.symm n)]; exact e, k⟩⟩
theorem lit_slot {i : Nat} {d : PyData} (m : (i, d) ∈ L) : LitR vw ok (SlotsD vw ok L) (tVar i) d := lit_var fun σ H p _ => p.2 (i, d) m
theorem lit_rep (V0 : View vw ok) (sub : ∀ H, Same (vw H) H) {t : TE} {d : PyData} {n : Nat} (few : n ≤ 1000) (h : LitR vw ok (SlotsD vw ok L) t (.list [d])) : LitR vw ok (SlotsD vw ok L) (tOp rRep t (tC (.int (n : Nat)))) (.list (List.replicate n d)) :=
  fun σ H Q p o q => h σ H _ p o fun v J s1 ⟨a, vs, e, ha, u, ws, e2, g, e3⟩ => by
    have e3' : ws = [] := e3
    subst e3' e2
    refine ⟨a, (n : Nat), _, e, rfl, sub _ _ _ ha, by omega, by omega, ?_, fun c nc => ?_⟩
    · show 1 * (n : Int).toNat ≤ sizeLine
      exact Nat.le_of_lt (small1000 (by omega))
    · have sc := new_same nc (.lst (List.replicate (n : Int).toNat [u]).flatten)
      have o1 := (V0.same o s1).2
      have er : (List.replicate (n : Int).toNat [u]).flatten = List.replicate n u := by simp
      refine q _ _ (s1.trans sc) ⟨c, _, rfl, V0.new o1 nc, ?_⟩
      rw [er]
      rw [er] at sc
      exact dtAll_rep (dt_mono (V0.same o1 sc).1 _ _ g) n
theorem lit_from1 (V0 : View vw ok) (sub : ∀ H, Same (vw H) H) {K : PySem.W.Frag} {t : TE} {d : PyData} {ds : List PyData} (h : LitR vw ok (SlotsD vw ok L) t (.list (d :: ds))) : LitR vw ok (SlotsD vw ok L) (tSl (rSlL K) t (tPart (tC (.int 1))) tNoPart) (.list ds) :=
  fun σ H Q p o q => h σ H _ p o fun v J s1 ⟨a, vs, e, ha, u, ws, e2, g, k⟩ => by
    subst e2
    refine ⟨1, rfl, a, u :: ws, e, SqL.of (sub _ _ _ ha), fun c nc => ?_⟩
    have ec : cutV (u :: ws) (some 1) none = ws := by
      have e1 : HT.sIx (u :: ws).length 0 (some 1) = 1 := by
        have := HT.sIx_nat (u :: ws).length 0 1
        rw [List.length_cons] at this ⊢
        exact this.trans (Nat.min_eq_left (by omega))
      have e2 : HT.sIx (u :: ws).length (u :: ws).length none = (u :: ws).length := rfl
      unfold cutV
      rw [e1, e2]
      simp
    rw [ec]
    have sc := new_same nc (.lst ws)
    have o1 := (V0.same o s1).2
    exact q _ _ (s1.trans sc) ⟨c, _, rfl, V0.new o1 nc, dtAll_mono (V0.same o1 sc).1 _ _ k⟩
end
/-- what is new since H0; all, or all but a list that grows -/
def okN (H0 : Hp) : Hp → Prop := fun J => Same H0 J
def okG (H0 : Hp) (b : Addr) : Hp → Prop := fun J => (∃ o, J b = some o) ∧ Same H0 J
def vwG (H0 : Hp) (b : Addr) : Hp → Hp := fun J => offB (frs H0 J) b
theorem viewN (H0 : Hp) : View (frs H0) (okN H0) :=
  ⟨fun o s => ⟨fun c u e => by
      obtain ⟨n, e⟩ := frs_some e
      rw [frs_of n]
      exact s _ _ e, Same.trans o s⟩, fun o n => by
      rw [frs_of (Same.free o n)]
      exact upd_same⟩
theorem viewG (H0 : Hp) (b : Addr) : View (vwG H0 b) (okG H0 b) :=
  ⟨fun ⟨⟨o, h⟩, k⟩ s => ⟨fun c u e => by
      obtain ⟨n, e⟩ := offB_some e
      obtain ⟨m, e⟩ := frs_some e
      show offB _ b c = some u
      rw [offB_ne n, frs_of m]
      exact s _ _ e, ⟨o, s _ _ h⟩, Same.trans k s⟩, fun {H p o} ⟨⟨u, h⟩, k⟩ n => by
      have : p ≠ b := fun q => by rw [q, h] at n; cases n
      show offB _ b p = some o
      rw [offB_ne this, frs_of (Same.free k n)]
      exact upd_same⟩
theorem subN (H0 : Hp) : ∀ H, Same (frs H0 H) H := fun _ => frs_sub
theorem subG (H0 : Hp) (b : Addr) : ∀ H, Same (vwG H0 b H) H := fun _ => Same.trans offB_sub frs_sub
theorem vwG_put {H0 H : Hp} {b : Addr} {o : HO} : vwG H0 b (upd H b o) = vwG H0 b H := by
  funext c
  show offB (frs H0 (upd H b o)) b c = offB (frs H0 H) b c
  by_cases h : c = b
  · simp [offB, h]
  · rw [offB_ne h, offB_ne h]
    unfold frs
    split
    · rfl
    · rw [upd_ne h]
/-- a list that grows, of written data -/
structure FoundAt (H0 H : Hp) (σ : L2.St) (fl : Addr) (xs : List V) (ds : List PyData) (L : List (Nat × PyData)) (n : Nat) : Prop where
  slot : σ[1]? = some (some (.ref fl))
  len : σ.length = n
  at_ : H fl = some (.lst xs)
  all : DtAll (vwG H0 fl H) ds xs
  pre : SlotsD (vwG H0 fl) (okG H0 fl) L σ H
  new : H0 fl = none
theorem FoundAt.same {H0 H : Hp} {σ : L2.St} {fl : Addr} {xs : List V} {ds : List PyData} {L : List (Nat × PyData)} {n : Nat} (h : FoundAt H0 H σ fl xs ds L n) : Same H0 H := h.pre.1.2
theorem FoundAt.more {H0 H J : Hp} {σ : L2.St} {fl : Addr} {xs : List V} {ds : List PyData} {L : List (Nat × PyData)} {n : Nat} (h : FoundAt H0 H σ fl xs ds L n) (s : Same H J) : FoundAt H0 J σ fl xs ds L n :=
  ⟨h.slot, h.len, s _ _ h.at_, dtAll_mono ((viewG H0 fl).same h.pre.1 s).1 _ _ h.all, slots_mono (viewG H0 fl) _ _ _ h.pre s, h.new⟩
theorem FoundAt.app {H0 H J : Hp} {σ : L2.St} {fl : Addr} {xs : List V} {ds : List PyData} {L : List (Nat × PyData)} {n : Nat} {d : PyData} {v : V} (h0 : FoundAt H0 H σ fl xs ds L n) (s : Same H J) (g : Dt (vwG H0 fl J) d v) :
    FoundAt H0 (upd J fl (.lst (xs ++ [v]))) σ fl (xs ++ [v]) (ds ++ [d]) L n := by
  have h := h0.more s
  refine ⟨h.slot, h.len, upd_same, ?_, ⟨⟨⟨_, upd_same⟩, fun c o e => ?_⟩, fun p hp => ?_⟩, h.new⟩
  · rw [vwG_put]
    exact dtAll_app h.all ⟨v, [], rfl, g, rfl⟩
  · rw [upd_ne (ne_of_none e h.new)]
    exact h.same _ _ e
  · obtain ⟨u, e, k⟩ := h.pre.2 p hp
    refine ⟨u, e, ?_⟩
    rw [vwG_put]
    exact k
theorem FoundAt.set {H0 H J : Hp} {σ : L2.St} {fl : Addr} {xs : List V} {ds : List PyData} {L : List (Nat × PyData)} {n : Nat} {d : PyData} {v : V} {i : Nat} (h0 : FoundAt H0 H σ fl xs ds L n) (s : Same H J) (g : Dt (vwG H0 fl J) d v) (hi : i < n) (h1 : i ≠ 1) (nw : (L.all fun p => p.1 != i) = true) :
    FoundAt H0 J (σ.set i (some v)) fl xs ds ((i, d) :: L) n := by
  have h := h0.more s
  exact ⟨by rw [List.getElem?_set_ne h1]; exact h.slot, by rw [List.length_set]; exact h.len, h.at_, h.all, slots_set (viewG H0 fl) h.pre g (by rw [h.len]; exact hi) nw, h.new⟩
theorem FoundAt.few {H0 H : Hp} {σ : L2.St} {fl : Addr} {xs : List V} {ds : List PyData} {L : List (Nat × PyData)} {n : Nat} (h : FoundAt H0 H σ fl xs ds L n) (hd : ds.length ≤ 100) : xs.length < sizeLine := by
  rw [dtAll_len h.all]
  exact small1000 (by omega)
theorem found_start {H0 J : Hp} {σ : L2.St} {fl : Addr} {vs : List V} {ds : List PyData} {L : List (Nat × PyData)} {m : Nat} (n : J fl = none) (g : DtAll (frs H0 J) ds vs) (p : SlotsD (frs H0) (okN H0) L σ J) (nw : (L.all fun p => p.1 != 1) = true) (hl : σ.length = m) (hm : 1 < m) :
    FoundAt H0 (upd J fl (.lst vs)) (σ.set 1 (some (.ref fl))) fl vs ds L m := by
  have s : Same H0 J := p.1
  have sub : Same (frs H0 J) (vwG H0 fl (upd J fl (.lst vs))) := fun c o e => by
    obtain ⟨e0, e⟩ := frs_some e
    have : c ≠ fl := ne_of_none e n
    show offB (frs H0 (upd J fl (.lst vs))) fl c = some o
    rw [offB_ne this, frs_of e0, upd_ne this]
    exact e
  refine ⟨by simp [hl, hm], by rw [List.length_set]; exact hl, upd_same, dtAll_mono sub _ _ g, ⟨⟨⟨_, upd_same⟩, s.trans (new_same n _)⟩, fun p' hp => ?_⟩, s.free n⟩
  obtain ⟨v, e, k⟩ := p.2 p' hp
  have m : p'.1 ≠ 1 := by simpa using List.all_eq_true.mp nw p' hp
  exact ⟨v, by rw [List.getElem?_set_ne (Ne.symm m)]; exact e, dt_mono sub _ _ k⟩
theorem FoundAt.news {H0 H : Hp} {σ : L2.St} {fl : Addr} {xs : List V} {ds : List PyData} {L : List (Nat × PyData)} {n : Nat} (h : FoundAt H0 H σ fl xs ds L n) : DtAll (frs H0 H) ds xs := dtAll_mono offB_sub _ _ h.all
theorem seq_set {t : TE} {i : Nat} {r : TS} {D : Ends} {σ : L2.St} {H : Hp} (h : t σ H fun v J => r D (σ.set i (some v)) J) : tSeq (tAsg t (gName i)) r D σ H := h
theorem seq_lst {t : TA} {i : Nat} {r : TS} {D : Ends} {σ : L2.St} {H : Hp} (h : t σ H fun vs J => vs.length ≤ sizeLine ∧ ∀ p, J p = none → r D (σ.set i (some (.ref p))) (upd J p (.lst vs))) : tSeq (tAsg (tLst t) (gName i)) r D σ H := h
theorem seq_drop {t : TE} {r : TS} {D : Ends} {σ : L2.St} {H : Hp} (h : t σ H fun _ J => r D σ J) : tSeq (tDrop t) r D σ H := h
end LT
namespace LT
open PySem L2 TL
/-! ### the text of a rule -/
def firstLine (first : Str) : Str := "first " ++ first
def ruleText (first : Str) (rows : List Row5) : Str := Txt.join "\n" (firstLine first :: rows.map Row5.text)
theorem az_small : ∀ c ∈ az, c ≠ 10 ∧ c ≠ 32 ∧ c < 128 := by decide +kernel
theorem picks_small : ∀ z ∈ picks, ∀ c ∈ z.cps.toList, c ≠ 10 ∧ c < 128 := by decide +kernel
theorem moves_small : ∀ z ∈ moves, ∀ c ∈ z.cps.toList, c ≠ 10 ∧ c < 128 := by decide +kernel
theorem row_signs {r : Row5} (g : Good r) : ∀ c ∈ tl r.text, c ≠ 10 ∧ c < 128 := by
  intro c hc
  have hc' : c ∈ r.text.cps.toList := hc
  rw [text_c] at hc'
  have tail : ∀ c ∈ tailC r.al, c ≠ 10 ∧ c < 128 := by
    cases r.al <;> decide +kernel
  simp only [List.mem_append, List.mem_cons] at hc'
  rcases hc' with h | rfl | h | rfl | h | rfl | h | h
  · have := az_small c (g.m.az c h)
    exact ⟨this.1, this.2.2⟩
  · decide
  · exact picks_small _ g.p c h
  · decide
  · exact moves_small _ g.mv c h
  · decide
  · have := az_small c (g.t.az c h)
    exact ⟨this.1, this.2.2⟩
  · exact tail c h
theorem first_signs {first : Str} (h : Wd first) : ∀ c ∈ tl (firstLine first), c ≠ 10 ∧ c < 128 := by
  intro c hc
  unfold firstLine at hc
  rw [tl_append, List.mem_append] at hc
  rcases hc with hc | hc
  · exact (by decide +kernel : ∀ c ∈ tl ("first " : Str), c ≠ 10 ∧ c < 128) c hc
  · have := az_small c (h.az c hc)
    exact ⟨this.1, this.2.2⟩
theorem first_len {first : Str} (h : Wd first) : (firstLine first).length ≤ 10 := by
  unfold firstLine
  rw [len_app]
  have e : ("first " : Str).length = 6 := rfl
  have := h.len
  omega
theorem join_mem {y : Str} : ∀ {ps : List Str} {c : Nat}, c ∈ tl (Txt.join y ps) → c ∈ tl y ∨ ∃ p ∈ ps, c ∈ tl p := by
  intro ps c h
  rw [join_eq, tl_join] at h
  have go : ∀ (ls : List (List Nat)) (c : Nat), c ∈ joinL (tl y) ls → c ∈ tl y ∨ ∃ p ∈ ls, c ∈ p := by
    intro ls
    induction ls with
    | nil => intro c h; cases h
    | cons p ls ih =>
      intro c h
      cases ls with
      | nil => exact .inr ⟨p, List.mem_cons_self, h⟩
      | cons q ls =>
        have h' : c ∈ p ++ (tl y ++ joinL (tl y) (q :: ls)) := h
        rw [List.mem_append, List.mem_append] at h'
        rcases h' with h | h | h
        · exact .inr ⟨p, List.mem_cons_self, h⟩
        · exact .inl h
        · rcases ih c h with k | ⟨p', m, k⟩
          · exact .inl k
          · exact .inr ⟨p', List.mem_cons_of_mem _ m, k⟩
  rcases go _ _ h with k | ⟨p, m, k⟩
  · exact .inl k
  · obtain ⟨q, mq, rfl⟩ := List.mem_map.mp m
    exact .inr ⟨q, mq, k⟩
theorem join_len {y : Str} {n : Nat} : ∀ {ps : List Str}, (∀ p ∈ ps, p.length ≤ n) → (Txt.join y ps).length ≤ ps.length * (n + y.length) := by
  intro ps h
  rw [join_eq]
  refine Nat.le_trans (StrLaws.join_length_le y ps) ?_
  induction ps with
  | nil => simp
  | cons p ps ih =>
    have h1 := h p List.mem_cons_self
    have h2 := ih fun q m => h q (List.mem_cons_of_mem _ m)
    simp only [List.map_cons, List.sum_cons, List.length_cons, Nat.succ_mul] at h2 ⊢
    omega
structure TextOk (first : Str) (rows : List Row5) (z : Str) : Prop where
  len : z.length ≤ 10000
  ok : PyData.strOk z = true
  cut : Txt.split z "\n" = firstLine first :: rows.map Row5.text
  fst : lineFirst (firstLine first) = some first
  each : ∀ l ∈ firstLine first :: rows.map Row5.text, l.length ≤ 100
theorem text_ok {first : Str} {rows : List Row5} (hf : Wd first) (hr : ∀ r ∈ rows, Good r) (few : rows.length ≤ 31) : TextOk first rows (ruleText first rows) := by
  have lens : ∀ l ∈ firstLine first :: rows.map Row5.text, l.length ≤ 50 := fun l hl => by
    rcases List.mem_cons.mp hl with rfl | hl
    · have := first_len hf
      omega
    · obtain ⟨r, m, rfl⟩ := List.mem_map.mp hl
      exact row_len (hr r m)
  have signs : ∀ l ∈ firstLine first :: rows.map Row5.text, ∀ c ∈ tl l, c ≠ 10 ∧ c < 128 := fun l hl => by
    rcases List.mem_cons.mp hl with rfl | hl
    · exact first_signs hf
    · obtain ⟨r, m, rfl⟩ := List.mem_map.mp hl
      exact row_signs (hr r m)
  refine ⟨?_, ?_, ?_, ?_, fun l hl => Nat.le_trans (lens l hl) (by decide)⟩
  · refine Nat.le_trans (join_len (n := 50) lens) ?_
    rw [List.length_cons, List.length_map]
    have e : ("\n" : Str).length = 1 := rfl
    rw [e]
    omega
  · refine strOk_mem.mpr fun c hc => ?_
    rcases join_mem hc with k | ⟨p, m, k⟩
    · exact (by decide +kernel : ∀ c ∈ tl ("\n" : Str), c < 0x110000) c k
    · have := (signs p m c k).2
      omega
  · exact split_join nl_ok.1 nl_ok.2 (by simp) fun p m q => (signs p m 10 q).1 rfl
  · unfold lineFirst firstLine
    have e : ("first " : Str) ++ first = "first" ++ " " ++ first := by
      have : ("first " : Str) = "first" ++ " " := by decide +kernel
      rw [this]
    rw [e, partition_app sp_ok.1 (by decide +kernel)]
    exact if_pos ⟨rfl, hf.name⟩
theorem parsed_one {first : Str} {rows rs : List Row5} (hr : ∀ r ∈ rows, Good r) (h : Parsed (firstLine first :: rows.map Row5.text) rs ((firstLine first :: rows.map Row5.text).length - 1)) : rs = rows := by
  have hl := h.len
  rw [List.length_cons, List.length_map] at hl
  refine ext_get (by omega) fun i r s e1 e2 => ?_
  have hi := (List.getElem?_eq_some_iff.mp e2).1
  obtain ⟨l, r', q1, q2, q3⟩ := h.each i (by rw [List.length_cons, List.length_map]; omega)
  rw [List.getElem?_cons_succ, List.getElem?_map, e2] at q1
  obtain rfl := Option.some.inj q1
  rw [parse_row (hr s (List.mem_of_getElem? e2))] at q3
  rw [e1] at q2
  cases q2
  cases q3
  rfl
/-- what a call of Rule.read with such a text asks -/
structure ReadOk (first : Str) (rows : List Row5) (z : Str) : Prop where
  l0 : (Txt.split z "\n")[0]? = some (firstLine first)
  each : ∀ l ∈ Txt.split z "\n", l.length ≤ 100
  few : (Txt.split z "\n").length ≤ 32
  no0 : lineFirst (firstLine first) = none → False
  noB : ∀ f, lineFirst (firstLine first) = some f → ∀ (i : Nat) l rs, (Txt.split z "\n")[i + 1]? = some l → parseRow l = none → Parsed (Txt.split z "\n") rs i → False
  one : ∀ f rs, lineFirst (firstLine first) = some f → Parsed (Txt.split z "\n") rs ((Txt.split z "\n").length - 1) → f = first ∧ rs = rows
theorem read_ok {first : Str} {rows : List Row5} {z : Str} (t : TextOk first rows z) (hr : ∀ r ∈ rows, Good r) (few : rows.length ≤ 31) : ReadOk first rows z := by
  refine ⟨by rw [t.cut]; rfl, by rw [t.cut]; exact t.each, by rw [t.cut, List.length_cons, List.length_map]; omega, fun e => ?_, fun f e i l rs el pn _ => ?_, fun f rs e pa => ?_⟩
  · rw [t.fst] at e
    cases e
  · rw [t.cut, List.getElem?_cons_succ, List.getElem?_map] at el
    cases er : rows[i]? with
    | none =>
      rw [er] at el
      cases el
    | some r =>
      rw [er] at el
      obtain rfl := Option.some.inj el
      rw [parse_row (hr r (List.mem_of_getElem? er))] at pn
      cases pn
  · rw [t.fst] at e
    cases e
    rw [t.cut] at pa
    exact ⟨rfl, parsed_one hr pa⟩
end LT
namespace LT
open PySem L2
/-! ### the beginning of a play -/
theorem grants_len {rows : List Row5} {first : Str} {rs : List (List Int)} : (grantsL rows first rs).length = rs.length := by simp [grantsL]
theorem done_len {rows : List Row5} {first : Str} {rs : List (List Int)} : (doneL rows first rs).length = rs.length := by simp [doneL]
theorem modes_len {rows : List Row5} {first : Str} {rs : List (List Int)} : (modesL rows first rs).length = rs.length + 1 := by simp [modesL]
theorem ptrs_len {rows : List Row5} {first : Str} {rs : List (List Int)} : (ptrsL rows first rs).length = rs.length + 1 := by simp [ptrsL]
theorem st_take {rows : List Row5} {first : Str} {os : List (List Int)} {n : Nat} : ∀ i, i ≤ n → stAt rows first (os.take n) i = stAt rows first os i
  | 0, _ => rfl
  | i + 1, h => by
    have e : (os.take n)[i]? = os[i]? := by rw [List.getElem?_take, if_pos (by omega)]
    show (match (os.take n)[i]? with | none => _ | some o => _) = (match os[i]? with | none => _ | some o => _)
    rw [e, st_take i (by omega)]
theorem os_take {rs : List (List Int)} {n : Nat} : osOf (rs.take n) = (osOf rs).take n := by
  unfold osOf
  rw [List.map_take]
theorem grants_take {rows : List Row5} {first : Str} {rs : List (List Int)} {n : Nat} : grantsL rows first (rs.take n) = (grantsL rows first rs).take n := by
  refine ext_get (by simp [grantsL]) fun i x y e1 e2 => ?_
  have h1 := (List.getElem?_eq_some_iff.mp e1).1
  simp only [grantsL, List.length_map, List.length_range, List.length_take] at h1
  rw [List.getElem?_take, if_pos (by omega)] at e2
  unfold grantsL at e1 e2
  rw [List.getElem?_map, List.getElem?_range (by rw [List.length_take]; omega)] at e1
  rw [List.getElem?_map, List.getElem?_range (by omega)] at e2
  have q1 := Option.some.inj e1
  have q2 := Option.some.inj e2
  rw [← q1, ← q2]
  show canonI (grantsAt rows first (osOf (rs.take n)) i) = canonI (grantsAt rows first (osOf rs) i)
  congr 1
  unfold grantsAt
  rw [os_take, st_take i (by omega), List.getElem?_take, if_pos (by omega)]
theorem ptrs_take {rows : List Row5} {first : Str} {rs : List (List Int)} {n : Nat} (hn : n ≤ rs.length) : ptrsL rows first (rs.take n) = (ptrsL rows first rs).take (n + 1) := by
  refine ext_get (by rw [List.length_take, ptrs_len, ptrs_len, List.length_take]; omega) fun i x y e1 e2 => ?_
  have h1 := (List.getElem?_eq_some_iff.mp e1).1
  simp only [ptrsL, List.length_map, List.length_range, List.length_take] at h1
  rw [List.getElem?_take, if_pos (by omega)] at e2
  unfold ptrsL at e1 e2
  rw [List.getElem?_map, List.getElem?_range (by rw [List.length_take]; omega)] at e1
  rw [List.getElem?_map, List.getElem?_range (by omega)] at e2
  have q1 := Option.some.inj e1
  have q2 := Option.some.inj e2
  rw [← q1, ← q2]
  show (stAt rows first (osOf (rs.take n)) i).2 = _
  rw [os_take, st_take i (by omega)]
theorem modes_take {rows : List Row5} {first : Str} {rs : List (List Int)} {n : Nat} (hn : n ≤ rs.length) : modesL rows first (rs.take n) = (modesL rows first rs).take (n + 1) := by
  refine ext_get (by rw [List.length_take, modes_len, modes_len, List.length_take]; omega) fun i x y e1 e2 => ?_
  have h1 := (List.getElem?_eq_some_iff.mp e1).1
  simp only [modesL, List.length_map, List.length_range, List.length_take] at h1
  rw [List.getElem?_take, if_pos (by omega)] at e2
  unfold modesL at e1 e2
  rw [List.getElem?_map, List.getElem?_range (by rw [List.length_take]; omega)] at e1
  rw [List.getElem?_map, List.getElem?_range (by omega)] at e2
  have q1 := Option.some.inj e1
  have q2 := Option.some.inj e2
  rw [← q1, ← q2]
  show (stAt rows first (osOf (rs.take n)) i).1 = _
  rw [os_take, st_take i (by omega)]
theorem done_take {rows : List Row5} {first : Str} {rs : List (List Int)} {n : Nat} : doneL rows first (rs.take n) = (doneL rows first rs).take n := by
  refine ext_get (by simp [doneL]) fun i x y e1 e2 => ?_
  have h1 := (List.getElem?_eq_some_iff.mp e1).1
  simp only [doneL, List.length_map, List.length_range, List.length_take] at h1
  rw [List.getElem?_take, if_pos (by omega)] at e2
  unfold doneL at e1 e2
  rw [List.getElem?_map, List.getElem?_range (by rw [List.length_take]; omega)] at e1
  rw [List.getElem?_map, List.getElem?_range (by omega)] at e2
  have q1 := Option.some.inj e1
  have q2 := Option.some.inj e2
  rw [← q1, ← q2]
  unfold doneAt
  rw [os_take, st_take i (by omega), List.getElem?_take, if_pos (by omega)]
/-! ### what is no list stays where a list changes -/
theorem Keep.of {J L : Hp} (s : Same J L) : Keep J L := fun c o _ h => s c o h
theorem Keep.trans {J L M : Hp} (a : Keep J L) (b : Keep L M) : Keep J M := fun c o n h => b c o n (a c o n h)
theorem Keep.box {J : Hp} {b : Addr} {xs : List V} {o : HO} (h : J b = some (.lst xs)) : Keep J (upd J b o) := fun c u n e => by
  have : c ≠ b := fun q => by rw [q, h] at e; exact n _ (Option.some.inj e).symm
  rw [upd_ne this]
  exact e
theorem SqT.keep {K : PySem.W.Frag} {J L : Hp} {a : Addr} {xs : List V} (k : Keep J L) (h : SqT K J a xs) : SqT K L a xs := by
  rcases h with (h | ⟨o, h⟩) | h
  · exact .inl (.inl (k _ _ (fun _ q => nomatch q) h))
  · exact .inl (.inr ⟨o, k _ _ (fun _ q => nomatch q) h⟩)
  · exact .inr h
theorem RowsIn.keep {C : Addr} {J L : Hp} {xs : List V} {rows : List Row5} (k : Keep J L) (h : RowsIn C J xs rows) : RowsIn C L xs rows :=
  ⟨h.1, fun i x e => by
    obtain ⟨b, r, e1, e2, ⟨dx, e3⟩, g⟩ := h.2 i x e
    exact ⟨b, r, e1, e2, ⟨dx, k _ _ (fun _ q => nomatch q) e3⟩, g⟩⟩
theorem RuleAt.keep {K : PySem.W.Frag} {C CR : Addr} {J L : Hp} {a : Addr} {first : Str} {rows : List Row5} (k : Keep J L) (h : RuleAt K C CR J a first rows) : RuleAt K C CR L a first rows := by
  obtain ⟨⟨dx, tp, tm, xs, zs, h1, h2, h3, h4, h5⟩, h6, h7⟩ := h
  exact ⟨⟨dx, tp, tm, xs, zs, k _ _ (fun _ q => nomatch q) h1, SqT.keep k h2, h3.keep k, k _ _ (fun _ q => nomatch q) h4, h5⟩, h6, h7⟩
theorem GsAt.keep {J L : Hp} {gs : List V} {us : List (List Int)} (k : Keep J L) (h : GsAt J gs us) : GsAt L gs us :=
  ⟨h.1, fun j v e => by
    obtain ⟨q, out, e1, e2, e3⟩ := h.2 j v e
    exact ⟨q, out, e1, e2, k _ _ (fun _ q => nomatch q) e3⟩⟩
theorem PlayedN.keep {J L : Hp} {CP x : Addr} {rows : List Row5} {first : Str} {rs : List (List Int)} (k : Keep J L) (h : PlayedN J CP x rows first rs) : PlayedN L CP x rows first rs := by
  obtain ⟨gs, dx, t1, t2, t3, t4, t5, h0, h1, h2, h3, h4, h5, h6⟩ := h.ex
  exact ⟨gs, dx, t1, t2, t3, t4, t5, k _ _ (fun _ q => nomatch q) h0, k _ _ (fun _ q => nomatch q) h1, h2.keep k, k _ _ (fun _ q => nomatch q) h3, k _ _ (fun _ q => nomatch q) h4, k _ _ (fun _ q => nomatch q) h5, k _ _ (fun _ q => nomatch q) h6⟩
/-- what a call of play asks of a rule -/
theorem RuleAt.play {K : PySem.W.Frag} {C CR a : Addr} {first : Str} {rows : List Row5} {H : Hp} (ru : RuleAt K C CR H a first rows) : ∃ (dx : Addr) (fs : List (Str × V)), RowsAt K C CR H a rows ∧ rows.length < 60 ∧ H a = some (.ins CR dx fs) ∧ fs.lookup ("first" : Str) = some (V.str first) := by
  obtain ⟨dx, tp, tm, ys, zs, h1, h2, h3, h4, h5⟩ := ru.ex
  exact ⟨dx, _, ru.rows, by have := ru.few; omega, h1, by kernel_rfl⟩
/-- rounds that are written data -/
theorem rounds_dt {K : PySem.W.Frag} {n : Int} {H : Hp} {rs : List (List Int)} {xs : List V} (g : ∀ ns ∈ rs, goodRound n ns = true ∧ ns.length ≤ 1000) (h : DtAll H (rs.map intsD) xs) : RoundsAt K n H xs rs := by
  refine ⟨by rw [dtAll_len h, List.length_map], fun i x e => ?_⟩
  have hi : i < rs.length := by
    have := (List.getElem?_eq_some_iff.mp e).1
    rw [dtAll_len h, List.length_map] at this
    exact this
  obtain ⟨v, e1, a, vs, rfl, ha, hv⟩ := dtAll_at (i := i) (d := intsD rs[i]) h (by rw [List.getElem?_map, List.getElem?_eq_getElem hi]; rfl)
  rw [e] at e1
  cases e1
  have : vs = rs[i].map V.int := by
    have go : ∀ (l : List Int) (us : List V), DtAll H (l.map PyData.int) us → us = l.map V.int := fun l => by
      induction l with
      | nil => intro us h; exact h
      | cons k l ih =>
        rintro us ⟨v, ws, e, h1, h2⟩
        rw [e, ih ws h2, show v = V.int k from h1]
        rfl
    exact go _ _ hv
  rw [this] at ha
  have m := g rs[i] (List.getElem_mem hi)
  exact ⟨a, rs[i], rfl, List.getElem?_eq_getElem hi, .inr (SqT.of ha), m.2, m.1⟩
theorem RoundsAt.take {K : PySem.W.Frag} {n : Int} {H : Hp} {rs : List (List Int)} {xs : List V} {k : Nat} (h : RoundsAt K n H xs rs) : RoundsAt K n H (xs.take k) (rs.take k) :=
  ⟨by rw [List.length_take, List.length_take, h.1], fun i x e => by
    have hi := (List.getElem?_eq_some_iff.mp e).1
    rw [List.length_take] at hi
    rw [List.getElem?_take, if_pos (by omega)] at e
    obtain ⟨a, ns, q1, q2, q3, q4, q5⟩ := h.2 i x e
    exact ⟨a, ns, q1, by rw [List.getElem?_take, if_pos (by omega)]; exact q2, q3, q4, q5⟩⟩
end LT
namespace LT
open PySem L2
/-! ### comprehensions that draw -/
def LoopP (Pr : V → Hp → Prop) (b : Addr) (H2 : Hp) (D : Addr) (i : Nat) (J : Hp) : Prop :=
  ∃ vs : List V, J D = some (.lst vs) ∧ vs.length = i ∧ (∀ v ∈ vs, Pr v (frs (upd H2 D (.lst [])) J)) ∧ Box J b ∧ H2 D = none ∧ D ≠ b ∧ ∀ c o, c ≠ b → H2 c = some o → J c = some o
theorem loopP_start {Pr : V → Hp → Prop} {b D : Addr} {H2 : Hp} (hD : H2 D = none) (hb : Box H2 b) : LoopP Pr b H2 D 0 (upd H2 D (.lst [])) := by
  obtain ⟨x, y, e⟩ := hb
  have n : D ≠ b := fun z => by rw [z, e] at hD; cases hD
  exact ⟨[], upd_same, rfl, (fun _ h => nomatch h), ⟨x, y, by rw [upd_ne (Ne.symm n)]; exact e⟩, hD, n, fun c o _ q => by rw [upd_ne (ne_of_none q hD)]; exact q⟩
theorem loopP_turn {Pr : V → Hp → Prop} (mono : ∀ v G L, Same G L → Pr v G → Pr v L) {b D : Addr} {i : Nat} {H2 J L : Hp} {v : V} (h : LoopP Pr b H2 D i J) (hb2 : Box H2 b) (hv : Pr v (frs J L)) (k : Kb b J L) (hb : Box L b) :
    ∃ acc, L D = some (.lst acc) ∧ acc.length = i ∧ LoopP Pr b H2 D (i + 1) (upd L D (.lst (acc ++ [v]))) := by
  obtain ⟨vs, h1, h2, h3, ⟨x0, y0, h5⟩, h6, h7, h8⟩ := h
  obtain ⟨x, y, e⟩ := hb
  obtain ⟨x2, y2, e2⟩ := hb2
  have g : ∀ c, upd H2 D (.lst []) c = none → c ≠ b ∧ c ≠ D := fun c z => ⟨(fun q => by rw [q, upd_ne (Ne.symm h7), e2] at z; cases z), (fun q => by rw [q, upd_same] at z; cases z)⟩
  refine ⟨vs, k D _ h7 h1, h2, vs ++ [v], upd_same, by rw [List.length_append, h2]; rfl, fun u hu => ?_, ⟨x, y, by rw [upd_ne (Ne.symm h7)]; exact e⟩, h6, h7, fun c o n q => ?_⟩
  · rcases List.mem_append.mp hu with q | q
    · refine mono u _ _ (frs_same fun c o n z => ?_) (h3 u q)
      obtain ⟨cb, cD⟩ := g c n
      exact ⟨n, by rw [upd_ne cD]; exact k c o cb z⟩
    · rw [List.mem_singleton.mp q]
      refine mono v _ _ (frs_same fun c o n z => ?_) hv
      have cD : c ≠ D := fun q => by rw [q, h1] at n; cases n
      have cb : c ≠ b := fun q => by rw [q, h5] at n; cases n
      refine ⟨?_, by rw [upd_ne cD]; exact z⟩
      rw [upd_ne cD]
      cases w : H2 c with
      | none => rfl
      | some u =>
        rw [h8 c u cb w] at n
        cases n
  · have cD : c ≠ D := fun z => by rw [z, h6] at q; cases q
    rw [upd_ne cD]
    exact k c o n (h8 c o n q)
end LT
namespace LT
open PySem L2
theorem one_pre {J : Hp} {b l : Addr} {us : List V} (hb : Box J b) (hl : J l = none) : Box (upd J l (.lst us)) b ∧ l ≠ b := by
  obtain ⟨x, y, e⟩ := hb
  exact ⟨⟨x, y, new_same hl _ _ _ e⟩, fun z => by rw [z, e] at hl; cases hl⟩
theorem one_post {J : Hp} {b l : Addr} {us : List V} (hl : J l = none) (x y : Int) : Kb b J (upd (upd J l (.lst us)) b (.lst [.int x, .int y])) ∧ Box (upd (upd J l (.lst us)) b (.lst [.int x, .int y])) b :=
  ⟨(Kb.of (new_same hl _)).trans Kb.box, ⟨x, y, upd_same⟩⟩
theorem box_new {J : Hp} {b p : Addr} {o : HO} (hb : Box J b) (hp : J p = none) : Box (upd J p o) b := by
  obtain ⟨x, y, e⟩ := hb
  exact ⟨x, y, new_same hp _ _ _ e⟩
theorem ne_box {J : Hp} {b p : Addr} (hb : Box J b) (hp : J p = none) : p ≠ b := by
  obtain ⟨x, y, e⟩ := hb
  exact fun z => by rw [z, e] at hp; cases hp
theorem str_of_ix {L : List Str} {i : Nat} {v : V} (h : (L.map V.str)[i]? = some v) : ∃ z, z ∈ L ∧ v = .str z := by
  rw [List.getElem?_map] at h
  cases e : L[i]? with
  | none =>
    rw [e] at h
    cases h
  | some z =>
    rw [e] at h
    exact ⟨z, List.mem_of_getElem? e, (Option.some.inj h).symm⟩
theorem kb_free {b p : Addr} {H J : Hp} (hb : Box J b) (k : Kb b H J) (h : J p = none) : H p = none := by
  cases w : H p with
  | none => rfl
  | some u =>
    rw [k p u (ne_box hb h) w] at h
    cases h
def picks7 : List Str := ["keep", "at", "past", "under", "all", "past", "all"]
def moves5 : List Str := ["stay", "on", "home", "on", "on"]
theorem picks7_ok : ∀ z ∈ picks7, z ∈ picks := by decide +kernel
theorem moves5_ok : ∀ z ∈ moves5, z ∈ moves := by decide +kernel
def spAnyRow (K : PySem.W.Frag) : Sp := fun vs H Q _ => ∃ (b l : Addr) (ws : List Str), vs = [.ref b, .ref l] ∧ Box H b ∧ l ≠ b ∧ SqL K H l (ws.map V.str) ∧ 0 < ws.length ∧ ws.length ≤ 1000 ∧ (∀ z ∈ ws, Wd z) ∧
  ∀ (p : Addr) (r : Row5) (J : Hp), Good r → H p = none → J p = some (.tup r.vs) → Kb b H J → Box J b → Q (.ref p) J
def nAnyRow : List Str := ["_law_box", "_law_names_here", "_law_pick", "_law_move"]
def spText (K : PySem.W.Frag) : Sp := fun vs H Q _ => ∃ (a : Addr) (r : Row5), vs = [.ref a] ∧ SqT K H a r.vs ∧ Good r ∧ ∀ J, Same H J → Q (.str r.text) J
section
variable {P : Program} {w : World} {K : PySem.W.Frag} {mg : Str → Option Value} {base : Heap}
theorem scAnyRow : FnScope nAnyRow ["_law_box", "_law_names_here"] (defScope sAnyRow) := ⟨rfl, rfl, rfl, by decide +kernel, rfl, by decide +kernel, by decide +kernel⟩
theorem ok_anyrow {f g o : Addr} {fd gd od : FuncData} (F : Fun K "_law_any_row" "_law_any_row" sAnyRow f fd)
    (G : FnOk P w K mg base CX0 1 g gd ["_law_box", "_law_many"] spChoose) (bG : Binds K gd ["_law_box", "_law_many"] []) (kG : PySem.W.keepIn K (.ref g) = true) (mG : mg "_law_choose" = some (.ref g))
    (O : FnOk P w K mg base CX0 2 o od ["_law_box", "_law_some"] (spOneOf K)) (bO : Binds K od ["_law_box", "_law_some"] []) (kO : PySem.W.keepIn K (.ref o) = true) (mO : mg "_law_one_of" = some (.ref o)) :
    FnOk P w K mg base CX0 3 f fd ["_law_box", "_law_names_here"] (spAnyRow K) := by
  refine F.ok scAnyRow (fun vs H Q E h => ?_) (fun cdv A outer s H vs Q E hr h => ?_)
  · obtain ⟨b, l, ws, rfl, _⟩ := h
    rfl
  obtain ⟨b, l, ws, rfl, hb, hlb, hL, w0, w1, hw, q⟩ := h
  have hr1 : Room 1 _ := hr.mono (by decide)
  refine ⟨_, (pss_cons (ps_set (i := 2) scAnyRow.nd rfl (Or.inl rfl) (pe_call O hr (by rfl) mO kO bO .nil pass0 (pa_cons (pv 0) (pa_cons (pe_lst (pa_cons pe_str (pa_cons pe_str (pa_cons pe_str (pa_cons pe_str (pa_cons pe_str (pa_cons pe_str (pa_cons pe_str pa_nil)))))))) pa_nil))))
    (pss_cons (ps_set (i := 3) scAnyRow.nd rfl (Or.inl rfl) (pe_call O hr (by rfl) mO kO bO .nil pass0 (pa_cons (pv 0) (pa_cons (pe_lst (pa_cons pe_str (pa_cons pe_str (pa_cons pe_str (pa_cons pe_str (pa_cons pe_str pa_nil)))))) pa_nil))))
    (pss_one (ps_ret (pe_tup (pa_cons (pe_call O hr (by rfl) mO kO bO .nil pass0 (pa_cons (pv 0) (pa_cons (pv 1) pa_nil))) (pa_cons (pv 2) (pa_cons (pv 3) (pa_cons (pe_call O hr (by rfl) mO kO bO .nil pass0 (pa_cons (pv 0) (pa_cons (pv 1) pa_nil))) (pa_cons (pe_cmpR op_eq (pe_call G hr1 (by rfl) mG kG bG .nil pass0 (pa_cons (pv 0) (pa_cons pe_int pa_nil))) pe_int (nomark _)) pa_nil)))))))))), ?_⟩
  refine ⟨_, rfl, (by show 7 ≤ sizeLine; decide), fun l1 n1 => ⟨b, l1, picks7.map V.str, rfl, box_new hb n1, ne_box hb n1, SqL.of upd_same, by decide, by decide, fun i1 p x1 y1 e1 => ?_⟩⟩
  obtain ⟨p, hp, rfl⟩ := str_of_ix e1
  obtain ⟨k1, bx1⟩ := one_post (b := b) (us := [.str "keep", .str "at", .str "past", .str "under", .str "all", .str "past", .str "all"]) n1 x1 y1
  generalize upd (upd H l1 _) b _ = J1 at k1 bx1 ⊢
  refine ⟨_, rfl, (by show 5 ≤ sizeLine; decide), fun l2 n2 => ⟨b, l2, moves5.map V.str, rfl, box_new bx1 n2, ne_box bx1 n2, SqL.of upd_same, by decide, by decide, fun i2 mv x2 y2 e2 => ?_⟩⟩
  obtain ⟨mv, hv, rfl⟩ := str_of_ix e2
  obtain ⟨k2, bx2⟩ := one_post (b := b) (us := [.str "stay", .str "on", .str "home", .str "on", .str "on"]) n2 x2 y2
  have k2 := k1.trans k2
  generalize upd (upd J1 l2 _) b _ = J2 at k2 bx2 ⊢
  have hwl : 0 < (ws.map V.str).length ∧ (ws.map V.str).length ≤ 1000 := by
    rw [List.length_map]
    exact ⟨w0, w1⟩
  refine ⟨_, rfl, _, rfl, b, l, ws.map V.str, rfl, bx2, hlb, k2.seq hlb hL, hwl.1, hwl.2, fun i3 m x3 y3 e3 => ?_⟩
  obtain ⟨m, hm, rfl⟩ := str_of_ix e3
  have bx3 : Box (upd J2 b (.lst [.int x3, .int y3])) b := ⟨x3, y3, upd_same⟩
  have k3 : Kb b H (upd J2 b (.lst [.int x3, .int y3])) := k2.trans Kb.box
  generalize upd J2 b _ = J3 at k3 bx3 ⊢
  refine ⟨_, rfl, _, rfl, _, rfl, _, rfl, b, l, ws.map V.str, rfl, bx3, hlb, k3.seq hlb hL, hwl.1, hwl.2, fun i4 t x4 y4 e4 => ?_⟩
  obtain ⟨t, ht, rfl⟩ := str_of_ix e4
  have bx4 : Box (upd J3 b (.lst [.int x4, .int y4])) b := ⟨x4, y4, upd_same⟩
  have k4 : Kb b H (upd J3 b (.lst [.int x4, .int y4])) := k3.trans Kb.box
  generalize upd J3 b _ = J4 at k4 bx4 ⊢
  refine ⟨_, rfl, b, 7, rfl, bx4, by decide, by decide, fun d x5 y5 d0 d1 => ⟨rfl, ⟨(by show 5 ≤ sizeLine; decide), fun a na => ?_⟩⟩⟩
  have bx5 : Box (upd J4 b (.lst [.int x5, .int y5])) b := ⟨x5, y5, upd_same⟩
  have k5 : Kb b H (upd J4 b (.lst [.int x5, .int y5])) := k4.trans Kb.box
  obtain ⟨k, hk⟩ : ∃ k : Bool, k = decide (V.int d = V.int 0) := ⟨_, rfl⟩
  rw [← hk]
  generalize upd J4 b _ = J5 at k5 bx5 na ⊢
  refine q a ⟨m, p, mv, t, k⟩ _ ⟨hw m hm, picks7_ok p hp, moves5_ok mv hv, hw t ht⟩ (kb_free bx5 k5 na) upd_same (k5.trans (Kb.of (new_same na _))) (box_new bx5 na)
theorem scRowText : FnScope ["_law_row"] ["_law_row"] (defScope sRowText) := ⟨rfl, rfl, rfl, by decide +kernel, rfl, by decide +kernel, by decide +kernel⟩
theorem ok_rowtext {f : Addr} {fd : FuncData} (F : Fun K "_law_row_text" "_law_row_text" sRowText f fd) : FnOk P w K mg base CX0 1 f fd ["_law_row"] (spText K) := by
  refine F.ok scRowText (fun vs H Q E h => ?_) (fun cdv A outer s H vs Q E hr h => ?_)
  · obtain ⟨a, r, rfl, _⟩ := h
    rfl
  obtain ⟨a, r, rfl, ha, g, q⟩ := h
  refine ⟨_, (pss_one (ps_ret (pe_op op_add_str (pe_join pe_str (pe_slice sl_tup (pv 0) po_none (po_some pe_int))) (pe_ifExp (pt_val (pe_ix ix_tup (pv 0) pe_int (fun _ _ => rfl))) pe_str pe_str)))), ?_⟩
  have o := g.ok
  have o1 := o.m
  have o2 := o.p
  have o3 := o.mv
  have o4 := o.t
  refine ⟨⟨_, rfl⟩, _, rfl, _, rfl, ⟨a, r.vs, rfl, ha, (by show ¬ (HT.sIx 5 0 none = 0 ∧ HT.sIx 5 5 (some 4) = 5); decide), fun p np => ?_⟩⟩
  have s1 := new_same np (.tup (cutV r.vs none (some 4)))
  have e4 : cutV r.vs none (some 4) = ([r.m, r.p, r.mv, r.t] : List Str).map V.str := rfl
  refine ⟨" ", p, [r.m, r.p, r.mv, r.t], rfl, rfl, .inr (SqT.of (by rw [e4]; exact upd_same)), ?_, ?_⟩
  · have e1 : (" " : Str).length = 1 := rfl
    simp only [List.map_cons, List.map_nil, List.sum_cons, List.sum_nil, List.length_cons, List.length_nil, e1]
    omega
  have hJ : (Txt.join " " [r.m, r.p, r.mv, r.t]).length ≤ 100 := by
    have e := row_join r
    have h1 : (Txt.join " " [r.m, r.p, r.mv, r.t] ++ (if r.al then (" also" : Str) else "")).length = r.text.length := congrArg _ e
    have h2 : r.text.length ≤ 100 := by
      have k := len_base4 r.m r.p r.mv r.t
      unfold Row5.text rowText
      have e5 : (" also" : Str).length = 5 := rfl
      split
      · rw [len_app, e5, k]
        omega
      · rw [k]
        omega
    rw [len_app] at h1
    omega
  have ej := row_join r
  refine ⟨_, rfl, a, r.vs, 4, .bl r.al, rfl, rfl, SqT.ext ha s1, rfl, _, rfl, ?_⟩
  cases hal : r.al with
  | true =>
    rw [hal] at ej
    refine iteT ⟨_, _, rfl, rfl, Nat.le_of_lt (small1000 ?_), ?_⟩
    · have e5 : (" also" : Str).length = 5 := rfl
      omega
    · have z := q _ s1
      rw [← ej] at z
      exact z
  | false =>
    rw [hal] at ej
    refine iteF ⟨_, _, rfl, rfl, Nat.le_of_lt (small1000 ?_), ?_⟩
    · have e5 : ("" : Str).length = 0 := rfl
      omega
    · have z := q _ s1
      rw [← ej] at z
      exact z
end
end LT
namespace LT
open PySem L2
/-! ### rules that are drawn: their names and rows -/
def namesC : List (List Str) := [["run", "one", "two", "xyz"], ["a", "aa", "ab", "b"], ["at", "all", "on", "keep"], ["zzzz", "q", "home", "stay"]]
theorem names_wd : ∀ ws ∈ namesC, ws.length = 4 ∧ ∀ z ∈ ws, nameP z = true := by decide +kernel
def wordsD (ws : List Str) : PyData := .list (ws.map .str)
theorem dt_words {H : Hp} : ∀ {l : List Str} {us : List V}, DtAll H (l.map PyData.str) us → us = l.map V.str
  | [], _, h => h
  | k :: l, _, ⟨v, ws, e, h1, h2⟩ => by
    rw [e, dt_words h2, show v = V.str k from h1]
    rfl
def spNames : Sp := fun vs H Q _ => ∃ b : Addr, vs = [.ref b] ∧ Box H b ∧ ∀ (l : Addr) (ws : List Str) (J : Hp), ws ∈ namesC → H l = none → J l = some (.lst (ws.map V.str)) → Kb b H J → Box J b → Q (.ref l) J
/-- row tuples -/
def RowTs (J : Hp) (xs : List V) (rows : List Row5) : Prop := xs.length = rows.length ∧ ∀ (i : Nat) (v : V), xs[i]? = some v → ∃ (p : Addr) (r : Row5), v = .ref p ∧ rows[i]? = some r ∧ J p = some (.tup r.vs) ∧ Good r
theorem RowTs.keep {J L : Hp} {xs : List V} {rows : List Row5} (k : Keep J L) (h : RowTs J xs rows) : RowTs L xs rows :=
  ⟨h.1, fun i x e => by
    obtain ⟨p, r, e1, e2, e3, g⟩ := h.2 i x e
    exact ⟨p, r, e1, e2, k _ _ (fun _ q => nomatch q) e3, g⟩⟩
theorem RowTs.nil {J : Hp} : RowTs J [] [] := ⟨rfl, fun i v e => nomatch e⟩
theorem RowTs.add {J : Hp} {xs : List V} {rows : List Row5} {p : Addr} {r : Row5} (h : RowTs J xs rows) (e : J p = some (.tup r.vs)) (g : Good r) : RowTs J (xs ++ [.ref p]) (rows ++ [r]) :=
  ⟨by rw [List.length_append, List.length_append, h.1]; rfl, fun j v z => by
    rcases get_snoc z with z9 | ⟨z9, rfl⟩
    · obtain ⟨p', r', e1, e2, e3, g'⟩ := h.2 j v z9
      exact ⟨p', r', e1, by rw [List.getElem?_append_left (List.getElem?_eq_some_iff.mp e2).1]; exact e2, e3, g'⟩
    · exact ⟨p, r, rfl, by rw [z9, h.1]; exact List.getElem?_concat_length, e, g⟩⟩
theorem RowTs.app {J : Hp} {xs ys : List V} {rows more : List Row5} (h : RowTs J xs rows) (k : RowTs J ys more) : RowTs J (xs ++ ys) (rows ++ more) :=
  ⟨by rw [List.length_append, List.length_append, h.1, k.1], fun j v z => by
    by_cases c : j < xs.length
    · rw [List.getElem?_append_left c] at z
      obtain ⟨p', r', e1, e2, e3⟩ := h.2 j v z
      exact ⟨p', r', e1, by rw [List.getElem?_append_left (by rw [← h.1]; exact c)]; exact e2, e3⟩
    · rw [List.getElem?_append_right (by omega)] at z
      obtain ⟨p', r', e1, e2, e3⟩ := k.2 _ v z
      exact ⟨p', r', e1, by rw [List.getElem?_append_right (by rw [← h.1]; omega), ← h.1]; exact e2, e3⟩⟩
theorem RowTs.take {J : Hp} {xs : List V} {rows : List Row5} {n : Nat} (h : RowTs J xs rows) : RowTs J (xs.take n) (rows.take n) :=
  ⟨by rw [List.length_take, List.length_take, h.1], fun i x e => by
    have hi := (List.getElem?_eq_some_iff.mp e).1
    rw [List.length_take] at hi
    rw [List.getElem?_take, if_pos (by omega)] at e
    obtain ⟨p, r, q1, q2, q3⟩ := h.2 i x e
    exact ⟨p, r, q1, by rw [List.getElem?_take, if_pos (by omega)]; exact q2, q3⟩⟩
theorem RowTs.drop {J : Hp} {xs : List V} {rows : List Row5} {n : Nat} (h : RowTs J xs rows) : RowTs J (xs.drop n) (rows.drop n) :=
  ⟨by rw [List.length_drop, List.length_drop, h.1], fun i x e => by
    rw [List.getElem?_drop] at e
    obtain ⟨p, r, q1, q2, q3⟩ := h.2 _ x e
    exact ⟨p, r, q1, by rw [List.getElem?_drop]; exact q2, q3⟩⟩
theorem RowTs.good {J : Hp} {xs : List V} {rows : List Row5} (h : RowTs J xs rows) : ∀ r ∈ rows, Good r := fun r hr => by
  obtain ⟨i, hi, rfl⟩ := List.getElem_of_mem hr
  have hi' : i < xs.length := by
    rw [h.1]
    exact hi
  obtain ⟨p, r', _, e2, _, g⟩ := h.2 i xs[i] (List.getElem?_eq_getElem hi')
  rw [List.getElem?_eq_getElem hi] at e2
  cases e2
  exact g
theorem Kb.keep {b : Addr} {J L : Hp} (k : Kb b J L) (h : Box J b) : Keep J L := fun c o n e => by
  obtain ⟨x, y, q⟩ := h
  have : c ≠ b := fun z => by rw [z, q] at e; exact n _ (Option.some.inj e).symm
  exact k c o this e
/-- a new list of drawn rows -/
def spFair : Sp := fun vs H Q _ => ∃ (b l : Addr) (ws : List Str), vs = [.ref b, .ref l] ∧ Box H b ∧ l ≠ b ∧ H l = some (.lst (ws.map V.str)) ∧ 0 < ws.length ∧ ws.length ≤ 4 ∧ (∀ z ∈ ws, Wd z) ∧
  ∀ (f : Addr) (xs : List V) (rows : List Row5) (J : Hp), H f = none → J f = some (.lst xs) → RowTs J xs rows → rows.length ≤ 12 → Kb b H J → Box J b → Q (.ref f) J
section
variable {P : Program} {w : World} {K : PySem.W.Frag} {mg : Str → Option Value} {base : Heap}
abbrev nNames : List Str := ["_law_box", "_law_some"]
theorem scNames : FnScope nNames ["_law_box"] (defScope sNames) := ⟨rfl, rfl, rfl, by decide +kernel, rfl, by decide +kernel, by decide +kernel⟩
theorem ok_names {f o : Addr} {fd od : FuncData} (F : Fun K "_law_names" "_law_names" sNames f fd)
    (GO : FnOk P w K mg base CX0 2 o od ["_law_box", "_law_some"] (spOneOf K)) (bO : Binds K od ["_law_box", "_law_some"] []) (kO : PySem.W.keepIn K (.ref o) = true) (mO : mg "_law_one_of" = some (.ref o)) :
    FnOk P w K mg base CX0 3 f fd ["_law_box"] spNames := by
  refine F.ok scNames (fun vs H Q E h => ?_) (fun cdv A outer s H vs Q E hr h => ?_)
  · obtain ⟨b, rfl, _⟩ := h
    rfl
  obtain ⟨b, rfl, hb, q⟩ := h
  refine ⟨_, (pss_cons (ps_set (i := 1) scNames.nd rfl (Or.inl rfl) (pe_lst (pa_cons (pe_lst (pa_cons pe_str (pa_cons pe_str (pa_cons pe_str (pa_cons pe_str pa_nil))))) (pa_cons (pe_lst (pa_cons pe_str (pa_cons pe_str (pa_cons pe_str (pa_cons pe_str pa_nil))))) (pa_cons (pe_lst (pa_cons pe_str (pa_cons pe_str (pa_cons pe_str (pa_cons pe_str pa_nil))))) pa_nil)))))
    (pss_one (ps_ret (pe_call GO hr (by rfl) mO kO bO .nil pass0 (pa_cons (pv 0) (pa_cons (pe_op op_cat (pv 1) (pe_lst (pa_cons (pe_lst (pa_cons pe_str (pa_cons pe_str (pa_cons pe_str (pa_cons pe_str pa_nil))))) pa_nil))) pa_nil)))))), ?_⟩
  have four : ∀ {L : List (Nat × PyData)} {a b c d : Str}, LitR (frs H) (okN H) (SlotsD (frs H) (okN H) L) (tLst (tCons (tC (.str a)) (tCons (tC (.str b)) (tCons (tC (.str c)) (tCons (tC (.str d)) tNil))))) (wordsD [a, b, c, d]) := fun {L a b c d} =>
    lit_lst (viewN H) (by show 4 ≤ 1000; decide) (la_cons (viewN H) (slots_mono (viewN H)) lit_str (la_cons (viewN H) (slots_mono (viewN H)) lit_str (la_cons (viewN H) (slots_mono (viewN H)) lit_str (la_cons (viewN H) (slots_mono (viewN H)) lit_str la_nil))))
  have z0 : SlotsD (frs H) (okN H) [] (start nNames [.ref b]) H := ⟨Same.refl _, fun p hp => nomatch hp⟩
  refine seq_set ((show LitR (frs H) (okN H) (SlotsD (frs H) (okN H) []) _ (.list [wordsD ["run", "one", "two", "xyz"], wordsD ["a", "aa", "ab", "b"], wordsD ["at", "all", "on", "keep"]]) from
    lit_lst (viewN H) (by decide) (la_cons (viewN H) (slots_mono (viewN H)) four (la_cons (viewN H) (slots_mono (viewN H)) four (la_cons (viewN H) (slots_mono (viewN H)) four la_nil)))) _ _ _ z0 z0.1 fun v0 J0 s0 g0 => ?_)
  have z1 := slots_set (i := 1) (viewN H) (slots_mono (viewN H) _ _ _ z0 s0) g0 (by show 1 < 2; decide) rfl
  have l0 : ((start nNames [.ref b]).set 1 (some v0))[0]? = some (some (.ref b)) := rfl
  generalize (start nNames [.ref b]).set 1 (some v0) = σ1 at z1 l0 ⊢
  refine ⟨_, l0, (show LitR (frs H) (okN H) (SlotsD (frs H) (okN H) [(1, .list [wordsD ["run", "one", "two", "xyz"], wordsD ["a", "aa", "ab", "b"], wordsD ["at", "all", "on", "keep"]])]) _ (.list ([wordsD ["run", "one", "two", "xyz"], wordsD ["a", "aa", "ab", "b"], wordsD ["at", "all", "on", "keep"]] ++ [wordsD ["zzzz", "q", "home", "stay"]])) from
    lit_cat (viewN H) (subN H) (slots_mono (viewN H)) (by decide) (lit_slot List.mem_cons_self) (lit_lst (viewN H) (by decide) (la_cons (viewN H) (slots_mono (viewN H)) four la_nil))) _ _ _ z1 z1.1 fun v J1 s1 g1 => ?_⟩
  obtain ⟨a, us, rfl, ha, hu⟩ := g1
  obtain ⟨ea, ha⟩ := frs_some ha
  obtain ⟨bx, by_, eb⟩ := hb
  have sH : Same H J1 := s0.trans s1
  have nab : a ≠ b := fun q => by rw [q, eb] at ea; cases ea
  have lu : us.length = 4 := dtAll_len hu
  refine ⟨b, a, us, rfl, ⟨bx, by_, sH _ _ eb⟩, nab, SqL.of ha, by omega, by omega, fun i v x y ev => ?_⟩
  have hu' : DtAll (frs H J1) (namesC.map wordsD) us := hu
  have hi : i < namesC.length := by
    have := (List.getElem?_eq_some_iff.mp ev).1
    rw [lu] at this
    exact this
  obtain ⟨v', e', l, vs, rfl, hl, hv⟩ := dtAll_at (i := i) (d := wordsD namesC[i]) hu' (by rw [List.getElem?_map, List.getElem?_eq_getElem hi]; rfl)
  rw [ev] at e'
  cases e'
  have := dt_words hv
  subst this
  obtain ⟨nl, hl⟩ := frs_some hl
  have nlb : l ≠ b := fun q => by rw [q, eb] at nl; cases nl
  exact q l namesC[i] _ (List.getElem_mem hi) nl (by rw [upd_ne nlb]; exact hl) ((Kb.of sH).trans Kb.box) ⟨x, y, upd_same⟩
end
end LT
namespace LT
open PySem L2
theorem seq_k {s b : TS} {D : Ends} {σ : L2.St} {H : Hp} (P : L2.St → Hp → Prop) (r : ∀ τ L, P τ L → b D τ L) (m : (∀ τ L, P τ L → b D τ L) → tSeq s b D σ H) : tSeq s b D σ H := m r
/-- a list of rows that grows while the box is drawn from -/
structure GrowAt (H : Hp) (b fl : Addr) (n : Nat) (J : Hp) : Prop where
  ex : ∃ (xs : List V) (rows : List Row5), J fl = some (.lst xs) ∧ RowTs J xs rows ∧ rows.length ≤ n
  kb : Kb b H J
  box : Box J b
  new : H fl = none
  ne : fl ≠ b
theorem GrowAt.more {H J L : Hp} {b fl : Addr} {n : Nat} (h : GrowAt H b fl n J) (s : Same J L) : GrowAt H b fl n L := by
  obtain ⟨⟨xs, rows, h1, h2, h3⟩, h4, ⟨x, y, h5⟩, h6, h7⟩ := h
  exact ⟨⟨xs, rows, s _ _ h1, h2.keep (Keep.of s), h3⟩, h4.trans (Kb.of s), ⟨x, y, s _ _ h5⟩, h6, h7⟩
theorem GrowAt.draw {H J : Hp} {b fl : Addr} {n : Nat} {x y : Int} (h : GrowAt H b fl n J) : GrowAt H b fl n (upd J b (.lst [.int x, .int y])) := by
  obtain ⟨⟨xs, rows, h1, h2, h3⟩, h4, ⟨x0, y0, h5⟩, h6, h7⟩ := h
  exact ⟨⟨xs, rows, by rw [upd_ne h7]; exact h1, h2.keep (Keep.box h5), h3⟩, h4.trans Kb.box, ⟨x, y, upd_same⟩, h6, h7⟩
theorem GrowAt.le {H J : Hp} {b fl : Addr} {n m : Nat} (h : GrowAt H b fl n J) (hm : n ≤ m) : GrowAt H b fl m J := by
  obtain ⟨⟨xs, rows, h1, h2, h3⟩, h4, h5, h6, h7⟩ := h
  exact ⟨⟨xs, rows, h1, h2, by omega⟩, h4, h5, h6, h7⟩
theorem GrowAt.add {H J : Hp} {b fl p : Addr} {n : Nat} {r : Row5} (h : GrowAt H b fl n J) (hn : n ≤ 100) (e : J p = some (.tup r.vs)) (g : Good r) :
    ∃ xs, J fl = some (.lst xs) ∧ xs.length < sizeLine ∧ GrowAt H b fl (n + 1) (upd J fl (.lst (xs ++ [.ref p]))) := by
  obtain ⟨⟨xs, rows, h1, h2, h3⟩, h4, ⟨x0, y0, h5⟩, h6, h7⟩ := h
  refine ⟨xs, h1, small1000 (by rw [h2.1]; omega), ⟨xs ++ [.ref p], rows ++ [r], upd_same, (h2.add e g).keep (Keep.box h1), by rw [List.length_append, List.length_singleton]; omega⟩, fun c o n z => ?_, ⟨x0, y0, by rw [upd_ne (Ne.symm h7)]; exact h5⟩, h6, h7⟩
  rw [upd_ne (ne_of_none z h6)]
  exact h4 c o n z
theorem GrowAt.there {H J : Hp} {b fl : Addr} {n : Nat} (h : GrowAt H b fl n J) : ∃ xs, SqL K J fl xs := by
  obtain ⟨xs, rows, h1, _⟩ := h.ex
  exact ⟨xs, SqL.of h1⟩
theorem wd_of {z : Str} (h : nameP z = true) : Wd z := name_wd h
def past3 : Str → Str → Str → List Str := fun a b c => [a, b, c]
section
variable {P : Program} {w : World} {K : PySem.W.Frag} {mg : Str → Option Value} {base : Heap}
abbrev nFair : List Str := ["_law_box", "_law_names_here", "_law_found", "_law_at", "_law_name", "_law_later", "_law_form"]
theorem scFair : FnScope nFair ["_law_box", "_law_names_here"] (defScope sFairRows) := ⟨rfl, rfl, rfl, by decide +kernel, rfl, by decide +kernel, by decide +kernel⟩
theorem ok_fair {f g o : Addr} {fd gd od : FuncData} (F : Fun K "_law_fair_rows" "_law_fair_rows" sFairRows f fd) (T : Blt mg) (Z : Blt4 mg)
    (GC : FnOk P w K mg base CX0 1 g gd ["_law_box", "_law_many"] spChoose) (bC : Binds K gd ["_law_box", "_law_many"] []) (kC : PySem.W.keepIn K (.ref g) = true) (mCh : mg "_law_choose" = some (.ref g))
    (GO : FnOk P w K mg base CX0 2 o od ["_law_box", "_law_some"] (spOneOf K)) (bO : Binds K od ["_law_box", "_law_some"] []) (kO : PySem.W.keepIn K (.ref o) = true) (mO : mg "_law_one_of" = some (.ref o)) :
    FnOk P w K mg base CX0 3 f fd ["_law_box", "_law_names_here"] spFair := by
  refine F.ok scFair (fun vs H Q E h => ?_) (fun cdv A outer s H vs Q E hr h => ?_)
  · obtain ⟨b, l, ws, rfl, _⟩ := h
    rfl
  obtain ⟨b, l, ws, rfl, hb, nlb, hl, w0, w4, wd, q⟩ := h
  have hr1 : Room 1 _ := hr.mono (by decide)
  refine ⟨_, (pss_cons (ps_set (i := 2) scFair.nd rfl (Or.inl rfl) (pe_lst pa_nil))
    (pss_cons (ps_for PassesOwn.never rfl (pi_enum (by rfl) Z.enumerate (pa_cons (pv 1) pa_nil)) (pg_tup rfl (pgs_cons (pg_name (i := 3) scFair.nd rfl (Or.inl rfl)) (pgs_cons (pg_name (i := 4) scFair.nd rfl (Or.inl rfl)) pgs_nil)))
    (pss_cons (ps_set (i := 5) scFair.nd rfl (Or.inl rfl) (pe_ix ix_list (pv 1) (pe_op op_mod (pe_op op_add (pv 3) pe_int) (pe_callB call_len_seq (by rfl) T.len PySem.boot_len (pa_cons (pv 1) pa_nil))) (fun _ _ => rfl)))
      (pss_cons (ps_set (i := 6) scFair.nd rfl (Or.inl rfl) (pe_call GC hr1 (by rfl) mCh kC bC .nil pass0 (pa_cons (pv 0) (pa_cons pe_int pa_nil))))
      (pss_cons (ps_if (pt_cmpR op_eq (pv 6) pe_int (nomark _)) (pss_one (ps_expr (pe_bm PySem.F.plainAttrs_list PySem.F.slot_list_append PySem.F.type_list_append mt_append (pv 2) (pa_cons (pe_tup (pa_cons (pv 4) (pa_cons pe_str (pa_cons pe_str (pa_cons (pv 5) (pa_cons pe_bl pa_nil)))))) pa_nil)))) (pss_one (ps_if (pt_cmpR op_eq (pv 6) pe_int (nomark _)) (pss_one (ps_expr (pe_bm PySem.F.plainAttrs_list PySem.F.slot_list_append PySem.F.type_list_append mt_append (pv 2) (pa_cons (pe_tup (pa_cons (pv 4) (pa_cons pe_str (pa_cons pe_str (pa_cons (pv 5) (pa_cons pe_bl pa_nil)))))) pa_nil)))) pss_nil)))
      (pss_cons (ps_expr (pe_bm PySem.F.plainAttrs_list PySem.F.slot_list_append PySem.F.type_list_append mt_append (pv 2) (pa_cons (pe_tup (pa_cons (pv 4) (pa_cons pe_str (pa_cons pe_str (pa_cons (pe_call GO hr (by rfl) mO kO bO .nil pass0 (pa_cons (pv 0) (pa_cons (pe_lst (pa_cons (pe_ix ix_list (pv 1) pe_int (fun _ _ => rfl)) (pa_cons (pv 4) (pa_cons (pv 5) pa_nil)))) pa_nil))) (pa_cons pe_bl pa_nil)))))) pa_nil)))
      (pss_one (ps_if (pt_cmpR op_gt (pe_call GC hr1 (by rfl) mCh kC bC .nil pass0 (pa_cons (pv 0) (pa_cons pe_int pa_nil))) pe_int (nomark _)) (pss_one (ps_expr (pe_bm PySem.F.plainAttrs_list PySem.F.slot_list_append PySem.F.type_list_append mt_append (pv 2) (pa_cons (pe_tup (pa_cons (pv 4) (pa_cons pe_str (pa_cons (pe_call GO hr (by rfl) mO kO bO .nil pass0 (pa_cons (pv 0) (pa_cons (pe_lst (pa_cons pe_str (pa_cons pe_str (pa_cons pe_str (pa_cons pe_str pa_nil))))) pa_nil))) (pa_cons (pe_ix ix_list (pv 1) pe_int (fun _ _ => rfl)) (pa_cons pe_bl pa_nil)))))) pa_nil)))) pss_nil)))))))
    (pss_one (ps_ret (pv 2))))), ?_⟩
  refine ⟨(by show 0 ≤ sizeLine; decide), fun fl nfl => ?_⟩
  obtain ⟨bx, by_, eb⟩ := hb
  have hb : Box H b := ⟨bx, by_, eb⟩
  have nfb : fl ≠ b := ne_box hb nfl
  have kb0 : Kb b H (upd H fl (.lst [])) := Kb.of (new_same nfl _)
  have g0 : GrowAt H b fl 0 (upd H fl (.lst [])) := ⟨⟨[], [], upd_same, RowTs.nil, Nat.le_refl _⟩, kb0, box_new hb nfl, nfl, nfb⟩
  generalize upd H fl (.lst []) = H1 at g0 ⊢
  have names : ∀ {J n}, GrowAt H b fl n J → J l = some (.lst (ws.map V.str)) := fun g => g.kb l _ nlb hl
  have hlen : (ws.map V.str).length = ws.length := List.length_map _
  refine ⟨_, rfl, l, _, rfl, SqL.of (names g0), for_it (walk_enum (K := K) (a := l) (xs := ws.map V.str)) (fun i σ J => ∃ v3 v4 v5 v6, σ = [some (.ref b), some (.ref l), some (.ref fl), v3, v4, v5, v6] ∧ GrowAt H b fl (3 * i) J) ⟨none, none, none, none, rfl, g0⟩ (fun i σ J _ ⟨_, _, _, _, _, g⟩ => SqL.of (names g)) ?_ ?_⟩
  · rintro i x σ J J2 hi ⟨v3, v4, v5, v6, rfl, gr⟩ ⟨W, x1, e, rfl, nW, rfl, ex1, ee⟩
    cases ex1
    replace ee : (ws.map V.str)[i]? = some e := ee
    rw [List.getElem?_map] at ee
    obtain ⟨nm, en, rfl⟩ : ∃ nm, ws[i]? = some nm ∧ e = V.str nm := by
      cases q : ws[i]? with
      | none =>
        rw [q] at ee
        cases ee
      | some z =>
        rw [q] at ee
        exact ⟨z, rfl, (Option.some.inj ee).symm⟩
    have wnm := wd nm (List.mem_of_getElem? en)
    have i4 : i < 4 := by
      rw [hlen] at hi
      omega
    have gr1 := gr.more (new_same nW (.tup [V.int (i : Nat), V.str nm]))
    have hW : upd J W (.tup [V.int (i : Nat), V.str nm]) W = some (.tup [V.int (i : Nat), V.str nm]) := upd_same
    generalize upd J W (.tup [V.int (i : Nat), V.str nm]) = J1 at gr1 hW ⊢
    refine ⟨W, _, rfl, SqT.of hW, rfl, _, _, rfl, _, _, rfl, rfl, ?_⟩
    -- the later name
    have hm : 0 ≤ ((i : Int) + 1) % ((ws.map V.str).length : Nat) ∧ ((i : Int) + 1) % ((ws.map V.str).length : Nat) < ((ws.map V.str).length : Nat) := mod_ix (by rw [hlen]; omega)
    obtain ⟨lat, hlat, wlat⟩ : ∃ lat, atI (ws.map V.str) (((i : Int) + 1) % ((ws.map V.str).length : Nat)) = some (V.str lat) ∧ Wd lat := by
      obtain ⟨k, hk⟩ : ∃ k : Nat, ((i : Int) + 1) % ((ws.map V.str).length : Nat) = (k : Int) := ⟨(((i : Int) + 1) % ((ws.map V.str).length : Nat)).toNat, by omega⟩
      rw [hk] at hm ⊢
      have hk' : k < ws.length := by
        rw [hlen] at hm
        omega
      exact ⟨ws[k], atI_nat (by rw [List.getElem?_map, List.getElem?_eq_getElem hk']; rfl), wd _ (List.getElem_mem hk')⟩
    have at0 : atI (ws.map V.str) 0 = some (V.str ws[0]) := atI_nat (j := 0) (by rw [List.getElem?_map, List.getElem?_eq_getElem w0]; rfl)
    have w0d := wd _ (List.getElem_mem w0)
    refine ⟨_, rfl, _, rfl, _, _, rfl, rfl, _, rfl, l, _, rfl, .inl (SqL.of (names gr1)), _, _, rfl, rfl, (by rw [hlen]; omega), l, _, _, _, rfl, rfl, SqL.of (names gr1), hlat, ?_⟩
    refine ⟨_, rfl, b, 5, rfl, gr1.box, by decide, by decide, fun d x y d0 d1 => ?_⟩
    have gr2 := gr1.draw (x := x) (y := y)
    generalize upd J1 b (.lst [.int x, .int y]) = J2 at gr2 ⊢
    unfold gName
    dsimp only
    refine seq_k (fun τ L => τ = [some (.ref b), some (.ref l), some (.ref fl), some (.int (i : Nat)), some (.str nm), some (.str lat), some (.int d)] ∧ GrowAt H b fl (3 * i + 1) L) (fun τ L ⟨et, gL⟩ => ?rest) (fun k => ?main)
    case main =>
      refine ⟨_, rfl, rfl, _, rfl, ite2 (fun _ => ?_) (fun _ => ⟨_, rfl, rfl, _, rfl, ite2 (fun _ => ?_) (fun _ => k _ J2 ⟨rfl, gr2.le (by omega)⟩)⟩)⟩
      · obtain ⟨zs, sz⟩ := gr2.there (K := K)
        refine ⟨_, rfl, .inl ⟨rfl, _, sz⟩, _, rfl, _, rfl, (by show 5 ≤ sizeLine; decide), fun p np => ?_⟩
        have g3 := gr2.more (new_same np (.tup (Row5.vs ⟨nm, "keep", "stay", lat, false⟩)))
        obtain ⟨xs, e1, e2, g4⟩ := g3.add (by omega) upd_same ⟨wnm, show ("keep" : Str) ∈ picks by decide +kernel, show ("stay" : Str) ∈ moves by decide +kernel, wlat⟩
        exact ⟨fl, _, _, rfl, rfl, e1, e2, k _ _ ⟨rfl, g4⟩⟩
      · obtain ⟨zs, sz⟩ := gr2.there (K := K)
        refine ⟨_, rfl, .inl ⟨rfl, _, sz⟩, _, rfl, _, rfl, (by show 5 ≤ sizeLine; decide), fun p np => ?_⟩
        have g3 := gr2.more (new_same np (.tup (Row5.vs ⟨nm, "at", "on", lat, false⟩)))
        obtain ⟨xs, e1, e2, g4⟩ := g3.add (by omega) upd_same ⟨wnm, show ("at" : Str) ∈ picks by decide +kernel, show ("on" : Str) ∈ moves by decide +kernel, wlat⟩
        exact ⟨fl, _, _, rfl, rfl, e1, e2, k _ _ ⟨rfl, g4⟩⟩
    case rest =>
      subst et
      obtain ⟨zs, sz⟩ := gL.there (K := K)
      refine ⟨_, rfl, .inl ⟨rfl, _, sz⟩, _, rfl, _, rfl, _, rfl, l, _, _, _, rfl, rfl, SqL.of (names gL), at0, _, rfl, _, rfl, (by show 3 ≤ sizeLine; decide), fun c nc => ?_⟩
      have g1 := gL.more (new_same nc (.lst ((past3 ws[0] nm lat).map V.str)))
      have ncb : c ≠ b := ne_box gL.box nc
      refine ⟨b, c, (past3 ws[0] nm lat).map V.str, rfl, g1.box, ncb, SqL.of upd_same, (by show 0 < 3; decide), (by show 3 ≤ 1000; decide), fun i1 v x y ev => ?_⟩
      obtain ⟨tn, ht, rfl⟩ := str_of_ix ev
      have wt : Wd tn := by
        rcases List.mem_cons.mp ht with rfl | ht
        · exact w0d
        rcases List.mem_cons.mp ht with rfl | ht
        · exact wnm
        rw [List.mem_singleton.mp ht]
        exact wlat
      have g2 := g1.draw (x := x) (y := y)
      refine ⟨(by show 5 ≤ sizeLine; decide), fun p np => ?_⟩
      have g3 := g2.more (new_same np (.tup (Row5.vs ⟨nm, "past", "on", tn, false⟩)))
      obtain ⟨xs, e1, e2, g4⟩ := g3.add (by omega) upd_same ⟨wnm, show ("past" : Str) ∈ picks by decide +kernel, show ("on" : Str) ∈ moves by decide +kernel, wt⟩
      refine ⟨fl, _, _, rfl, rfl, e1, e2, ?_⟩
      have g4' := g4
      clear g4
      revert g4'
      generalize upd (upd (upd (upd L c (.lst ((past3 ws[0] nm lat).map V.str))) b (.lst [.int x, .int y])) p (.tup (Row5.vs ⟨nm, "past", "on", tn, false⟩))) fl (.lst (xs ++ [.ref p])) = L2
      intro g4
      refine ⟨_, rfl, b, 6, rfl, g4.box, by decide, by decide, fun d' x' y' d0' d1' => ?_⟩
      have g5 := g4.draw (x := x') (y := y')
      generalize upd L2 b (.lst [.int x', .int y']) = L3 at g5 ⊢
      refine ⟨_, _, rfl, rfl, _, rfl, ite2 (fun _ => ?_) (fun _ => ⟨_, _, _, _, rfl, g5.le (by omega)⟩)⟩
      obtain ⟨zs', sz'⟩ := g5.there (K := K)
      refine ⟨_, rfl, .inl ⟨rfl, _, sz'⟩, _, rfl, _, rfl, (by show 4 ≤ sizeLine; decide), fun c2 nc2 => ?_⟩
      have g6 := g5.more (new_same nc2 (.lst ((["on", "on", "on", "home"] : List Str).map V.str)))
      refine ⟨b, c2, (["on", "on", "on", "home"] : List Str).map V.str, rfl, g6.box, ne_box g5.box nc2, SqL.of upd_same, (by show 0 < 4; decide), (by show 4 ≤ 1000; decide), fun i2 v2 x2 y2 ev2 => ?_⟩
      obtain ⟨mv, hmv, rfl⟩ := str_of_ix ev2
      have wmv : mv ∈ moves := (by decide +kernel : ∀ z ∈ (["on", "on", "on", "home"] : List Str), z ∈ moves) mv hmv
      have g7 := g6.draw (x := x2) (y := y2)
      generalize upd (upd L3 c2 (.lst (((["on", "on", "on", "home"] : List Str)).map V.str))) b (.lst [.int x2, .int y2]) = L4 at g7 ⊢
      refine ⟨_, rfl, l, _, _, _, rfl, rfl, SqL.of (names g7), at0, (by show 5 ≤ sizeLine; decide), fun p2 np2 => ?_⟩
      have g8 := g7.more (new_same np2 (.tup (Row5.vs ⟨nm, "all", mv, ws[0], false⟩)))
      obtain ⟨xs2, e3, e4, g9⟩ := g8.add (by omega) upd_same ⟨wnm, show ("all" : Str) ∈ picks by decide +kernel, wmv, w0d⟩
      exact ⟨fl, _, _, rfl, rfl, e3, e4, _, _, _, _, rfl, g9.le (by omega)⟩
  · rintro σ J ⟨v3, v4, v5, v6, rfl, gr⟩
    obtain ⟨xs, rows, h1, h2, h3⟩ := gr.ex
    exact ⟨_, rfl, q fl xs rows J gr.new h1 h2 (by rw [hlen] at h3; omega) gr.kb gr.box⟩
end
end LT
namespace LT
open PySem L2
theorem seq_if_k {tt : TT} {a1 a2 b : TS} {D : Ends} {σ : L2.St} {H : Hp} (P : L2.St → Hp → Prop) (r : ∀ τ L, P τ L → b D τ L) (m : (∀ τ L, P τ L → b D τ L) → tSeq (tIfS tt a1 a2) b D σ H) : tSeq (tIfS tt a1 a2) b D σ H := m r
theorem name_k {i : Nat} {v : V} {σ : L2.St} {H : Hp} {Q : L2.St → Hp → Prop} (h : Q (σ.set i (some v)) H) : gName i v σ H Q := h
theorem GrowAt.kbm {H J L : Hp} {b fl : Addr} {n : Nat} (h : GrowAt H b fl n J) (k : Kb b J L) (bx : Box L b) : GrowAt H b fl n L := by
  obtain ⟨⟨xs, rows, h1, h2, h3⟩, h4, h5, h6, h7⟩ := h
  exact ⟨⟨xs, rows, k fl _ h7 h1, h2.keep (k.keep h5), h3⟩, h4.trans k, bx, h6, h7⟩
theorem cut_take' {l : List V} (n : Nat) : cutV l none (some ((n : Nat) : Int)) = l.take n := by
  unfold cutV
  rw [HT.sIx_none, HT.sIx_nat, List.drop_zero, Nat.sub_zero]
  by_cases h : n ≤ l.length
  · rw [Nat.min_eq_left h]
  · rw [Nat.min_eq_right (by omega), List.take_length, List.take_of_length_le (by omega)]
theorem cut_drop {l : List V} (n : Nat) : cutV l (some ((n : Nat) : Int)) none = l.drop n := by
  unfold cutV
  rw [HT.sIx_none, HT.sIx_nat]
  by_cases h : n ≤ l.length
  · rw [Nat.min_eq_left h, List.take_of_length_le (by rw [List.length_drop]; omega)]
  · rw [Nat.min_eq_right (by omega), List.drop_eq_nil_of_le (Nat.le_refl _), List.drop_eq_nil_of_le (by omega), List.take_nil]
/-- a drawn rule, as the law has it -/
def spLRule : Sp := fun vs H Q _ => ∃ (b : Addr) (m : Nat), vs = [.ref b, .int (m : Nat)] ∧ Box H b ∧ m ≤ 31 ∧
  ∀ (p t : Addr) (first : Str) (xs : List V) (rows : List Row5) (J : Hp), Wd first → rows.length ≤ m → RowTs J xs rows → H p = none → J p = some (.tup [.str first, .ref t]) → J t = some (.tup xs) → Kb b H J → Box J b → Q (.ref p) J
section
variable {P : Program} {w : World} {K : PySem.W.Frag} {mg : Str → Option Value} {base : Heap}
abbrev nLRule : List Str := ["_law_box", "_law_most", "_law_names_here", "_law_found", "_law_turn", "_law_at", "_law_form", "_law_fresh"]
theorem scLRule : FnScope nLRule ["_law_box", "_law_most"] (defScope sLRule) := ⟨rfl, rfl, rfl, by decide +kernel, rfl, by decide +kernel, by decide +kernel⟩
theorem ok_lrule {f g fn fr fa : Addr} {fd gd dn dr da : FuncData} (F : Fun K "_law_rule" "_law_rule" sLRule f fd) (T : Blt mg)
    (GC : FnOk P w K mg base CX0 1 g gd ["_law_box", "_law_many"] spChoose) (bC : Binds K gd ["_law_box", "_law_many"] []) (kC : PySem.W.keepIn K (.ref g) = true) (mCh : mg "_law_choose" = some (.ref g))
    (GN : FnOk P w K mg base CX0 3 fn dn ["_law_box"] spNames) (bN : Binds K dn ["_law_box"] []) (kN : PySem.W.keepIn K (.ref fn) = true) (mN : mg "_law_names" = some (.ref fn))
    (GF : FnOk P w K mg base CX0 3 fr dr ["_law_box", "_law_names_here"] spFair) (bF : Binds K dr ["_law_box", "_law_names_here"] []) (kF : PySem.W.keepIn K (.ref fr) = true) (mF : mg "_law_fair_rows" = some (.ref fr))
    (GA : FnOk P w K mg base CX0 3 fa da ["_law_box", "_law_names_here"] (spAnyRow K)) (bA : Binds K da ["_law_box", "_law_names_here"] []) (kA : PySem.W.keepIn K (.ref fa) = true) (mA : mg "_law_any_row" = some (.ref fa)) :
    FnOk P w K mg base CX0 4 f fd ["_law_box", "_law_most"] spLRule := by
  refine F.ok scLRule (fun vs H Q E h => ?_) (fun cdv A outer s H vs Q E hr h => ?_)
  · obtain ⟨b, m, rfl, _⟩ := h
    rfl
  obtain ⟨b, m, rfl, hb, hm, q⟩ := h
  have hr1 : Room 1 _ := hr.mono (by decide)
  refine ⟨_, (pss_cons (ps_set (i := 2) scLRule.nd rfl (Or.inr rfl) (pe_slice sl_list (pe_call GN hr (by rfl) mN kN bN .nil pass0 (pa_cons (pv 0) pa_nil)) po_none (po_some (pe_op op_add pe_int (pe_call GC hr1 (by rfl) mCh kC bC .nil pass0 (pa_cons (pv 0) (pa_cons pe_int pa_nil)))))))
    (pss_cons (ps_set (i := 3) scLRule.nd rfl (Or.inl rfl) (pe_call GF hr (by rfl) mF kF bF .nil pass0 (pa_cons (pv 0) (pa_cons (pv 2) pa_nil))))
    (pss_cons (ps_if (pt_cmpR op_eq (pe_call GC hr1 (by rfl) mCh kC bC .nil pass0 (pa_cons (pv 0) (pa_cons pe_int pa_nil))) pe_int (nomark _)) (pss_one (ps_setLc (i := 3) (own := [("_law_turn", 4)]) (g := gName 4) (tt := tYes) rfl scLRule.nd rfl rfl (sw_true rfl rfl rfl (by decide +kernel)) (pi_range1 (by rfl) T.range (pa_cons (pe_call GC hr1 (by rfl) mCh kC bC .nil pass0 (pa_cons (pv 0) (pa_cons (pe_op op_add (pv 1) pe_int) pa_nil))) pa_nil)) (blkOk_by (N := nLRule) (sc := defScope sLRule) (own := [("_law_turn", 4)]) (by decide +kernel)) (fun _ _ _ _ _ => pg_name (i := 4) scLRule.nd rfl (Or.inl rfl)) (fun _ _ _ _ _ => pts_nil) (fun _ _ _ _ _ => (pe_call GA hr (by rfl) mA kA bA .nil pass0 (pa_cons (pv 0) (pa_cons (pv 2) pa_nil)))))) pss_nil)
    (pss_cons (ps_for PassesOwn.never rfl (pi_range1 (by rfl) T.range (pa_cons (pe_call GC hr1 (by rfl) mCh kC bC .nil pass0 (pa_cons (pv 0) (pa_cons pe_int pa_nil))) pa_nil)) (pg_name (i := 4) scLRule.nd rfl (Or.inl rfl))
    (pss_cons (ps_set (i := 5) scLRule.nd rfl (Or.inl rfl) (pe_call GC hr1 (by rfl) mCh kC bC .nil pass0 (pa_cons (pv 0) (pa_cons (pe_op op_add (pe_callB call_len_seq (by rfl) T.len PySem.boot_len (pa_cons (pv 3) pa_nil)) pe_int) pa_nil))))
      (pss_cons (ps_set (i := 6) scLRule.nd rfl (Or.inl rfl) (pe_call GC hr1 (by rfl) mCh kC bC .nil pass0 (pa_cons (pv 0) (pa_cons pe_int pa_nil))))
      (pss_cons (ps_set (i := 7) scLRule.nd rfl (Or.inl rfl) (pe_ifExp (pt_cmpR op_gt (pv 6) pe_int (nomark _)) (pe_lst (pa_cons (pe_call GA hr (by rfl) mA kA bA .nil pass0 (pa_cons (pv 0) (pa_cons (pv 2) pa_nil))) pa_nil)) (pe_lst pa_nil)))
      (pss_one (ps_set (i := 3) scLRule.nd rfl (Or.inl rfl) (pe_op op_cat (pe_op op_cat (pe_slice sl_list (pv 3) po_none (po_some (pv 5))) (pv 7)) (pe_slice sl_list (pv 3) (po_some (pe_op op_add (pv 5) (pe_callTy call_int1 (by rfl) T.int (by decide +kernel) (pa_cons (pe_cmpR op_lt (pv 6) pe_int (nomark _)) pa_nil)))) po_none))))))))
    (pss_one (ps_ret (pe_tup (pa_cons (pe_ix ix_list (pv 2) pe_int (fun _ _ => rfl)) (pa_cons (pe_callTy call_tuple_of (by rfl) T.tuple (by decide +kernel) (pa_cons (pe_slice sl_list (pv 3) po_none (po_some (pv 1))) pa_nil)) pa_nil))))))))), ?_⟩
  refine ⟨_, rfl, b, rfl, hb, fun l4 w4 J1 hw4 n4 h4 k1 bx1 => ?_⟩
  obtain ⟨lw4, gw4⟩ := names_wd w4 hw4
  have n4b : l4 ≠ b := fun e => by
    obtain ⟨x, y, e2⟩ := hb
    rw [e, e2] at n4
    cases n4
  refine ⟨_, rfl, b, 4, rfl, bx1, by decide, by decide, fun d x y d0 d1 => ?_⟩
  have k2 : Kb b H (upd J1 b (.lst [.int x, .int y])) := k1.trans Kb.box
  have bx2 : Box (upd J1 b (.lst [.int x, .int y])) b := ⟨x, y, upd_same⟩
  have h42 : upd J1 b (.lst [.int x, .int y]) l4 = some (.lst (w4.map V.str)) := by rw [upd_ne n4b]; exact h4
  generalize upd J1 b (.lst [.int x, .int y]) = J2 at k2 bx2 h42 ⊢
  obtain ⟨n, rfl⟩ : ∃ n : Nat, d = (n : Int) := ⟨d.toNat, by omega⟩
  refine ⟨_, _, rfl, rfl, _, rfl, l4, _, rfl, SqL.of h42, fun nl nnl => ?_⟩
  have ec : cutV (w4.map V.str) none (some (1 + (n : Int))) = (w4.take (n + 1)).map V.str := by
    rw [show (1 + (n : Int)) = ((n + 1 : Nat) : Int) by omega, cut_take', List.map_take]
  rw [ec]
  obtain ⟨ws, hws⟩ : ∃ ws, ws = w4.take (n + 1) := ⟨_, rfl⟩
  rw [← hws]
  have wl : 0 < ws.length ∧ ws.length ≤ 4 := by
    rw [hws, List.length_take, lw4]
    omega
  have wd : ∀ z ∈ ws, Wd z := fun z hz => name_wd (gw4 z (by rw [hws] at hz; exact List.mem_of_mem_take hz))
  have nnb : nl ≠ b := ne_box bx2 nnl
  have k3 : Kb b H (upd J2 nl (.lst (ws.map V.str))) := k2.trans (Kb.of (new_same nnl _))
  have bx3 : Box (upd J2 nl (.lst (ws.map V.str))) b := box_new bx2 nnl
  have hn3 : upd J2 nl (.lst (ws.map V.str)) nl = some (.lst (ws.map V.str)) := upd_same
  generalize upd J2 nl (.lst (ws.map V.str)) = H3 at k3 bx3 hn3 ⊢
  refine ⟨_, rfl, _, rfl, b, nl, ws, rfl, bx3, nnb, hn3, wl.1, wl.2, wd, fun fl xs rows J3 nfl hfl hrt h12 k4 bx4 => ?_⟩
  have g0 : GrowAt H3 b fl 31 J3 := ⟨⟨xs, rows, hfl, hrt, by omega⟩, k4, bx4, nfl, ne_box bx3 nfl⟩
  have names : ∀ {J f n}, GrowAt H3 b f n J → J nl = some (.lst (ws.map V.str)) := fun g => g.kb nl _ nnb hn3
  refine name_k ?_
  dsimp only
  refine seq_if_k (fun τ L => ∃ fl v4, τ = [some (.ref b), some (.int (m : Nat)), some (.ref nl), some (.ref fl), v4, none, none, none] ∧ GrowAt H3 b fl 31 L) (fun τ L ⟨fl, v4, et, gL⟩ => ?rest) (fun k => ?main)
  case main =>
    refine ⟨_, rfl, b, 3, rfl, bx4, by decide, by decide, fun d x y d0 d1 => ?_⟩
    have g1 := g0.draw (x := x) (y := y)
    generalize upd J3 b (.lst [.int x, .int y]) = J4 at g1 ⊢
    refine ⟨rfl, _, rfl, ite2 (fun _ => ?_) (fun _ => k _ J4 ⟨fl, _, rfl, g1⟩)⟩
    refine ⟨_, rfl, _, rfl, _, _, rfl, rfl, b, _, rfl, g1.box, by omega, by omega, fun d x y d0 d1 => ?_⟩
    have g2 := g1.draw (x := x) (y := y)
    generalize upd J4 b (.lst [.int x, .int y]) = J5 at g2 ⊢
    obtain ⟨c, rfl⟩ : ∃ c : Nat, d = (c : Int) := ⟨d.toNat, by omega⟩
    refine ⟨_, rfl, by omega, by omega, fun D hD => lc_range (lo := 0) (n := (c : Int).toNat) (fun i M => i ≤ 31 ∧ GrowAt H3 b D i M) ⟨by omega, ?_⟩ (fun i M hi ⟨_, gM⟩ => ?_) (fun M ⟨_, gM⟩ => ?_)⟩
    · exact ⟨⟨[], [], upd_same, RowTs.nil, Nat.le_refl _⟩, g2.kb.trans (Kb.of (new_same hD _)), box_new g2.box hD, kb_free g2.box g2.kb hD, ne_box g2.box hD⟩
    · have hc : i < 31 := by
        have : (c : Int).toNat = c := by omega
        omega
      refine ⟨rfl, _, rfl, _, rfl, b, nl, ws, rfl, gM.box, nnb, SqL.of (names gM), wl.1, by omega, wd, fun p r M' gr np hp kk bb => ?_⟩
      obtain ⟨acc, e1, e2, g4⟩ := (gM.kbm kk bb).add (by omega) hp gr
      exact ⟨acc, e1, e2, by omega, g4⟩
    · exact k _ M ⟨D, _, rfl, gM.le (by omega)⟩
  case rest =>
    subst et
    refine ⟨_, rfl, b, 3, rfl, gL.box, by decide, by decide, fun d x y d0 d1 => ?_⟩
    have g1 := gL.draw (x := x) (y := y)
    generalize upd L b (.lst [.int x, .int y]) = J4 at g1 ⊢
    refine ⟨_, rfl, by omega, by omega, for_range (lo := 0) (n := d.toNat) (fun i σ J => ∃ fl v4 v5 v6 v7, σ = [some (.ref b), some (.int (m : Nat)), some (.ref nl), some (.ref fl), v4, v5, v6, v7] ∧ i ≤ 3 ∧ GrowAt H3 b fl (31 + i) J) ⟨_, _, _, _, _, rfl, by omega, g1⟩ ?_ ?_⟩
    · rintro i σ J hi ⟨fl, v4, v5, v6, v7, rfl, i3, gJ⟩
      obtain ⟨xs, rows, hx, hrt, hl⟩ := gJ.ex
      have lx : xs.length ≤ 40 := by
        rw [hrt.1]
        omega
      refine ⟨_, rfl, _, rfl, fl, _, rfl, .inl (SqL.of hx), _, _, rfl, rfl, b, _, rfl, gJ.box, by omega, by omega, fun d x y d0 d1 => ?_⟩
      have g2 := gJ.draw (x := x) (y := y)
      generalize upd J b (.lst [.int x, .int y]) = J5 at g2 ⊢
      obtain ⟨at_, rfl⟩ : ∃ c : Nat, d = (c : Int) := ⟨d.toNat, by omega⟩
      refine ⟨_, rfl, b, 3, rfl, g2.box, by decide, by decide, fun fm x y f0 f1 => ?_⟩
      have g3 := g2.draw (x := x) (y := y)
      generalize upd J5 b (.lst [.int x, .int y]) = J6 at g3 ⊢
      have i2 : i < 2 := by omega
      -- what is put in
      refine name_k ?_
      dsimp only
      refine seq_k (fun τ J => ∃ fa ys more, τ = [some (.ref b), some (.int (m : Nat)), some (.ref nl), some (.ref fl), some (.int (0 + (i : Nat))), some (.int (at_ : Nat)), some (.int fm), some (.ref fa)] ∧ J fa = some (.lst ys) ∧ RowTs J ys more ∧ more.length ≤ 1 ∧ GrowAt H3 b fl (31 + i) J) (fun τ J ⟨fa, ys, more, eτ, hy, hyt, hyl, g5⟩ => ?put) (fun k => ?frs)
      case frs =>
        refine ⟨_, rfl, _, _, rfl, rfl, _, rfl, ite2 (fun _ => ?_) (fun _ => ⟨(by show 0 ≤ sizeLine; decide), fun fa nfa => k _ _ ⟨fa, [], [], rfl, upd_same, RowTs.nil, Nat.zero_le _, g3.more (new_same nfa _)⟩⟩)⟩
        refine ⟨_, rfl, _, rfl, b, nl, ws, rfl, g3.box, nnb, SqL.of (names g3), wl.1, by omega, wd, fun p r M gr np hp kk bb => ⟨(by show 1 ≤ sizeLine; decide), fun fa nfa => ?_⟩⟩
        have sf := new_same nfa (.lst [V.ref p])
        exact k _ _ ⟨fa, [.ref p], [r], rfl, upd_same, RowTs.nil.add (sf _ _ hp) gr, Nat.le_refl _, (g3.kbm kk bb).more sf⟩
      case put =>
        subst eτ
        obtain ⟨xs, rows, hx, hrt, hl⟩ := g5.ex
        have lx : xs.length ≤ 40 := by
          rw [hrt.1]
          omega
        have ly : ys.length ≤ 1 := by
          rw [hyt.1]
          exact hyl
        refine ⟨_, rfl, _, rfl, _, rfl, fl, _, rfl, SqL.of hx, fun p1 np1 => ?_⟩
        rw [cut_take']
        have s1 := new_same np1 (.lst (xs.take at_))
        refine ⟨_, rfl, p1, fa, _, ys, rfl, rfl, upd_same, s1 _ _ hy, ?_, fun p2 np2 => ?_⟩
        · rw [List.length_take]
          exact Nat.le_of_lt (small1000 (by omega))
        have s2 := s1.trans (new_same np2 (.lst (xs.take at_ ++ ys)))
        have hp2 : upd (upd J p1 (.lst (xs.take at_))) p2 (.lst (xs.take at_ ++ ys)) p2 = some (.lst (xs.take at_ ++ ys)) := upd_same
        generalize upd (upd J p1 (.lst (xs.take at_))) p2 (.lst (xs.take at_ ++ ys)) = M2 at s2 hp2 ⊢
        have fin : ∀ k : Nat, ∀ p3, M2 p3 = none → ∀ p4, upd M2 p3 (.lst (xs.drop (at_ + k))) p4 = none → GrowAt H3 b p4 (31 + (i + 1)) (upd (upd M2 p3 (.lst (xs.drop (at_ + k)))) p4 (.lst (xs.take at_ ++ ys ++ xs.drop (at_ + k)))) := fun k p3 n3 p4 n4 => by
          have s4 := (s2.trans (new_same n3 (.lst (xs.drop (at_ + k))))).trans (new_same n4 (.lst (xs.take at_ ++ ys ++ xs.drop (at_ + k))))
          have g6 := g5.more s4
          refine ⟨⟨_, rows.take at_ ++ more ++ rows.drop (at_ + k), upd_same, ((hrt.take.app hyt).app hrt.drop).keep (Keep.of s4), ?_⟩, g6.kb, g6.box, kb_free g5.box g5.kb ((s2.trans (new_same n3 _)).free n4), ?_⟩
          · simp only [List.length_append, List.length_take, List.length_drop]
            omega
          · exact fun e => by
              obtain ⟨x, y, q⟩ := g5.box
              rw [e, (s2.trans (new_same n3 _)) _ _ q] at n4
              cases n4
        refine ⟨_, rfl, _, rfl, _, rfl, _, _, rfl, rfl, .inr ⟨_, rfl, _, _, rfl, rfl, _, rfl, fl, _, rfl, SqL.of (s2 _ _ hx), fun p3 np3 => ?_⟩⟩
        obtain ⟨kk, hkk⟩ : ∃ kk : Nat, ((at_ : Nat) : Int) + (if decide (fm < 2) = true then 1 else 0) = ((at_ + kk : Nat) : Int) := by
          by_cases c : decide (fm < 2) = true
          · exact ⟨1, by rw [if_pos c]; omega⟩
          · exact ⟨0, by rw [if_neg c]; omega⟩
        rw [hkk, cut_drop] at *
        refine ⟨p2, p3, _, _, rfl, rfl, new_same np3 _ _ _ hp2, upd_same, ?_, fun p4 np4 => ?_⟩
        · simp only [List.length_append, List.length_take, List.length_drop]
          exact Nat.le_of_lt (small1000 (by omega))
        · exact ⟨_, _, _, _, _, rfl, by omega, fin kk p3 np3 p4 np4⟩
    · rintro σ J ⟨fl, v4, v5, v6, v7, rfl, i3, gJ⟩
      obtain ⟨xs, rows, hx, hrt, hl⟩ := gJ.ex
      have at0 : atI (ws.map V.str) 0 = some (V.str ws[0]) := atI_nat (j := 0) (by rw [List.getElem?_map, List.getElem?_eq_getElem wl.1]; rfl)
      refine ⟨_, rfl, nl, _, _, _, rfl, rfl, SqL.of (names gJ), at0, _, rfl, _, rfl, _, rfl, fl, _, rfl, SqL.of hx, fun p1 np1 => ?_⟩
      rw [cut_take']
      have s1 := new_same np1 (.lst (xs.take m))
      refine ⟨p1, _, rfl, .inl ⟨SqL.of upd_same, fun t nt => ⟨(by show 2 ≤ sizeLine; decide), fun p np => ?_⟩⟩⟩
      have s2 := s1.trans (new_same nt (.tup (xs.take m)))
      have ht : upd (upd J p1 (.lst (xs.take m))) t (.tup (xs.take m)) t = some (.tup (xs.take m)) := upd_same
      generalize upd (upd J p1 (.lst (xs.take m))) t (.tup (xs.take m)) = J5 at s2 ht np ⊢
      have s3 := s2.trans (new_same np (.tup [.str ws[0], .ref t]))
      have g6 := gJ.more s3
      exact q p t ws[0] (xs.take m) (rows.take m) _ (wd _ (List.getElem_mem wl.1)) (by rw [List.length_take]; omega) (hrt.take.keep (Keep.of s3)) (kb_free bx3 k3 (kb_free gJ.box gJ.kb (s2.free np))) upd_same (new_same np _ _ _ ht) (k3.trans g6.kb) g6.box
end
end LT
namespace L2
open PySem PySem.Spec PyProof.Rows
section
variable {X : Cx} {CX : CXT} {C f : Addr} {fd : FuncData} {ps : List Str} {E : XK} {k : Nat} {sp : Sp}
/-- len(x), x an instance of the class at C with an own __len__ -/
def rLenOwn (C : Addr) (sp : Sp) (E : XK) : List V → Hp → VK → Prop := fun xs H Q => ∃ (a dx : Addr) (fs : List (Str × V)), xs = [.ref a] ∧ H a = some (.ins C dx fs) ∧ sp [.ref a] H (fun v J => ∃ n : Int, v = .int n ∧ 0 ≤ n ∧ n < 2 ^ 63 ∧ Q v J) E
theorem call_lenOwn (F : FnOk X.prog X.w X.K X.mg X.base CX k f fd ps sp) (hr : Room (k + 1) X.A) (hs : PySem.W.findIn X.K (.ref C) "__len__" = some (some (.ref f))) (hf : PySem.W.isFn X.K (.ref f) = true)
    (bn : Binds X.K fd ps []) (hx : Passes CX X E) : CallR X (.builtin "len") (rLenOwn C sp E) := by
  intro pins s σ H xs us Q I r h
  obtain ⟨a, dx, fs, rfl, ha, q⟩ := h
  obtain ⟨u, rfl, ru⟩ := vals1 r
  cases ru
  obtain ⟨od, K1⟩ := ins_look I ha
  obtain ⟨m, hF⟩ := I.fr
  refine PySem.W.len_K hF I.ok.mod.kin K1 hs hf (run_own F ⟨hr.in1, rfl⟩ bn hx I (show Vals [V.ref a] [Value.ref a] from .cons rfl .nil) q fun u s' v J rv I' z => ?_)
  obtain ⟨n, rfl, h0, h1, q⟩ := z
  obtain ⟨t, rfl⟩ := rv
  exact ⟨⟨h0, h1⟩, .int n, J, I'.tok _, ⟨_, rfl⟩, q⟩
/-- x + y, both of the class at C with an own __add__ -/
def rAddOwn (C : Addr) (sp : Sp) (E : XK) : R2 := fun x y H Q => ∃ (a b dx dy : Addr) (fs gs : List (Str × V)), x = .ref a ∧ y = .ref b ∧ H a = some (.ins C dx fs) ∧ H b = some (.ins C dy gs) ∧ sp [x, y] H (fun v J => (∃ c, v = .ref c) ∧ Q v J) E
theorem op_addOwn (F : FnOk X.prog X.w X.K X.mg X.base CX k f fd ps sp) (hr : Room k X.A) (hc : PySem.W.selfFirst X.K C = true) (hs : PySem.W.findIn X.K (.ref C) "__add__" = some (some (.ref f))) (hf : PySem.W.isFn X.K (.ref f) = true)
    (bn : Binds X.K fd ps []) (hx : Passes CX X E) : OpR X (binaryOp .Add) (rAddOwn C sp E) := by
  intro pins s σ H x y v u Q I rx ry h
  obtain ⟨a, b, dx, dy, fs, gs, rfl, rfl, ha, hb, q⟩ := h
  cases rx
  cases ry
  obtain ⟨od, K1⟩ := ins_look I ha
  obtain ⟨oe, K2⟩ := ins_look I hb
  obtain ⟨m, hF⟩ := I.fr
  have hs2 : PySem.W.findIn X.K (.ref C) (PySem.dunder Operator.Add.info.2) = some (some (.ref f)) := by
    have e : PySem.dunder Operator.Add.info.2 = ("__add__" : Str) := by decide +kernel
    rw [e]
    exact hs
  refine PySem.W.binop_K (op := .Add) hF I.ok.mod.kin K1 K2.type hc hs2 hf (run_own F ⟨hr, rfl⟩ bn hx I (show Vals [V.ref a, V.ref b] [Value.ref a, Value.ref b] from .cons rfl (.cons rfl .nil)) q fun u s' v J rv I' z => ?_)
  obtain ⟨⟨c, rfl⟩, q⟩ := z
  cases rv
  exact ⟨.ref c, J, I', rfl, q⟩
/-- x[y], x an instance of the class at C with an own __getitem__ -/
def rIxOwn (C : Addr) (sp : Sp) (E : XK) : R2 := fun x y H Q => ∃ (a dx : Addr) (fs : List (Str × V)), x = .ref a ∧ H a = some (.ins C dx fs) ∧ sp [x, y] H Q E
theorem pe_ixOwn {a b : Expr} {ta tb : TE} {pos : Pos} (ha : PE X a ta) (hb : PE X b tb) (F : FnOk X.prog X.w X.K X.mg X.base CX k f fd ps sp) (hr : Room (k + 1) X.A) (hs : PySem.W.findIn X.K (.ref C) "__getitem__" = some (some (.ref f))) (hf : PySem.W.isFn X.K (.ref f) = true)
    (hfi : PySem.W.fnIn X.K f = true) (bn : Binds X.K fd ps []) (hx : Passes CX X E) (hsl : ∀ (c : Addr) (u : Value), subscripted b true (.ref c) u = runValue (.builtin "lifetime.subscript" ⟨[.ref c, u], []⟩) := by intro _ _; with_unfolding_all rfl) :
    PE X (.Subscript a b pos) (tOp (rIxOwn C sp E) ta tb) := by
  refine ⟨fun pins s σ H Q I h => ?_⟩
  refine Subscript_ (binT ha hb I h fun v u s2 x y H2 I2 rx ry q => ?_)
  obtain ⟨c, dx, fs, rfl, hc, q⟩ := q
  cases rx
  obtain ⟨od, K1⟩ := ins_look I2 hc
  obtain ⟨m, hF⟩ := I2.fr
  exact PySem.W.sub_K hF I2.ok.mod.kin K1 hs hfi hf (run_own F ⟨hr.in1, rfl⟩ bn hx I2 (show Vals [V.ref c, y] [Value.ref c, u] from .cons rfl (.cons ry .nil)) q fun u s' v J rv I' z => ⟨v, J, I', rv, z⟩) (hsl c u)
end
end L2
namespace LT
open PySem L2
/-! ### Rule's len, [], without, + (where they refuse nothing) -/
theorem passRm {X : Cx} : Passes (L2.CX X.prog X.w) X (fun _ _ _ => False) := passes_call takes0 (fun _ _ _ _ h => h)
theorem wd_strOk {z : Str} (h : Wd z) : PyData.strOk z = true := strOk_mem.mpr fun c hc => by
  have := az_small c (h.az c hc)
  omega
theorem rows_len {C : Addr} {H : Hp} {xs : List V} {rows : List Row5} (h : RowsIn C H xs rows) : xs.length = rows.length := h.1
theorem RowsIn.take {C : Addr} {H : Hp} {xs : List V} {rows : List Row5} {n : Nat} (h : RowsIn C H xs rows) : RowsIn C H (xs.take n) (rows.take n) :=
  ⟨by rw [List.length_take, List.length_take, h.1], fun i x e => by
    have hi := (List.getElem?_eq_some_iff.mp e).1
    rw [List.length_take] at hi
    rw [List.getElem?_take, if_pos (by omega)] at e
    obtain ⟨b, r, q1, q2, q3⟩ := h.2 i x e
    exact ⟨b, r, q1, by rw [List.getElem?_take, if_pos (by omega)]; exact q2, q3⟩⟩
theorem RowsIn.drop {C : Addr} {H : Hp} {xs : List V} {rows : List Row5} {n : Nat} (h : RowsIn C H xs rows) : RowsIn C H (xs.drop n) (rows.drop n) :=
  ⟨by rw [List.length_drop, List.length_drop, h.1], fun i x e => by
    rw [List.getElem?_drop] at e
    obtain ⟨b, r, q1, q2, q3⟩ := h.2 _ x e
    exact ⟨b, r, q1, by rw [List.getElem?_drop]; exact q2, q3⟩⟩
theorem RowsIn.app {C : Addr} {H : Hp} {xs ys : List V} {rows more : List Row5} (h : RowsIn C H xs rows) (k : RowsIn C H ys more) : RowsIn C H (xs ++ ys) (rows ++ more) :=
  ⟨by rw [List.length_append, List.length_append, h.1, k.1], fun j v z => by
    by_cases c : j < xs.length
    · rw [List.getElem?_append_left c] at z
      obtain ⟨b, r, e1, e2, e3⟩ := h.2 j v z
      exact ⟨b, r, e1, by rw [List.getElem?_append_left (by rw [← h.1]; exact c)]; exact e2, e3⟩
    · rw [List.getElem?_append_right (by omega)] at z
      obtain ⟨b, r, e1, e2, e3⟩ := k.2 _ v z
      exact ⟨b, r, e1, by rw [List.getElem?_append_right (by rw [← h.1]; omega), ← h.1]; exact e2, e3⟩⟩
def spRLen (K : PySem.W.Frag) (C CR : Addr) : Sp := fun vs H Q _ => ∃ (a : Addr) (first : Str) (rows : List Row5), vs = [.ref a] ∧ RuleAt K C CR H a first rows ∧ Q (.int (rows.length : Nat)) H
def spRItem (K : PySem.W.Frag) (C CR : Addr) : Sp := fun vs H Q _ => ∃ (a : Addr) (n : Nat) (first : Str) (rows : List Row5) (r : Row5), vs = [.ref a, .int (n : Nat)] ∧ RuleAt K C CR H a first rows ∧ rows[n]? = some r ∧
  ∀ (b dx : Addr) (J : Hp), Same H J → J b = some (.ins C dx r.fs) → Q (.ref b) J
def spRWithout (K : PySem.W.Frag) (C CR : Addr) : Sp := fun vs H Q _ => ∃ (a : Addr) (n : Nat) (first : Str) (rows : List Row5), vs = [.ref a, .int (n : Nat)] ∧ RuleAt K C CR H a first rows ∧ n < rows.length ∧
  ∀ (x : Addr) (J : Hp), Same H J → H x = none → RuleAt K C CR J x first (rows.take n ++ rows.drop (n + 1)) → Q (.ref x) J
def spRAdd (K : PySem.W.Frag) (C CR : Addr) : Sp := fun vs H Q _ => ∃ (a b : Addr) (first other : Str) (rows more : List Row5), vs = [.ref a, .ref b] ∧ RuleAt K C CR H a first rows ∧ RuleAt K C CR H b other more ∧ rows.length + more.length ≤ 31 ∧
  ∀ (x : Addr) (J : Hp), Same H J → H x = none → RuleAt K C CR J x first (rows ++ more) → Q (.ref x) J
section
variable {P : Program} {w : World} {K : PySem.W.Frag} {mg : Str → Option Value} {base : Heap}
/-- what these lean on -/
structure MethG (P : Program) (w : World) (K : PySem.W.Frag) (mg : Str → Option Value) (base : Heap) (C CR CE : Addr) : Prop where
  cl : Cls K CR
  n0 : NoAttr K CR "first"
  n1 : NoAttr K CR "rows"
  ha : PySem.W.findIn K (.ref CR) "__class__" = some (some (.builtin "object.__class__"))
  hn : PySem.W.specialIn K (.builtin "object.__class__") "__get__" = some (some (.builtin "getset_descriptor.__get__"))
  ht : PySem.W.takesIn K (.builtin "object.__class__") = some true
  hm : PySem.W.mroIn K CR (.type "object") = some true
  kR : PySem.W.kitOne K (.ref CR) (.ref CR) = some true
  mR : mg "Rule" = some (.ref CR)
  row : RowC K mg C
  ini : ∃ (f : Addr) (fd : FuncData), Mk K CR f ∧ FnOk P w K mg base (L2.CX P w) 3 f fd ["self", "first", "rows"] (spRuleI K C CR CE) ∧ Binds K fd ["self", "first", "rows"] []
  bel : ∃ (f : Addr) (fd : FuncData), FnOk P w K mg base CX0 2 f fd ["value", "bound"] (spBelow K) ∧ Binds K fd ["value", "bound"] [] ∧ PySem.W.keepIn K (.ref f) = true ∧ mg "is_below" = some (.ref f)
theorem scRLen : FnScope ["self"] ["self"] (defScope sRuleLen) := ⟨rfl, rfl, rfl, by decide +kernel, rfl, by decide +kernel, by decide +kernel⟩
theorem scRItem : FnScope ["self", "at"] ["self", "at"] (defScope sRuleItem) := ⟨rfl, rfl, rfl, by decide +kernel, rfl, by decide +kernel, by decide +kernel⟩
theorem scRAdd : FnScope ["self", "other"] ["self", "other"] (defScope sRuleAdd) := ⟨rfl, rfl, rfl, by decide +kernel, rfl, by decide +kernel, by decide +kernel⟩
theorem RuleAt.fld {C CR a : Addr} {first : Str} {rows : List Row5} {H : Hp} (ru : RuleAt K C CR H a first rows) : ∃ (dx tp : Addr) (fs : List (Str × V)) (xs : List V), H a = some (.ins CR dx fs) ∧ fs.lookup ("first" : Str) = some (V.str first) ∧ fs.lookup ("rows" : Str) = some (V.ref tp) ∧ SqT K H tp xs ∧ RowsIn C H xs rows := by
  obtain ⟨dx, tp, tm, xs, zs, h1, h2, h3, h4, h5⟩ := ru.ex
  exact ⟨dx, tp, _, xs, h1, by kernel_rfl, by kernel_rfl, h2, h3⟩
theorem ok_rlen {C CR CE f : Addr} {fd : FuncData} (F : Fun K "__len__" "Rule.__len__" sRuleLen f fd) (G : MethG P w K mg base C CR CE) (T : Blt mg) : FnOk P w K mg base CX0 1 f fd ["self"] (spRLen K C CR) := by
  refine F.ok scRLen (fun vs H Q E h => ?_) (fun cdv A outer s H vs Q E hr h => ?_)
  · obtain ⟨a, first, rows, rfl, _⟩ := h
    rfl
  obtain ⟨a, first, rows, rfl, ru, q⟩ := h
  obtain ⟨dx, tp, fs, xs, h1, h2, h3, h4, h5⟩ := ru.fld
  refine ⟨_, pss_one (ps_ret (pe_callB call_len_seq (by rfl) T.len PySem.boot_len (pa_cons (pe_fld (pv 0) rfl) pa_nil))), ?_⟩
  refine ⟨_, rfl, a, CR, dx, _, _, rfl, h1, G.cl, G.n1, h3, tp, xs, rfl, .inr h4, ?_⟩
  rw [h5.1]
  exact q
theorem ok_ritem {C CR CE f : Addr} {fd : FuncData} (F : Fun K "__getitem__" "Rule.__getitem__" sRuleItem f fd) (G : MethG P w K mg base C CR CE) (T : Blt mg) : FnOk P w K mg base CX0 3 f fd ["self", "at"] (spRItem K C CR) := by
  obtain ⟨fB, dB, GB, bB, kB, mB⟩ := G.bel
  refine F.ok scRItem (fun vs H Q E h => ?_) (fun cdv A outer s H vs Q E hr h => ?_)
  · obtain ⟨a, n, first, rows, r, rfl, _⟩ := h
    rfl
  obtain ⟨a, n, first, rows, r, rfl, ru, er, q⟩ := h
  obtain ⟨dx, tp, fs, xs, h1, h2, h3, h4, h5⟩ := ru.fld
  have few := ru.few
  have hn : n < rows.length := (List.getElem?_eq_some_iff.mp er).1
  refine ⟨_, pss_cons (ps_if (pt_not (pt_val (pe_call GB hr (by rfl) mB kB bB .nil pass0 (pa_cons (pv 1) (pa_cons (pe_callB call_len_seq (by rfl) T.len PySem.boot_len (pa_cons (pe_fld (pv 0) rfl) pa_nil)) pa_nil))))) (pss_one ps_nev) pss_nil)
    (pss_one (ps_ret (pe_ix ix_tup (pe_fld (pv 0) rfl) (pv 1) (fun _ _ => rfl)))), ?_⟩
  refine ⟨_, rfl, _, rfl, a, CR, dx, _, _, rfl, h1, G.cl, G.n1, h3, tp, xs, rfl, .inr h4, .int (n : Nat), _, true, false, _, rfl, fun _ _ => .base (.int _), kit_int_int, kit_int_bool, fun J s => ⟨(fun z => nomatch z), fun _ => ⟨_, rfl, true, ?_, iteF ?_⟩⟩⟩
  · rw [decide_eq_true (by omega), decide_eq_true (by rw [h5.1]; omega)]
    rfl
  obtain ⟨v, ev⟩ : ∃ v, xs[n]? = some v := ⟨_, List.getElem?_eq_getElem (by rw [h5.1]; exact hn)⟩
  obtain ⟨b, r', rfl, er', ⟨dy, hb⟩, g⟩ := h5.2 n v ev
  rw [er] at er'
  cases er'
  exact ⟨_, rfl, a, CR, dx, _, _, rfl, s _ _ h1, G.cl, G.n1, h3, _, rfl, tp, xs, _, .ref b, rfl, rfl, SqT.ext h4 s, atI_nat ev, q b dy J s (s _ _ hb)⟩
theorem ok_radd {C CR CE f : Addr} {fd : FuncData} (F : Fun K "__add__" "Rule.__add__" sRuleAdd f fd) (G : MethG P w K mg base C CR CE) (U : Blt2 mg) : FnOk P w K mg base CX0 5 f fd ["self", "other"] (spRAdd K C CR) := by
  obtain ⟨fU, dU, MU, GU, bU⟩ := G.ini
  refine F.ok scRAdd (fun vs H Q E h => ?_) (fun cdv A outer s H vs Q E hr h => ?_)
  · obtain ⟨a, b, first, other, rows, more, rfl, _⟩ := h
    rfl
  obtain ⟨a, b, first, other, rows, more, rfl, ru, ru', few, q⟩ := h
  obtain ⟨dx, tp, fs, xs, h1, h2, h3, h4, h5⟩ := ru.fld
  obtain ⟨dx', tp', fs', xs', h1', h2', h3', h4', h5'⟩ := ru'.fld
  refine ⟨_, pss_cons (ps_if (pt_not (pt_val (pe_callB call_isi (by rfl) U.isin boot_isin (pa_cons (pv 1) (pa_cons (pe_glob (by rfl) G.mR (v := .ref CR) rfl) pa_nil))))) (pss_one ps_nev) pss_nil)
    (pss_one (ps_ret (pe_make MU GU hr (by rfl) G.mR bU .nil passRm (pa_cons (pe_fld (pv 0) rfl) (pa_cons (pe_tup (StX.pa_star (pe_fld (pv 0) rfl) (StX.pa_star (pe_fld (pv 1) rfl) pa_nil))) pa_nil))))), ?_⟩
  refine ⟨_, rfl, .ref b, .ref CR, _, _, true, rfl, .own CR, .base (.ins h1' G.cl G.ha G.hn G.ht G.hm), G.kR, true, rfl, iteF ?_⟩
  refine ⟨_, rfl, a, CR, dx, _, _, rfl, h1, G.cl, G.n0, h2, _, rfl, a, CR, dx, _, _, rfl, h1, G.cl, G.n1, h3, tp, xs, rfl, .inl h4, _, rfl, b, CR, dx', _, _, rfl, h1', G.cl, G.n1, h3', tp', xs', rfl, .inl h4', ?_, fun p3 np3 => ?_⟩
  · rw [List.append_nil, List.length_append, h5.1, h5'.1]
    exact Nat.le_of_lt (small1000 (by omega))
  rw [List.append_nil]
  have s3 := new_same np3 (.tup (xs ++ xs'))
  have g3 : upd H p3 (.tup (xs ++ xs')) p3 = some (.tup (xs ++ xs')) := upd_same
  generalize upd H p3 (.tup (xs ++ xs')) = J3 at s3 g3 ⊢
  intro x dy nx ndy ne
  have wd := name_wd ru.wd
  have s4 : Same J3 (upd (upd J3 dy (.own x)) x (.ins CR dy [])) := fun b o e => by
    rw [upd_ne (ne_of_none e nx), upd_ne (ne_of_none e ndy)]
    exact e
  have R1 := h5.mono (s3.trans s4)
  have R2 := h5'.mono (s3.trans s4)
  refine ⟨x, dy, .str first, .ref p3, rfl, upd_same, (str_arg (wd_strOk wd) (by have := wd.len; omega)).kind G.row (C := C), .inr (.inr ⟨first, p3, _, _, rfl, ru.wd, rfl, .inr (SqT.of (s4 _ _ g3)), R1.app R2, ?_, fun L off ru2 => ⟨rfl, ?_⟩⟩)⟩
  · rw [List.length_append]
    omega
  · refine q x L (fun c o e => off c o (fun z => ?_) ((s3.trans s4) _ _ e)) (s3.free nx) ru2
    rw [z, s3.free nx] at e
    cases e
end
end LT
namespace LT
open PySem PySem.HandSPX PySem.Calls Builtin
/-- what the written part must say of an own class of exceptions with the built-in base B -/
structure ExK (h : Heap) (C : Addr) (B newId : String) (bm : List Value) : Prop where
  at_ : ∃ nm q N bs sn sub ab col dd k0 k1 k2 k3 k5, h.get? C = some (excClassObj nm q C N bs bm true sn sub ab col dd k0 k1 k2 k3 k5 newId)
section
variable {M : Model} {A : Around} {E : Value → Shared → Prop} {s : Shared} {C : Addr} {bm bmB : List Value} {B newId initId : String}
theorem kw_new_ok (F : ExcBaseFacts B newId initId bmB) (same : ∀ Y : String, bm.contains (.type Y) = bmB.contains (.type Y)) {us : List Value} {kws : List (Str × Value)} {Q : Unit → Shared → Prop}
    (K : ExK s.heap C B newId bm) (q : Q () s) : wpAny M A (checkBuiltinCall newId ⟨.ref C :: us, kws⟩) Q E s := by
  obtain ⟨nm, qn, N, bs, sn, sub, ab, col, dd, k0, k1, k2, k3, k5, cl⟩ := K
  obtain ⟨hp, g, d, t, os⟩ := s
  have inB : (Value.ref C :: bm).contains (.type B) = true := by rw [List.contains_cons, same, F.hasB, Bool.or_true]
  have star := F.noStar
  simp only [checkBuiltinCall, F.newKind, F.newSplit, F.newRow]
  repeat (first
    | refine wpAny_loadPart_at cl ?_
    | (refine wpAny_isSubtype_exc cl ?_; rw [inB])
    | refine wpAny_staticBase_exc cl ?_
    | refine wpAny_madeBy_exc cl ?_
    | simp only [bne_self_eq_false, Bool.false_eq_true, if_false]
    | wp_step)
  exact q
end
section
variable {prog : Program} {w : World} {A : Around} {E : Value → Shared → Prop} {R : Result → Shared → Prop} {s : Shared} {C : Addr} {bm bmB : List Value} {B newId initId : String}
/-- the heap with the arguments' tuple and the new exception -/
def laidX (s : Shared) (C : Addr) (us : List Value) : Heap := (s.heap.push (W.kdv_tup us)).push (excO C s.heap.objs.size)
theorem laidX_keeps (s : Shared) (C : Addr) (us : List Value) : ∀ b o, s.heap.get? b = some o → (laidX s C us).get? b = some o := fun b o e => Heap.get?_push_of_some _ (Heap.get?_push_of_some _ e)
theorem laidX_get (s : Shared) (C : Addr) (us : List Value) : (laidX s C us).get? (s.heap.objs.size + 1) = some (excO C s.heap.objs.size) := by
  unfold laidX
  heap_get
theorem kw_new_runs (F : ExcBaseFacts B newId initId bmB) (same : ∀ Y : String, bm.contains (.type Y) = bmB.contains (.type Y)) {us : List Value} {kws : List (Str × Value)} (K : ExK s.heap C B newId bm) (hz : us.length ≤ sizeLine)
    (q : R (.ok (.ret (.ref (s.heap.objs.size + 1)))) { s with heap := laidX s C us }) : codeAny (model prog w) A (.builtin newId ⟨.ref C :: us, kws⟩) R s := by
  obtain ⟨nm, qn, N, bs, sn, sub, ab, col, dd, k0, k1, k2, k3, k5, cl⟩ := K
  obtain ⟨hp, g, d, t, os⟩ := s
  have hrest := hz
  have hends := F.ends
  have inB : (Value.ref C :: bm).contains (.type B) = true := by rw [List.contains_cons, same, F.hasB, Bool.or_true]
  have noA : (Value.ref C :: bm).contains (.type "AttributeError") = false := by rw [List.contains_cons, same, F.noAttr]; rfl
  have noN : (Value.ref C :: bm).contains (.type "NameError") = false := by rw [List.contains_cons, same, F.noName]; rfl
  refine codeAny_builtinAt F.entry ?_
  unfold Builtin.«BaseException.__new__»
  refine wpAt_bind ?_
  show wpAt _ _ _ (stack >>= _) _ _ _
  refine wpAt_bind (wpAt_stack fun p below => wpAt_of_wpAny ?_)
  wp_walk
  refine wpAt_of_wpAny ?_
  rw [F.owner]
  repeat (first
    | with_reducible refine wpAny_madeHere_exc F.canon cl ?_
    | with_reducible refine wpAny_loadPart_at cl ?_
    | (with_reducible refine wpAny_isSubtype_exc cl ?_; first | rw [inB] | rw [noA] | rw [noN])
    | wp_step)
  show R _ _
  rw [Heap.size_push]
  exact q
theorem kw_type_call (F : ExcBaseFacts B newId initId bmB) (same : ∀ Y : String, bm.contains (.type Y) = bmB.contains (.type Y)) {us : List Value} {kws : List (Str × Value)} {fI : Addr} {Q : Fin → Shared → Prop} (K : ExK s.heap C B newId bm)
    (hi : W.Looks (model prog w) s.heap (typeLookup (.ref C) "__init__") (some (.ref fI))) (hb : ∀ self, W.Looks (model prog w) s.heap (bindSpecial (.ref fI) self) (.ref fI, [self])) (hz : us.length ≤ sizeLine)
    (q : codeAny (model prog w) A (.call (.ref fI) ⟨.ref (s.heap.objs.size + 1) :: us, kws⟩) (fun r s' => match r with | .ok (.ret v) => v = .none ∧ Q (.done (.ret (.ref (s.heap.objs.size + 1)))) s' | .ok _ => False | .error e => E e s') { s with heap := laidX s C us }) :
    wpAny (model prog w) A (Builtin.«type.__call__» ⟨.ref C :: us, kws⟩) Q E s := by
  have K0 := K
  have kee := laidX_keeps s C us
  have got := laidX_get s C us
  obtain ⟨nm, qn, N, bs, sn, sub, ab, col, dd, k0, k1, k2, k3, k5, cl⟩ := K
  have clL := kee _ _ cl
  have inC : (Value.ref C :: bm).contains (.ref C) = true := by simp
  have i1 := hi.keeps kee
  have b1 := (hb (.ref (s.heap.objs.size + 1))).keeps kee
  obtain ⟨hp, g, d, t, os⟩ := s
  repeat (first | with_reducible refine wpAny_loadPart_at cl ?_ | with_reducible refine wpAny_madeBy_exc cl ?_ | wp_step)
  refine codeAny_call_builtin_code (Code.quiet_builtin _ F.quiet) (kw_new_ok F same K0 ?_)
  refine kw_new_runs F same K0 hz ?_
  show wpAny _ _ _ _ _ _
  unfold isInstance
  repeat (first | with_reducible refine wpAny_loadPart_at got ?_ | (with_reducible refine wpAny_isSubtype_exc clL ?_; rw [inC]) | wp_step)
  show wpAny _ _ (typeLookup (.ref C) _) _ _ _
  refine i1.at ?_
  refine wpAny_holding (wpAny_bind (b1.at ?_))
  refine wpAny_bind (wpAny_call (codeAny_mono q fun r s' z => ?_))
  rcases r with e | (v | _ | _ | _) <;> first | exact z | exact z.elim | skip
  obtain ⟨rfl, z⟩ := z
  first
    | exact wpAny_pure (wpAny_pure z)
    | (wp_walk; exact z)
theorem kw_call (F : ExcBaseFacts B newId initId bmB) (same : ∀ Y : String, bm.contains (.type Y) = bmB.contains (.type Y)) {us : List Value} {kws : List (Str × Value)} {fI : Addr} (K : ExK s.heap C B newId bm)
    (hi : W.Looks (model prog w) s.heap (typeLookup (.ref C) "__init__") (some (.ref fI))) (hb : ∀ self, W.Looks (model prog w) s.heap (bindSpecial (.ref fI) self) (.ref fI, [self])) (hz : us.length ≤ sizeLine)
    (q : codeAny (model prog w) (A.under (.builtin "type.__call__" ⟨.ref C :: us, kws⟩)) (.call (.ref fI) ⟨.ref (s.heap.objs.size + 1) :: us, kws⟩) (W.InitBack (s.heap.objs.size + 1) R) { s with heap := laidX s C us }) :
    codeAny (model prog w) A (.call (.ref C) ⟨us, kws⟩) R s := by
  have K0 := K
  obtain ⟨nm, qn, N, bs, sn, sub, ab, col, dd, k0, k1, k2, k3, k5, cl⟩ := K
  have f1 := tc_lookup
  have f2 := tc_bind (.ref C)
  have hTy : s.TypeIs (.ref C) "type" := ⟨_, cl, rfl⟩
  obtain ⟨hp, g, d, t, os⟩ := s
  refine codeAny_of_tree ?_
  show wpAny _ _ (callAny (.ref C) _) _ _ _
  repeat (any_goals (first | assumption | with_reducible refine wpAny_loadPart_at cl ?_ | wp_step))
  refine ⟨rfl, ?_⟩
  refine codeAny_call_builtin_at (Code.quiet_builtin _ (by decide +kernel)) entry_typeCall (wpAny_check_type_call_sub cl (kw_type_call F same K0 hi hb hz ?_))
  refine codeAny_mono q fun r s' z => ?_
  rcases r with e | (v | _ | _ | _) <;> exact z
end
end LT
namespace LT
open PySem PySem.W PySem.Spec PySem.Calls PyProof.Rows
section
variable {prog : Program} {w : World} {A : Around} {E : Value → Shared → Prop} {s : Shared} {K : Frag} {x D : Addr} {ox : Obj}
theorem class_of_exc {od : Option Obj} {Q : Option Value → Shared → Prop} (T : L2.ExcC K D) (X : K.In s.heap) (I : InstAt s.heap x ox D od) (h : Q (some (.ref D)) { s with toks := s.toks + 1 }) :
    wpAny (model prog w) A (getAttr? (.ref x) "__class__") Q E s := by
  have found : findObj K D od "__class__" = some (.bind (.builtin "getset_descriptor.__get__") (.builtin "object.__class__")) := by
    cases od with
    | none => exact findObj_dataN (by obtain ⟨cd, e, _⟩ := any_some T.hd; rw [e]; rfl) T.ha T.hn T.ht
    | some o => exact findObj_data (by obtain ⟨cd, e, _⟩ := any_some T.hd; rw [e]; rfl) T.ha T.hn T.ht
  obtain ⟨hh, gg, dd, tt, oo⟩ := s
  have l0 := I.type (M := model prog w)
  have l1 := looks_findIn (M := model prog w) X T.hg
  have l2 := looks_findIn (M := model prog w) X T.hk
  have l3 := looks_find (M := model prog w) X I found
  have isB : Looks (model prog w) hh (isInstance (.ref x) (.type "BaseException")) true :=
    l0.andThen (looks_subIn X T.hs)
  have n2 : (Value.builtin "BaseException.__getattribute__" == Value.builtin "object.__getattribute__") = false :=
    by decide +kernel
  have n1 : (onTheHeap (Value.ref D) && Value.builtin "BaseException.__getattribute__" == Value.builtin "object.__getattribute__") = false :=
    (congrArg (onTheHeap (Value.ref D) && ·) n2).trans (Bool.and_false _)
  unfold getAttr? getAttrBy? getAttrBy
  refine wpAny_bind (wpAny_mkText (wpAny_bind (wpAny_attempt (wpAny_holding
    (wpAny_bind (l0.at (wpAny_bind (l1.at ?_))))))))
  show wpAny _ _ (if (onTheHeap (Value.ref D) &&
    Value.builtin "BaseException.__getattribute__" == Value.builtin "object.__getattribute__") = true then _ else _) _ _ _
  rw [n1, if_neg Bool.false_ne_true]
  unfold getAttrByItsOwn hookBefore
  refine wpAny_bind ?_
  have onH : onTheHeap (Value.ref D) = true := rfl
  rw [if_pos onH]
  refine l2.at (wpAny_bind (wpAny_attempt (wpAny_holding ?_)))
  unfold callGetattribute
  have n0 : (false && onTheHeap (Value.builtin "BaseException.__getattribute__")) = false := rfl
  rw [n0, if_neg Bool.false_ne_true]
  unfold boundAndCalled
  rw [PySem.F.excAttr_ValueError.ga.bind (.ref x)]
  refine wpAny_bind (wpAny_pure ?_)
  show wpAny _ _ (call (.builtin "BaseException.__getattribute__") [.ref x, .str "__class__" tt]) _ _ _
  refine wpAny_call (codeAny_call_builtin PySem.F.excAttr_ValueError.ga.plain
    PySem.F.entry_bexc_ga ?_)
  refine @check_slot (model prog w) _ _ ⟨hh, gg, dd, tt + 1, oo⟩ "BaseException.__getattribute__" "BaseException" "__getattribute__"
    (.ref x) [.str "__class__" tt] [] _ (by decide +kernel) (by decide +kernel) isB
    (PySem.F.args_bexc_ga (.ref x) (.str "__class__" tt)) ?_
  unfold Builtin.«object.__getattribute__»
  refine wpAny_bind (wpAny_of_eq (a := ((Value.ref x : Value), [Value.str "__class__" tt]))
    (by first | rfl | (simp only [slotArgs]; rfl)) ?_)
  refine wpAny_bind (wpAny_pure (wpAny_bind (l0.at (wpAny_bind (l3.at ?_)))))
  show wpAny _ _ (holding [Value.builtin "object.__class__"]
    (call (.builtin "getset_descriptor.__get__") [.builtin "object.__class__", .ref x, .ref D]) >>= ret) _ _ _
  refine wpAny_bind (wpAny_holding (wpAny_call
    (class_get (s := ⟨hh, gg, dd, tt + 1, oo⟩) (ox := ox) (od := od) X I T.hm ?_)))
  refine wpAny_pure ?_
  show wpAny _ _ (handedOut (.ref D)) _ _ _
  rw [handedOut_of (v := .ref D) rfl]
  first
    | exact wpAny_pure (wpAny_pure h)
    | exact wpAny_pure h
    | exact wpAny_pure (wpAny_bind (wpAny_pure (wpAny_pure h)))
theorem kit_exc (T : L2.ExcC K D) : KitX K (.ref x) (.ref D) (fun h => ∃ ox od, InstAt h x ox D od) where
  ty := fun _ _ _ ⟨_, _, I⟩ => I.type
  it := fun _ _ X _ => by
    obtain ⟨cdD, hcD, _⟩ := any_some T.hd
    unfold clsIn at hcD
    split at hcD
    · rename_i c' d' cd' sl' ho
      intro A' Q' E' s' k q
      unfold isType loadHead
      exact wpAny_bind (wpAny_loadPart (k _ _ (X _ _ ho)) (wpAny_pure q))
    · cases hcD
  ne := fun h tp dd its n sl X htp => by
    obtain ⟨cdD, hcD, _⟩ := any_some T.hd
    refine Bool.eq_false_iff.mpr fun q => ?_
    have e : D = tp := Value.ref.inj (beq_iff_eq.mp q)
    subst e
    unfold clsIn at hcD
    split at hcD
    · rename_i c' d' cd' sl' ho
      have z := (X _ _ ho).symm.trans htp
      cases z
    · cases hcD
  ca := fun X ⟨_, _, I⟩ k => class_of_exc T X I k
end
end LT
namespace LT
open PySem PySem.HandSPX PySem.Calls Builtin Builtin.ObjectAttr
section
variable {prog : Program} {w : World} {A : Around} {E : Value → Shared → Prop} {R : Result → Shared → Prop} {s : Shared}
theorem refs_pass {bmB : List Value} (h : ∀ self, refuseLoop self "__setattr__" bmB = pure ()) (self : Value) : ∀ cs : List Addr, refuseLoop self "__setattr__" (cs.map Value.ref ++ bmB) = pure ()
  | [] => h self
  | c :: cs => by
    rw [List.map_cons, List.cons_append, refuseLoop_ref]
    exact refs_pass h self cs
theorem refs_has {bmB : List Value} (X : String) : ∀ cs : List Addr, (cs.map Value.ref ++ bmB).contains (.type X) = bmB.contains (.type X)
  | [] => rfl
  | c :: cs => by
    rw [List.map_cons, List.cons_append, List.contains_cons, refs_has X cs]
    rfl
/-- the first attribute of an exception of an own class, its built-in base being told by its mro -/
theorem set_first {K : W.Frag} {f : Str} {tk : Tok} {u : Value} {x C : Addr} {fv : Array Value} {cd : ClassData}
    (X : K.In s.heap) (at_ : s.heap.get? x = some { cls := .ref C, data := .fields fv }) (hcd : W.clsIn K C = some cd) (pas : ∀ self, refuseLoop self "__setattr__" cd.mro = pure ()) (ob : cd.mro.contains (.type "object") = true) (hh : cd.hasDict = true) (no : W.findIn K (.ref C) f = some none)
    (q : ∀ h' tk' dx, (∀ b o, b ≠ x → s.heap.get? b = some o → h'.get? b = some o) → s.heap.objs.size ≤ dx → dx ≠ x → h'.get? x = some { cls := .ref C, dict := some dx, data := .fields fv } →
      h'.Ns1 dx (fun y => if y = f then some u else none) → R (.ok (.ret .none)) { s with heap := h', toks := tk' }) :
    codeAny (model prog w) A (.call (.builtin "object.__setattr__") ⟨[.ref x, .str f tk, u], []⟩) R s := by
  obtain ⟨hp, g, d, t, os⟩ := s
  have J : W.InstAt hp x { cls := .ref C, data := .fields fv } C none := ⟨at_, rfl, rfl, trivial⟩
  have ne : cd.mro.isEmpty = false := by
    cases h : cd.mro with
    | nil =>
      rw [h] at ob
      exact absurd ob (by decide)
    | cons _ _ => rfl
  have far : x ≠ hp.objs.size := Nat.ne_of_lt (Heap.lt_size at_)
  have S := F.store_object
  have isObj : W.Looks (model prog w) hp (isInstance (.ref x) (.type "object")) true := J.type.andThen (W.looks_mroIn X (by
    unfold W.mroIn
    rw [hcd, Option.bind_some, if_neg (by rw [ne]; decide), ob]))
  refine codeAny_call_builtin S.slot.plain S.entry (@W.check_slot (model prog w) _ _ ⟨hp, g, d, t, os⟩ "object.__setattr__" "object" "__setattr__" (.ref x) [.str f tk, u] [] _ S.kind S.split isObj (S.args (.ref x) (.str f tk) u) ?_)
  have lm : W.Looks (model prog w) hp (mroOf (.ref C)) cd.mro := (W.looks_clsIn X hcd).andThen .now
  have lt : W.Looks (model prog w) hp (storeTaker? none) none := .now
  have lc : W.Looks (model prog w) hp (classData C) cd := W.looks_clsIn X hcd
  rw [W.osa_eq, refuse_eq]
  refine wpAny_bind (wpAny_bind (J.type.at (wpAny_bind (lm.at ?_))))
  rw [pas]
  refine wpAny_pure (wpAny_bind (J.type.at (wpAny_bind ((W.looks_findIn X no).at (wpAny_bind (lt.at ?_))))))
  show wpAny _ _ (storeInOwnDict (.ref x) (.ref C) (.str f tk) f u false) _ _ _
  obtain ⟨nm, bs, mro, ns, qn, hd, sn, sb, ab, col, del⟩ := cd
  dsimp only at hh
  subst hh
  unfold storeInOwnDict ownDictForStores
  repeat (first
    | with_reducible refine store_in_new ?_ ?_
    | with_reducible refine wpAny_loadPart_at at_ ?_
    | with_reducible refine lc.at ?_
    | wp_step)
  · exact ⟨_, #[], _, (Heap.get?_update_ne _ _ _ _ far.symm).trans (Heap.get?_push_at rfl rfl), rfl, fun e he => absurd he (by simp), fun _ => rfl⟩
  · intro h' tk' ns1 same
    have at1 : (hp.push { cls := .type "dict", data := .dict #[] }).get? x = some { cls := .ref C, data := .fields fv } := Heap.get?_push_of_some _ at_
    refine q h' tk' hp.objs.size (fun b o nb e => ?_) (Nat.le_refl _) far.symm ?_ ns1
    · exact (same.2 b (Nat.ne_of_lt (Heap.lt_size e))).trans ((Heap.get?_update_ne _ _ _ _ nb).trans (Heap.get?_push_of_some _ e))
    · exact (same.2 x far).trans (Heap.get?_update_self _ at1 rfl)
end
end LT
namespace L2
open PySem PySem.Spec PyProof.Rows
/-- what the written part says of an own class of exceptions with the built-in base B -/
structure EC (K : PySem.W.Frag) (C : Addr) (B newId initId : String) (bmB : List Value) : Prop where
  base : ExcBaseFacts B newId initId bmB
  pas : ∀ self, refuseLoop self "__setattr__" bmB = pure ()
  ob : bmB.contains (.type "object") = true
  cls : ∃ nm q N bs sn sub ab col dd k0 k1 k2 k3 k5, ∃ cs : List Addr, K.lookup C = some (excClassObj nm q C N bs (cs.map Value.ref ++ bmB) true sn sub ab col dd k0 k1 k2 k3 k5 newId)
  sa : PySem.W.findIn K (.ref C) "__setattr__" = some (some (.builtin "object.__setattr__"))
  kC : PySem.W.keepIn K (.ref C) = true
section
variable {X : Cx} {pins : List (Addr × Obj)} {σ : St} {H : Hp} {s : Shared} {a C dx : Addr} {f : Str} {y : V} {u : Value} {Q : Unit → Shared → Prop} {E : Value → Shared → Prop} {A : Around} {B newId initId : String} {bmB : List Value}
theorem EC.laid {K : PySem.W.Frag} (T : EC K C B newId initId bmB) {h : Heap} (X : K.In h) : ∃ bm, (∀ Y : String, bm.contains (.type Y) = bmB.contains (.type Y)) ∧ LT.ExK h C B newId bm := by
  obtain ⟨nm, q, N, bs, sn, sub, ab, col, dd, k0, k1, k2, k3, k5, cs, l⟩ := T.cls
  exact ⟨cs.map Value.ref ++ bmB, fun Y => LT.refs_has Y cs, ⟨_, _, _, _, _, _, _, _, _, _, _, _, _, _, X _ _ l⟩⟩
/-- self.f = y, the first attribute of an exception -/
theorem set_ex (T : EC X.K C B newId initId bmB) (I : Inv X pins σ H s) (e : H a = some (exo a C none)) (no : PySem.W.findIn X.K (.ref C) f = some none) (ry : RelV y u)
    (h : ∀ dx s', H dx = none → dx ≠ a → Inv X pins σ (upd (upd H dx (exd dx [(f, y)])) a (exo a C (some dx))) s' → Q () s') : wpAny (model X.prog X.w) A (setAttr (.ref a) f u) Q E s := by
  obtain ⟨nm, q, N, bs, sn, sub, ab, col, dd, k0, k1, k2, k3, k5, cs, hC⟩ := T.cls
  have hcl : PySem.W.clsIn X.K C = some { name := nm, bases := bs, mro := .ref C :: (cs.map Value.ref ++ bmB), ns := N, qualname := q, hasDict := true, slotNames := sn, subclasses := sub, abstract := ab, collection := col, hasDel := false } := by
    unfold PySem.W.clsIn
    rw [hC] <;> rfl
  obtain ⟨t1, ho⟩ := exo_at I.hok e
  refine PySem.W.set_plain I.kIn (ox := { cls := .ref C, dict := none, data := .fields #[.ref t1, .none, .none, .none, .bool false, .none] }) (od := none) ⟨ho, rfl, rfl, trivial⟩ T.sa ?_
  refine LT.set_first I.kIn ho hcl (fun self => LT.refs_pass T.pas self (C :: cs)) ((LT.refs_has "object" (C :: cs)).trans T.ob) rfl no (fun h' tk' dx k dn dne hx hn => ?_)
  have fre : H dx = none := I.hok.fresh dn
  have nd : ∀ {b : Addr} {o : Obj}, s.heap.get? b = some o → b ≠ dx := fun z => Nat.ne_of_lt (Nat.lt_of_lt_of_le (Heap.lt_size z) dn)
  have na : ∀ {b : Addr}, H b = none → b ≠ a := fun n z => by
    rw [z, e] at n
    cases n
  have U : Un X.fs [] H (upd (upd H dx (exd dx [(f, y)])) a (exo a C (some dx))) s.heap h' := {
    keep := fun b o z n _ _ => k b o (na n) z
    slot := fun b o z n _ _ => ⟨o.slots, k b o (na n) z⟩
    free := fun b o z n _ => by
      rw [upd_ne (na n), upd_ne (nd z)]
      exact n
    there := fun b o z _ => by
      by_cases hb : b = a
      · exact ⟨_, by rw [hb]; exact hx⟩
      · exact ⟨o, k b o hb z⟩
    tups := fun b xs z => by
      rw [upd_ne (at_ne e z exo_tup), upd_ne (ne_of_none z fre)]
      exact z
    frzs := fun b o v z => by
      rw [upd_ne (at_ne e z exo_frz), upd_ne (ne_of_none z fre)]
      exact z
    tbls := fun b ps z => ⟨#[], by
      rw [upd_ne (at_ne e z exo_tbl), upd_ne (ne_of_none z fre), z]
      simp⟩ }
  refine h dx _ fre dne (I.un (t' := tk') U fun b o z => ?_)
  by_cases hb : b = a
  · subst hb
    rw [upd_same] at z
    cases z
    exact exo_ok hx
  rw [upd_ne hb] at z
  by_cases hd : b = dx
  · subst hd
    rw [upd_same] at z
    cases z
    exact exd_ok hn (relO_put (fs := []) ry fun _ => True.intro)
  rw [upd_ne hd] at z
  refine (I.hok b o z).stay (fun c v hc e' => k c v ?_ e') (fun c hc => ?_) fun c xs hc => ?_
  · rcases hc with hc | hc
    · rw [hc]
      exact hb
    · exact at_ne e hc exo_own
  · rw [upd_ne (at_ne e hc exo_own), upd_ne (ne_of_none hc fre)]
    exact hc
  · rw [upd_ne (at_ne e hc exo_tup), upd_ne (ne_of_none hc fre)]
    exact hc
end
end L2
namespace L2
open PySem PySem.Spec PyProof.Rows
section
variable {X : Cx} {CX : CXT} {x f : Str} {C fI : Addr} {k : Nat} {fd : FuncData} {ps : List Str} {sp : Sp} {B newId initId : String} {bmB : List Value} {e o : Expr} {es : List Expr} {te to : TE} {ta : TA} {p p' pos : Pos} {EE : XK}
/-- self.f = e, the first attribute of an exception -/
def tSetE (K : PySem.W.Frag) (f : Str) (to te : TE) : TS := fun D σ H => te σ H fun y H1 => to σ H1 fun x H2 => ∃ (a C : Addr) (B newId initId : String) (bmB : List Value), x = .ref a ∧ EC K C B newId initId bmB ∧ PySem.W.findIn K (.ref C) f = some none ∧ H2 a = some (exo a C none) ∧
  ∀ dx, H2 dx = none → dx ≠ a → D.nx σ (upd (upd H2 dx (exd dx [(f, y)])) a (exo a C (some dx)))
theorem ps_setE (ho : PE X o to) (he : PE X e te) (hs : swapsWith e (some (.Attribute o f p')) pos.line X.env = pure false := by rfl) : PS X (.Assign [.Attribute o f p'] e pos) (tSetE X.K f to te) := by
  refine ⟨fun pins s σ H D I h => ?_⟩
  refine plainObj_wpAny_Assign_Attribute (thn (he.run pins s σ H _ I h) fun v s1 ⟨y, H1, I1, r1, q1⟩ => thn (ho.run pins s1 σ H1 _ I1 q1) fun u s2 ⟨z, H2, I2, r2, a, C, B, nI, iI, bm, ez, T, no, ea, q⟩ => ?_) hs
  subst ez
  obtain rfl : u = Value.ref a := r2
  exact set_ex T I2 ea no r1 fun dx s' n ne J => ⟨σ, _, J, q dx n ne⟩
/-- the new exception stands, unmade as yet -/
theorem ex_laid {pins : List (Addr × Obj)} {σ : St} {H : Hp} {s : Shared} (I : Inv X pins σ H s) (us : List Value) :
    Inv X pins σ (upd H (s.heap.objs.size + 1) (exo (s.heap.objs.size + 1) C none)) { s with heap := LT.laidX s C us } :=
  I.laid (t' := s.toks) (LT.laidX_keeps s C us) (Nat.le_succ _) (exo_ok (LT.laidX_get s C us))
/-- an own class of exceptions with an own __init__ is called: a new exception -/
theorem run_ex {pins : List (Addr × Obj)} {σ : St} {H : Hp} {s : Shared} {Q : VK} {us all : List Value} {kws : List (Str × Value)} {vs : List V} (T : EC X.K C B newId initId bmB) (iC : PySem.W.findIn X.K (.ref C) "__init__" = some (some (.ref fI))) (tI : PySem.W.typeIn X.K (.ref fI) = some (.type "function"))
    (F : FnOk X.prog X.w X.K X.mg X.base CX k fI fd ps sp) (hr : Room (k + 1) X.A) (hx : Passes CX X EE) (I : Inv X pins σ H s) (r : Vals vs all) (hz : us.length ≤ 1000)
    (hb : ∀ s' : Shared, X.K.In s'.heap → BindsTo s' fd ⟨Value.ref (s.heap.objs.size + 1) :: us, kws⟩ (ps.zip (Value.ref (s.heap.objs.size + 1) :: all)))
    (h : ∀ a, H a = none → sp (.ref a :: vs) (upd H a (exo a C none)) (fun v H2 => v = .non ∧ Q (.ref a) H2) EE) : wpAny (model X.prog X.w) X.A (call (.ref C) us kws) (EP X pins σ Q) X.xe s := by
  obtain ⟨bm, same, Z⟩ := T.laid I.kIn
  have fre : H (s.heap.objs.size + 1) = none := I.hok.fresh (Nat.le_succ _)
  have here := h _ fre
  have J := ex_laid (C := C) I us
  have rr : Vals (V.ref (s.heap.objs.size + 1) :: vs) (Value.ref (s.heap.objs.size + 1) :: all) := .cons rfl r
  have hus : us.length ≤ sizeLine := by
    rw [sizeLine_eq]
    omega
  refine wpAny_call (LT.kw_call T.base same Z (PySem.W.looks_findIn I.kIn iC) (fun self => PySem.W.bind_fn I.kIn self tI) hus
    (codeAny_mono (F.run _ X.stack _ _ ⟨Value.ref (s.heap.objs.size + 1) :: us, kws⟩ _ _ _ EE (hr.make C us kws) (J.env0.make C us kws) (hb _ J.kIn) rr here) fun q s' hq => ?_))
  cases q with
  | error e => exact hx pins σ _ _ e s' J hq
  | ok fl =>
    cases fl with
    | ret u =>
      obtain ⟨v, H', J', rv, ev, fin⟩ := J.after hq
      subst ev
      exact ⟨rv, V.ref (s.heap.objs.size + 1), H', J', rfl, fin⟩
    | next => exact False.elim hq
    | brk => exact False.elim hq
    | cont => exact False.elim hq
/-- C(e, ..) as a value -/
def tExV (C : Addr) (sp : Sp) (EE : XK) (ta : TA) : TE := fun σ H Q => ta σ H fun vs H1 => vs.length ≤ 1000 ∧ ∀ a, H1 a = none → sp (.ref a :: vs) (upd H1 a (exo a C none)) (fun v H2 => v = .non ∧ Q (.ref a) H2) EE
theorem pe_exV (T : EC X.K C B newId initId bmB) (iC : PySem.W.findIn X.K (.ref C) "__init__" = some (some (.ref fI))) (tI : PySem.W.typeIn X.K (.ref fI) = some (.type "function"))
    (F : FnOk X.prog X.w X.K X.mg X.base CX k fI fd ps sp) (hr : Room (k + 1) X.A) (hb : Binds X.K fd ps []) (hx : Passes CX X EE) (hg : Gl X x) (hm : X.mg x = some (.ref C)) (ha : PA X (e :: es) ta)
    (hdb : (x == ("__debug__" : Str)) = false := by decide) (he : starEach (e :: es) X.env = (false, eval e X.env) :: starEach es X.env := by rfl) (hpl : (backTo pos (starEach es X.env)).any (·.1) = false := by rfl) :
    PE X (.Call (.Name x p) (e :: es) [] pos) (tExV C sp EE ta) := by
  refine ⟨fun pins s σ H Q I h => wpAny_Call_Name_kw (ld_glob I hg hm ?_ hdb)⟩
  refine PySem.W.callWith_K (h₀ := X.base) I.ok.mod.kin T.kC (thn (ha.run pos pins s σ H _ I h) fun us s1 hh => ?_) he hpl
  obtain ⟨vs, H1, I1, r, hz, q⟩ := hh
  refine ⟨I1.kIn, run_ex (all := us) (kws := []) T iC tI F hr hx I1 r (by show us.length ≤ 1000; rw [← r.length]; exact hz) (fun s' K => ?_) q⟩
  have len : (Value.ref (s1.heap.objs.size + 1) :: us).length = ps.length := by
    have := F.len _ _ _ _ (q (s1.heap.objs.size + 1) (I1.hok.fresh (Nat.le_succ _)))
    rw [← this, List.length_cons, List.length_cons, r.length]
  have := hb s' (Value.ref (s1.heap.objs.size + 1) :: us) K (by simpa using len)
  simpa using this
/-- C(f = e) as a value -/
def tExK (C : Addr) (sp : Sp) (EE : XK) (tk : TA) : TE := fun σ H Q => tk σ H fun zs H1 => ∃ v, zs = [v] ∧ ∀ a, H1 a = none → sp [.ref a, v] (upd H1 a (exo a C none)) (fun v H2 => v = .non ∧ Q (.ref a) H2) EE
theorem pe_exK {kw : List Keyword} {tk : TA} (T : EC X.K C B newId initId bmB) (iC : PySem.W.findIn X.K (.ref C) "__init__" = some (some (.ref fI))) (tI : PySem.W.typeIn X.K (.ref fI) = some (.type "function"))
    (F : FnOk X.prog X.w X.K X.mg X.base CX k fI fd ["self", f] sp) (hr : Room (k + 1) X.A) (hb : ∀ (s : Shared) (a u : Value), BindsTo s fd ⟨[a], [(f, u)]⟩ [("self", a), (f, u)]) (hx : Passes CX X EE) (hg : Gl X x) (hm : X.mg x = some (.ref C)) (hkw : PK X kw tk)
    (hall : (backToKw pos (keywordEach kw X.env)).all (·.1.isSome) = true := by rfl) (hks : (backToKw pos (keywordEach kw X.env)).filterMap (·.1) = [f] := by rfl) (hdb : (x == ("__debug__" : Str)) = false := by decide)
    (hpl : ((backTo pos (starEach [] X.env)).any (·.1) || (backToKw pos (keywordEach kw X.env)).any (·.1.isNone)) = false := by rfl) :
    PE X (.Call (.Name x p) [] kw pos) (tExK C sp EE tk) := by
  refine ⟨fun pins s σ H Q I h => wpAny_Call_Name_kw (ld_glob I hg hm ?_ hdb)⟩
  refine PySem.W.callWith_KW0 (h₀ := X.base) I.ok.mod.kin T.kC hall ?_ hpl
  refine thn (hkw.run pos pins s σ H _ I h) fun ws s2 hh => ?_
  obtain ⟨zs, H2, I2, rz, v, rfl, q⟩ := hh
  obtain ⟨u, rfl, ru⟩ := vals1 rz
  refine ⟨I2.kIn, ?_⟩
  rw [hks]
  exact run_ex (us := []) (all := [u]) (kws := [(f, u)]) T iC tI F hr hx I2 (.cons ru .nil) (by decide) (fun s' _ => hb s' _ u) q
/-- C(), C an own class of exceptions without own __init__ -/
theorem pe_ex0 (F : ExcBaseFacts B newId initId bmB) (q : PySem.W.excIn X.K C bmB newId = true) (gC : X.mg x = some (.ref C)) (kC : PySem.W.keepIn X.K (.ref C) = true) (hg : Gl X x) (hdb : (x == ("__debug__" : Str)) = false := by decide) :
    PE X (.Call (.Name x p) [] [] pos) (fun _ H Q => ∀ a, H a = none → Q (.ref a) (upd H a (exo a C none))) := by
  refine ⟨fun pins s σ H Q I h => ?_⟩
  refine wpAny_Call_Name_kw (ld_glob I hg gC ?_ hdb)
  refine PySem.W.callWith_K0 I.kIn kC ?_
  show wpAny _ _ (call (.ref C) []) _ _ _
  obtain ⟨bm, N, nm, qn, bs, hdct, sn, sub, ab, col, dd, k0, k1, k2, k3, k5, mN, hC, hN, hni, T⟩ := exc_obj I.kIn q
  refine wpAny_call_exc_subT F T hC hN hni (fun h' a hm => ?_) (by show 0 ≤ sizeLine; rw [sizeLine_eq]; omega)
  have hn : H a = none := I.hok.gone hm.new
  obtain ⟨t, ht, _, _⟩ := hm.there
  exact ⟨.ref a, upd H a (exo a C none), I.laidN hm.keeps hm.new hn (exo_ok ht), rfl, h a hn⟩
/-- e.f, e an exception that has its attributes -/
def tFldE (K : PySem.W.Frag) (f : Str) (te : TE) : TE := fun σ H Q => te σ H fun x H1 => ∃ (a C d : Addr) (fs : List (Str × V)) (v : V), x = .ref a ∧ H1 a = some (exo a C (some d)) ∧ H1 d = some (exd d fs) ∧ XfC K C ∧ PySem.W.findIn K (.ref C) f = some none ∧ fs.lookup f = some v ∧ Q v H1
theorem exo_inst {pins : List (Addr × Obj)} {σ : St} {H : Hp} {s : Shared} {a d : Addr} {fs : List (Str × V)} (I : Inv X pins σ H s) (ha : H a = some (exo a C (some d))) (hd : H d = some (exd d fs)) :
    ∃ (ox od : Obj) (mA : Str → Option Value), PySem.W.InstAt s.heap a ox C (some od) ∧ (∀ g, RelO (fs.lookup g) (mA g)) ∧ ∀ g, PySem.W.lookIn g od = some (mA g) := by
  obtain ⟨t1, ho⟩ := exo_at I.hok ha
  obtain ⟨mA, hns, rel⟩ := exd_at I.hok hd
  obtain ⟨od, hod, hl⟩ := lookIn_ns hns
  exact ⟨_, od, mA, ⟨ho, rfl, rfl, hod⟩, rel, hl⟩
theorem pe_fldE {te : TE} (he : PE X e te) (hb : attributeBase e f X.env (eval e X.env) = eval e X.env := by rfl) : PE X (.Attribute e f pos) (tFldE X.K f te) := by
  refine ⟨fun pins s σ H Q I h => ?_⟩
  refine attr_of hb (thn (he.run pins s σ H _ I h) fun u s1 hh => ?_)
  obtain ⟨x, H1, I1, rx, a, C, d, fs, v, ex, ea, ed, T, no, l, q⟩ := hh
  subst ex
  obtain rfl : u = Value.ref a := rx
  obtain ⟨ox, od, mA, J, rel, hl⟩ := exo_inst I1 ea ed
  obtain ⟨u, hu, ru⟩ := RelO.some_of (v := v) (o := mA f) (by rw [← l]; exact rel f)
  exact HandSPX.exc_get I1.kIn J T.ga T.gg T.exC (PySem.W.findObj_own T.hdC no rfl (by rw [hl, hu])) (handed_of ru) ⟨v, H1, I1.tok _, ru, q⟩
/-- isinstance(e, c), e an exception at hand -/
def rIsO (K : PySem.W.Frag) : List V → Hp → VK → Prop := fun xs H Q => ∃ (a C : Addr) (od : Option Addr) (c : V) (cv : Value) (b : Bool), xs = [.ref a, c] ∧ H a = some (exo a C od) ∧ (∀ d, od = some d → ∃ fs, H d = some (exd d fs)) ∧ ExcC K C ∧ ClsV c cv ∧ PySem.W.kitOne K (.ref C) cv = some b ∧ Q (.bl b) H
theorem call_isO : CallR X (.builtin "isinstance") (rIsO X.K) := by
  intro pins s σ H xs us Q I r h
  obtain ⟨a, C, od, c, cv, b, rfl, ha, hd, T, kc, e, q⟩ := h
  obtain ⟨u1, u2, rfl, r1, r2⟩ := vals2 r
  obtain rfl : u1 = Value.ref a := r1
  have J : ∃ ox oo, PySem.W.InstAt s.heap a ox C oo := by
    cases od with
    | none =>
      obtain ⟨t1, ho⟩ := exo_at I.hok ha
      exact ⟨_, none, ho, rfl, rfl, trivial⟩
    | some d =>
      obtain ⟨fs, hd⟩ := hd d rfl
      obtain ⟨ox, oo, _, J, _⟩ := exo_inst I ha hd
      exact ⟨ox, some oo, J⟩
  have Z := LT.kit_exc (K := X.K) (x := a) (D := C) T
  have e2 := kc.eq r2
  subst e2
  exact PySem.W.kia_one Z I.kIn J e (fun z => nomatch z) fun tk => ⟨.bl b, H, I.tok tk, rfl, q⟩
end
end L2
namespace L2
open PySem PySem.Spec PyProof.Rows
section
variable {X : Cx} {CX : CXT} {x : Str} {C fI : Addr} {k : Nat} {fd : FuncData} {ps : List Str} {sp : Sp} {B newId initId : String} {bmB : List Value} {e : Expr} {es : List Expr} {ta : TA} {p pos : Pos}
/-- an exception of an own class over any built-in base, made to be raised -/
theorem pmk_ec (T : EC X.K C B newId initId bmB) (xC : PySem.W.subIn X.K (.ref C) (.type "BaseException") = some true) (yC : PySem.W.typeIn X.K (.ref C) = some (.type "type")) (iC : PySem.W.findIn X.K (.ref C) "__init__" = some (some (.ref fI))) (tI : PySem.W.typeIn X.K (.ref fI) = some (.type "function"))
    (F : FnOk X.prog X.w X.K X.mg X.base CX k fI fd ps sp) (room : Room (k + 1) X.A) (bn : Binds X.K fd ps []) (pass : Passes CX X (fun _ _ _ => False)) (gl : Gl X x) (mx : X.mg x = some (.ref C)) (args : PA X (e :: es) ta)
    (h0 : (x == ("__debug__" : Str)) = false := by decide) (h1 : starEach (e :: es) X.env = (false, eval e X.env) :: starEach es X.env := by rfl) (h2 : (backTo pos (starEach es X.env)).any (·.1) = false := by rfl) :
    PMk X (.Call (.Name x p) (e :: es) [] pos) (tMkO C sp [] ta) := by
  intro pins s σ H Q I w
  refine wpAny_Call_Name_kw (ld_glob I gl mx ?_ h0)
  refine PySem.W.callWith_K (h₀ := X.base) I.ok.mod.kin T.kC (thn (args.run pos pins s σ H _ I w) fun us s1 hh => ?_) h1 h2
  obtain ⟨vs, H1, I1, r, hz, q⟩ := hh
  refine ⟨I1.kIn, ?_⟩
  obtain ⟨bm, same, Z⟩ := T.laid I1.kIn
  have fre : H1 (s1.heap.objs.size + 1) = none := I1.hok.fresh (Nat.le_succ _)
  have here := q _ fre
  rw [List.append_nil] at here
  have J := ex_laid (C := C) I1 us
  have rr : Vals (V.ref (s1.heap.objs.size + 1) :: vs) (Value.ref (s1.heap.objs.size + 1) :: us) := .cons rfl r
  have hus : us.length ≤ sizeLine := by
    rw [sizeLine_eq, ← Paired.length r]
    omega
  have len : (Value.ref (s1.heap.objs.size + 1) :: us).length = ps.length := by
    have := F.len _ _ _ _ here
    rw [← this]
    exact rr.length.symm
  refine wpAny_call (LT.kw_call T.base same Z (PySem.W.looks_findIn I1.kIn iC) (fun self => PySem.W.bind_fn I1.kIn self tI) hus
    (codeAny_mono (F.run _ X.stack _ _ ⟨Value.ref (s1.heap.objs.size + 1) :: us, []⟩ _ _ _ (fun _ _ _ => False) (room.make C us []) (J.env0.make C us []) (by
      have := bn { s1 with heap := LT.laidX s1 C us } (Value.ref (s1.heap.objs.size + 1) :: us) J.kIn (by simpa using len)
      simpa using this) rr here) fun z s' hq => ?_))
  cases z with
  | error e => exact pass pins σ _ _ e s' J hq
  | ok fl =>
    cases fl with
    | ret u =>
      obtain ⟨v, H2, os2, bare2, un2, hok2, rv, ev, d, fs, ea, ed, hd1, q2⟩ := hq
      subst ev
      obtain ⟨h2, g2, d2, t2, os'⟩ := s'
      obtain ⟨hp, g1, d1, t1, os1⟩ := s1
      exact ⟨rv, mk_end (raises_own xC yC) I1 (Nat.le_succ _) (LT.laidX_keeps ⟨hp, g1, d1, t1, os1⟩ C us) un2 hok2 os2 bare2 ea ed hd1 q2⟩
    | next => exact False.elim hq
    | brk => exact False.elim hq
    | cont => exact False.elim hq
end
end L2
namespace LT
open PySem L2
/-! ### NoRow; Rule's [] and without, also where they refuse -/
section
variable {P : Program} {w : World} {K : PySem.W.Frag} {mg : Str → Option Value} {base : Heap}
theorem scNoRow : FnScope ["self", "at"] ["self", "at"] (defScope sNoRowI) := ⟨rfl, rfl, rfl, by decide +kernel, rfl, by decide +kernel, by decide +kernel⟩
theorem ok_errNoRow {C f : Addr} {fd : FuncData} {q : Str} {B nI iI : String} {bm : List Value} (F : Fun K "__init__" q sNoRowI f fd) (T : EC K C B nI iI bm) (no : PySem.W.findIn K (.ref C) "at" = some none) : FnOk P w K mg base CX0 1 f fd ["self", "at"] (spErrA C "at") := by
  refine F.ok scNoRow (fun vs H Q E h => ?_) (fun cdv A outer s H vs Q E hr h => ?_)
  · obtain ⟨a, v, rfl, _⟩ := h
    rfl
  obtain ⟨a, v, rfl, ha, q⟩ := h
  refine ⟨_, pss_one (ps_setE (pv 0) (pv 1)), ?_⟩
  exact ⟨_, rfl, _, rfl, a, C, B, nI, iI, bm, rfl, T, no, ha, q⟩
/-- what is told of NoRow -/
structure NoRowG (P : Program) (w : World) (K : PySem.W.Frag) (mg : Str → Option Value) (base : Heap) (CN : Addr) : Prop where
  ec : ∃ (B nI iI : String) (bm : List Value), EC K CN B nI iI bm
  xc : PySem.W.subIn K (.ref CN) (.type "BaseException") = some true
  ty : PySem.W.typeIn K (.ref CN) = some (.type "type")
  ini : ∃ (f : Addr) (fd : FuncData), FnOk P w K mg base CX0 1 f fd ["self", "at"] (spErrA CN "at") ∧ Binds K fd ["self", "at"] [] ∧ PySem.W.findIn K (.ref CN) "__init__" = some (some (.ref f)) ∧ PySem.W.typeIn K (.ref f) = some (.type "function")
  m : mg "NoRow" = some (.ref CN)
def Beyond (i : Int) (n : Nat) : Prop := i < 0 ∨ (n : Int) ≤ i
def spRItemX (K : PySem.W.Frag) (C CR CN : Addr) : Sp := fun vs H Q E => ∃ (a : Addr) (i : Int) (first : Str) (rows : List Row5), vs = [.ref a, .int i] ∧ RuleAt K C CR H a first rows ∧
  ((∃ (n : Nat) (r : Row5), i = (n : Nat) ∧ rows[n]? = some r ∧ ∀ (b dx : Addr) (J : Hp), Same H J → J b = some (.ins C dx r.fs) → Q (.ref b) J) ∨
   (Beyond i rows.length ∧ ∀ d J, Same H J → J d = none → E (.ref CN) (some d) (upd J d (.xd [("at", .int i)]))))
def spRWithoutX (K : PySem.W.Frag) (C CR CN : Addr) : Sp := fun vs H Q E => ∃ (a : Addr) (i : Int) (first : Str) (rows : List Row5), vs = [.ref a, .int i] ∧ RuleAt K C CR H a first rows ∧
  ((∃ n : Nat, i = (n : Nat) ∧ n < rows.length ∧ ∀ (x : Addr) (J : Hp), Same H J → H x = none → RuleAt K C CR J x first (rows.take n ++ rows.drop (n + 1)) → Q (.ref x) J) ∨
   (Beyond i rows.length ∧ ∀ d J, Same H J → J d = none → E (.ref CN) (some d) (upd J d (.xd [("at", .int i)]))))
theorem scRItemX : FnScope ["self", "at"] ["self", "at"] (defScope sRuleItem) := ⟨rfl, rfl, rfl, by decide +kernel, rfl, by decide +kernel, by decide +kernel⟩
theorem beyond_no {i : Int} {n : Nat} (h : Beyond i n) : (decide (0 ≤ i) && decide (i < (n : Int))) = false := by
  rcases h with h | h
  · rw [decide_eq_false (by omega), Bool.false_and]
  · rw [decide_eq_false (by omega : ¬ i < (n : Int)), Bool.and_false]
theorem ok_ritemX {C CR CE CN f : Addr} {fd : FuncData} (F : Fun K "__getitem__" "Rule.__getitem__" sRuleItem f fd) (G : MethG P w K mg base C CR CE) (N : NoRowG P w K mg base CN) (T : Blt mg) : FnOk P w K mg base (L2.CX P w) 3 f fd ["self", "at"] (spRItemX K C CR CN) := by
  obtain ⟨fB, dB, GB, bB, kB, mB⟩ := G.bel
  obtain ⟨fE, fdE, GE, bE, iE, tE⟩ := N.ini
  obtain ⟨B, nI, iI, bm, ec⟩ := N.ec
  refine F.okX scRItemX (fun vs H Q E h => ?_) (fun cdv A outer s H vs Q E hr h => ?_)
  · obtain ⟨a, i, first, rows, rfl, _⟩ := h
    rfl
  obtain ⟨a, i, first, rows, rfl, ru, hh⟩ := h
  obtain ⟨dx, tp, fs, xs, h1, h2, h3, h4, h5⟩ := ru.fld
  have few := ru.few
  have hr2 : Room 2 _ := hr.mono (by decide)
  refine ⟨_, pss_cons (ps_if (pt_not (pt_val (pe_call GB hr2 (by rfl) mB kB bB .nil pass0 (pa_cons (pv 1) (pa_cons (pe_callB call_len_seq (by rfl) T.len PySem.boot_len (pa_cons (pe_fld (pv 0) rfl) pa_nil)) pa_nil)))))
      (pss_one (ps_raise rfl (takes_of rfl rfl rfl rfl) (pmk_ec ec N.xc N.ty iE tE GE hr2 bE pass0 rfl N.m (pa_cons (pv 1) pa_nil)))) pss_nil)
    (pss_one (ps_ret (pe_ix ix_tup (pe_fld (pv 0) rfl) (pv 1) (fun _ _ => rfl)))), ?_⟩
  refine ⟨_, rfl, _, rfl, a, CR, dx, _, _, rfl, h1, G.cl, G.n1, h3, tp, xs, rfl, .inr h4, .int i, _, true, false, _, rfl, fun _ _ => .base (.int _), kit_int_int, kit_int_bool, fun J s => ⟨(fun z => nomatch z), fun _ => ⟨_, rfl, _, rfl, ?_⟩⟩⟩
  rw [h5.1]
  rcases hh with ⟨n, r, rfl, er, q⟩ | ⟨by_, kE⟩
  · have hn : n < rows.length := (List.getElem?_eq_some_iff.mp er).1
    rw [decide_eq_true (by omega), decide_eq_true (by omega)]
    refine iteF ?_
    obtain ⟨v, ev⟩ : ∃ v, xs[n]? = some v := ⟨_, List.getElem?_eq_getElem (by rw [h5.1]; exact hn)⟩
    obtain ⟨b, r', rfl, er', ⟨dy, hb⟩, g⟩ := h5.2 n v ev
    rw [er] at er'
    cases er'
    exact ⟨_, rfl, a, CR, dx, _, _, rfl, s _ _ h1, G.cl, G.n1, h3, _, rfl, tp, xs, _, .ref b, rfl, rfl, SqT.ext h4 s, atI_nat ev, q b dy J s (s _ _ hb)⟩
  · rw [beyond_no by_]
    exact iteT (raise_okA (fun _ _ q => ⟨_, rfl, q⟩) fun d hd => kE d J s hd)
theorem scRWithoutX : FnScope ["self", "at"] ["self", "at"] (defScope sRuleWithout) := ⟨rfl, rfl, rfl, by decide +kernel, rfl, by decide +kernel, by decide +kernel⟩
theorem ok_rwithoutX {C CR CE CN f : Addr} {fd : FuncData} (F : Fun K "without" "Rule.without" sRuleWithout f fd) (G : MethG P w K mg base C CR CE) (N : NoRowG P w K mg base CN) (T : Blt mg) : FnOk P w K mg base (L2.CX P w) 5 f fd ["self", "at"] (spRWithoutX K C CR CN) := by
  obtain ⟨fB, dB, GB, bB, kB, mB⟩ := G.bel
  obtain ⟨fU, dU, MU, GU, bU⟩ := G.ini
  obtain ⟨fE, fdE, GE, bE, iE, tE⟩ := N.ini
  obtain ⟨B, nI, iI, bm, ec⟩ := N.ec
  refine F.okX scRWithoutX (fun vs H Q E h => ?_) (fun cdv A outer s H vs Q E hr h => ?_)
  · obtain ⟨a, i, first, rows, rfl, _⟩ := h
    rfl
  obtain ⟨a, i, first, rows, rfl, ru, hh⟩ := h
  obtain ⟨dx, tp, fs, xs, h1, h2, h3, h4, h5⟩ := ru.fld
  have few := ru.few
  have lx := h5.1
  have hr2 : Room 2 _ := hr.mono (by decide)
  have hr4 : Room 4 _ := hr.mono (by decide)
  refine ⟨_, pss_cons (ps_if (pt_not (pt_val (pe_call GB hr2 (by rfl) mB kB bB .nil pass0 (pa_cons (pv 1) (pa_cons (pe_callB call_len_seq (by rfl) T.len PySem.boot_len (pa_cons (pe_fld (pv 0) rfl) pa_nil)) pa_nil)))))
      (pss_one (ps_raise rfl (takes_of rfl rfl rfl rfl) (pmk_ec ec N.xc N.ty iE tE GE hr2 bE pass0 rfl N.m (pa_cons (pv 1) pa_nil)))) pss_nil)
    (pss_one (ps_ret (pe_make MU GU hr4 (by rfl) G.mR bU .nil passRm (pa_cons (pe_fld (pv 0) rfl) (pa_cons (pe_tup (StX.pa_star (pe_slice sl_tup (pe_fld (pv 0) rfl) po_none (po_some (pv 1))) (StX.pa_star (pe_slice sl_tup (pe_fld (pv 0) rfl) (po_some (pe_op op_add (pv 1) pe_int)) po_none) pa_nil))) pa_nil))))), ?_⟩
  refine ⟨_, rfl, _, rfl, a, CR, dx, _, _, rfl, h1, G.cl, G.n1, h3, tp, xs, rfl, .inr h4, .int i, _, true, false, _, rfl, fun _ _ => .base (.int _), kit_int_int, kit_int_bool, fun J s => ⟨(fun z => nomatch z), fun _ => ⟨_, rfl, _, rfl, ?_⟩⟩⟩
  rw [lx]
  rcases hh with ⟨n, rfl, hn, q⟩ | ⟨by_, kE⟩
  · rw [decide_eq_true (by omega), decide_eq_true (by omega)]
    refine iteF ?_
    refine ⟨_, rfl, a, CR, dx, _, _, rfl, s _ _ h1, G.cl, G.n0, h2, _, rfl, a, CR, dx, _, _, rfl, s _ _ h1, G.cl, G.n1, h3, ?_⟩
    have sq := SqT.ext h4 s
    refine ⟨_, rfl, _, rfl, tp, xs, rfl, sq, ?_, fun p1 np1 => ?_⟩
    · rw [HT.sIx_none, HT.sIx_nat]
      omega
    rw [cut_take']
    have s1 := new_same np1 (.tup (xs.take n))
    have s01 := s.trans s1
    have g1 : upd J p1 (.tup (xs.take n)) p1 = some (.tup (xs.take n)) := upd_same
    generalize upd J p1 (.tup (xs.take n)) = J1 at s1 s01 g1 ⊢
    refine ⟨p1, _, rfl, .inl (SqT.of g1), _, rfl, a, CR, dx, _, _, rfl, s01 _ _ h1, G.cl, G.n1, h3, _, rfl, _, _, rfl, rfl, _, rfl, tp, xs, rfl, SqT.ext h4 s01, ?_, fun p2 np2 => ?_⟩
    · show ¬ (HT.sIx xs.length 0 (some (((n + 1 : Nat)) : Int)) = 0 ∧ _)
      rw [HT.sIx_nat]
      omega
    have e2 : cutV xs (some ((n : Nat) + 1 : Int)) none = xs.drop (n + 1) := cut_drop (n + 1)
    rw [e2]
    have s2 := new_same np2 (.tup (xs.drop (n + 1)))
    have s02 := s01.trans s2
    have g2 : upd J1 p2 (.tup (xs.drop (n + 1))) p2 = some (.tup (xs.drop (n + 1))) := upd_same
    generalize upd J1 p2 (.tup (xs.drop (n + 1))) = J2 at s2 s02 g2 ⊢
    refine ⟨p2, _, rfl, .inl (SqT.of g2), ?_, fun p3 np3 => ?_⟩
    · rw [List.append_nil, List.length_append, List.length_take, List.length_drop]
      exact Nat.le_of_lt (small1000 (by omega))
    rw [List.append_nil]
    have s3 := new_same np3 (.tup (xs.take n ++ xs.drop (n + 1)))
    have s03 := s02.trans s3
    have g3 : upd J2 p3 (.tup (xs.take n ++ xs.drop (n + 1))) p3 = some (.tup (xs.take n ++ xs.drop (n + 1))) := upd_same
    generalize upd J2 p3 (.tup (xs.take n ++ xs.drop (n + 1))) = J3 at s3 s03 g3 ⊢
    intro x dy nx ndy ne
    have wd := name_wd ru.wd
    have s4 : Same J3 (upd (upd J3 dy (.own x)) x (.ins CR dy [])) := fun b o e => by
      rw [upd_ne (ne_of_none e nx), upd_ne (ne_of_none e ndy)]
      exact e
    have R0 := h5.mono (s03.trans s4)
    refine ⟨x, dy, .str first, .ref p3, rfl, upd_same, (str_arg (wd_strOk wd) (by have := wd.len; omega)).kind G.row (C := C), .inr (.inr ⟨first, p3, _, _, rfl, ru.wd, rfl, .inr (SqT.of (s4 _ _ g3)), R0.take.app R0.drop, ?_, fun L off ru2 => ⟨rfl, ?_⟩⟩)⟩
    · rw [List.length_append, List.length_take, List.length_drop]
      omega
    · refine q x L (fun c o e => off c o (fun z => ?_) ((s03.trans s4) _ _ e)) (s03.free nx) ru2
      rw [z, s03.free nx] at e
      cases e
  · rw [beyond_no by_]
    exact iteT (raise_okA (fun _ _ q => ⟨_, rfl, q⟩) fun d hd => kE d J s hd)
end
end LT
namespace LT
open PySem L2
theorem passR {X : Cx} : Passes (L2.CX X.prog X.w) X (fun _ _ _ => False) := passes_call takes0 (fun _ _ _ _ h => h)
theorem shaped_tup {ds : List PyData} {n : Nat} (h : PyData.canLayAll0 ds = true ∧ PyData.depthAll ds ≤ n) (hn : n ≤ 60) : SeqAt.shaped (.tuple ds) = true := by
  show ((PyData.tuple ds).canLay0 && decide ((PyData.tuple ds).depth ≤ 64)) = true
  rw [Bool.and_eq_true, decide_eq_true_eq]
  refine ⟨by simpa [PyData.canLay0] using h.1, ?_⟩
  simp only [PyData.depth]
  have := h.2
  omega
theorem shaped_lst {ds : List PyData} {n : Nat} (h : PyData.canLayAll0 ds = true ∧ PyData.depthAll ds ≤ n) (hn : n ≤ 60) : SeqAt.shaped (.list ds) = true := by
  show ((PyData.list ds).canLay0 && decide ((PyData.list ds).depth ≤ 64)) = true
  rw [Bool.and_eq_true, decide_eq_true_eq]
  refine ⟨by simpa [PyData.canLay0] using h.1, ?_⟩
  simp only [PyData.depth]
  have := h.2
  omega
theorem shaped_ok {d : PyData} (h : SeqAt.shaped d = true) : PyData.eqv d d = true := SeqAt.eqv_refl d (by
  have : (d.canLay0 && decide (d.depth ≤ 64)) = true := h
  rw [Bool.and_eq_true] at this
  exact this.1)
theorem erase_perm {α : Type} {y : α} : ∀ {l : List α} {i : Nat}, l[i]? = some y → (y :: l.eraseIdx i).Perm l
  | [], _, h => nomatch h
  | x :: l, 0, h => by
    cases h
    exact List.Perm.refl _
  | x :: l, i + 1, h => by
    have h' : l[i]? = some y := h
    exact (List.Perm.swap x y _).trans ((erase_perm h').cons x)
theorem map_erase {α β : Type} (f : α → β) : ∀ {l : List α} {i : Nat}, (l.map f).eraseIdx i = (l.eraseIdx i).map f
  | [], _ => rfl
  | x :: l, 0 => rfl
  | x :: l, i + 1 => congrArg (f x :: ·) (map_erase f)
structure BltL (mg : Str → Option Value) : Prop where
  list : mg "list" = none
/-- a drawn rule, as the law has it: first mode and rows -/
def RuleT (J : Hp) (p : Addr) (first : Str) (rows : List Row5) : Prop := ∃ (t : Addr) (xs : List V), J p = some (.tup [.str first, .ref t]) ∧ J t = some (.tup xs) ∧ RowTs J xs rows
theorem texts_len {first : Str} {rows : List Row5} (tok : TextOk first rows (ruleText first rows)) (few : rows.length ≤ 31) : ((firstLine first :: rows.map Row5.text).map (·.length)).sum + (firstLine first :: rows.map Row5.text).length * ("\n" : Str).length ≤ 10000 := by
  have lens : ∀ l ∈ firstLine first :: rows.map Row5.text, l.length ≤ 100 := tok.each
  have e1 : ("\n" : Str).length = 1 := rfl
  have go : ∀ ls : List Str, (∀ l ∈ ls, l.length ≤ 100) → (ls.map (·.length)).sum ≤ ls.length * 100 := fun ls => by
    induction ls with
    | nil => intro _; simp
    | cons l ls ih =>
      intro h
      have h1 := h l List.mem_cons_self
      have h2 := ih fun l m => h l (List.mem_cons_of_mem _ m)
      simp only [List.map_cons, List.sum_cons, List.length_cons, Nat.succ_mul]
      omega
  have := go _ lens
  rw [e1]
  rw [List.length_cons, List.length_map] at this ⊢
  omega
def spRText : Sp := fun vs H Q _ => ∃ (p : Addr) (first : Str) (rows : List Row5), vs = [.ref p] ∧ RuleT H p first rows ∧ Wd first ∧ rows.length ≤ 31 ∧ ∀ J, Same H J → Q (.str (ruleText first rows)) J
def spHome (K : PySem.W.Frag) (C CR : Addr) : Sp := fun vs H Q _ => ∃ (p : Addr) (first : Str) (rows : List Row5), vs = [.ref p] ∧ RuleT H p first rows ∧ Wd first ∧ rows.length ≤ 31 ∧ ∀ x J, Same H J → H x = none → RuleAt K C CR J x first rows → Q (.ref x) J
/-- some askers, in any order -/
def spAsk : Sp := fun vs H Q _ => ∃ (b : Addr) (n : Int), vs = [.ref b, .int n] ∧ Box H b ∧ 0 ≤ n ∧ n ≤ 900 ∧
  ∀ (l : Addr) (js : List Int) (J : Hp), H l = none → J l = some (.lst (js.map V.int)) → goodRound n js = true → js.length ≤ 900 → Kb b H J → Box J b → Q (.ref l) J
/-- drawn rounds -/
def RdsAt (b : Addr) (n : Int) (J : Hp) (xs : List V) (rs : List (List Int)) : Prop := xs.length = rs.length ∧ ∀ (i : Nat) (x : V), xs[i]? = some x → ∃ (a : Addr) (ns : List Int), x = .ref a ∧ rs[i]? = some ns ∧ a ≠ b ∧ (J a = some (.lst (ns.map V.int)) ∨ J a = some (.tup (ns.map V.int))) ∧ ns.length ≤ 1000 ∧ goodRound n ns = true
theorem RdsAt.kb {b : Addr} {n : Int} {J L : Hp} {xs : List V} {rs : List (List Int)} (k : Kb b J L) (h : RdsAt b n J xs rs) : RdsAt b n L xs rs :=
  ⟨h.1, fun i x e => by
    obtain ⟨a, ns, e1, e2, nb, hq, e3, e4⟩ := h.2 i x e
    exact ⟨a, ns, e1, e2, nb, hq.elim (fun z => .inl (k _ _ nb z)) fun z => .inr (k _ _ nb z), e3, e4⟩⟩
theorem RdsAt.monoX {b : Addr} {n : Int} {J L : Hp} {xs : List V} {rs : List (List Int)} (s : L3.Ex J L) (h : RdsAt b n J xs rs) : RdsAt b n L xs rs :=
  ⟨h.1, fun i x e => by
    obtain ⟨a, ns, e1, e2, nb, hq, e3, e4⟩ := h.2 i x e
    exact ⟨a, ns, e1, e2, nb, hq.elim (fun z => .inl (s _ _ z)) fun z => .inr (s _ _ z), e3, e4⟩⟩
theorem RdsAt.at {K : PySem.W.Frag} {b : Addr} {n : Int} {J : Hp} {xs : List V} {rs : List (List Int)} (h : RdsAt b n J xs rs) : RoundsAt K n J xs rs :=
  ⟨h.1, fun i x e => by
    obtain ⟨a, ns, e1, e2, nb, hq, e3, e4⟩ := h.2 i x e
    exact ⟨a, ns, e1, e2, hq.elim (fun z => .inl (SqL.of z)) fun z => .inr (SqT.of z), e3, e4⟩⟩
theorem RdsAt.nil {b : Addr} {n : Int} {J : Hp} : RdsAt b n J [] [] := ⟨rfl, fun i v e => nomatch e⟩
theorem RdsAt.add {b a : Addr} {n : Int} {J : Hp} {xs : List V} {rs : List (List Int)} {ns : List Int} (h : RdsAt b n J xs rs) (nb : a ≠ b) (e : J a = some (.lst (ns.map V.int)) ∨ J a = some (.tup (ns.map V.int))) (l : ns.length ≤ 1000) (g : goodRound n ns = true) : RdsAt b n J (xs ++ [.ref a]) (rs ++ [ns]) :=
  ⟨by rw [List.length_append, List.length_append, h.1]; rfl, fun j v z => by
    rcases get_snoc z with z9 | ⟨z9, rfl⟩
    · obtain ⟨p', r', e1, e2, e3⟩ := h.2 j v z9
      exact ⟨p', r', e1, by rw [List.getElem?_append_left (List.getElem?_eq_some_iff.mp e2).1]; exact e2, e3⟩
    · exact ⟨a, ns, rfl, by rw [z9, h.1]; exact List.getElem?_concat_length, nb, e, l, g⟩⟩
def spRounds : Sp := fun vs H Q _ => ∃ (b : Addr) (n m : Int), vs = [.ref b, .int n, .int m] ∧ Box H b ∧ 0 ≤ n ∧ n ≤ 900 ∧ 0 ≤ m ∧ m ≤ 900 ∧
  ∀ (l : Addr) (xs : List V) (rs : List (List Int)) (J : Hp), H l = none → J l = some (.lst xs) → RdsAt b n J xs rs → rs.length = m.toNat → Kb b H J → Box J b → Q (.ref l) J
theorem sidx {d : Int} {n : Nat} (h0 : 0 ≤ d) (h1 : d < (n : Int)) : seqIndex? d n = some d.toNat := by
  have e : (if d < 0 then d + (n : Int) else d) = d := if_neg (by omega)
  have e2 : seqIndex? d n = if (decide (0 ≤ (if d < 0 then d + (n : Int) else d)) && decide ((if d < 0 then d + (n : Int) else d) < (n : Int))) = true then some (if d < 0 then d + (n : Int) else d).toNat else none := rfl
  rw [e2, e]
  exact if_pos (by rw [Bool.and_eq_true]; exact ⟨decide_eq_true h0, decide_eq_true h1⟩)
section
variable {P : Program} {w : World} {K : PySem.W.Frag} {mg : Str → Option Value} {base : Heap}
abbrev nRText : List Str := ["_law_rule_here", "_law_row"]
abbrev nHome : List Str := ["_law_rule_here"]
abbrev nAsk : List Str := ["_law_box", "_law_askers", "_law_left", "_law_found", "_law_turn"]
abbrev nRounds : List Str := ["_law_box", "_law_askers", "_law_many", "_law_found", "_law_turn", "_law_asking_here"]
theorem scRText : FnScope nRText ["_law_rule_here"] (defScope sRuleText) := ⟨rfl, rfl, rfl, by decide +kernel, rfl, by decide +kernel, by decide +kernel⟩
theorem ok_rtext {f ft : Addr} {fd dt : FuncData} (F : Fun K "_law_rule_text" "_law_rule_text" sRuleText f fd)
    (GT : FnOk P w K mg base CX0 1 ft dt ["_law_row"] (spText K)) (bT : Binds K dt ["_law_row"] []) (kT : PySem.W.keepIn K (.ref ft) = true) (mT : mg "_law_row_text" = some (.ref ft)) :
    FnOk P w K mg base CX0 2 f fd ["_law_rule_here"] spRText := by
  refine F.ok scRText (fun vs H Q E h => ?_) (fun cdv A outer s H vs Q E hr h => ?_)
  · obtain ⟨p, first, rows, rfl, _⟩ := h
    rfl
  obtain ⟨p, first, rows, rfl, ⟨t, xs, hp, ht, hrt⟩, hf, few, q⟩ := h
  have tok := text_ok hf hrt.good few
  refine ⟨_, (pss_one (ps_ret (pe_join pe_str (pe_op op_cat (pe_lst (pa_cons (pe_op op_add_str pe_str (pe_ix ix_tup (pv 0) pe_int (fun _ _ => rfl))) pa_nil)) (pe_lc (own := [("_law_row", 1)]) (g := gName 1) (tt := tYes) (by rfl) scRText.nd (pi_tup (pe_ix ix_tup (pv 0) pe_int (fun _ _ => rfl))) (blkOk_by (N := nRText) (sc := defScope sRuleText) (own := [("_law_row", 1)]) (by decide +kernel)) (fun _ _ _ _ _ => pg_name (i := 1) scRText.nd rfl (Or.inl rfl)) (fun _ _ _ _ _ => pts_nil) (fun _ _ _ _ _ => (pe_call GT hr (by rfl) mT kT bT .nil pass0 (pa_cons (pv 1) pa_nil)))))))), ?_⟩
  refine ⟨⟨_, rfl⟩, _, rfl, p, _, 0, .str first, rfl, rfl, SqT.of hp, rfl, ?_⟩
  refine ⟨_, _, rfl, rfl, ?_, (by show 1 ≤ sizeLine; decide), fun l nl => ?_⟩
  · have := first_len hf
    unfold firstLine at this
    rw [len_app] at this
    exact Nat.le_of_lt (small1000 (by omega))
  have s1 := new_same nl (.lst [V.str ("first " ++ first)])
  have hl1 : upd H l (.lst [V.str ("first " ++ first)]) l = some (.lst [V.str ("first " ++ first)]) := upd_same
  have hp1 := s1 _ _ hp
  have ht1 := s1 _ _ ht
  have hr1 : RowTs (upd H l (.lst [V.str ("first " ++ first)])) xs rows := hrt.keep (Keep.of s1)
  generalize upd H l (.lst [V.str ("first " ++ first)]) = J1 at s1 hl1 hp1 ht1 hr1 ⊢
  refine ⟨_, rfl, p, _, 1, .ref t, rfl, rfl, SqT.of hp1, rfl, t, rfl, ⟨xs, SqT.of ht1⟩, fun D hD => lc_tup (fun i M => Same J1 M ∧ M D = some (.lst (((rows.map Row5.text).take i).map V.str))) ⟨new_same hD _, upd_same⟩
      (fun i M _ ⟨z, _⟩ => SqT.ext (SqT.of ht1) z) (fun i v M hv ⟨z, e⟩ => ?_) (fun M ⟨z, e⟩ => ?_)⟩
  · obtain ⟨a, r, rfl, hri, ha, g⟩ := hr1.2 i v hv
    have hi : i < xs.length := (List.getElem?_eq_some_iff.mp hv).1
    have hx : xs.length ≤ 31 := by
      rw [hr1.1]
      exact few
    refine ⟨rfl, _, rfl, a, r, rfl, SqT.of (z _ _ ha), g, fun L sL => ⟨_, sL _ _ e, ?_, fun c o h => ?_, ?_⟩⟩
    · rw [List.length_map, List.length_take]
      exact small1000 (by omega)
    · rw [upd_ne (fun q => by rw [q, hD] at h; cases h)]
      exact sL _ _ (z c o h)
    · rw [upd_same, take_snoc (l := rows.map Row5.text) (x := r.text) (by rw [List.getElem?_map, hri]; rfl), List.map_append]
      rfl
  have hlen : rows.length = xs.length := hr1.1.symm
  have e' : M D = some (.lst ((rows.map Row5.text).map V.str)) := by
    rw [e, List.take_of_length_le (by rw [List.length_map]; omega)]
  refine ⟨l, D, _, (rows.map Row5.text).map V.str, rfl, rfl, z _ _ hl1, e', ?_, fun u nu => ?_⟩
  · rw [List.length_map, List.length_map]
    exact Nat.le_of_lt (small1000 (by simp only [List.length_cons, List.length_nil]; omega))
  have s2 := new_same nu (.lst ([V.str ("first " ++ first)] ++ (rows.map Row5.text).map V.str))
  refine ⟨"\n", u, firstLine first :: rows.map Row5.text, rfl, rfl, .inl (SqL.of upd_same), ?_, q _ ((s1.trans z).trans s2)⟩
  have := texts_len tok few
  have e0 : (10000 : Nat) ≤ sizeLine := by decide
  omega
end
end LT
namespace LT
open PySem L2
/-! ### a rule's text -/
def spRStr (K : PySem.W.Frag) (C CR : Addr) : Sp := fun vs H Q _ => ∃ (a : Addr) (first : Str) (rows : List Row5), vs = [.ref a] ∧ RuleAt K C CR H a first rows ∧ ∀ J, Same H J → Q (.str (ruleText first rows)) J
section
variable {P : Program} {w : World} {K : PySem.W.Frag} {mg : Str → Option Value} {base : Heap}
abbrev nRStr : List Str := ["self", "lines", "row"]
theorem scRStr : FnScope nRStr ["self"] (defScope sRuleStr) := ⟨rfl, rfl, rfl, by decide +kernel, rfl, by decide +kernel, by decide +kernel⟩
theorem boot_strR : bootBuiltins "str" = some (.type "str") := by decide +kernel
theorem RowsIn.good {C : Addr} {H : Hp} {xs : List V} {rows : List Row5} (h : RowsIn C H xs rows) : ∀ r ∈ rows, Good r := fun r hr => by
  obtain ⟨i, hi, rfl⟩ := List.getElem_of_mem hr
  have hi' : i < xs.length := by rw [h.1]; exact hi
  obtain ⟨b, r', _, e2, _, g⟩ := h.2 i xs[i] (List.getElem?_eq_getElem hi')
  rw [List.getElem?_eq_getElem hi] at e2
  cases e2
  exact g
theorem ok_rstr {C CR CE f g : Addr} {fd gd : FuncData} (F : Fun K "__str__" "Rule.__str__" sRuleStr f fd) (G : MethG P w K mg base C CR CE) (U : Blt2 mg)
    (GS : FnOk P w K mg base CX0 1 g gd ["self"] (spStr C)) (bS : Binds K gd ["self"] []) (iS : PySem.W.findIn K (.ref C) "__str__" = some (some (.ref g))) (fS : PySem.W.isFn K (.ref g) = true) :
    FnOk P w K mg base CX0 4 f fd ["self"] (spRStr K C CR) := by
  refine F.ok scRStr (fun vs H Q E h => ?_) (fun cdv A outer s H vs Q E hr h => ?_)
  · obtain ⟨a, first, rows, rfl, _⟩ := h
    rfl
  obtain ⟨a, first, rows, rfl, ru, q⟩ := h
  obtain ⟨dx, tp, fs, xs, h1, h2, h3, h4, h5⟩ := ru.fld
  have few := ru.few
  have lx := h5.1
  have wd := name_wd ru.wd
  have tok := text_ok wd h5.good few
  refine ⟨_, pss_cons (ps_setLc (i := 1) (own := [("row", 2)]) (g := gName 2) (tt := tYes) rfl scRStr.nd rfl rfl (sw_true rfl rfl rfl (by decide +kernel)) (pi_tup (pe_fld (pv 0) rfl)) (blkOk_by (N := nRStr) (sc := defScope sRuleStr) (own := [("row", 2)]) (by decide +kernel)) (fun _ _ _ _ _ => pg_name (i := 2) scRStr.nd rfl (Or.inl rfl)) (fun _ _ _ _ _ => pts_nil)
      (fun _ _ _ _ _ => pe_callTy (r := rStrOwn C (spStr C) E0) (call_strOwn GS hr iS fS bS pass0) (by rfl) U.str boot_strR (pa_cons (pv 2) pa_nil)))
    (pss_one (ps_ret (pe_join pe_str (pe_lst (pa_cons (pe_joined (.cons pe_str (.cons (pe_fmt (pe_fld (pv 0) rfl)) .nil))) (StX.pa_star (pv 1) pa_nil)))))), ?_⟩
  refine ⟨_, rfl, a, CR, dx, _, _, rfl, h1, G.cl, G.n1, h3, tp, rfl, ⟨xs, h4⟩, fun D hD => lc_tup (K := K) (a := tp) (xs := xs) (fun i M => Same H M ∧ M D = some (.lst (((rows.map Row5.text).take i).map V.str))) ⟨new_same hD _, upd_same⟩
      (fun i M _ z => SqT.ext h4 z.1) (fun i v M hv z => ?_) (fun M z => ?_)⟩
  · obtain ⟨b, r, rfl, hri, ⟨dy, hb⟩, gr⟩ := h5.2 i v hv
    have hi : i < xs.length := (List.getElem?_eq_some_iff.mp hv).1
    refine ⟨rfl, _, rfl, b, dy, _, rfl, z.1 _ _ hb, b, r, rfl, gr.rowAt ⟨dy, z.1 _ _ hb⟩, r.text, rfl, _, z.2, ?_, fun c o h => ?_, ?_⟩
    · rw [List.length_map, List.length_take]
      exact small1000 (by omega)
    · rw [upd_ne (fun q => by rw [q, hD] at h; cases h)]
      exact z.1 c o h
    · rw [upd_same, take_snoc (l := rows.map Row5.text) (x := r.text) (by rw [List.getElem?_map, hri]; rfl), List.map_append]
      rfl
  obtain ⟨z, e⟩ := z
  rw [List.take_of_length_le (by rw [List.length_map]; omega)] at e
  have sz : ∀ n, n ≤ 1000 → n ≤ sizeLine := fun n h => Nat.le_of_lt (small1000 h)
  have lf := wd.len
  have e0 : Str.empty.length = 0 := rfl
  have e6 : ("first " : Str).length = 6 := rfl
  refine ⟨⟨_, rfl⟩, _, rfl, sz _ (by simp only [len_app]; omega), _, rfl, a, CR, dx, _, _, rfl, z _ _ h1, G.cl, G.n0, h2, .inl ⟨first, rfl, sz _ (by omega), first, rfl, sz _ (by simp only [len_app]; omega), ?_⟩⟩
  have ef : (Str.empty ++ "first " ++ first : Str) = firstLine first := by
    unfold firstLine
    exact congrArg (· ++ first) (show (Str.empty ++ "first " : Str) = "first " by decide +kernel)
  rw [ef]
  have lrs : ((rows.map Row5.text).map V.str).length = rows.length := by rw [List.length_map, List.length_map]
  refine ⟨_, rfl, D, _, rfl, .inr (SqL.of e), ?_, fun u nu => ?_⟩
  · rw [List.append_nil, List.length_cons, lrs]
    exact sz _ (by omega)
  rw [List.append_nil]
  have s2 := new_same nu (.lst (V.str (firstLine first) :: (rows.map Row5.text).map V.str))
  refine ⟨"\n", u, firstLine first :: rows.map Row5.text, rfl, rfl, .inl (SqL.of upd_same), ?_, q _ (z.trans s2)⟩
  have := texts_len tok few
  omega
def spREq (K : PySem.W.Frag) (C CR : Addr) : Sp := fun vs H Q _ => ∃ (a b : Addr) (first other : Str) (rows more : List Row5), vs = [.ref a, .ref b] ∧ RuleAt K C CR H a first rows ∧ RuleAt K C CR H b other more ∧
  ∀ J, Same H J → Q (.bl (decide (ruleText first rows = ruleText other more))) J
theorem scREq : FnScope ["self", "other"] ["self", "other"] (defScope sRuleEq) := ⟨rfl, rfl, rfl, by decide +kernel, rfl, by decide +kernel, by decide +kernel⟩
theorem ok_req {C CR CE f g : Addr} {fd gd : FuncData} (F : Fun K "__eq__" "Rule.__eq__" sRuleEq f fd) (G : MethG P w K mg base C CR CE) (U : Blt2 mg)
    (GS : FnOk P w K mg base CX0 4 g gd ["self"] (spRStr K C CR)) (bS : Binds K gd ["self"] []) (iS : PySem.W.findIn K (.ref CR) "__str__" = some (some (.ref g))) (fS : PySem.W.isFn K (.ref g) = true) :
    FnOk P w K mg base CX0 7 f fd ["self", "other"] (spREq K C CR) := by
  refine F.ok scREq (fun vs H Q E h => ?_) (fun cdv A outer s H vs Q E hr h => ?_)
  · obtain ⟨a, b, first, other, rows, more, rfl, _⟩ := h
    rfl
  obtain ⟨a, b, first, other, rows, more, rfl, ru, ru', q⟩ := h
  obtain ⟨dx, tp, fs, xs, h1, h2, h3, h4, h5⟩ := ru.fld
  obtain ⟨dx', tp', fs', xs', h1', h2', h3', h4', h5'⟩ := ru'.fld
  refine ⟨_, pss_one (ps_ret (pe_and (pe_callB call_isi (by rfl) U.isin boot_isin (pa_cons (pv 1) (pa_cons (pe_glob (by rfl) G.mR (v := .ref CR) rfl) pa_nil)))
    (pe_one (pe_cmpR op_eq (pe_callTy (r := rStrOwn CR (spRStr K C CR) E0) (call_strOwn GS hr iS fS bS pass0) (by rfl) U.str boot_strR (pa_cons (pv 0) pa_nil)) (pe_callTy (r := rStrOwn CR (spRStr K C CR) E0) (call_strOwn GS hr iS fS bS pass0) (by rfl) U.str boot_strR (pa_cons (pv 1) pa_nil)) (nomark _))))), ?_⟩
  refine ⟨_, rfl, .ref b, .ref CR, _, _, true, rfl, .own CR, .base (.ins h1' G.cl G.ha G.hn G.ht G.hm), G.kR, true, rfl, iteT ?_⟩
  refine ⟨_, rfl, a, dx, _, rfl, h1, a, first, rows, rfl, ru, fun J s => ⟨_, rfl, _, rfl, b, dx', _, rfl, s _ _ h1', b, other, more, rfl, ru'.mono s, fun L t => ⟨_, rfl, rfl, ?_⟩⟩⟩
  rw [str_dec]
  exact q L (s.trans t)
end
end LT
namespace LT
open PySem L2
/-! ### rows and rules made by the law -/
theorem row_made {K : PySem.W.Frag} {C CE x dx : Addr} {vs : List V} {r : Row5} {H : Hp} {Q : VK} {E : XK} (hv : vs = V.ref x :: r.vs) (g : Good r) (nx : H x = none) (ndx : H dx = none) (q : ∀ J, Same H J → J x = some (.ins C dx r.fs) → Q .non J) :
    spRow K C CE vs (upd (upd H dx (.own x)) x (.ins C dx [])) Q E := by
  subst hv
  have pk : ∀ z ∈ picks, PyData.strOk z = true ∧ z.length ≤ 100 := by decide +kernel
  have mvk : ∀ z ∈ moves, PyData.strOk z = true ∧ z.length ≤ 100 := by decide +kernel
  refine ⟨x, dx, .str r.m, .str r.p, .str r.mv, .str r.t, .bl r.al, rfl, upd_same, str_arg (wd_strOk g.m) (by have := g.m.len; omega), str_arg (pk _ g.p).1 (pk _ g.p).2, str_arg (mvk _ g.mv).1 (mvk _ g.mv).2, str_arg (wd_strOk g.t) (by have := g.t.len; omega), bl_arg, fun wd e d hd => ?_, fun e => ?_⟩
  · rw [g.due] at e
    cases e
  · rw [upd_upd]
    exact q _ (fun c u e => by rw [upd_ne (ne_of_none e nx), upd_ne (ne_of_none e ndx)]; exact e) upd_same
theorem rule_made {K : PySem.W.Frag} {C CR CE x dx p : Addr} {first : Str} {xs : List V} {rows : List Row5} {vs : List V} {H : Hp} {mg : Str → Option Value} {Q : VK} {E : XK} (hv : vs = [V.ref x, .str first, .ref p]) (R : RowC K mg C) (w : Wd first) (sq : Sq K H p xs) (hr : RowsIn C H xs rows) (few : rows.length ≤ 31) (nx : H x = none) (ndx : H dx = none) (q : ∀ J, Same H J → RuleAt K C CR J x first rows → Q .non J) :
    spRuleI K C CR CE vs (upd (upd H dx (.own x)) x (.ins CR dx [])) Q E := by
  subst hv
  have s4 : Same H (upd (upd H dx (.own x)) x (.ins CR dx [])) := fun b o e => by
    rw [upd_ne (ne_of_none e nx), upd_ne (ne_of_none e ndx)]
    exact e
  refine ⟨x, dx, .str first, .ref p, rfl, upd_same, (str_arg (wd_strOk w) (by have := w.len; omega)).kind R (C := C), .inr (.inr ⟨first, p, xs, rows, rfl, w.name, rfl, sq.elim (fun h => .inl (SqL.ext h s4)) fun h => .inr (SqT.ext h s4), hr.mono s4, few, fun L off ru => ?_⟩)⟩
  exact q L (fun c o e => off c o (fun z => by rw [z, nx] at e; cases e) (s4 _ _ e)) ru
theorem rows_one {C a : Addr} {r : Row5} {J : Hp} (h : ∃ dx, J a = some (.ins C dx r.fs)) (g : Good r) : RowsIn C J [.ref a] [r] := ⟨rfl, fun i x e => by
  match i, e with
  | 0, e =>
    cases e
    exact ⟨a, r, rfl, rfl, h, g⟩
  | i + 1, e => exact nomatch e⟩
theorem RowsIn.snoc {C a : Addr} {r : Row5} {J : Hp} {xs : List V} {rows : List Row5} (h : RowsIn C J xs rows) (e : ∃ dx, J a = some (.ins C dx r.fs)) (g : Good r) : RowsIn C J (xs ++ [.ref a]) (rows ++ [r]) := h.app (rows_one e g)
/-- rows gathered one by one -/
structure RowsMade (C D : Addr) (J0 : Hp) (rows : List Row5) (i : Nat) (N : Hp) : Prop where
  same : Same J0 N
  ex : ∃ ys, N D = some (.lst ys) ∧ RowsIn C N ys (rows.take i)
theorem RowsMade.start {C D : Addr} {J0 : Hp} {rows : List Row5} (h : J0 D = none) : RowsMade C D J0 rows 0 (upd J0 D (.lst [])) := ⟨new_same h _, [], upd_same, rfl, fun _ _ e => nomatch e⟩
theorem RowsMade.step {C D x dx : Addr} {J0 N L : Hp} {rows : List Row5} {i : Nat} {r : Row5} (z : RowsMade C D J0 rows i N) (hD : J0 D = none) (s : Same N L) (er : rows[i]? = some r) (g : Good r) (e : L x = some (.ins C dx r.fs)) (few : rows.length ≤ 900) :
    ∃ acc, L D = some (.lst acc) ∧ acc.length < sizeLine ∧ RowsMade C D J0 rows (i + 1) (upd L D (.lst (acc ++ [V.ref x]))) := by
  obtain ⟨ys, hy, ry⟩ := z.ex
  have hy2 := s _ _ hy
  have hi := (List.getElem?_eq_some_iff.mp er).1
  refine ⟨ys, hy2, small1000 ?_, fun c o e => ?_, _, upd_same, ?_⟩
  · rw [ry.1, List.length_take]
    omega
  · rw [upd_ne (ne_of_none e hD)]
    exact s _ _ (z.same _ _ e)
  · rw [take_snoc er]
    exact ((ry.mono s).snoc ⟨dx, e⟩ g).keep (Keep.box hy2)
section
variable {K : PySem.W.Frag} {C CR a b : Addr} {f g : Str} {r s : List Row5} {H : Hp} {Q : VK} {E : XK}
theorem add_at (h1 : RuleAt K C CR H a f r) (h2 : RuleAt K C CR H b g s) (few : r.length + s.length ≤ 31) (q : ∀ x J, Same H J → RuleAt K C CR J x f (r ++ s) → Q (.ref x) J) : rAddOwn CR (spRAdd K C CR) E (.ref a) (.ref b) H Q := by
  obtain ⟨dx, tp, fs, xs, e1, -⟩ := h1.fld
  obtain ⟨dy, tq, gs, ys, e2, -⟩ := h2.fld
  exact ⟨a, b, _, _, _, _, rfl, rfl, e1, e2, a, b, f, g, r, s, rfl, h1, h2, few, fun x J sJ _ h3 => ⟨⟨_, rfl⟩, q x J sJ h3⟩⟩
theorem len_at (h1 : RuleAt K C CR H a f r) (q : Q (.int (r.length : Nat)) H) : rLenOwn CR (spRLen K C CR) E [.ref a] H Q := by
  obtain ⟨dx, tp, fs, xs, e1, -⟩ := h1.fld
  have few := h1.few
  exact ⟨a, _, _, rfl, e1, a, f, r, rfl, h1, _, rfl, by omega, by omega, q⟩
theorem item_at {n : Nat} {w : Row5} (h1 : RuleAt K C CR H a f r) (hw : r[n]? = some w) (q : ∀ b dx J, Same H J → J b = some (.ins C dx w.fs) → Q (.ref b) J) : rIxOwn CR (spRItem K C CR) E (.ref a) (.int (n : Nat)) H Q := by
  obtain ⟨dx, tp, fs, xs, e1, -⟩ := h1.fld
  exact ⟨a, _, _, rfl, e1, a, n, f, r, w, rfl, h1, hw, q⟩
end
theorem RuleT.keep {J L : Hp} {p : Addr} {first : Str} {rows : List Row5} (k : Keep J L) (h : RuleT J p first rows) : RuleT L p first rows := by
  obtain ⟨t, xs, h1, h2, h3⟩ := h
  exact ⟨t, xs, k _ _ (fun _ q => nomatch q) h1, k _ _ (fun _ q => nomatch q) h2, h3.keep k⟩
theorem RuleT.mono {J L : Hp} {p : Addr} {first : Str} {rows : List Row5} (s : Same J L) (h : RuleT J p first rows) : RuleT L p first rows := h.keep (Keep.of s)
section
variable {K : PySem.W.Frag} {C CR a b : Addr} {f g : Str} {r s : List Row5} {H : Hp} {Q : VK} {E : XK}
theorem str_at (h1 : RuleAt K C CR H a f r) (q : ∀ J, Same H J → Q (.str (ruleText f r)) J) : rStrOwn CR (spRStr K C CR) E [.ref a] H Q := by
  obtain ⟨dx, tp, fs, xs, e1, -⟩ := h1.fld
  exact ⟨a, _, _, rfl, e1, a, f, r, rfl, h1, fun J sJ => ⟨_, rfl, q J sJ⟩⟩
theorem ne_at (h1 : RuleAt K C CR H a f r) (h2 : RuleAt K C CR H b g s) (q : ∀ J, Same H J → Q (.bl (!decide (ruleText f r = ruleText g s))) J) : rNeOwn CR (spREq K C CR) E (.ref a) (.ref b) H Q := by
  obtain ⟨dx, tp, fs, xs, e1, -⟩ := h1.fld
  obtain ⟨dy, tq, gs, ys, e2, -⟩ := h2.fld
  exact ⟨a, b, _, _, _, _, rfl, rfl, e1, e2, a, b, f, g, r, s, rfl, h1, h2, fun J sJ => ⟨_, rfl, q J sJ⟩⟩
theorem eq_at (h1 : RuleAt K C CR H a f r) (h2 : RuleAt K C CR H b g s) (q : ∀ J, Same H J → Q (.bl (decide (ruleText f r = ruleText g s))) J) : rEqOwn CR (spREq K C CR) E (.ref a) (.ref b) H Q := by
  obtain ⟨dx, tp, fs, xs, e1, -⟩ := h1.fld
  obtain ⟨dy, tq, gs, ys, e2, -⟩ := h2.fld
  exact ⟨a, b, _, _, _, _, rfl, rfl, e1, e2, a, b, f, g, r, s, rfl, h1, h2, fun J sJ => ⟨_, rfl, q J sJ⟩⟩
end
theorem RuleT.good {J : Hp} {p : Addr} {first : Str} {rows : List Row5} (h : RuleT J p first rows) : ∀ r ∈ rows, Good r := by
  obtain ⟨t, xs, h1, h2, h3⟩ := h
  exact h3.good
theorem mode_mem {first : Str} {rows : List Row5} {zs : List Str} (h : ModesOf first rows zs) {z : Str} : z ∈ zs ↔ z = first ∨ ∃ r ∈ rows, z = r.m ∨ z = r.t := by
  rw [h.perm.mem_iff, mem_onceOf]
  unfold namesOf
  rw [List.mem_cons, List.mem_flatMap]
  constructor
  · rintro (e | ⟨r, hr, e⟩)
    · exact .inl e
    · exact .inr ⟨r, hr, by simpa using e⟩
  · rintro (e | ⟨r, hr, e⟩)
    · exact .inl e
    · exact .inr ⟨r, hr, by simpa using e⟩
end LT
namespace L2
open PySem PySem.Spec PyProof.Rows
/-! ### own methods, what they let out wished for at the slots -/
section
variable {X : Cx} {CX : CXT} {C g : Addr} {fd : FuncData} {ps : List Str} {E : St → XK} {k : Nat} {sp : Sp}
/-- o.m(e, ..) -/
def tMethE (C : Addr) (m : Str) (sp : Sp) (E : St → XK) (tf : TE) (ta : TA) : TE := fun σ H Q => tf σ H fun y H1 => ∃ c dx fs, y = .ref c ∧ H1 c = some (.ins C dx fs) ∧ fs.lookup m = none ∧ ta σ H1 fun vs H2 => sp (y :: vs) H2 Q (E σ)
theorem pe_methE {m : Str} {o e : Expr} {es : List Expr} {tf : TE} {ta : TA} {apos pos : Pos} {pl : Sem Bool} (ho : PE X o tf) (cl : Cls X.K C) (me : Meth X.K C m g) (F : FnOk X.prog X.w X.K X.mg X.base CX k g fd ps sp) (room : Room k X.A) (bn : Binds X.K fd ps []) (pass : ∀ σ, PassesAt CX X σ (E σ)) (hargs : PA X (e :: es) ta)
    (h1 : starEach (e :: es) X.env = (false, eval e X.env) :: starEach es X.env := by rfl) (h2 : (backTo pos (starEach es X.env)).any (·.1) = false := by rfl)
    (h3 : eval (.Call (.Attribute o m apos) (e :: es) [] pos) X.env = (do let ov ← eval o X.env; standAt apos.atName; let (f, first) ← holding [ov] (getMethod ov m pl); callWith pos f first (backTo pos (starEach (e :: es) X.env)) (backToKw pos (keywordEach [] X.env))) := by rfl) :
    PE X (.Call (.Attribute o m apos) (e :: es) [] pos) (tMethE C m sp E tf ta) := by
  refine ⟨fun pins s σ H Q I w => PySem.W.methodCall_KW (pl := pl) (thn (ho.run pins s σ H _ I w) fun u s1 hh => ?_) h3⟩
  obtain ⟨y, H1, I1, ry, c, dx, fs, ey, hc, lk, q⟩ := hh
  subst ey
  cases (show u = Value.ref c from ry)
  refine getmeth_ok I1 hc cl me lk (PySem.W.callWith_K (first := [.ref c]) (h₀ := X.base) I.ok.mod.kin me.kp (thn (hargs.run pos pins s1 σ H1 _ I1 q) fun us s2 hh => ?_) h1 h2)
  obtain ⟨vs, H2, I2, r, q2⟩ := hh
  exact ⟨I2.kIn, run_fnS (us := .ref c :: us) (vs := .ref c :: vs) F room bn (pass σ) I2 (.cons rfl r) q2⟩
/-- o.m() -/
def tMethE0 (C : Addr) (m : Str) (sp : Sp) (E : St → XK) (tf : TE) : TE := fun σ H Q => tf σ H fun y H1 => ∃ c dx fs, y = .ref c ∧ H1 c = some (.ins C dx fs) ∧ fs.lookup m = none ∧ sp [y] H1 Q (E σ)
theorem run_ownS {A : Around} {pins : List (Addr × Obj)} {s : Shared} {σ : St} {H : Hp} {us : List Value} {vs : List V} {Q : VK} {Q' : Value → Shared → Prop} (F : FnOk X.prog X.w X.K X.mg X.base CX k g fd ps sp) (sb : Sub X k A) (bn : Binds X.K fd ps []) (pass : PassesAt CX X σ (E σ))
    (I : Inv X pins σ H s) (r : Vals vs us) (h : sp vs H Q (E σ)) (hq : ∀ u s' v J, RelV v u → Inv X pins σ J s' → Q v J → Q' u s') : wpAny (model X.prog X.w) A (call (.ref g) us) Q' X.xe s := by
  have e0 : Env0 X.prog X.w X.K X.mg X.base A X.stack s H := by
    have e := I.env0
    exact ⟨by rw [sb.fr]; exact e.frames, e.mod, e.bs, e.bsz, e.funs, e.frf, e.hok, e.bare⟩
  have hl := F.len _ _ _ _ h
  refine wpAny_call (codeAny_mono (F.run A X.stack s H ⟨us, []⟩ us vs Q (E σ) sb.room e0 (by
    have := bn s us I.kIn (by rw [← hl, r.length]; simp)
    simpa using this) r h) fun rr s2 z => ?_)
  cases rr with
  | error e => exact pass pins H s e s2 I z
  | ok fl =>
    cases fl with
    | ret u =>
      obtain ⟨v, H', J', rz, q⟩ := I.after z
      exact hq u s2 v H' rz J' q
    | next => exact False.elim z
    | brk => exact False.elim z
    | cont => exact False.elim z
/-- x[y], x an instance of the class at C with an own __getitem__ -/
def tIxOwnE (C : Addr) (sp : Sp) (E : St → XK) (ta tb : TE) : TE := fun σ H Q => tOp (rIxOwn C sp (E σ)) ta tb σ H Q
theorem pe_ixOwnE {a b : Expr} {ta tb : TE} {pos : Pos} (ha : PE X a ta) (hb : PE X b tb) (F : FnOk X.prog X.w X.K X.mg X.base CX k g fd ps sp) (hr : Room (k + 1) X.A) (hs : PySem.W.findIn X.K (.ref C) "__getitem__" = some (some (.ref g))) (hf : PySem.W.isFn X.K (.ref g) = true)
    (hfi : PySem.W.fnIn X.K g = true) (bn : Binds X.K fd ps []) (pass : ∀ σ, PassesAt CX X σ (E σ)) (hsl : ∀ (c : Addr) (u : Value), subscripted b true (.ref c) u = runValue (.builtin "lifetime.subscript" ⟨[.ref c, u], []⟩) := by intro _ _; with_unfolding_all rfl) :
    PE X (.Subscript a b pos) (tIxOwnE C sp E ta tb) := by
  refine ⟨fun pins s σ H Q I h => Subscript_ (binT ha hb I h fun v u s2 x y H2 I2 rx ry q => ?_)⟩
  obtain ⟨c, dx, fs, rfl, hc, q⟩ := q
  cases rx
  obtain ⟨od, K1⟩ := ins_look I2 hc
  obtain ⟨m, hF⟩ := I2.fr
  exact PySem.W.sub_K hF I2.ok.mod.kin K1 hs hfi hf (run_ownS F ⟨hr.in1, rfl⟩ bn (pass σ) I2 (show Vals [V.ref c, y] [Value.ref c, u] from .cons rfl (.cons ry .nil)) q fun u s' v J rv I' z => ⟨v, J, I', rv, z⟩) (hsl c u)
end
end L2
namespace LT
open PySem L2
def menu : List PyData := [.none, .bool true, .bool false, .int 0, .int 1, .int 7, .int (-1), .int (10 ^ 20), .str "", .str "run", .str "also", .str "keep", .tuple [], .list [], .str "abcde", .str "A", .tuple [.str "run"]]
/-- the data that the law draws: n levels -/
inductive An : Nat → PyData → Prop
  | one {n : Nat} {d : PyData} : d ∈ menu → An n d
  | lst {n : Nat} {ds : List PyData} : ds.length ≤ 3 → (∀ d ∈ ds, An n d) → An (n + 1) (.list ds)
  | tup {n : Nat} {ds : List PyData} : ds.length ≤ 3 → (∀ d ∈ ds, An n d) → An (n + 1) (.tuple ds)
def spAny (K : PySem.W.Frag) (n : Nat) : Sp := fun vs H Q _ => ∃ b : Addr, vs = [.ref b, .int (n : Int)] ∧ Box H b ∧
  ∀ (v : V) (d : PyData) (J : Hp), An n d → Dp K (frs H J) v d → Kb b H J → Box J b → Q v J
section
variable {P : Program} {w : World} {K : PySem.W.Frag} {mg : Str → Option Value} {base : Heap}
theorem no_ok {CX : CXT} {f : Addr} {fd : FuncData} {ps : List Str} {k : Nat} : FnOk P w K mg base CX k f fd ps (fun _ _ _ _ => False) :=
  ⟨fun _ _ _ _ h => h.elim, fun _ _ _ _ _ _ _ _ _ _ _ _ _ h => h.elim⟩
/-- the displayed list -/
theorem odd_dp {H : Hp} {p q r : Addr} (hp : H p = some (.tup [])) (hq : H q = some (.lst [])) (hr : H r = some (.tup [.str "run"])) :
    DpAll K H [.non, .bl true, .bl false, .int 0, .int 1, .int 7, .int (-1), .int (10 ^ (20 : Int).toNat), .str "", .str "run", .str "also", .str "keep", .ref p, .ref q, .str "abcde", .str "A", .ref r] menu :=
  .cons .non (.cons (.bl _) (.cons (.bl _) (.cons (.int _) (.cons (.int _) (.cons (.int _) (.cons (.int _) (.cons (.int _) (.cons (.str _) (.cons (.str _) (.cons (.str _) (.cons (.str _)
    (.cons (.tup (SqT.of hp) .nil) (.cons (.lst (SqL.of hq) .nil) (.cons (.str _) (.cons (.str _) (.cons (.tup (SqT.of hr) (.cons (.str _) .nil)) .nil))))))))))))))))
theorem menu_heap {H1 : Hp} {b p t r l : Addr} {us : List V} (hp : H1 p = none) (ht : upd H1 p (.tup []) t = none) (hr : upd (upd H1 p (.tup [])) t (.lst []) r = none)
    (hl : upd (upd (upd H1 p (.tup [])) t (.lst [])) r (.tup [.str "run"]) l = none) (hb : Box H1 b) :
    Kb b H1 (upd (upd (upd (upd H1 p (.tup [])) t (.lst [])) r (.tup [.str "run"])) l (.lst us)) ∧
    frs H1 (upd (upd (upd (upd H1 p (.tup [])) t (.lst [])) r (.tup [.str "run"])) l (.lst us)) p = some (.tup []) ∧
    frs H1 (upd (upd (upd (upd H1 p (.tup [])) t (.lst [])) r (.tup [.str "run"])) l (.lst us)) t = some (.lst []) ∧
    frs H1 (upd (upd (upd (upd H1 p (.tup [])) t (.lst [])) r (.tup [.str "run"])) l (.lst us)) r = some (.tup [.str "run"]) ∧
    Box (upd (upd (upd (upd H1 p (.tup [])) t (.lst [])) r (.tup [.str "run"])) l (.lst us)) b ∧ l ≠ b := by
  have s1 := new_same hp (.tup [])
  have s2 := new_same ht (.lst [])
  have s3 := new_same hr (.tup [.str "run"])
  have s4 := new_same hl (.lst us)
  have f1 : H1 t = none := s1.free ht
  have f2 : H1 r = none := s1.free (s2.free hr)
  have f3 : H1 l = none := s1.free (s2.free (s3.free hl))
  obtain ⟨x, y, eb⟩ := hb
  refine ⟨fun c o _ e => s4 _ _ (s3 _ _ (s2 _ _ (s1 _ _ e))), ?_, ?_, ?_, ⟨x, y, s4 _ _ (s3 _ _ (s2 _ _ (s1 _ _ eb)))⟩, fun z => by rw [z, eb] at f3; cases f3⟩
  · rw [frs_of hp]
    exact s4 _ _ (s3 _ _ (s2 _ _ upd_same))
  · rw [frs_of f1]
    exact s4 _ _ (s3 _ _ upd_same)
  · rw [frs_of f2]
    exact s4 _ _ upd_same
/-- the comprehension's turns: what stands behind i of them -/
def Loop (K : PySem.W.Frag) (b : Addr) (m : Nat) (H2 : Hp) (D : Addr) (i : Nat) (J : Hp) : Prop :=
  ∃ (vs : List V) (ds : List PyData), J D = some (.lst vs) ∧ vs.length = i ∧ DpAll K (frs (upd H2 D (.lst [])) J) vs ds ∧ (∀ d ∈ ds, An m d) ∧ Box J b ∧ H2 D = none ∧ D ≠ b ∧ ∀ c o, c ≠ b → H2 c = some o → J c = some o
theorem loop_start {K : PySem.W.Frag} {b D : Addr} {m : Nat} {H2 : Hp} (hD : H2 D = none) (hb : Box H2 b) : Loop K b m H2 D 0 (upd H2 D (.lst [])) := by
  obtain ⟨x, y, e⟩ := hb
  have n : D ≠ b := fun z => by rw [z, e] at hD; cases hD
  exact ⟨[], [], upd_same, rfl, .nil, (fun _ h => nomatch h), ⟨x, y, by rw [upd_ne (Ne.symm n)]; exact e⟩, hD, n, fun c o _ q => by rw [upd_ne (ne_of_none q hD)]; exact q⟩
theorem loop_turn {K : PySem.W.Frag} {b D : Addr} {m i : Nat} {H2 J L : Hp} {v : V} {d : PyData} (h : Loop K b m H2 D i J) (hb2 : Box H2 b) (hd : An m d) (hv : Dp K (frs J L) v d) (k : Kb b J L) (hb : Box L b) :
    ∃ acc, L D = some (.lst acc) ∧ acc.length = i ∧ Loop K b m H2 D (i + 1) (upd L D (.lst (acc ++ [v]))) := by
  obtain ⟨vs, ds, h1, h2, h3, h4, ⟨x0, y0, h5⟩, h6, h7, h8⟩ := h
  obtain ⟨x, y, e⟩ := hb
  obtain ⟨x2, y2, e2⟩ := hb2
  have g : ∀ c, upd H2 D (.lst []) c = none → c ≠ b ∧ c ≠ D := fun c z => ⟨(fun q => by rw [q, upd_ne (Ne.symm h7), e2] at z; cases z), (fun q => by rw [q, upd_same] at z; cases z)⟩
  refine ⟨vs, k D _ h7 h1, h2, vs ++ [v], ds ++ [d], upd_same, by rw [List.length_append, h2]; rfl, dpAll_add (dp_mono (frs_same fun c o n z => ?_) d v hv) (dpAll_mono (frs_same fun c o n z => ?_) ds vs h3), fun d' hm => ?_, ⟨x, y, by rw [upd_ne (Ne.symm h7)]; exact e⟩, h6, h7, fun c o n q => ?_⟩
  · have cD : c ≠ D := fun q => by rw [q, h1] at n; cases n
    have cb : c ≠ b := fun q => by rw [q, h5] at n; cases n
    refine ⟨?_, by rw [upd_ne cD]; exact z⟩
    rw [upd_ne cD]
    cases w : H2 c with
    | none => rfl
    | some u =>
      rw [h8 c u cb w] at n
      cases n
  · obtain ⟨cb, cD⟩ := g c n
    exact ⟨n, by rw [upd_ne cD]; exact k c o cb z⟩
  · rcases List.mem_append.mp hm with q | q
    · exact h4 d' q
    · rw [List.mem_singleton.mp q]
      exact hd
  · have cD : c ≠ D := fun z => by rw [z, h6] at q; cases q
    rw [upd_ne cD]
    exact k c o n (h8 c o n q)
structure DefG (P : Program) (w : World) (K : PySem.W.Frag) (mg : Str → Option Value) (base : Heap) (x : Str) (k : Nat) (ps : List Str) (sp : Sp) : Prop where
  ex : ∃ (g : Addr) (gd : FuncData), FnOk P w K mg base CX0 k g gd ps sp ∧ Binds K gd ps [] ∧ PySem.W.keepIn K (.ref g) = true ∧ mg x = some (.ref g)
end
end LT
namespace L2
open PySem PySem.Spec PyProof.Rows
section
variable {X : Cx} {a D : Addr} {oe : Obj} {pn : List (Addr × Obj)} {cls : Value} {d : Option Addr}
/-- the caught exception as the library's isinstance sees it -/
theorem exc_inst {pins : List (Addr × Obj)} {σ : St} {H : Hp} {s : Shared} {dd : Addr} {fs : List (Str × V)} (I : Inv (X.suite a ((a, oe) :: pn)) pins σ H s) (hz : Zc (.ref D) (some dd) oe) (hf : ∃ vs, oe.data = .fields vs) (hd : H dd = some (.xd fs)) :
    ∃ ox od, PySem.W.InstAt s.heap a ox D od := by
  obtain ⟨there, _⟩ := I.pin (a, oe) (List.mem_append_left _ List.mem_cons_self)
  obtain ⟨vs, e⟩ := hf
  obtain ⟨mA, hns, _⟩ := (show ObjOk X.prog X.w H s.heap dd (.xd fs) from I.hok dd _ hd)
  obtain ⟨od, ho, _⟩ := lookIn_ns hns
  exact ⟨oe, some od, there, hz.1, by unfold PySem.W.notCls; rw [e] <;> rfl, by rw [hz.2]; exact ho⟩
/-- isinstance(e, c) and isinstance(e, (c1, c2)), e caught, with a dict of its own -/
def rIsX (K : PySem.W.Frag) (D a : Addr) (cls : Value) (d : Option Addr) : List V → Hp → VK → Prop := fun xs H Q => cls = .ref D ∧ ∃ (dd : Addr) (fs : List (Str × V)) (c : V) (b : Bool), d = some dd ∧ H dd = some (.xd fs) ∧ xs = [.ref a, c] ∧
  ((∃ cv, ClsV c cv ∧ PySem.W.kitOne K (.ref D) cv = some b) ∨ ∃ (tp : Addr) (cs : List V) (us : List Value), c = .ref tp ∧ H tp = some (.tup cs) ∧ Paired ClsV cs us ∧ PySem.W.kitAny K (.ref D) us = some b) ∧ Q (.bl b) H
theorem call_isX (C : ExcC X.K D) (hz : Zc cls d oe) (hf : ∃ vs, oe.data = .fields vs) : CallR (X.suite a ((a, oe) :: pn)) (.builtin "isinstance") (rIsX X.K D a cls d) := by
  intro pins s σ H xs us Q I r h
  obtain ⟨ec, dd, fs, c, b, ed, hd, rfl, hk, q⟩ := h
  subst ec ed
  obtain ⟨u1, u2, rfl, r1, r2⟩ := vals2 r
  obtain rfl : u1 = Value.ref a := r1
  have J := exc_inst I hz hf hd
  have Z := LT.kit_exc (K := X.K) (x := a) (D := D) C
  rcases hk with ⟨cv, k, e⟩ | ⟨tp, cs, ws, rfl, hT, k, e⟩
  · have e2 := k.eq r2
    subst e2
    exact PySem.W.kia_one Z I.kIn J e (fun z => nomatch z) fun tk => ⟨.bl b, H, I.tok tk, rfl, q⟩
  · obtain rfl : u2 = Value.ref tp := r2
    obtain ⟨_, its, rv, o, h1, h2, n, h3⟩ := (show ObjOk X.prog X.w H s.heap tp (.tup cs) from I.hok tp _ hT)
    have e3 := ClsV.all k rv
    subst e3
    obtain ⟨oc, od, dt, sl⟩ := o
    simp only at h2 h3
    subst h2 h3
    exact PySem.W.kia_tup Z I.kIn J h1 e (fun z => nomatch z) fun tk => ⟨.bl b, H, I.tok tk, rfl, q⟩
end
end L2
namespace LT
open PySem L2
/-! ### the law's own look at a name -/
def menuS : List Str := ["run", "a", "zzzz", "keep", "at", "past", "under", "all", "stay", "on", "home", "Run", "also", "abcde", "", "on ", "A"]
theorem menuS_len : ∀ z ∈ menuS, z.length ≤ 100 := by decide +kernel

def letters : Str := "abcdefghijklmnopqrstuvwxyz"
def bads (z : Str) : List Nat := z.cps.toList.filter fun c => !decide (c ∈ letters.cps.toList)
def nameL (z : Str) : Bool := (decide ((0 : Int) < (z.length : Int)) && decide ((z.length : Int) < 5)) && !decide (V.str z = V.str "also") && (bads z).isEmpty
theorem name_same : ∀ z ∈ menuS, nameP z = nameL z := by decide +kernel
def signD (c : Nat) : PyData := .str ⟨#[c]⟩
theorem signs_lay : ∀ z ∈ menuS, SeqAt.shaped (.list ((bads z).map signD)) = true := by decide +kernel
def spLIsName (K : PySem.W.Frag) (C : Addr) : Sp := fun vs H Q _ => ∃ v, vs = [v] ∧ Kind K H v ∧ (∀ z, v = .str z → z ∈ menuS) ∧ ∀ J, Same H J → Q (.bl (nameV nameL v)) J
section
variable {P : Program} {w : World} {K : PySem.W.Frag} {mg : Str → Option Value} {base : Heap}
end
end LT
namespace LT
open PySem L2
/-- what the law's try leans on: CN NoRow, CL LineError -/
structure MissG (K : PySem.W.Frag) (mg : Str → Option Value) (CN CL : Addr) : Prop where
  exc : ExcC K CN
  xf : XfC K CN
  no : PySem.W.findIn K (.ref CN) "at" = some none
  mN : mg "NoRow" = some (.ref CN)
  mL : mg "LineError" = some (.ref CL)
  zI : mg "IndexError" = none
  kI : PySem.W.kitOne K (.ref CN) (.type "IndexError") = some true
  kL : PySem.W.kitOne K (.ref CN) (.ref CL) = some false
  te : PySem.W.exmOne K (.ref CN) (.ref CN) = some true
def spMissed (K : PySem.W.Frag) (C CR : Addr) : Sp := fun vs H Q _ => ∃ (a : Addr) (i : Int) (c : Bool) (first : Str) (rows : List Row5), vs = [.ref a, .int i, .bl c] ∧ RuleAt K C CR H a first rows ∧ Beyond i rows.length ∧
  ∀ (t : Addr) (J : Hp), Same H J → J t = some (.tup [.int i, .bl true]) → Q (.ref t) J
abbrev nMissed : List Str := ["_law_rule_here", "_law_at", "_law_is_without", "_law_found", "e"]
def m_body (K : PySem.W.Frag) (C CR CN : Addr) (W : WX) : TS :=
  tAsg (tIf (tB (tVar 2)) (tMethE CR "without" (spRWithoutX K C CR CN) (WE W) (tVar 0) (tCons (tVar 1) tNil)) (tIxOwnE CR (spRItemX K C CR CN) (WE W) (tVar 0) (tVar 1))) (gName 3)
def m_suite (K : PySem.W.Frag) (CN CL : Addr) : Addr → Value → Option Addr → TS := fun a cls d =>
  tAsg (tTup (tCons (tXf a cls d CN "at" (tVar 4)) (tCons (tAndV (tCB (rIsX K CN a cls d) (tCons (tVar 4) (tCons (tC (.ty "IndexError")) tNil))) (tNotV (tCB (rIsX K CN a cls d) (tCons (tVar 4) (tCons (tC (.ref CL)) tNil))))) tNil))) (gName 3)
section
variable {P : Program} {w : World} {K : PySem.W.Frag} {mg : Str → Option Value} {base : Heap}
theorem scMissed : FnScope nMissed ["_law_rule_here", "_law_at", "_law_is_without"] (defScope sMissed) := ⟨rfl, rfl, rfl, by decide +kernel, rfl, by decide +kernel, by decide +kernel⟩
theorem ok_missed {C CR CN CL f fI fW : Addr} {fd dI dW : FuncData} (F : Fun K "_law_missed" "_law_missed" sMissed f fd) (U : Blt2 mg) (Y : MissG K mg CN CL) (cl : Cls K CR) (GI : FnOk P w K mg base (L2.CX P w) 3 fI dI ["self", "at"] (spRItemX K C CR CN)) (bI : Binds K dI ["self", "at"] [])
    (sI : PySem.W.findIn K (.ref CR) "__getitem__" = some (some (.ref fI))) (iI : PySem.W.isFn K (.ref fI) = true) (fiI : PySem.W.fnIn K fI = true) (GW : FnOk P w K mg base (L2.CX P w) 5 fW dW ["self", "at"] (spRWithoutX K C CR CN)) (bW : Binds K dW ["self", "at"] []) (mW : Meth K CR "without" fW) :
    FnOk P w K mg base CX0 6 f fd ["_law_rule_here", "_law_at", "_law_is_without"] (spMissed K C CR) := by
  refine F.ok scMissed (fun vs H Q E h => ?_) (fun cdv A outer s H vs Q E hr h => ?_)
  · obtain ⟨a, i, c, first, rows, rfl, _⟩ := h
    rfl
  obtain ⟨a, i, c, first, rows, rfl, ru, by_, q⟩ := h
  have hr4 : Room 4 _ := hr.mono (by decide)
  have hr5 : Room 5 _ := hr.mono (by decide)
  refine ⟨_, pss_cons (ps_set (i := 3) scMissed.nd rfl (Or.inl rfl) pe_non)
    (pss_cons (ps_try_as (i := 4) (tb := m_body K C CR CN) (ts := m_suite K CN CL) (Wout := fun _ _ _ _ => False) rfl rfl scMissed.nd rfl rfl ⟨rfl, by decide, Or.inl Y.mN⟩ takes0
      (fun W pn xe tk _ => pss_one (ps_set (i := 3) scMissed.nd rfl (Or.inl rfl) (by exact (pe_ifExp (pt_val (pv 2)) (pe_methE (pv 0) cl mW GW hr5 bW (fun σ => passAt tk σ) (pa_cons (pv 1) pa_nil)) (pe_ixOwnE (pv 0) (pv 1) GI hr4 sI iI fiI bI (fun σ => passAt tk σ))))))
      (fun b oe cls d pn hz hf => pss_one (ps_set (i := 3) scMissed.nd rfl (Or.inl rfl) (pe_tup (pa_cons (pe_xf Y.xf Y.no hz hf (pv 4)) (pa_cons (pe_and (pe_callB (call_isX Y.exc hz hf) (by rfl) U.isin boot_isin (pa_cons (pv 4) (pa_cons (pe_bltn (v := .ty "IndexError") (by rfl) Y.zI (by decide +kernel) rfl) pa_nil)))
        (pe_one (pe_not (pe_callB (call_isX Y.exc hz hf) (by rfl) U.isin boot_isin (pa_cons (pv 4) (pa_cons (pe_glob (by rfl) Y.mL (v := .ref CL) rfl) pa_nil)))))) pa_nil))))))
    (pss_one (ps_ret (pv 3)))), ?_⟩
  obtain ⟨dx, tp, tm, xs, zs, h1, -⟩ := ru.ex
  cases c with
  | true =>
    refine ⟨_, rfl, true, rfl, iteT ⟨_, rfl, a, dx, _, rfl, h1, (by kernel_rfl), _, rfl, a, i, first, rows, rfl, ru, .inr ⟨by_, fun d J sJ hd => ?_⟩⟩⟩
    have sd := sJ.trans (new_same hd (.xd [("at", V.int i)]))
    have hx : (upd J d (.xd [("at", V.int i)])) d = some (.xd [("at", V.int i)]) := upd_same
    generalize upd J d (.xd [("at", V.int i)]) = L at sd hx ⊢
    refine ⟨true, Y.te, fun _ a0 _ => ?_, fun z => Bool.noConfusion z⟩
    refine ⟨_, rfl, rfl, rfl, d, _, .int i, rfl, hx, (by simp [List.lookup]), ?_⟩
    refine ⟨_, rfl, rfl, d, _, .ty "IndexError", true, rfl, hx, rfl, .inl ⟨_, .ty _, Y.kI⟩, true, rfl, iteT ?_⟩
    refine ⟨_, rfl, rfl, d, _, .ref CL, false, rfl, hx, rfl, .inl ⟨_, .own CL, Y.kL⟩, false, rfl, (by show 2 ≤ sizeLine; decide), fun tp np => ?_⟩
    have s2 := sd.trans (new_same np (.tup [.int i, .bl (!false)]))
    exact ⟨_, rfl, q tp _ s2 upd_same⟩
  | false =>
    refine ⟨_, rfl, false, rfl, iteF ⟨_, rfl, _, rfl, a, dx, _, rfl, h1, a, i, first, rows, rfl, ru, .inr ⟨by_, fun d J sJ hd => ?_⟩⟩⟩
    have sd := sJ.trans (new_same hd (.xd [("at", V.int i)]))
    have hx : (upd J d (.xd [("at", V.int i)])) d = some (.xd [("at", V.int i)]) := upd_same
    generalize upd J d (.xd [("at", V.int i)]) = L at sd hx ⊢
    refine ⟨true, Y.te, fun _ a0 _ => ?_, fun z => Bool.noConfusion z⟩
    refine ⟨_, rfl, rfl, rfl, d, _, .int i, rfl, hx, (by simp [List.lookup]), ?_⟩
    refine ⟨_, rfl, rfl, d, _, .ty "IndexError", true, rfl, hx, rfl, .inl ⟨_, .ty _, Y.kI⟩, true, rfl, iteT ?_⟩
    refine ⟨_, rfl, rfl, d, _, .ref CL, false, rfl, hx, rfl, .inl ⟨_, .own CL, Y.kL⟩, false, rfl, (by show 2 ≤ sizeLine; decide), fun tp np => ?_⟩
    have s2 := sd.trans (new_same np (.tup [.int i, .bl (!false)]))
    exact ⟨_, rfl, q tp _ s2 upd_same⟩
/-- the law's making of rows -/
def spMade (C : Addr) : Sp := fun vs H Q _ => ∃ (t : Addr) (xs : List V) (rows : List Row5), vs = [.ref t] ∧ H t = some (.tup xs) ∧ RowTs H xs rows ∧ rows.length ≤ 31 ∧
  ∀ (l : Addr) (ys : List V) (J : Hp), Same H J → H l = none → J l = some (.lst ys) → RowsIn C J ys rows → Q (.ref l) J
theorem scMade : FnScope ["_law_rows", "_law_row"] ["_law_rows"] (defScope sMade) := ⟨rfl, rfl, rfl, by decide +kernel, rfl, by decide +kernel, by decide +kernel⟩
theorem ok_made {C CE f fR : Addr} {fd dR : FuncData} (F : Fun K "_law_made" "_law_made" sMade f fd) (M : Mk K C fR) (GR : FnOk P w K mg base (L2.CX P w) 3 fR dR ["self", "mode", "pick", "move", "then", "also"] (spRow K C CE)) (bR : Binds K dR ["self", "mode", "pick", "move", "then", "also"] []) (mR : mg "Row" = some (.ref C)) :
    FnOk P w K mg base CX0 5 f fd ["_law_rows"] (spMade C) := by
  refine F.ok scMade (fun vs H Q E h => ?_) (fun cdv A outer s H vs Q E hr h => ?_)
  · obtain ⟨t, xs, rows, rfl, _⟩ := h
    rfl
  obtain ⟨t, xs, rows, rfl, ht, rt, few, q⟩ := h
  refine ⟨_, pss_one (ps_ret (pe_lc (own := [("_law_row", 1)]) (g := gName 1) (tt := tYes) (by rfl) scMade.nd (pi_tup (pv 0)) (blkOk_by (N := ["_law_rows", "_law_row"]) (sc := defScope sMade) (own := [("_law_row", 1)]) (by decide +kernel)) (fun _ _ _ _ _ => pg_name (i := 1) scMade.nd rfl (Or.inl rfl)) (fun _ _ _ _ _ => pts_nil)
      (fun _ _ _ _ _ => pe_make M GR hr (by rfl) mR bR .nil passRm (pa_cons (pe_ix (r := rIxT K) ix_tup (pv 1) pe_int (fun _ _ => rfl)) (pa_cons (pe_ix (r := rIxT K) ix_tup (pv 1) pe_int (fun _ _ => rfl)) (pa_cons (pe_ix (r := rIxT K) ix_tup (pv 1) pe_int (fun _ _ => rfl)) (pa_cons (pe_ix (r := rIxT K) ix_tup (pv 1) pe_int (fun _ _ => rfl)) (pa_cons (pe_ix (r := rIxT K) ix_tup (pv 1) pe_int (fun _ _ => rfl)) pa_nil)))))))), ?_⟩
  refine ⟨_, rfl, t, rfl, ⟨xs, SqT.of ht⟩, fun D hD => lc_tup (K := K) (a := t) (xs := xs) (RowsMade C D H rows) (RowsMade.start hD) (fun i M _ z => SqT.of (z.same _ _ ht)) (fun i v N hv z => ?_) (fun N z => ?_)⟩
  · obtain ⟨rw, r, rfl, hri, hrw, gr⟩ := rt.2 i v hv
    have hw := z.same _ _ hrw
    refine ⟨rfl, _, rfl, rw, _, _, .str r.m, rfl, rfl, SqT.of hw, rfl, _, rfl, rw, _, _, .str r.p, rfl, rfl, SqT.of hw, rfl, _, rfl, rw, _, _, .str r.mv, rfl, rfl, SqT.of hw, rfl, _, rfl, rw, _, _, .str r.t, rfl, rfl, SqT.of hw, rfl, _, rfl, rw, _, _, .bl r.al, rfl, rfl, SqT.of hw, rfl, fun x dxx nx ndx _ => row_made (r := r) rfl gr nx ndx fun L sL hx => ⟨rfl, ?_⟩⟩
    exact z.step hD sL hri gr hx (by omega)
  · obtain ⟨ys, hy, rin⟩ := z.ex
    rw [rt.1, List.take_of_length_le (Nat.le_refl _)] at rin
    exact q D ys N z.same hD hy rin
/-- == of a rule and what is none -/
def spREqO (K : PySem.W.Frag) (C CR : Addr) : Sp := fun vs H Q _ => ∃ (a : Addr) (first : Str) (rows : List Row5) (v : V) (t : Value), vs = [.ref a, v] ∧ RuleAt K C CR H a first rows ∧ TyX K H v t ∧ PySem.W.kitOne K t (.ref CR) = some false ∧ Q (.bl false) H
theorem scREqO : FnScope ["self", "other"] ["self", "other"] (defScope sRuleEq) := ⟨rfl, rfl, rfl, by decide +kernel, rfl, by decide +kernel, by decide +kernel⟩
theorem ok_reqO {C CR CE f g : Addr} {fd gd : FuncData} (F : Fun K "__eq__" "Rule.__eq__" sRuleEq f fd) (G : MethG P w K mg base C CR CE) (U : Blt2 mg)
    (GS : FnOk P w K mg base CX0 4 g gd ["self"] (spRStr K C CR)) (bS : Binds K gd ["self"] []) (iS : PySem.W.findIn K (.ref CR) "__str__" = some (some (.ref g))) (fS : PySem.W.isFn K (.ref g) = true) :
    FnOk P w K mg base CX0 7 f fd ["self", "other"] (spREqO K C CR) := by
  refine F.ok scREqO (fun vs H Q E h => ?_) (fun cdv A outer s H vs Q E hr h => ?_)
  · obtain ⟨a, first, rows, v, t, rfl, _⟩ := h
    rfl
  obtain ⟨a, first, rows, v, t, rfl, ru, ty, k, q⟩ := h
  have hr6 : Room 6 _ := hr.mono (by decide)
  refine ⟨_, pss_one (ps_ret (pe_and (pe_callB call_isi (by rfl) U.isin boot_isin (pa_cons (pv 1) (pa_cons (pe_glob (by rfl) G.mR (v := .ref CR) rfl) pa_nil)))
    (pe_one (pe_cmpR op_eq (pe_callTy (r := rStrOwn CR (spRStr K C CR) E0) (call_strOwn GS hr6 iS fS bS pass0) (by rfl) U.str boot_strR (pa_cons (pv 0) pa_nil)) (pe_callTy (r := rStrOwn CR (spRStr K C CR) E0) (call_strOwn GS hr6 iS fS bS pass0) (by rfl) U.str boot_strR (pa_cons (pv 1) pa_nil)) (nomark _))))), ?_⟩
  exact ⟨_, rfl, v, .ref CR, t, _, false, rfl, .own CR, ty, k, false, rfl, iteF q⟩
end
end LT
namespace LT
open PySem PySem.Spec PyProof.Rows
/-! ### sorted words are one list only -/
def leS (a b : Str) : Prop := a.cps.toList ≤ b.cps.toList
theorem rising_all : ∀ {l : List Str} {p : Str}, risingS p l = true → (p :: l).Pairwise leS
  | [], p, _ => List.pairwise_singleton _ _
  | x :: r, p, h => by
    have h2 : (!ltCps x.cps.toList p.cps.toList && risingS x r) = true := h
    rw [Bool.and_eq_true, ltCps_eq] at h2
    have le : leS p x := by
      have := h2.1
      simpa [leS] using this
    have ih := rising_all h2.2
    refine List.pairwise_cons.mpr ⟨fun y hy => ?_, ih⟩
    rcases List.mem_cons.mp hy with rfl | hy
    · exact le
    · exact List.le_trans le ((List.pairwise_cons.mp ih).1 y hy)
theorem sortedS_all {l : List Str} (h : sortedS l = true) : l.Pairwise leS := by
  cases l with
  | nil => exact List.Pairwise.nil
  | cons x r => exact rising_all h
theorem leS_one {a b : Str} (h : leS a b) (k : leS b a) : a = b := by
  have e : a.cps.toList = b.cps.toList := List.le_antisymm h k
  cases a with | mk a => ?_
  cases b with | mk b => ?_
  exact congrArg _ (Array.ext' e)
theorem words_one : ∀ {a b : List Str}, a.Pairwise leS → b.Pairwise leS → a.Perm b → a = b
  | [], [], _, _, _ => rfl
  | [], _ :: _, _, _, p => absurd p.length_eq (by simp)
  | _ :: _, [], _, _, p => absurd p.length_eq (by simp)
  | x :: a, y :: b, ha, hb, p => by
    obtain ⟨a1, a2⟩ := List.pairwise_cons.mp ha
    obtain ⟨b1, b2⟩ := List.pairwise_cons.mp hb
    have e : x = y := by
      rcases List.mem_cons.mp (p.mem_iff.mp List.mem_cons_self) with z | z
      · exact z
      rcases List.mem_cons.mp (p.mem_iff.mpr List.mem_cons_self) with u | u
      · exact u.symm
      exact leS_one (a1 _ u) (b1 _ z)
    subst e
    rw [words_one a2 b2 p.cons_inv]
theorem sortedS_one {a b : List Str} (ha : sortedS a = true) (hb : sortedS b = true) (p : a.Perm b) : a = b := words_one (sortedS_all ha) (sortedS_all hb) p
end LT
namespace LT
open PySem L2
theorem bt_tuple : bootBuiltins "tuple" = some (.type "tuple") := by decide +kernel
theorem SameN.kb {T : L3.TabL} {H J L : Hp} {b : Addr} (h : L3.SameN T H J) (hb : H b = none) (bx : Box J b) (k : Kb b J L) (bx2 : Box L b) : L3.SameN T H L := by
  obtain ⟨x, y, eb⟩ := bx
  refine ⟨⟨fun c o e n => k _ _ (fun q => by rw [q, hb] at e; cases e) (h.ex.ext c o e n)⟩, fun c e => ?_, L3.tabs_but h.tabs fun c o e => ⟨fun p mp z => k _ _ (fun q => ?_) e, fun w z => k _ _ (fun q => ?_) e⟩⟩
  · by_cases z : c = b
    · rw [z]
      exact hb
    · cases q : J c with
      | none => exact h.back c q
      | some o =>
        rw [k _ _ z q] at e
        cases e
  · obtain ⟨ps, e1, _⟩ := h.tabs p mp
    rw [z, q, eb] at e1
    cases e1
  · rw [q, eb, z] at e
    cases e
theorem SameN.put {T : L3.TabL} {H J : Hp} {l : Addr} {xs ys : List V} (h : L3.SameN T H J) (hl : H l = none) (eb : J l = some (.lst xs)) : L3.SameN T H (upd J l (.lst ys)) := by
  have k : ∀ {c : Addr} {o : HO}, c ≠ l → J c = some o → upd J l (.lst ys) c = some o := fun n e => by
    rw [upd_ne n]
    exact e
  refine ⟨⟨fun c o e n => k (fun q => by rw [q, hl] at e; cases e) (h.ex.ext c o e n)⟩, fun c e => ?_, L3.tabs_but h.tabs fun c o e => ⟨fun p mp z => k (fun q => ?_) e, fun w z => k (fun q => ?_) e⟩⟩
  · by_cases z : c = l
    · rw [z]
      exact hl
    · rw [upd_ne z] at e
      exact h.back c e
  · obtain ⟨ps, e1, _⟩ := h.tabs p mp
    rw [z, q, eb] at e1
    cases e1
  · rw [q, eb, z] at e
    cases e
theorem if_to {c : Prop} [Decidable c] {σ : L2.St} {J : Hp} {t u : TE} {K : VK} (P : VK) (ht : c → ∀ K : VK, (∀ v L, P v L → K v L) → t σ J K) (hu : ¬ c → ∀ K : VK, (∀ v L, P v L → K v L) → u σ J K) (k : ∀ v L, P v L → K v L) : if c then t σ J K else u σ J K := by
  by_cases h : c
  · rw [if_pos h]
    exact ht h K k
  · rw [if_neg h]
    exact hu h K k
theorem dp_words {K : PySem.W.Frag} {H : Hp} : ∀ l : List Str, DpAll K H (l.map V.str) (l.map PyData.str)
  | [] => .nil
  | z :: l => .cons (.str z) (dp_words l)
theorem words_lay : ∀ l : List Str, (∀ z ∈ l, PyData.strOk z = true) → PyData.canLayAll0 (l.map PyData.str) = true ∧ PyData.depthAll (l.map PyData.str) ≤ 1
  | [], _ => by simp [PyData.canLayAll0, PyData.depthAll]
  | x :: l, h => by
    obtain ⟨h1, h2⟩ := words_lay l fun z hz => h z (List.mem_cons_of_mem _ hz)
    have k : PyData.canLay0 (.str x) = true := h x List.mem_cons_self
    refine ⟨by rw [List.map_cons]; simp only [PyData.canLayAll0, k, h1, Bool.and_true], ?_⟩
    show max (PyData.depth (.str x)) (PyData.depthAll (l.map PyData.str)) ≤ 1
    exact Nat.max_le.mpr ⟨by simp [PyData.depth], h2⟩
theorem once_go : ∀ (xs ys : List Str), ys.Nodup → (xs.foldl put1 ys).Nodup ∧ ∀ z, z ∈ xs.foldl put1 ys ↔ z ∈ ys ∨ z ∈ xs
  | [], ys, nd => ⟨nd, fun z => ⟨.inl, fun h => h.elim id fun q => nomatch q⟩⟩
  | x :: xs, ys, nd => by
    have nd1 : (put1 ys x).Nodup := by
      unfold put1
      split
      · exact nd
      · rename_i c
        exact List.nodup_cons.mpr ⟨c, nd⟩
    obtain ⟨a, b⟩ := once_go xs (put1 ys x) nd1
    refine ⟨a, fun z => ?_⟩
    rw [List.foldl_cons, b z, List.mem_cons]
    have m : z ∈ put1 ys x ↔ z ∈ ys ∨ z = x := by
      unfold put1
      split
      · rename_i c
        exact ⟨.inl, fun h => h.elim id fun e => e ▸ c⟩
      · rw [List.mem_cons]
        exact ⟨fun h => h.elim .inr .inl, fun h => h.elim .inr .inl⟩
    rw [m]
    exact ⟨fun h => h.elim (fun h => h.elim .inl fun e => .inr (.inl e)) fun h => .inr (.inr h), fun h => h.elim (fun h => .inl (.inl h)) fun h => h.elim (fun e => .inl (.inr e)) .inr⟩
theorem once_nodup (xs : List Str) : (onceOf xs).Nodup := (once_go xs [] .nil).1
theorem kit_tuple_tuple {K : PySem.W.Frag} : PySem.W.kitOne K (.type "tuple") (.type "tuple") = some true := kit_ty (by decide +kernel)
/-- the law's names of a rule, in another order -/
theorem names_same {first : Str} {rows : List Row5} {zs ys : List Str} (h : ModesOf first rows zs) (pm : ys.Perm (onceOf ([first] ++ (rows.map fun r => r.m) ++ (rows.map fun r => r.t)))) (so : PyProof.Rows.sortedS ys = true) : zs = ys := by
  refine sortedS_one h.up so (h.perm.trans (List.Perm.trans ?_ pm.symm))
  refine (List.perm_ext_iff_of_nodup (once_nodup _) (once_nodup _)).mpr fun z => ?_
  rw [mem_onceOf, mem_onceOf]
  unfold namesOf
  simp only [List.mem_cons, List.mem_flatMap, List.mem_append, List.mem_map, List.not_mem_nil, or_false]
  constructor
  · rintro (e | ⟨r, hr, e | e⟩)
    · exact .inl (.inl e)
    · exact .inl (.inr ⟨r, hr, e.symm⟩)
    · exact .inr ⟨r, hr, e.symm⟩
  · rintro ((e | ⟨r, hr, e⟩) | ⟨r, hr, e⟩)
    · exact .inl e
    · exact .inr ⟨r, hr, .inl e.symm⟩
    · exact .inr ⟨r, hr, .inr e.symm⟩
theorem modes_ok {first : Str} {rows : List Row5} {zs : List Str} (h : ModesOf first rows zs) (wf : Wd first) (gr : ∀ r ∈ rows, Good r) : ∀ z ∈ zs, PyData.strOk z = true := fun z hz => by
  rcases (mode_mem h).mp hz with e | ⟨r, hr, e | e⟩
  · rw [e]
    exact wd_strOk wf
  · rw [e]
    exact wd_strOk (gr r hr).m
  · rw [e]
    exact wd_strOk (gr r hr).t
theorem cut_whole {xs : List V} {lo hi : Option Int} (h : HT.sIx xs.length 0 lo = 0 ∧ HT.sIx xs.length xs.length hi = xs.length) : cutV xs lo hi = xs := by
  unfold cutV
  rw [h.1, h.2, List.drop_zero, Nat.sub_zero, List.take_length]
section
variable {K : PySem.W.Frag} {a b : Addr} {H : Hp} {Q : VK}
theorem slA_tup {xs : List V} {lo hi : Option Int} (h : H a = some (.tup xs)) (q : ∀ p J, Same H J → J p = some (.tup (cutV xs lo hi)) → Q (.ref p) J) : rSlA K (.ref a) lo hi H Q :=
  ⟨a, xs, rfl, SqT.of h, fun w => q a H (Same.refl _) (by rw [cut_whole w]; exact h), fun _ p np => q p _ (new_same np _) upd_same⟩
theorem cat_any {xs ys : List V} (ha : H a = some (.tup xs)) (hb : H b = some (.tup ys)) (l : xs.length + ys.length ≤ 1000) (q : ∀ p J, Same H J → J p = some (.tup (xs ++ ys)) → Q (.ref p) J) : rCatA K (.ref a) (.ref b) H Q := by
  refine ⟨a, b, xs, ys, rfl, rfl, SqT.of ha, SqT.of hb, Nat.le_of_lt (small1000 l), fun e => q b H (Same.refl _) (by rw [e]; exact hb), fun _ e => q a H (Same.refl _) (by rw [e, List.append_nil]; exact ha), fun _ _ p np => q p _ (new_same np _) upd_same⟩
end
/-- a row as data -/
def missD (i : Int) : PyData := .tuple [.int i, .bool true]
theorem shaped_miss (i : Int) : SeqAt.shaped (.list [missD i, missD i]) = true := by
  show ((PyData.list [missD i, missD i]).canLay0 && decide ((PyData.list [missD i, missD i]).depth ≤ 64)) = true
  simp [missD, PyData.canLay0, PyData.canLayAll0, PyData.depth, PyData.depthAll]
theorem wd4 {z : Str} (h : 0 < z.length ∧ z.length ≤ 4 ∧ (∀ c ∈ z.cps.toList, c ∈ az) ∧ z ≠ "also") : Wd z := ⟨h.1, h.2.1, h.2.2.1, h.2.2.2⟩
theorem text_len {f g : Str} {r s : List Row5} (wf : Wd f) (wg : Wd g) (gr : ∀ x ∈ r, Good x) (gs : ∀ x ∈ s, Good x) (h1 : r.length ≤ 31) (h2 : s.length ≤ 31) (e : ruleText f r = ruleText g s) : f = g ∧ r.length = s.length := by
  have t1 := text_ok wf gr h1
  have t2 := text_ok wg gs h2
  rw [e] at t1
  have c := t1.cut.symm.trans t2.cut
  have f1 := t1.fst
  have ch : firstLine f = firstLine g := (List.cons.inj c).1
  rw [ch, t2.fst] at f1
  have l := congrArg List.length (List.cons.inj c).2
  rw [List.length_map, List.length_map] at l
  exact ⟨(Option.some.inj f1).symm, l⟩
def rowD (r : Row5) : PyData := .tuple [.str r.m, .str r.p, .str r.mv, .str r.t, .bool r.al]
theorem dp_get {K : PySem.W.Frag} {H : Hp} : ∀ {xs : List V} {ds : List PyData}, xs.length = ds.length → (∀ (i : Nat) (v : V), xs[i]? = some v → ∃ d, ds[i]? = some d ∧ Dp K H v d) → DpAll K H xs ds
  | [], [], _, _ => .nil
  | [], _ :: _, l, _ => nomatch l
  | _ :: _, [], l, _ => nomatch l
  | x :: xs, d :: ds, l, h => by
    obtain ⟨d1, e1, h1⟩ := h 0 x rfl
    cases e1
    exact .cons h1 (dp_get (Nat.succ.inj l) fun i v e => h (i + 1) v e)
theorem dp_rows {K : PySem.W.Frag} {J : Hp} {xs : List V} {rows : List Row5} (h : RowTs J xs rows) : DpAll K J xs (rows.map rowD) :=
  dp_get (by rw [List.length_map]; exact h.1) fun i v e => by
    obtain ⟨p, r, rfl, hr, hp, g⟩ := h.2 i v e
    exact ⟨rowD r, by rw [List.getElem?_map, hr]; rfl, .tup (SqT.of hp) (.cons (.str _) (.cons (.str _) (.cons (.str _) (.cons (.str _) (.cons (.bl _) .nil)))))⟩
theorem picks_ok' : ∀ z ∈ picks, PyData.strOk z = true := by decide +kernel
theorem moves_ok' : ∀ z ∈ moves, PyData.strOk z = true := by decide +kernel
theorem rows_lay : ∀ {rows : List Row5}, (∀ r ∈ rows, Good r) → PyData.canLayAll0 (rows.map rowD) = true ∧ PyData.depthAll (rows.map rowD) ≤ 2
  | [], _ => by simp [PyData.canLayAll0, PyData.depthAll]
  | r :: rows, h => by
    obtain ⟨h1, h2⟩ := rows_lay fun z hz => h z (List.mem_cons_of_mem _ hz)
    have g := h r List.mem_cons_self
    have k : PyData.canLay0 (rowD r) = true := by
      unfold rowD
      simp [PyData.canLay0, PyData.canLayAll0, wd_strOk g.m, wd_strOk g.t, picks_ok' _ g.p, moves_ok' _ g.mv]
    refine ⟨by rw [List.map_cons]; simp only [PyData.canLayAll0, k, h1, Bool.and_true], ?_⟩
    show max (PyData.depth (rowD r)) (PyData.depthAll (rows.map rowD)) ≤ 2
    exact Nat.max_le.mpr ⟨by simp [rowD, PyData.depth, PyData.depthAll], h2⟩
theorem x_first {z : Str} (w : Wd z) (n : z.cps.toList[0]? ≠ some 120) : Wd ("x" ++ cutS z (some 1) none) ∧ ("x" ++ cutS z (some 1) none : Str) ≠ z := by
  have hl : z.cps.toList.length = z.length := Array.length_toList
  have e : (cutS z (some 1) none).cps.toList = z.cps.toList.drop 1 := by
    show ((z.cps.toList.drop (HT.sIx z.length 0 (some 1))).take (HT.sIx z.length z.length none - HT.sIx z.length 0 (some 1))).toArray.toList = _
    rw [HT.sIx_none, show HT.sIx z.length 0 (some 1) = 1 from (HT.sIx_nat z.length 0 1).trans (Nat.min_eq_left w.pos), List.take_of_length_le (by rw [List.length_drop]; omega)]
  have e2 : ("x" ++ cutS z (some 1) none : Str).cps.toList = 120 :: z.cps.toList.drop 1 := by
    rw [tl_app]
    show [120] ++ _ = _
    rw [e]
    rfl
  have l2 : ("x" ++ cutS z (some 1) none : Str).length = z.length := by
    rw [← show ("x" ++ cutS z (some 1) none : Str).cps.toList.length = ("x" ++ cutS z (some 1) none : Str).length from Array.length_toList, e2, List.length_cons, List.length_drop, hl]
    have := w.pos
    omega
  refine ⟨⟨by rw [l2]; exact w.pos, by rw [l2]; exact w.len, fun c hc => ?_, fun q => ?_⟩, fun q => ?_⟩
  · rw [e2] at hc
    rcases List.mem_cons.mp hc with rfl | hc
    · decide
    · exact w.az c (List.mem_of_mem_drop hc)
  · rw [q] at e2
    cases e2
  · rw [q] at e2
    rw [e2] at n
    exact n rfl
theorem wd_late : Wd "late" := wd4 (by decide +kernel)
theorem wd_run : Wd "run" := wd4 (by decide +kernel)
theorem wd_a : Wd "a" := wd4 (by decide +kernel)
theorem wd_y : Wd "y" := wd4 (by decide +kernel)
theorem good_late : Good ⟨"late", "all", "on", "late", false⟩ := ⟨wd_late, by decide +kernel, by decide +kernel, wd_late⟩
structure Blt6 (mg : Str → Option Value) : Prop where
  max : mg "max" = none
  min : mg "min" = none
theorem next_k4 {D : Ends} {σ : L2.St} {H : Hp} (h : D.nx σ H) : tNext D σ H := h
theorem seq_if_k4 {tt : TT} {a1 a2 b : TS} {D : Ends} {σ : L2.St} {H : Hp} (P : L2.St → Hp → Prop) (r : ∀ τ L, P τ L → b D τ L) (m : (∀ τ L, P τ L → b D τ L) → tSeq (tIfS tt a1 a2) b D σ H) : tSeq (tIfS tt a1 a2) b D σ H := m r
/-- where a turn of the law stands -/
structure At (TL : L3.TabL) (H : Hp) (b : Addr) (J : Hp) : Prop where
  same : L3.SameN TL H J
  box : Box J b
theorem At.moreN {TL : L3.TabL} {H J L : Hp} {b : Addr} (h : At TL H b J) (s : L3.SameN TL J L) : At TL H b L :=
  ⟨h.same.trans s, by obtain ⟨x, y, e⟩ := h.box; exact ⟨x, y, s _ _ e⟩⟩
theorem At.more {TL : L3.TabL} {H J L : Hp} {b : Addr} (h : At TL H b J) (s : Same J L) : At TL H b L := h.moreN (L3.toN h.same.tabs s)
theorem At.kb {TL : L3.TabL} {H J L : Hp} {b : Addr} (h : At TL H b J) (hb : H b = none) (k : Kb b J L) (bx : Box L b) : At TL H b L := ⟨SameN.kb h.same hb h.box k bx, bx⟩
/-- a rule with its parts -/
structure RF (K : PySem.W.Frag) (C CR : Addr) (J : Hp) (ru : Addr) (first : Str) (rows : List Row5) (dx tp tm : Addr) (xsr : List V) (zs : List Str) : Prop where
  A : RuleAt K C CR J ru first rows
  e1 : J ru = some (.ins CR dx (ruleFs (.str first) (.ref tp) (.ref tm)))
  e2 : SqT K J tp xsr
  e3 : RowsIn C J xsr rows
  e4 : J tm = some (.tup (zs.map V.str))
theorem RF.keep {K : PySem.W.Frag} {C CR : Addr} {J L : Hp} {ru : Addr} {first : Str} {rows : List Row5} {dx tp tm : Addr} {xsr : List V} {zs : List Str} (k : Keep J L) (h : RF K C CR J ru first rows dx tp tm xsr zs) : RF K C CR L ru first rows dx tp tm xsr zs :=
  ⟨h.A.keep k, k _ _ (fun _ q => nomatch q) h.e1, SqT.keep k h.e2, h.e3.keep k, k _ _ (fun _ q => nomatch q) h.e4⟩
theorem RF.mono {K : PySem.W.Frag} {C CR : Addr} {J L : Hp} {ru : Addr} {first : Str} {rows : List Row5} {dx tp tm : Addr} {xsr : List V} {zs : List Str} (s : Same J L) (h : RF K C CR J ru first rows dx tp tm xsr zs) : RF K C CR L ru first rows dx tp tm xsr zs := h.keep (Keep.of s)
/-- the drawn rule's data -/
structure DF (J : Hp) (t : Addr) (xs : List V) (rows : List Row5) : Prop where
  t : J t = some (.tup xs)
  r : RowTs J xs rows
theorem DF.keep {J L : Hp} {t : Addr} {xs : List V} {rows : List Row5} (k : Keep J L) (h : DF J t xs rows) : DF L t xs rows := ⟨k _ _ (fun _ q => nomatch q) h.t, h.r.keep k⟩
theorem DF.mono {J L : Hp} {t : Addr} {xs : List V} {rows : List Row5} (s : Same J L) (h : DF J t xs rows) : DF L t xs rows := h.keep (Keep.of s)
abbrev nLaw : List Str := ["_law_script", "_law_k", "_law_box", "_law_first", "_law_rows", "_law_handed", "_law_rule_here", "_law_text", "_law_modes", "_law_at", "_law_row", "_law_name", "_law_form"]
def spLaw (K : PySem.W.Frag) (TL : L3.TabL) : Sp := fun vs H Q _ => ∃ (a : Addr) (ns : List Int), vs = [.ref a] ∧ SqL K H a (ns.map V.int) ∧ ns.length ≤ 63 ∧ LamX.Tabs TL H ∧ ∀ J, Q (.bl true) J
section
variable {P : Program} {w : World} {K : PySem.W.Frag} {mg : Str → Option Value} {base : Heap}
theorem scLaw : FnScope nLaw ["_law_script"] (defScope sLaw) := ⟨rfl, rfl, rfl, by decide +kernel, rfl, by decide +kernel, by decide +kernel⟩
/-- what the law leans on -/
structure LawG (P : Program) (w : World) (K : PySem.W.Frag) (mg : Str → Option Value) (base : Heap) (C CR CE C2 CN eU : Addr) : Prop where
  se : ∃ (f : Addr) (fd : FuncData), FnOk P w K mg base CX0 1 f fd ["_law_script", "_law_k"] (spSeed K) ∧ Binds K fd ["_law_script", "_law_k"] [] ∧ PySem.W.keepIn K (.ref f) = true ∧ mg "_law_seed" = some (.ref f)
  ch : ∃ (f : Addr) (fd : FuncData), FnOk P w K mg base CX0 1 f fd ["_law_box", "_law_many"] spChoose ∧ Binds K fd ["_law_box", "_law_many"] [] ∧ PySem.W.keepIn K (.ref f) = true ∧ mg "_law_choose" = some (.ref f)
  lr : ∃ (f : Addr) (fd : FuncData), FnOk P w K mg base CX0 4 f fd ["_law_box", "_law_most"] spLRule ∧ Binds K fd ["_law_box", "_law_most"] [] ∧ PySem.W.keepIn K (.ref f) = true ∧ mg "_law_rule" = some (.ref f)
  rx : ∃ (f : Addr) (fd : FuncData), FnOk P w K mg base CX0 2 f fd ["_law_rule_here"] spRText ∧ Binds K fd ["_law_rule_here"] [] ∧ PySem.W.keepIn K (.ref f) = true ∧ mg "_law_rule_text" = some (.ref f)
  rw : ∃ (f : Addr) (fd : FuncData), FnOk P w K mg base CX0 1 f fd ["_law_row"] (spText K) ∧ Binds K fd ["_law_row"] [] ∧ PySem.W.keepIn K (.ref f) = true ∧ mg "_law_row_text" = some (.ref f)
  md : ∃ (f : Addr) (fd : FuncData), FnOk P w K mg base CX0 5 f fd ["_law_rows"] (spMade C) ∧ Binds K fd ["_law_rows"] [] ∧ PySem.W.keepIn K (.ref f) = true ∧ mg "_law_made" = some (.ref f)
  mi : ∃ (f : Addr) (fd : FuncData), FnOk P w K mg base CX0 6 f fd ["_law_rule_here", "_law_at", "_law_is_without"] (spMissed K C CR) ∧ Binds K fd ["_law_rule_here", "_law_at", "_law_is_without"] [] ∧ PySem.W.keepIn K (.ref f) = true ∧ mg "_law_missed" = some (.ref f)
  zs : ∃ (f : Addr) (fd : FuncData), FnOk P w K mg base CX0 1 f fd ["self"] (spStr C) ∧ Binds K fd ["self"] [] ∧ PySem.W.findIn K (.ref C) "__str__" = some (some (.ref f)) ∧ PySem.W.isFn K (.ref f) = true
  str : ∃ (f : Addr) (fd : FuncData), FnOk P w K mg base CX0 4 f fd ["self"] (spRStr K C CR) ∧ Binds K fd ["self"] [] ∧ PySem.W.findIn K (.ref CR) "__str__" = some (some (.ref f)) ∧ PySem.W.isFn K (.ref f) = true
  len : ∃ (f : Addr) (fd : FuncData), FnOk P w K mg base CX0 1 f fd ["self"] (spRLen K C CR) ∧ Binds K fd ["self"] [] ∧ PySem.W.findIn K (.ref CR) "__len__" = some (some (.ref f)) ∧ PySem.W.isFn K (.ref f) = true
  eqq : ∃ (f : Addr) (fd : FuncData), FnOk P w K mg base CX0 7 f fd ["self", "other"] (spREq K C CR) ∧ FnOk P w K mg base CX0 7 f fd ["self", "other"] (spREqO K C CR) ∧ Binds K fd ["self", "other"] [] ∧ PySem.W.findIn K (.ref CR) "__eq__" = some (some (.ref f)) ∧ PySem.W.isFn K (.ref f) = true ∧
    PySem.W.findIn K (.ref CR) "__ne__" = some (some (.builtin "object.__ne__")) ∧ PySem.W.mroIn K CR (.type "object") = some true
  it : ∃ (f : Addr) (fd : FuncData), FnOk P w K mg base (L2.CX P w) 3 f fd ["self", "at"] (spRItemX K C CR CN) ∧ Binds K fd ["self", "at"] [] ∧ PySem.W.findIn K (.ref CR) "__getitem__" = some (some (.ref f)) ∧ PySem.W.isFn K (.ref f) = true ∧ PySem.W.fnIn K f = true
  wo : ∃ (f : Addr) (fd : FuncData), Meth K CR "without" f ∧ FnOk P w K mg base (L2.CX P w) 5 f fd ["self", "at"] (spRWithoutX K C CR CN) ∧ Binds K fd ["self", "at"] []
  rule : ∃ (f : Addr) (fd : FuncData) (d2 : List Value), Mk K CR f ∧ FnOk P w K mg base (L2.CX P w) 3 f fd ["self", "first", "rows"] (spRuleI K C CR C2) ∧ Binds K fd ["self", "first", "rows"] [] ∧ Vals [V.ref eU] d2 ∧ Binds K fd ["self", "first", "rows"] d2
  row : ∃ (f : Addr) (fd : FuncData) (d5 : List Value), Mk K C f ∧ FnOk P w K mg base (L2.CX P w) 3 f fd ["self", "mode", "pick", "move", "then", "also"] (spRow K C CE) ∧ Vals [V.bl false] d5 ∧ Binds K fd ["self", "mode", "pick", "move", "then", "also"] d5
  emp : ∀ H : Hp, SqT K H eU []
  ns : NoSub K CR
  kS : PySem.W.kitOne K (.type "str") (.ref CR) = some false
  kT : PySem.W.kitOne K (.type "tuple") (.ref CR) = some false
  kN : PySem.W.kitOne K (.type "NoneType") (.ref CR) = some false
  cl : Cls K CR
  n0 : NoAttr K CR "first"
  n1 : NoAttr K CR "rows"
  n2 : NoAttr K CR "modes"
  rc : RowC K mg C
  mCR : mg "Rule" = some (.ref CR)
  mCr : mg "Row" = some (.ref C)
theorem ok_law {TL : L3.TabL} {C CR CE C2 CN eU f : Addr} {fd : FuncData} (F : Fun K "law" "law" sLaw f fd) (T : Blt mg) (U : Blt2 mg) (Z4 : Blt4 mg) (Z : Blt6 mg) (G : LawG P w K mg base C CR CE C2 CN eU) : FnOk P w K mg base CX0 10 f fd ["_law_script"] (spLaw K TL) := by
  obtain ⟨fS, dS, GS, bS, kS, mS⟩ := G.se
  obtain ⟨fC, dC, GC, bC, kC, mCh⟩ := G.ch
  obtain ⟨fL, dL, GL, bL, kL, mL⟩ := G.lr
  obtain ⟨fX, dX, GX, bX, kX, mX⟩ := G.rx
  obtain ⟨fW1, dW1, GW1, bW1, kW1, mW1⟩ := G.rw
  obtain ⟨fM, dM, GM, bM, kM, mM⟩ := G.md
  obtain ⟨fMi, dMi, GMi, bMi, kMi, mMi⟩ := G.mi
  obtain ⟨fZ, dZ, GZ, bZ, iZ, fnZ⟩ := G.zs
  obtain ⟨fT, dT, GT, bT, iT, fnT⟩ := G.str
  obtain ⟨fN, dN, GN, bN, iN, fnN⟩ := G.len
  obtain ⟨fQ, dQ, GQ, GQO, bQ, iQ, fnQ, nQ, hmQ⟩ := G.eqq
  obtain ⟨fI, dI, GI, bI, sI, iI, fiI⟩ := G.it
  obtain ⟨fW, dW, meW, GW, bW⟩ := G.wo
  obtain ⟨fU, dU, d2, MU, GU, b3, v2, b2⟩ := G.rule
  obtain ⟨fR, dR, d5, MR, GR, v5, b5⟩ := G.row
  have NS := G.ns
  have clR := G.cl
  refine F.ok scLaw (fun vs H Q E h => ?_) (fun cdv A outer s H vs Q E hr h => ?_)
  · obtain ⟨a, ns, rfl, _⟩ := h
    rfl
  obtain ⟨a, ns, rfl, hS, hz, hT, q⟩ := h
  have hr1 : Room 1 _ := hr.mono (by decide)
  have hr2 : Room 2 _ := hr.mono (by decide)
  have hr3 : Room 3 _ := hr.mono (by decide)
  have hr4 : Room 4 _ := hr.mono (by decide)
  have hr5 : Room 5 _ := hr.mono (by decide)
  have hr6 : Room 6 _ := hr.mono (by decide)
  have hr7 : Room 7 _ := hr.mono (by decide)
  have hr8 : Room 8 _ := hr.mono (by decide)
  refine ⟨_, ((pss_cons (ps_for PassesOwn.never rfl (pi_range1 (by rfl) T.range (pa_cons (pe_callB (call_max2 rfl) (by rfl) Z.max (by decide +kernel) (pa_cons pe_int (pa_cons (pe_callB (call_min2 rfl) (by rfl) Z.min (by decide +kernel) (pa_cons pe_int (pa_cons (pe_callB call_len_seq (by rfl) T.len PySem.boot_len (pa_cons (pv 0) pa_nil)) pa_nil))) pa_nil))) pa_nil)) (pg_name (i := 1) scLaw.nd rfl (Or.inl rfl))
    (pss_cons (ps_set (i := 2) scLaw.nd rfl (Or.inl rfl) (pe_call GS hr1 (by rfl) mS kS bS .nil pass0 (pa_cons (pv 0) (pa_cons (pv 1) pa_nil))))
      (pss_cons (ps_asg (pe_call GL hr4 (by rfl) mL kL bL .nil pass0 (pa_cons (pv 2) (pa_cons pe_int pa_nil))) (pg_tup rfl (pgs_cons (pg_name (i := 3) scLaw.nd rfl (Or.inl rfl)) (pgs_cons (pg_name (i := 4) scLaw.nd rfl (Or.inl rfl)) pgs_nil))))
      (pss_cons (ps_set (i := 5) scLaw.nd rfl (Or.inl rfl) (pe_call GM hr5 (by rfl) mM kM bM .nil pass0 (pa_cons (pv 4) pa_nil)))
      (pss_cons (ps_set (i := 6) scLaw.nd rfl (Or.inr rfl) (pe_make MU GU hr4 (by rfl) G.mCR b3 .nil passR (pa_cons (pv 3) (pa_cons (pe_ifExp (pt_cmpR op_eq (pe_call GC hr1 (by rfl) mCh kC bC .nil pass0 (pa_cons (pv 2) (pa_cons pe_int pa_nil))) pe_int (nomark _)) (pv 5) (pe_callTy (r := rTupOf K) call_tuple_of (by rfl) T.tuple bt_tuple (pa_cons (pv 5) pa_nil))) pa_nil))))
      (pss_cons (ps_expr (pe_bm PySem.F.plainAttrs_list PySem.F.slot_list_append PySem.F.type_list_append mt_append (pv 5) (pa_cons (pe_make MR GR hr4 (by rfl) G.mCr b5 v5 passR (pa_cons pe_str (pa_cons pe_str (pa_cons pe_str (pa_cons pe_str pa_nil))))) pa_nil)))
      (pss_cons (ps_set (i := 7) scLaw.nd rfl (Or.inl rfl) (pe_call GX hr2 (by rfl) mX kX bX .nil pass0 (pa_cons (pe_tup (pa_cons (pv 3) (pa_cons (pv 4) pa_nil))) pa_nil)))
      (pss_cons (ps_set (i := 8) scLaw.nd rfl (Or.inl rfl) (pe_callB (cr_sortedT rfl) (by rfl) Z4.sorted (by decide +kernel) (pa_cons (pe_callTy (cr_setT rfl) (by rfl) Z4.set (by decide +kernel) (pa_cons (pe_lc (own := [("_law_name", 11)]) (g := gName 11) (tt := tYes) (by rfl) scLaw.nd (pi_list (pe_op op_cat (pe_op op_cat (pe_lst (pa_cons (pv 3) pa_nil)) (pe_lc (own := [("_law_row", 10)]) (g := gName 10) (tt := tYes) (by rfl) scLaw.nd (pi_tup (pv 4)) (blkOk_by (N := nLaw) (sc := defScope sLaw) (own := [("_law_row", 10)]) (by decide +kernel)) (fun _ _ _ _ _ => pg_name (i := 10) scLaw.nd rfl (Or.inl rfl)) (fun _ _ _ _ _ => pts_nil) (fun _ _ _ _ _ => (pe_ix (r := rIxT K) ix_tup (pv 10) pe_int (fun _ _ => rfl))))) (pe_lc (own := [("_law_row", 10)]) (g := gName 10) (tt := tYes) (by rfl) scLaw.nd (pi_tup (pv 4)) (blkOk_by (N := nLaw) (sc := defScope sLaw) (own := [("_law_row", 10)]) (by decide +kernel)) (fun _ _ _ _ _ => pg_name (i := 10) scLaw.nd rfl (Or.inl rfl)) (fun _ _ _ _ _ => pts_nil) (fun _ _ _ _ _ => (pe_ix (r := rIxT K) ix_tup (pv 10) pe_int (fun _ _ => rfl)))))) (blkOk_by (N := nLaw) (sc := defScope sLaw) (own := [("_law_name", 11)]) (by decide +kernel)) (fun _ _ _ _ _ => pg_name (i := 11) scLaw.nd rfl (Or.inl rfl)) (fun _ _ _ _ _ => pts_nil) (fun _ _ _ _ _ => (pe_callTy SkE.call_str_str (by rfl) U.str boot_strR (pa_cons (pv 11) pa_nil)))) pa_nil)) pa_nil)))
      (pss_cons (ps_if (PW.pt (pw_or (pt_cmpR op_ne (pe_callTy (r := rStrOwn CR (spRStr K C CR) E0) (call_strOwn GT hr6 iT fnT bT pass0) (by rfl) U.str boot_strR (pa_cons (pv 6) pa_nil)) (pv 7) (nomark _)) (pw_or (pt_cmpR op_ne (pe_fld (pv 6) rfl) (pv 3) (nomark _)) (pw_or1 (pt_cmpR (op_neD hr.units) (pe_fld (pv 6) rfl) (pe_callTy (r := rTupOf K) call_tuple_of (by rfl) T.tuple bt_tuple (pa_cons (pv 8) pa_nil)) (nomark _)))))) (pss_one (ps_ret pe_bl)) pss_nil)
      (pss_cons (ps_if (pt_cmpR op_ne (pe_callB (r := rLenOwn CR (spRLen K C CR) E0) (call_lenOwn GN hr2 iN fnN bN pass0) (by rfl) T.len PySem.boot_len (pa_cons (pv 6) pa_nil)) (pe_callB call_len_seq (by rfl) T.len PySem.boot_len (pa_cons (pv 4) pa_nil)) (nomark _)) (pss_one (ps_ret pe_bl)) pss_nil)
      (pss_cons (ps_if (PW.pt (pw_or (pt_not (pt_val (pe_callB call_isi (by rfl) U.isin boot_isin (pa_cons (pe_fld (pv 6) rfl) (pa_cons (pe_bltn (v := .ty "tuple") (by rfl) T.tuple bt_tuple rfl) pa_nil))))) (pw_or1 (pt_cmpR (op_neD hr.units) (pe_lc (own := [("_law_row", 10)]) (g := gName 10) (tt := tYes) (by rfl) scLaw.nd (pi_tup (pe_fld (pv 6) rfl)) (blkOk_by (N := nLaw) (sc := defScope sLaw) (own := [("_law_row", 10)]) (by decide +kernel)) (fun _ _ _ _ _ => pg_name (i := 10) scLaw.nd rfl (Or.inl rfl)) (fun _ _ _ _ _ => pts_nil) (fun _ _ _ _ _ => (pe_callTy (r := rStrOwn C (spStr C) E0) (call_strOwn GZ hr3 iZ fnZ bZ pass0) (by rfl) U.str boot_strR (pa_cons (pv 10) pa_nil)))) (pe_slice sl_list (pe_split (pv 7) pe_str) (po_some pe_int) po_none) (nomark _))))) (pss_one (ps_ret pe_bl)) pss_nil)
      (pss_cons (ps_for PassesOwn.never rfl (pi_enumT (by rfl) Z4.enumerate (pa_cons (pv 4) pa_nil)) (pg_tup rfl (pgs_cons (pg_name (i := 9) scLaw.nd rfl (Or.inr rfl)) (pgs_cons (pg_name (i := 10) scLaw.nd rfl (Or.inl rfl)) pgs_nil)))
      (pss_cons (ps_if (pt_cmpR op_ne (pe_callTy (r := rStrOwn C (spStr C) E0) (call_strOwn GZ hr3 iZ fnZ bZ pass0) (by rfl) U.str boot_strR (pa_cons (pe_ixOwn (sp := spRItemX K C CR CN) (E := E0) (pv 6) (pv 9) GI hr4 sI iI fiI bI passR) pa_nil)) (pe_call GW1 hr1 (by rfl) mW1 kW1 bW1 .nil pass0 (pa_cons (pv 10) pa_nil)) (nomark _)) (pss_one (ps_ret pe_bl)) pss_nil)
        (pss_one (ps_if (pt_cmpR op_ne (pe_callTy (r := rStrOwn CR (spRStr K C CR) E0) (call_strOwn GT hr6 iT fnT bT pass0) (by rfl) U.str boot_strR (pa_cons (pe_meth (pv 6) clR meW GW hr5 bW .nil passR (pa_cons (pv 9) pa_nil)) pa_nil)) (pe_call GX hr2 (by rfl) mX kX bX .nil pass0 (pa_cons (pe_tup (pa_cons (pv 3) (pa_cons (pe_op (r := rCatA K) op_catA (pe_slice (r := rSlA K) sl_tupA (pv 4) po_none (po_some (pv 9))) (pe_slice (r := rSlA K) sl_tupA (pv 4) (po_some (pe_op op_add (pv 9) pe_int)) po_none)) pa_nil))) pa_nil)) (nomark _)) (pss_one (ps_ret pe_bl)) pss_nil))))
      (pss_cons (ps_for PassesOwn.never rfl (pi_tup (pe_tup (pa_cons (pe_callB call_len_seq (by rfl) T.len PySem.boot_len (pa_cons (pv 4) pa_nil)) (pa_cons (pe_un un_neg pe_int) (pa_cons (pe_op op_add (pe_callB call_len_seq (by rfl) T.len PySem.boot_len (pa_cons (pv 4) pa_nil)) (pe_call GC hr1 (by rfl) mCh kC bC .nil pass0 (pa_cons (pv 2) (pa_cons (pe_op op_pow pe_int pe_int) pa_nil)))) (pa_cons (pe_op op_sub (pe_op op_sub pe_int (pe_callB call_len_seq (by rfl) T.len PySem.boot_len (pa_cons (pv 4) pa_nil))) pe_int) pa_nil)))))) (pg_name (i := 9) scLaw.nd rfl (Or.inr rfl))
      (pss_one (ps_if (pt_cmpR (op_neD hr.units) (pe_lc (own := [("_law_form", 12)]) (g := gName 12) (tt := tYes) (by rfl) scLaw.nd (pi_tup (pe_tup (pa_cons pe_bl (pa_cons pe_bl pa_nil)))) (blkOk_by (N := nLaw) (sc := defScope sLaw) (own := [("_law_form", 12)]) (by decide +kernel)) (fun _ _ _ _ _ => pg_name (i := 12) scLaw.nd rfl (Or.inl rfl)) (fun _ _ _ _ _ => pts_nil) (fun _ _ _ _ _ => (pe_call GMi hr6 (by rfl) mMi kMi bMi .nil pass0 (pa_cons (pv 6) (pa_cons (pv 9) (pa_cons (pv 12) pa_nil)))))) (pe_op op_rep (pe_lst (pa_cons (pe_tup (pa_cons (pv 9) (pa_cons pe_bl pa_nil))) pa_nil)) pe_int) (nomark _)) (pss_one (ps_ret pe_bl)) pss_nil)))
      (pss_cons (ps_if (PW.pt (pw_or (pt_cmpR (op_neOwn GQ hr8 iQ fnQ nQ hmQ bQ pass0) (pv 6) (pe_make MU GU hr4 (by rfl) G.mCR b3 .nil passR (pa_cons (pv 3) (pa_cons (pe_call GM hr5 (by rfl) mM kM bM .nil pass0 (pa_cons (pv 4) pa_nil)) pa_nil))) (nomark _)) (pw_or1 (pt_cmpR (op_inOwn GQO hr8 iQ fnQ NS bQ pass0) (pv 6) (pe_tup (pa_cons (pv 7) (pa_cons (pe_fld (pv 6) rfl) (pa_cons pe_non pa_nil)))) (by rfl))))) (pss_one (ps_ret pe_bl)) pss_nil)
      (pss_cons (ps_if (PW.pt (pw_and (pt_cmpR (op_neD hr.units) (pv 4) (pe_tup pa_nil) (nomark _)) (pw_and1 (PW.pt (pw_or (pt_cmpR (op_eqOwn GQ hr7 iQ fnQ bQ pass0) (pv 6) (pe_meth (pv 6) clR meW GW hr5 bW .nil passR (pa_cons pe_int pa_nil)) (nomark _)) (pw_or1 (pt_cmpR op_ne (pe_callTy (r := rStrOwn CR (spRStr K C CR) E0) (call_strOwn GT hr6 iT fnT bT pass0) (by rfl) U.str boot_strR (pa_cons (pv 6) pa_nil)) (pv 7) (nomark _)))))))) (pss_one (ps_ret pe_bl)) pss_nil)
      (pss_one (ps_if (PW.pt (pw_and (pt_cmpR op_lt (pe_callB call_len_seq (by rfl) T.len PySem.boot_len (pa_cons (pv 8) pa_nil)) pe_int (nomark _)) (pw_and1 (pt_cmpR (op_eqOwn GQ hr7 iQ fnQ bQ pass0) (pv 6) (pe_make MU GU hr4 (by rfl) G.mCR b3 .nil passR (pa_cons (pe_ifExp (pt_cmpR op_ne (pe_ix ix_str (pv 3) pe_int (fun _ _ => rfl)) pe_str (nomark _)) (pe_op op_add_str pe_str (pe_slice sl_str (pv 3) (po_some pe_int) po_none)) pe_str) (pa_cons (pe_fld (pv 6) rfl) pa_nil))) (nomark _))))) (pss_one (ps_ret pe_bl)) pss_nil)))))))))))))))))
    (pss_one (ps_ret (pe_and (pe_cmpR op_eq (pe_callTy (r := rStrOwn CR (spRStr K C CR) E0) (call_strOwn GT hr6 iT fnT bT pass0) (by rfl) U.str boot_strR (pa_cons (pe_make MU GU hr4 (by rfl) G.mCR b2 v2 passR (pa_cons pe_str pa_nil)) pa_nil)) pe_str (nomark _)) (pe_and (pe_cmpR (op_eqD hr.units) (pe_fld (pe_make MU GU hr4 (by rfl) G.mCR b2 v2 passR (pa_cons pe_str pa_nil)) rfl) (pe_tup (pa_cons pe_str pa_nil)) (nomark _)) (pe_one (pe_cmpR op_eq (pe_callB (r := rLenOwn CR (spRLen K C CR) E0) (call_lenOwn GN hr2 iN fnN bN pass0) (by rfl) T.len PySem.boot_len (pa_cons (pe_make MU GU hr4 (by rfl) G.mCR b3 .nil passR (pa_cons pe_str (pa_cons (pe_lst pa_nil) pa_nil))) pa_nil)) pe_int (nomark _))))))))), ?_⟩
  refine ⟨_, rfl, a, _, rfl, .inl hS, _, _, rfl, _, _, rfl, ?_⟩
  have hl : (ns.map V.int).length = ns.length := List.length_map _
  obtain ⟨j, hj⟩ : ∃ j : Int, j = (if (if (((ns.map V.int).length : Nat) : Int) < 4 then (((ns.map V.int).length : Nat) : Int) else 4) > 2 then (if (((ns.map V.int).length : Nat) : Int) < 4 then (((ns.map V.int).length : Nat) : Int) else 4) else 2) := ⟨_, rfl⟩
  have bj : 0 ≤ j ∧ j ≤ 4 := by
    rw [hj]
    split <;> split <;> omega
  refine ⟨j, by rw [hj], by omega, by omega, for_range (lo := 0) (n := j.toNat) (fun _ σ J => ∃ v1 v2 v3 v4 v5 v6 v7 v8 v9 va vb vc, σ = [some (.ref a), v1, v2, v3, v4, v5, v6, v7, v8, v9, va, vb, vc] ∧ L3.SameN TL H J) ⟨_, _, _, _, _, _, _, _, _, _, _, _, rfl, L3.SameN.refl hT⟩ ?_ ?_⟩
  · rintro i0 σ J hi ⟨v1, v2', v3, v4, v5, v6, v7, v8, v9, va, vb, vc, rfl, s⟩
    refine ⟨_, rfl, _, rfl, a, ns, 0 + (i0 : Int), rfl, s.seq hS, by omega, by omega, fun b x y nb => ?_⟩
    have hb : H b = none := s.free nb
    have at0 : At TL H b (upd J b (.lst [.int x, .int y])) := ⟨s.on (new_same nb _), x, y, upd_same⟩
    generalize upd J b (.lst [.int x, .int y]) = J1 at at0 ⊢
    refine ⟨_, rfl, b, 12, rfl, at0.box, by decide, fun p t first xs rows J2 wd few rt np hp ht k2 bx2 => ?_⟩
    have at2 := at0.kb hb k2 bx2
    have D2 : DF J2 t xs rows := ⟨ht, rt⟩
    have hgood := rt.good
    have lxs : xs.length = rows.length := rt.1
    clear rt ht k2
    refine ⟨p, _, rfl, SqT.of hp, rfl, _, _, rfl, _, _, rfl, rfl, ?_⟩
    refine ⟨_, rfl, t, xs, rows, rfl, D2.t, D2.r, by omega, fun hd ys J3 s3 nhd hhd rin => ?_⟩
    have hdH : H hd = none := at2.same.free nhd
    have hdb : hd ≠ b := fun e => by
      obtain ⟨x1, y1, e1⟩ := at2.box
      rw [e, e1] at nhd
      cases nhd
    have at3 := at2.more s3
    have D3 := D2.mono s3
    clear s3 nhd at2 D2 at0 bx2 hp
    refine ⟨_, rfl, _, rfl, b, 2, rfl, at3.box, by decide, by decide, fun d0 x3 y3 dl dh => ?_⟩
    have k4 : Kb b J3 (upd J3 b (.lst [.int x3, .int y3])) := Kb.box
    have at4 := at3.kb hb k4 ⟨x3, y3, upd_same⟩
    have D4 := D3.keep (k4.keep at3.box)
    have rin4 := rin.keep (k4.keep at3.box)
    have hhd4 := k4 _ _ hdb hhd
    generalize upd J3 b (.lst [.int x3, .int y3]) = J4 at at4 D4 rin4 hhd4 ⊢
    clear k4 at3 D3 rin hhd
    refine ⟨rfl, _, rfl, ?_⟩
    refine if_to (fun v J => ∃ sq, v = .ref sq ∧ Same J4 J ∧ Sq K J sq ys) (fun _ K' k => ⟨_, rfl, k _ _ ⟨hd, rfl, Same.refl _, .inl (SqL.of hhd4)⟩⟩) (fun _ K' k => ⟨_, rfl, hd, ys, rfl, .inl ⟨SqL.of hhd4, fun l nl => k _ _ ⟨l, rfl, new_same nl _, .inr (SqT.of upd_same)⟩⟩⟩) ?_
    rintro v J5 ⟨sq, rfl, s5, hsq⟩
    intro ru dx nru ndx _
    refine rule_made (p := sq) (xs := ys) (rows := rows) rfl G.rc wd hsq (rin4.mono s5) (by omega) nru ndx fun J6 s6 A6 => ⟨rfl, ?_⟩
    have at6 := at4.more (s5.trans s6)
    have D6 := D4.mono (s5.trans s6)
    have hhd6 := s6 _ _ (s5 _ _ hhd4)
    clear at4 D4 hhd4 s5 s6 hsq
    refine ⟨_, rfl, .inl ⟨rfl, _, SqL.of hhd6⟩, ?_⟩
    intro xr dxr nxr ndxr _
    refine row_made (r := ⟨"late", "all", "on", "late", false⟩) rfl good_late nxr ndxr fun J7 s7 hx7 => ⟨rfl, hd, _, _, rfl, rfl, s7 _ _ hhd6, small1000 (by rw [rin4.1]; omega), ?_⟩
    have hhd7 := s7 _ _ hhd6
    have at7 := at6.more s7
    have kp : Keep J7 (upd J7 hd (.lst (ys ++ [V.ref xr]))) := Keep.box hhd7
    have at8 : At TL H b (upd J7 hd (.lst (ys ++ [V.ref xr]))) := ⟨SameN.put at7.same hdH hhd7, by
      obtain ⟨x1, y1, e1⟩ := at7.box
      exact ⟨x1, y1, by rw [upd_ne (Ne.symm hdb)]; exact e1⟩⟩
    have D8 := (D6.mono s7).keep kp
    have A8 := (A6.mono s7).keep kp
    generalize upd J7 hd (.lst (ys ++ [V.ref xr])) = J8 at at8 D8 A8 ⊢
    clear kp at7 hhd7 hx7 s7 at6 D6 A6 hhd6 rin4 hdH hdb
    refine ⟨_, rfl, _, rfl, (by show 2 ≤ sizeLine; decide), fun tp ntp => ?_⟩
    have s9 := new_same ntp (.tup [.str first, .ref t])
    have h9 : upd J8 tp (.tup [.str first, .ref t]) tp = some (.tup [.str first, .ref t]) := upd_same
    generalize upd J8 tp (.tup [.str first, .ref t]) = J9 at s9 h9 ⊢
    have D9 := D8.mono s9
    refine ⟨tp, first, rows, rfl, ⟨t, xs, h9, D9.t, D9.r⟩, wd, by omega, fun JA sA => ?_⟩
    have atA := at8.more (s9.trans sA)
    have DA := D9.mono sA
    have AA := A8.mono (s9.trans sA)
    clear at8 D8 A8 s9 h9 D9 sA ntp
    -- the modes
    simp only [List.set_cons_succ, List.set_cons_zero]
    refine ⟨_, rfl, (by show 1 ≤ sizeLine; decide), fun l1 n1 => ?_⟩
    have s1 := new_same n1 (.lst [V.str first])
    have h1 : upd JA l1 (.lst [V.str first]) l1 = some (.lst [V.str first]) := upd_same
    generalize upd JA l1 (.lst [V.str first]) = JB at s1 h1 ⊢
    refine ⟨_, rfl, t, rfl, ⟨xs, SqT.of (s1 _ _ DA.t)⟩, fun l2 n2 => lc_tup (K := K) (a := t) (xs := xs) (fun i M => Same JB M ∧ M l2 = some (.lst (((rows.map fun r => r.m).take i).map V.str))) ⟨new_same n2 _, upd_same⟩ (fun i M _ z => SqT.of (z.1 _ _ (s1 _ _ DA.t))) (fun i v M hv z => ?_) (fun M z => ?_)⟩
    · obtain ⟨rw, r, rfl, hri, hrw, gr⟩ := DA.r.2 i v hv
      have hi := (List.getElem?_eq_some_iff.mp hri).1
      refine ⟨rfl, _, rfl, rw, _, _, .str r.m, rfl, rfl, SqT.of (z.1 _ _ (s1 _ _ hrw)), rfl, _, z.2, small1000 (by rw [List.length_map, List.length_take]; omega), fun c o h => ?_, ?_⟩
      · rw [upd_ne (fun q => by rw [q, n2] at h; cases h)]
        exact z.1 c o h
      · rw [upd_same, take_snoc (l := rows.map fun r => r.m) (x := r.m) (by rw [List.getElem?_map, hri]; rfl), List.map_append]
        rfl
    obtain ⟨sM, e2⟩ := z
    rw [List.take_of_length_le (by rw [List.length_map]; omega)] at e2
    have sAM := s1.trans sM
    refine ⟨l1, l2, _, _, rfl, rfl, sM _ _ h1, e2, Nat.le_of_lt (small1000 (by simp only [List.length_map, List.length_cons, List.length_nil]; omega)), fun l3 n3 => ?_⟩
    have sAM3 := sAM.trans (new_same n3 (.lst ([V.str first] ++ (rows.map fun r => r.m).map V.str)))
    have h3 : upd M l3 (.lst ([V.str first] ++ (rows.map fun r => r.m).map V.str)) l3 = some (.lst ([V.str first] ++ (rows.map fun r => r.m).map V.str)) := upd_same
    generalize upd M l3 (.lst ([V.str first] ++ (rows.map fun r => r.m).map V.str)) = JC at sAM3 h3 ⊢
    clear s1 h1 n1 sM e2 n2 sAM n3
    refine ⟨_, rfl, t, rfl, ⟨xs, SqT.of (sAM3 _ _ DA.t)⟩, fun l4 n4 => lc_tup (K := K) (a := t) (xs := xs) (fun i M => Same JC M ∧ M l4 = some (.lst (((rows.map fun r => r.t).take i).map V.str))) ⟨new_same n4 _, upd_same⟩ (fun i M _ z => SqT.of (z.1 _ _ (sAM3 _ _ DA.t))) (fun i v M hv z => ?_) (fun M z => ?_)⟩
    · obtain ⟨rw, r, rfl, hri, hrw, gr⟩ := DA.r.2 i v hv
      have hi := (List.getElem?_eq_some_iff.mp hri).1
      refine ⟨rfl, _, rfl, rw, _, _, .str r.t, rfl, rfl, SqT.of (z.1 _ _ (sAM3 _ _ hrw)), rfl, _, z.2, small1000 (by rw [List.length_map, List.length_take]; omega), fun c o h => ?_, ?_⟩
      · rw [upd_ne (fun q => by rw [q, n4] at h; cases h)]
        exact z.1 c o h
      · rw [upd_same, take_snoc (l := rows.map fun r => r.t) (x := r.t) (by rw [List.getElem?_map, hri]; rfl), List.map_append]
        rfl
    obtain ⟨sM, e2⟩ := z
    rw [List.take_of_length_le (by rw [List.length_map]; omega)] at e2
    have sA4 := sAM3.trans sM
    refine ⟨l3, l4, _, _, rfl, rfl, sM _ _ h3, e2, Nat.le_of_lt (small1000 (by simp only [List.length_append, List.length_map, List.length_cons, List.length_nil]; omega)), fun l5 n5 => ?_⟩
    obtain ⟨nms, hnms⟩ : ∃ nms : List Str, nms = [first] ++ (rows.map fun r => r.m) ++ (rows.map fun r => r.t) := ⟨_, rfl⟩
    have hcat : ([V.str first] ++ (rows.map fun r => r.m).map V.str) ++ (rows.map fun r => r.t).map V.str = nms.map V.str := by
      rw [hnms, List.map_append, List.map_append]
      rfl
    rw [hcat]
    have lnm : nms.length ≤ 25 := by
      rw [hnms]
      simp only [List.length_append, List.length_map, List.length_cons, List.length_nil]
      omega
    have sA5 := sA4.trans (new_same n5 (.lst (nms.map V.str)))
    have h5 : upd M l5 (.lst (nms.map V.str)) l5 = some (.lst (nms.map V.str)) := upd_same
    generalize upd M l5 (.lst (nms.map V.str)) = JD at sA5 h5 ⊢
    clear sAM3 h3 sM e2 n4 sA4 n5 hcat
    have ln2 : (nms.map V.str).length = nms.length := List.length_map _
    refine ⟨l5, rfl, ⟨_, SqL.of h5⟩, fun l6 n6 => lc_list (K := K) (a := l5) (xs := nms.map V.str) (fun i M => Same JD M ∧ M l6 = some (.lst ((nms.take i).map V.str))) ⟨new_same n6 _, upd_same⟩ (fun i M _ z => SqL.of (z.1 _ _ h5)) (fun i v M hv z => ?_) (fun M z => ?_)⟩
    · rw [List.getElem?_map] at hv
      obtain ⟨nm, hn, rfl⟩ : ∃ nm, nms[i]? = some nm ∧ v = .str nm := by
        cases q : nms[i]? with
        | none =>
          rw [q] at hv
          cases hv
        | some nm =>
          rw [q] at hv
          exact ⟨nm, rfl, (Option.some.inj hv).symm⟩
      have hi := (List.getElem?_eq_some_iff.mp hn).1
      refine ⟨rfl, _, rfl, nm, rfl, _, z.2, small1000 (by rw [List.length_map, List.length_take]; omega), fun c o h => ?_, ?_⟩
      · rw [upd_ne (fun q => by rw [q, n6] at h; cases h)]
        exact z.1 c o h
      · rw [upd_same, take_snoc hn, List.map_append]
        rfl
    obtain ⟨sM, e2⟩ := z
    rw [ln2, List.take_length] at e2
    have sA6 := sA5.trans sM
    have l25 : (onceOf nms).length ≤ 25 := Nat.le_trans (once_len nms) lnm
    refine ⟨l6, nms, rfl, SqL.of e2, by omega, fun q1 nq1 => ?_⟩
    have sA7 := sA6.trans (new_same nq1 (SetT w q1 (onceOf nms)))
    have h7 : upd M q1 (SetT w q1 (onceOf nms)) q1 = some (SetT w q1 (onceOf nms)) := upd_same
    refine ⟨q1, onceOf nms, rfl, h7, by omega, fun zs2 ml pm so nml => ?_⟩
    have sA8 := sA7.trans (new_same nml (.lst (zs2.map V.str)))
    have hml : upd (upd M q1 (SetT w q1 (onceOf nms))) ml (.lst (zs2.map V.str)) ml = some (.lst (zs2.map V.str)) := upd_same
    have hJE : upd (upd M q1 (SetT w q1 (onceOf nms))) ml (.lst (zs2.map V.str)) = upd (upd M q1 (SetT w q1 (onceOf nms))) ml (.lst (zs2.map V.str)) := rfl
    have atE := atA.more sA8
    have DE := DA.mono sA8
    have AE := AA.mono sA8
    clear sA7 h7 sM e2 sA6 sA5 h5 n6 nq1 sA8 atA DA AA nml l25 ln2
    refine name_k ?_
    dsimp only
    simp only [List.set_cons_succ, List.set_cons_zero]
    obtain ⟨dx2, tpR, tmR, xsr, zs, e1, e2, e3, e4, e5⟩ := AE.ex
    obtain rfl : zs = zs2 := names_same e5 (by rw [← hnms]; exact pm) so
    have RE : RF K C CR _ ru first rows dx2 tpR tmR xsr zs := ⟨AE, e1, e2, e3, e4⟩
    have oks := modes_ok e5 wd hgood
    clear AE e1 e2 e3 e4 e5 pm so hnms lnm
    have lkf : (ruleFs (.str first) (.ref tpR) (.ref tmR)).lookup ("first" : Str) = some (.str first) := by kernel_rfl
    have lkr : (ruleFs (.str first) (.ref tpR) (.ref tmR)).lookup ("rows" : Str) = some (.ref tpR) := by kernel_rfl
    have lkm : (ruleFs (.str first) (.ref tpR) (.ref tmR)).lookup ("modes" : Str) = some (.ref tmR) := by kernel_rfl
    have lkw : (ruleFs (.str first) (.ref tpR) (.ref tmR)).lookup ("without" : Str) = none := by kernel_rfl
    have lx : xsr.length = rows.length := RE.e3.1
    have tok := text_ok wd hgood (by omega)
    have shm : SeqAt.shaped (.tuple (zs.map PyData.str)) = true := shaped_tup (words_lay _ oks) (by decide)
    refine ⟨_, rfl, str_at RE.A fun J1 s1 => ⟨_, rfl, rfl, _, rfl, ?_⟩⟩
    rw [decide_eq_true rfl]
    refine iteF ?_
    have R1 := RE.mono s1
    refine ⟨_, rfl, ru, CR, dx2, _, _, rfl, R1.e1, clR, G.n0, lkf, _, rfl, rfl, _, rfl, ?_⟩
    rw [decide_eq_true rfl]
    refine iteF ?_
    refine ⟨_, rfl, ru, CR, dx2, _, _, rfl, R1.e1, clR, G.n2, lkm, _, rfl, ml, _, rfl, .inl ⟨SqL.of (s1 _ _ hml), fun tm2 ntm2 => ?_⟩⟩
    have s2 := new_same ntm2 (.tup (zs.map V.str))
    refine ⟨_, _, .tup (SqT.of (s2 _ _ R1.e4)) (dp_words _), .tup (SqT.of upd_same) (dp_words _), shm, shm, _, rfl, ?_⟩
    rw [shaped_ok shm]
    refine iteF ?_
    have s12 := s1.trans s2
    generalize upd J1 tm2 (.tup (zs.map V.str)) = J2 at s12 ⊢
    have at2 := atE.more s12
    have D2 := DE.mono s12
    have R2 := RE.mono s12
    have hml2 := s12 _ _ hml
    clear s1 s2 s12 R1 RE DE atE hml ntm2 shm oks
    -- how many
    refine ⟨_, rfl, len_at R2.A ⟨_, rfl, t, xs, rfl, .inr (SqT.of D2.t), rfl, _, rfl, ?_⟩⟩
    rw [lxs, decide_eq_true rfl]
    refine iteF ?_
    refine ⟨_, rfl, ru, CR, dx2, _, _, rfl, R2.e1, clR, G.n1, lkr, .ref tpR, .ty "tuple", _, _, true, rfl, .ty "tuple", tyx_seqT R2.e2, kit_tuple_tuple, true, rfl, iteF ?_⟩
    have oks2 : ∀ z ∈ rows.map Row5.text, PyData.strOk z = true := fun z hz => split_strOk nl_ok tok.ok (by rw [tok.cut]; exact List.mem_cons_of_mem _ hz)
    have shr : SeqAt.shaped (.list ((rows.map Row5.text).map PyData.str)) = true := shaped_lst (words_lay _ oks2) (by decide)
    refine ⟨_, rfl, ru, CR, dx2, _, _, rfl, R2.e1, clR, G.n1, lkr, tpR, rfl, ⟨xsr, R2.e2⟩, fun D hD => lc_tup (K := K) (a := tpR) (xs := xsr) (fun i M => Same J2 M ∧ M D = some (.lst (((rows.map Row5.text).take i).map V.str))) ⟨new_same hD _, upd_same⟩ (fun i M _ z => SqT.ext R2.e2 z.1) (fun i v M hv z => ?_) (fun M z => ?_)⟩
    · obtain ⟨bb, r, rfl, hri, ⟨dy, hbb⟩, gr⟩ := R2.e3.2 i v hv
      have hi : i < xsr.length := (List.getElem?_eq_some_iff.mp hv).1
      refine ⟨rfl, _, rfl, bb, dy, _, rfl, z.1 _ _ hbb, bb, r, rfl, gr.rowAt ⟨dy, z.1 _ _ hbb⟩, r.text, rfl, _, z.2, ?_, fun c o h => ?_, ?_⟩
      · rw [List.length_map, List.length_take]
        exact small1000 (by omega)
      · rw [upd_ne (fun q => by rw [q, hD] at h; cases h)]
        exact z.1 c o h
      · rw [upd_same, take_snoc (l := rows.map Row5.text) (x := r.text) (by rw [List.getElem?_map, hri]; rfl), List.map_append]
        rfl
    obtain ⟨sM, eM⟩ := z
    rw [List.take_of_length_le (by rw [List.length_map]; omega)] at eM
    refine ⟨_, rfl, ⟨_, rfl⟩, ruleText first rows, "\n", rfl, rfl, rfl, Nat.le_trans (Nat.add_le_add_right tok.len 2) (by decide), fun wl nwl => ?_⟩
    rw [tok.cut]
    have sN := sM.trans (new_same nwl (.lst ((firstLine first :: rows.map Row5.text).map V.str)))
    have eN := new_same nwl (.lst ((firstLine first :: rows.map Row5.text).map V.str)) _ _ eM
    have hwl : upd M wl (.lst ((firstLine first :: rows.map Row5.text).map V.str)) wl = some (.lst ((firstLine first :: rows.map Row5.text).map V.str)) := upd_same
    generalize upd M wl (.lst ((firstLine first :: rows.map Row5.text).map V.str)) = N at sN eN hwl ⊢
    refine ⟨_, rfl, wl, _, rfl, SqL.of hwl, fun cl ncl => ?_⟩
    have ec : cutV ((firstLine first :: rows.map Row5.text).map V.str) (some 1) none = (rows.map Row5.text).map V.str := cut_drop (l := (firstLine first :: rows.map Row5.text).map V.str) 1
    rw [ec]
    have sP := sN.trans (new_same ncl (.lst ((rows.map Row5.text).map V.str)))
    refine ⟨_, _, .lst (SqL.of (new_same ncl _ _ _ eN)) (dp_words _), .lst (SqL.of upd_same) (dp_words _), shr, shr, _, rfl, ?_⟩
    rw [shaped_ok shr]
    refine iteF ?_
    generalize upd N cl (.lst ((rows.map Row5.text).map V.str)) = J3 at sP ⊢
    have at3 := at2.more sP
    have D3 := D2.mono sP
    have R3 := R2.mono sP
    have hml3 := sP _ _ hml2
    clear ec eN sN hwl nwl sM eM hD ncl sP at2 D2 R2 hml2 shr oks2
    -- row by row
    refine ⟨_, rfl, t, xs, rfl, SqT.of D3.t, for_it (walk_enumT (K := K) (a := t) (xs := xs)) (fun _ σ J => ∃ v9 va vb vc, σ = [some (.ref a), some (.int (0 + (i0 : Int))), some (.ref b), some (.str first), some (.ref t), some (.ref hd), some (.ref ru), some (.str (ruleText first rows)), some (.ref ml), v9, va, vb, vc] ∧ Same J3 J) ⟨_, _, _, _, rfl, Same.refl _⟩ (fun i σ J _ ⟨_, _, _, _, _, z⟩ => SqT.of (z _ _ D3.t)) ?_ ?_⟩
    · rintro i x σ J J' hi ⟨v9, va, vb, vc, rfl, sJ⟩ ⟨W, x1, el, rfl, nW, rfl, ex1, ee⟩
      cases ex1
      have s4 := sJ.trans (new_same nW (.tup [V.int (i : Nat), el]))
      have hW : upd J W (.tup [V.int (i : Nat), el]) W = some (.tup [V.int (i : Nat), el]) := upd_same
      generalize upd J W (.tup [V.int (i : Nat), el]) = J4 at s4 hW ⊢
      have D4 := D3.mono s4
      have R4 := R3.mono s4
      obtain ⟨rw, r, rfl, hri, hrw, gr⟩ := D4.r.2 i el ee
      have hn : i < rows.length := (List.getElem?_eq_some_iff.mp hri).1
      refine ⟨W, _, rfl, SqT.of hW, rfl, _, _, rfl, _, _, rfl, rfl, ?_⟩
      simp only [List.set_cons_succ, List.set_cons_zero]
      refine ⟨_, rfl, _, rfl, ru, dx2, _, rfl, R4.e1, ru, (i : Nat), first, rows, rfl, R4.A, .inl ⟨i, r, rfl, hri, fun bb dy J5 s5 hbb => ?_⟩⟩
      refine ⟨bb, dy, _, rfl, hbb, bb, r, rfl, gr.rowAt ⟨dy, hbb⟩, r.text, rfl, _, rfl, rw, r, rfl, SqT.of (s5 _ _ hrw), gr, fun J6 s6 => ⟨rfl, _, rfl, ?_⟩⟩
      rw [decide_eq_true rfl]
      refine iteF ?_
      have s46 := s5.trans s6
      have D6 := D4.mono s46
      have R6 := R4.mono s46
      have s06 := s4.trans s46
      clear s46 s5 s6 hbb D4 R4 hW s4 hrw
      refine ⟨_, rfl, ru, dx2, _, rfl, R6.e1, lkw, _, rfl, ru, (i : Nat), first, rows, rfl, R6.A, .inl ⟨i, rfl, hn, fun x7 J7 s7 _ A7 => str_at A7 fun J8 s8 => ?_⟩⟩
      have s78 := s7.trans s8
      have D8 := D6.mono s78
      refine ⟨_, rfl, _, rfl, _, rfl, _, rfl, slA_tup D8.t fun p1 J9 s9 h9 => ?_⟩
      rw [cut_take'] at h9
      have D9 := D8.mono s9
      refine ⟨_, rfl, _, rfl, _, _, rfl, rfl, _, rfl, ?_⟩
      dsimp only [tNoPart]
      refine slA_tup D9.t fun p2 JA sA hA => ?_
      have e2 : cutV xs (some ((i : Nat) + 1 : Int)) none = xs.drop (i + 1) := cut_drop (i + 1)
      rw [e2] at hA
      refine cat_any (sA _ _ h9) hA (by rw [List.length_take, List.length_drop]; omega) fun p3 JB sB hB => ?_
      have DB := (D9.mono sA).mono sB
      refine ⟨(by show 2 ≤ sizeLine; decide), fun p4 n4 => ?_⟩
      have sC := new_same n4 (.tup [.str first, .ref p3])
      have DC := DB.mono sC
      refine ⟨p4, first, rows.take i ++ rows.drop (i + 1), rfl, ⟨p3, _, upd_same, sC _ _ hB, DC.r.take.app DC.r.drop⟩, wd, by rw [List.length_append, List.length_take, List.length_drop]; omega, fun JD sD => ⟨rfl, _, rfl, ?_⟩⟩
      rw [decide_eq_true rfl]
      refine iteF ?_
      exact ⟨_, _, _, _, rfl, s06.trans (s78.trans (s9.trans (sA.trans (sB.trans (sC.trans sD)))))⟩
    rintro σ J ⟨v9, va, vb, vc, rfl, sJ⟩
    have at4 := at3.more sJ
    have D4 := D3.mono sJ
    have R4 := R3.mono sJ
    have hml4 := sJ _ _ hml3
    clear sJ at3 D3 R3 hml3
    -- numbers of no row
    refine ⟨_, rfl, t, xs, rfl, .inr (SqT.of D4.t), _, rfl, _, rfl, t, xs, rfl, .inr (SqT.of D4.t), _, rfl, _, _, rfl, rfl, ⟨by decide, by decide, by decide⟩, b, _, rfl, at4.box, by decide, by decide, fun d4 x4 y4 dl4 dh4 => ?_⟩
    have k5 : Kb b J (upd J b (.lst [.int x4, .int y4])) := Kb.box
    have at5 := at4.kb hb k5 ⟨x4, y4, upd_same⟩
    have D5 := D4.keep (k5.keep at4.box)
    have R5 := R4.keep (k5.keep at4.box)
    have hmb : ml ≠ b := fun e => by
      obtain ⟨x1, y1, z1⟩ := at4.box
      rw [e, z1] at hml4
      have z2 := congrArg List.length (HO.lst.inj (Option.some.inj hml4))
      have z3 := congrArg (fun l : List V => l[0]?) (HO.lst.inj (Option.some.inj hml4))
      cases zs with
      | nil => exact nomatch z3
      | cons z zs => exact nomatch z3
    have hml5 := k5 _ _ hmb hml4
    generalize upd J b (.lst [.int x4, .int y4]) = J5 at at5 D5 R5 hml5 ⊢
    clear k5 at4 D4 R4 hml4 hmb
    refine ⟨_, _, rfl, rfl, _, rfl, t, xs, rfl, .inr (SqT.of D5.t), _, _, rfl, rfl, _, _, rfl, rfl, (by show 4 ≤ sizeLine; decide), fun q4 nq4 => ?_⟩
    obtain ⟨ats, hats⟩ : ∃ ats : List Int, ats = [(xs.length : Int), -1, (xs.length : Int) + d4, 0 - (xs.length : Int) - 1] := ⟨_, rfl⟩
    have hbey : ∀ i ∈ ats, Beyond i rows.length := by
      rw [hats, lxs]
      intro i hi
      simp only [List.mem_cons, List.not_mem_nil, or_false] at hi
      unfold Beyond
      omega
    have etup : ([V.int (xs.length : Int), .int (-1), .int ((xs.length : Int) + d4), .int (0 - (xs.length : Int) - 1)] : List V) = ats.map V.int := by
      rw [hats]
      rfl
    have s6 := new_same nq4 (.tup [V.int (xs.length : Int), .int (-1), .int ((xs.length : Int) + d4), .int (0 - (xs.length : Int) - 1)])
    have h6 : upd J5 q4 (.tup [V.int (xs.length : Int), .int (-1), .int ((xs.length : Int) + d4), .int (0 - (xs.length : Int) - 1)]) q4 = some (.tup (ats.map V.int)) := by
      rw [← etup]
      exact upd_same
    generalize upd J5 q4 (.tup [V.int (xs.length : Int), .int (-1), .int ((xs.length : Int) + d4), .int (0 - (xs.length : Int) - 1)]) = J6 at s6 h6 ⊢
    have at6 := at5.more s6
    have D6 := D5.mono s6
    have R6 := R5.mono s6
    have hml6 := s6 _ _ hml5
    clear at5 D5 R5 hml5 s6 nq4 etup hats
    refine ⟨q4, rfl, ⟨_, SqT.of h6⟩, for_tup (K := K) (a := q4) (xs := ats.map V.int) (fun _ σ J => ∃ v9 va vb vc, σ = [some (.ref a), some (.int (0 + (i0 : Int))), some (.ref b), some (.str first), some (.ref t), some (.ref hd), some (.ref ru), some (.str (ruleText first rows)), some (.ref ml), v9, va, vb, vc] ∧ Same J6 J) ⟨_, _, _, _, rfl, Same.refl _⟩ (fun i σ J _ ⟨_, _, _, _, _, z⟩ => SqT.of (z _ _ h6)) ?_ ?_⟩
    · rintro i x σ J hx ⟨v9, va, vb, vc, rfl, sJ⟩
      rw [List.getElem?_map] at hx
      obtain ⟨n, hn, rfl⟩ : ∃ n, ats[i]? = some n ∧ x = .int n := by
        cases q : ats[i]? with
        | none =>
          rw [q] at hx
          cases hx
        | some n =>
          rw [q] at hx
          exact ⟨n, rfl, (Option.some.inj hx).symm⟩
      have by_ := hbey n (List.mem_of_getElem? hn)
      refine name_k ?_
      simp only [List.set_cons_succ, List.set_cons_zero]
      have R7 := R6.mono sJ
      refine ⟨(by show 2 ≤ sizeLine; decide), fun fp nfp => ⟨fp, rfl, ⟨_, SqT.of upd_same⟩, fun D hD => ?_⟩⟩
      have s7 := new_same nfp (.tup [V.bl false, .bl true])
      have h7 : upd J fp (.tup [V.bl false, .bl true]) fp = some (.tup [V.bl false, .bl true]) := upd_same
      generalize upd J fp (.tup [V.bl false, .bl true]) = J7 at s7 h7 hD ⊢
      have R8 := R7.mono s7
      refine lc_tup (K := K) (a := fp) (xs := [V.bl false, .bl true]) (fun i M => Same J7 M ∧ ∃ ts, M D = some (.lst ts) ∧ ts.length = i ∧ ∀ v ∈ ts, ∃ t1, v = .ref t1 ∧ M t1 = some (.tup [.int n, .bl true])) ⟨new_same hD _, [], upd_same, rfl, (fun v h => nomatch h)⟩ (fun i M _ z => SqT.of (z.1 _ _ h7)) (fun i v M hv z => ?_) (fun M z => ?_)
      · obtain ⟨sM, ts, hts, lts, all⟩ := z
        obtain ⟨c, rfl⟩ : ∃ c, v = .bl c := by
          match i, hv with
          | 0, hv => exact ⟨false, by cases hv; rfl⟩
          | 1, hv => exact ⟨true, by cases hv; rfl⟩
          | i + 2, hv => exact nomatch hv
        have hi : i < 2 := (List.getElem?_eq_some_iff.mp hv).1
        refine ⟨rfl, _, rfl, _, rfl, _, rfl, ru, n, c, first, rows, rfl, (R8.mono sM).A, by_, fun t1 N sN ht1 => ⟨_, sN _ _ hts, small1000 (by omega), fun c o h => ?_, ts ++ [.ref t1], upd_same, by rw [List.length_append, lts]; rfl, fun v hv => ?_⟩⟩
        · rw [upd_ne (fun q => by rw [q, hD] at h; cases h)]
          exact sN _ _ (sM _ _ h)
        · have ne : ∀ {u : Addr}, N u = some (.tup [.int n, .bl true]) → upd N D (.lst (ts ++ [.ref t1])) u = some (.tup [.int n, .bl true]) := fun {u} e => by
            rw [upd_ne (fun q => by rw [q, sN _ _ hts] at e; cases e)]
            exact e
          rcases List.mem_append.mp hv with h | h
          · obtain ⟨u, rfl, hu⟩ := all v h
            exact ⟨u, rfl, ne (sN _ _ hu)⟩
          · rw [List.mem_singleton.mp h]
            exact ⟨t1, rfl, ne ht1⟩
      · obtain ⟨sM, ts, hts, lts, all⟩ := z
        refine ⟨_, rfl, (by show 2 ≤ sizeLine; decide), fun u nu => ⟨(by show 1 ≤ sizeLine; decide), fun l1 n1 => ⟨l1, 2, _, rfl, rfl, upd_same, by decide, by decide, (by show 2 ≤ sizeLine; decide), fun l2 n2 => ?_⟩⟩⟩
        have su := new_same nu (.tup [V.int n, .bl true])
        have hu : upd M u (.tup [V.int n, .bl true]) u = some (.tup [V.int n, .bl true]) := upd_same
        have sL := (su.trans (new_same n1 (.lst [V.ref u]))).trans (new_same n2 (.lst (List.replicate (2 : Int).toNat [V.ref u]).flatten))
        have hu2 := new_same n2 (.lst (List.replicate (2 : Int).toNat [V.ref u]).flatten) _ _ (new_same n1 (.lst [V.ref u]) _ _ hu)
        have hL : upd (upd (upd M u (.tup [V.int n, .bl true])) l1 (.lst [V.ref u])) l2 (.lst (List.replicate (2 : Int).toNat [V.ref u]).flatten) l2 = some (.lst [V.ref u, .ref u]) := upd_same
        obtain ⟨t1, t2, rfl, ht1, ht2⟩ : ∃ t1 t2, ts = [V.ref t1, .ref t2] ∧ M t1 = some (.tup [.int n, .bl true]) ∧ M t2 = some (.tup [.int n, .bl true]) := by
          match ts, lts, all with
          | [x1, x2], _, all =>
            obtain ⟨t1, rfl, h1⟩ := all x1 List.mem_cons_self
            obtain ⟨t2, rfl, h2⟩ := all x2 (List.mem_cons_of_mem _ List.mem_cons_self)
            exact ⟨t1, t2, rfl, h1, h2⟩
        refine ⟨.list [missD n, missD n], .list [missD n, missD n], .lst (SqL.of (sL _ _ hts)) (.cons (.tup (SqT.of (sL _ _ ht1)) (.cons (.int n) (.cons (.bl true) .nil))) (.cons (.tup (SqT.of (sL _ _ ht2)) (.cons (.int n) (.cons (.bl true) .nil))) .nil)),
          .lst (SqL.of hL) (.cons (.tup (SqT.of hu2) (.cons (.int n) (.cons (.bl true) .nil))) (.cons (.tup (SqT.of hu2) (.cons (.int n) (.cons (.bl true) .nil))) .nil)), shaped_miss n, shaped_miss n, _, rfl, ?_⟩
        rw [shaped_ok (shaped_miss n)]
        exact iteF ⟨_, _, _, _, rfl, sJ.trans (s7.trans (sM.trans sL))⟩
    rintro σ J ⟨v9, va, vb, vc, rfl, sJ⟩
    have at7 := at6.more sJ
    have D7 := D6.mono sJ
    have R7 := R6.mono sJ
    have hml7 := sJ _ _ hml6
    clear sJ at6 D6 R6 hml6 h6 hbey
    -- made anew, and what is no rule
    refine ⟨_, rfl, _, rfl, _, rfl, t, xs, rows, rfl, D7.t, D7.r, by omega, fun h8 ys8 J8 s8 _ hh8 rin8 => ?_⟩
    intro x9 dx9 nx9 ndx9 _
    refine rule_made (p := h8) (xs := ys8) (rows := rows) rfl G.rc wd (.inl (SqL.of hh8)) rin8 (by omega) nx9 ndx9 fun J9 s9 A9 => ⟨rfl, ne_at (R7.mono (s8.trans s9)).A A9 fun JA sA => ⟨_, rfl, ?_⟩⟩
    rw [decide_eq_true rfl]
    refine iteF ?_
    have s7A := (s8.trans s9).trans sA
    have atA := at7.more s7A
    have DA := D7.mono s7A
    have RA := R7.mono s7A
    have hmlA := s7A _ _ hml7
    clear s7A sA A9 s9 s8 hh8 rin8 nx9 ndx9 at7 D7 R7 hml7
    refine ⟨_, rfl, _, rfl, _, rfl, ru, CR, dx2, _, _, rfl, RA.e1, clR, G.n1, lkr, (by show 3 ≤ sizeLine; decide), fun q5 nq5 => ?_⟩
    have sB := new_same nq5 (.tup [.str (ruleText first rows), .ref tpR, .non])
    have hB : upd JA q5 (.tup [.str (ruleText first rows), .ref tpR, .non]) q5 = some (.tup [.str (ruleText first rows), .ref tpR, .non]) := upd_same
    generalize upd JA q5 (.tup [.str (ruleText first rows), .ref tpR, .non]) = JB at sB hB ⊢
    have atB := atA.more sB
    have DB := DA.mono sB
    have RB := RA.mono sB
    have hmlB := sB _ _ hmlA
    clear sB atA DA RA hmlA nq5
    refine ⟨ru, dx2, q5, _, _, rfl, RB.e1, rfl, SqT.of hB, fun v hv => ?_, _, rfl, iteF ?_⟩
    · simp only [List.mem_cons, List.not_mem_nil, or_false] at hv
      rcases hv with rfl | rfl | rfl
      · exact ⟨.inl ⟨_, rfl⟩, ru, first, rows, _, _, rfl, RB.A, .base (.str _), G.kS, rfl, rfl⟩
      · exact ⟨.inr (.inr (.inl ⟨_, _, rfl, RB.e2⟩)), ru, first, rows, _, _, rfl, RB.A, tyx_seqT RB.e2, G.kT, rfl, rfl⟩
      · exact ⟨.inr (.inl rfl), ru, first, rows, _, _, rfl, RB.A, .base .non, G.kN, rfl, rfl⟩
    -- a row fewer
    have shw : SeqAt.shaped (.tuple (rows.map rowD)) = true := shaped_tup (rows_lay hgood) (by decide)
    have she : SeqAt.shaped (.tuple []) = true := by decide +kernel
    refine next_k4 ?_
    dsimp only
    refine seq_if_k4 (fun τ L => τ = [some (.ref a), some (.int (0 + (i0 : Int))), some (.ref b), some (.str first), some (.ref t), some (.ref hd), some (.ref ru), some (.str (ruleText first rows)), some (.ref ml), v9, va, vb, vc] ∧ Same JB L) ?_ fun k => ?_
    rotate_left
    · refine ⟨_, rfl, (by show 0 ≤ sizeLine; decide), fun q6 nq6 => ?_⟩
      have s6 := new_same nq6 (.tup [])
      refine ⟨_, _, .tup (SqT.of (s6 _ _ DB.t)) (dp_rows (DB.r.keep (Keep.of s6))), .tup (SqT.of upd_same) .nil, shw, she, _, rfl, ?_⟩
      have A6 := RB.mono s6
      generalize upd JB q6 (.tup []) = J6 at s6 A6 ⊢
      have e0 : PyData.eqv (.tuple (rows.map rowD)) (.tuple []) = rows.isEmpty := by
        cases rows with
        | nil => simp [PyData.eqv, PyData.eqvAll]
        | cons r0 rs => simp [PyData.eqv, PyData.eqvAll]
      rw [e0]
      by_cases c : rows.isEmpty = true
      · rw [c]
        exact iteF (k _ _ ⟨rfl, s6⟩)
      · rw [Bool.eq_false_iff.mpr c]
        have pos : 0 < rows.length := by
          cases rows with
          | nil => exact absurd rfl c
          | cons r0 rs => exact Nat.succ_pos _
        refine iteT ⟨_, rfl, _, rfl, ru, dx2, _, rfl, A6.e1, lkw, ru, 0, first, rows, rfl, A6.A, .inl ⟨0, rfl, pos, fun x7 J7 s7 _ A7 => eq_at (A6.mono s7).A A7 fun J8 s8 => ⟨_, rfl, ?_⟩⟩⟩
        rw [decide_eq_false (fun e => by
          have := (text_len wd wd hgood (fun x hx => by
            rcases List.mem_append.mp hx with h | h
            · exact hgood x (List.mem_of_mem_take h)
            · exact hgood x (List.mem_of_mem_drop h)) (by omega) (by rw [List.length_append, List.length_take, List.length_drop]; omega) e).2
          rw [List.length_append, List.length_take, List.length_drop] at this
          omega)]
        refine iteF ⟨_, rfl, str_at (A6.mono (s7.trans s8)).A fun J9 s9 => ⟨_, rfl, rfl, _, rfl, ?_⟩⟩
        rw [decide_eq_true rfl]
        exact iteF (k _ _ ⟨rfl, s6.trans ((s7.trans s8).trans s9)⟩)
    rintro τ L ⟨rfl, sL⟩
    have RL := RB.mono sL
    have atL := atB.more sL
    have hmlL := sL _ _ hmlB
    clear sL RB atB hmlB hB DB
    have wpos := wd.pos
    have hl0 : first.cps.toList.length = first.length := Array.length_toList
    obtain ⟨c0, hc0⟩ : ∃ c0, first.cps.toList[0]? = some c0 := ⟨_, List.getElem?_eq_getElem (by omega)⟩
    have fin : ∀ M, Same L M → ∃ v1 v2 v3 v4 v5 v6 v7 v8 v9' va' vb' vc', ([some (.ref a), some (.int (0 + (i0 : Int))), some (.ref b), some (.str first), some (.ref t), some (.ref hd), some (.ref ru), some (.str (ruleText first rows)), some (.ref ml), v9, va, vb, vc] : L2.St) = [some (.ref a), v1, v2, v3, v4, v5, v6, v7, v8, v9', va', vb', vc'] ∧ L3.SameN TL H M := fun M sM => ⟨_, _, _, _, _, _, _, _, _, _, _, _, rfl, (atL.more sM).same⟩
    refine ⟨_, rfl, ml, _, rfl, .inl (SqL.of hmlL), _, _, rfl, rfl, _, rfl, ?_⟩
    refine ite2 (fun c => ?_) (fun _ => fin L (Same.refl _))
    refine ⟨_, rfl, _, rfl, first, 0, c0, rfl, rfl, Nat.le_of_lt (small1000 (by have := wd.len; omega)), atI_nat (j := 0) hc0, rfl, _, rfl, ?_⟩
    refine if_to (fun v J => ∃ z, v = .str z ∧ Wd z ∧ z ≠ first ∧ J = L) (fun c1 K' k => ?_) (fun c1 K' k => ?_) ?_
    · have n120 : c0 ≠ 120 := fun e => by
        rw [e] at c1
        exact absurd c1 (by decide +kernel)
      obtain ⟨w1, w2⟩ := x_first wd (by rw [hc0]; exact fun e => n120 (Option.some.inj e))
      refine ⟨_, rfl, _, rfl, ?_⟩
      dsimp only [tNoPart]
      exact ⟨first, rfl, Nat.le_of_lt (small1000 (by have := wd.len; omega)), "x", _, rfl, rfl, Nat.le_of_lt (small1000 (by
        have := w1.len
        rw [len_app] at this
        omega)), k _ _ ⟨_, rfl, w1, w2, rfl⟩⟩
    · have e120 : c0 = 120 := Decidable.byContradiction fun e => c1 (by
        show (!decide (V.str ⟨#[c0]⟩ = V.str "x")) = true
        rw [decide_eq_false (fun q => e (by
          have := congrArg (fun v : V => match v with | .str z => z.cps.toList | _ => []) q
          exact (List.cons.inj this).1))]
        rfl)
      exact k _ _ ⟨"y", rfl, wd_y, fun e => by
        rw [← e] at hc0
        have : (121 : Nat) = c0 := Option.some.inj hc0
        omega, rfl⟩
    rintro v J ⟨z, rfl, wz, nz, rfl⟩
    refine ⟨_, rfl, ru, CR, dx2, _, _, rfl, RL.e1, clR, G.n1, lkr, ?_⟩
    intro xa dxa nxa ndxa _
    refine rule_made (p := tpR) (xs := xsr) (rows := rows) rfl G.rc wz (.inr RL.e2) RL.e3 (by omega) nxa ndxa fun Ja sa Aa => ⟨rfl, eq_at (RL.mono sa).A Aa fun Jb sb => ⟨_, rfl, ?_⟩⟩
    rw [decide_eq_false (fun e => nz (text_len wd wz hgood hgood (by omega) (by omega) e).1.symm)]
    exact iteF (fin _ (sa.trans sb))
  · rintro σ J ⟨v1, v2', v3, v4, v5, v6, v7, v8, v9, va, vb, vc, rfl, s⟩
    have run0 : ruleText "run" [] = "first run" := by decide +kernel
    have lkm : ∀ tp tm : Addr, (ruleFs (.str "run") (.ref tp) (.ref tm)).lookup ("modes" : Str) = some (.ref tm) := fun tp tm => by kernel_rfl
    intro x1 dx1 nx1 ndx1 _
    refine rule_made (p := eU) (xs := []) (rows := []) rfl G.rc wd_run (.inr (G.emp _)) ⟨rfl, fun i x e => nomatch e⟩ (by decide) nx1 ndx1 fun J1 s1 A1 => ⟨rfl, str_at A1 fun J2 s2 => ⟨rfl, _, rfl, ?_⟩⟩
    rw [run0, decide_eq_true rfl]
    refine iteT ?_
    intro x3 dx3 nx3 ndx3 _
    refine rule_made (p := eU) (xs := []) (rows := []) rfl G.rc wd_run (.inr (G.emp _)) ⟨rfl, fun i x e => nomatch e⟩ (by decide) nx3 ndx3 fun J3 s3 A3 => ⟨rfl, ?_⟩
    obtain ⟨dx2, tpR, tmR, xsr, zs, e1, e2, e3, e4, e5⟩ := A3.ex
    have ez : zs = [("run" : Str)] := List.perm_singleton.mp (e5.perm.trans (List.Perm.of_eq (show onceOf (namesOf "run" []) = [("run" : Str)] by decide +kernel)))
    subst ez
    refine ⟨x3, CR, dx2, _, _, rfl, e1, clR, G.n2, lkm _ _, (by show 1 ≤ sizeLine; decide), fun q4 nq4 => ?_⟩
    have s4 := new_same nq4 (.tup [V.str "run"])
    have sh : SeqAt.shaped (.tuple [.str "run"]) = true := by decide +kernel
    refine ⟨_, _, .tup (SqT.of (s4 _ _ e4)) (.cons (.str _) .nil), .tup (SqT.of upd_same) (.cons (.str _) .nil), sh, sh, _, rfl, ?_⟩
    rw [shaped_ok sh]
    refine iteT ⟨(by show 0 ≤ sizeLine; decide), fun l5 nl5 => ?_⟩
    intro x6 dx6 nx6 ndx6 _
    refine rule_made (p := l5) (xs := []) (rows := []) rfl G.rc wd_a (.inl (SqL.of upd_same)) ⟨rfl, fun i x e => nomatch e⟩ (by decide) nx6 ndx6 fun J6 s6 A6 => ⟨rfl, len_at A6 ⟨rfl, ?_⟩⟩
    exact q _
end
end LT
namespace LT
open PySem L2
abbrev playT (t : Addr) : L3.TabL := [(t, ("play.<locals>.<lambda>" : Str))]
/-- what the end wants of the law -/
def EndT (P : Program) (w : World) (K : PySem.W.Frag) (mg : Str → Option Value) (h : Heap) (fa : Addr) (k : Nat) (sp : L3.TabL → Sp) : Prop :=
  ∃ (fd : FuncData) (cP tP : Addr), h.get? tP = some (PySem.W.tabObj #[]) ∧ K.lookup tP = none ∧ PySem.W.CodeHd h cP tP ∧ (∀ (s : Shared) (v : Value), BindsTo s fd ⟨[v], []⟩ [("_law_script", v)]) ∧
    ∀ base : Heap, K.In base → base.Ns mainGlobals mg → LamX.TabB base mg cP tP → FnOk P w K mg base CX0 k fa fd ["_law_script"] (sp (playT tP))
theorem row_b6 {K : PySem.W.Frag} {f : Addr} {fd : FuncData} (F : FunD K "__init__" "Row.__init__" (defArgs sRowInit) (defBody sRowInit) (defScope sRowInit) [.bl false] [] f fd) :
    ∃ ds, Vals ([] : List V) ds ∧ Binds K fd ["self", "mode", "pick", "move", "then", "also"] ds :=
  F.binds1 6 1 (by decide) (by decide) fun T kV doc pm an cdv ct us its h1 h2 => match us, its, h1, h2 with
    | [_, _, _, _, _, _], [_], _, _ => ⟨_, rfl, rfl⟩
theorem rule_b3 {K : PySem.W.Frag} {f e : Addr} {fd : FuncData} (F : FunD K "__init__" "Rule.__init__" (defArgs sRuleInit) (defBody sRuleInit) (defScope sRuleInit) [.ref e] [] f fd) :
    ∃ ds, Vals ([] : List V) ds ∧ Binds K fd ["self", "first", "rows"] ds :=
  F.binds1 3 1 (List.cons_ne_nil _ _) rfl fun T kV doc pm an cdv ct us its h1 h2 => match us, its, h1, h2 with
    | [_, _, _], [_], _, _ => ⟨_, rfl, rfl⟩
theorem rule_b2 {K : PySem.W.Frag} {f e : Addr} {fd : FuncData} (F : FunD K "__init__" "Rule.__init__" (defArgs sRuleInit) (defBody sRuleInit) (defScope sRuleInit) [.ref e] [] f fd) :
    ∃ ds, Vals ([.ref e] : List V) ds ∧ Binds K fd ["self", "first", "rows"] ds :=
  F.binds1 2 0 (List.cons_ne_nil _ _) rfl fun T kV doc pm an cdv ct us its h1 h2 => match us, its, h1, h2 with
    | [_, _], [_], _, _ => ⟨_, rfl, rfl⟩
theorem row_b5 {K : PySem.W.Frag} {f : Addr} {fd : FuncData} (F : FunD K "__init__" "Row.__init__" (defArgs sRowInit) (defBody sRowInit) (defScope sRowInit) [.bl false] [] f fd) :
    ∃ ds, Vals ([.bl false] : List V) ds ∧ Binds K fd ["self", "mode", "pick", "move", "then", "also"] ds :=
  F.binds1 5 0 (List.cons_ne_nil _ _) rfl fun T kV doc pm an cdv ct us its h1 h2 => match us, its, h1, h2 with
    | [_, _, _, _, _], [_], _, _ => ⟨_, rfl, rfl⟩
theorem all_mk {l : PySem.W.OpenLaw} {w : World} {K : PySem.W.Frag} {h : Heap} {mg : Str → Option Value} {fa : Addr} (X : K.In h) (G : h.Ns mainGlobals mg) (hfa : mg "law" = some (.ref fa))
    {C CE C2 C3 CL CP CR pP pM : Addr} {ddP ddM : Option Addr} {nP nM : Nat} {slP slM : Array (Option Value)} {t1 t2 t3 t4 t5 t6 t7 t8 : Tok}
    {f_nm : Addr} {od_nm an_nm : Option Addr} {sl_nm : Array (Option Value)} {oc_nm kV_nm dc_nm pm_nm cd_nm ct_nm : Value}
    {f_iw : Addr} {od_iw an_iw : Option Addr} {sl_iw : Array (Option Value)} {oc_iw kV_iw dc_iw pm_iw cd_iw ct_iw : Value}
    {f_sq : Addr} {od_sq an_sq : Option Addr} {sl_sq : Array (Option Value)} {oc_sq kV_sq dc_sq pm_sq cd_sq ct_sq : Value}
    {f_rr : Addr} {od_rr an_rr : Option Addr} {sl_rr : Array (Option Value)} {oc_rr kV_rr dc_rr pm_rr cd_rr ct_rr : Value}
    {f_ig : Addr} {od_ig an_ig : Option Addr} {sl_ig : Array (Option Value)} {oc_ig kV_ig dc_ig pm_ig cd_ig ct_ig : Value}
    {f_mv : Addr} {od_mv an_mv : Option Addr} {sl_mv : Array (Option Value)} {oc_mv kV_mv dc_mv pm_mv cd_mv ct_mv : Value}
    {f_pl : Addr} {od_pl an_pl : Option Addr} {sl_pl : Array (Option Value)} {oc_pl kV_pl dc_pl pm_pl ct_pl : Value}
    {f_as : Addr} {od_as an_as : Option Addr} {sl_as : Array (Option Value)} {oc_as kV_as dc_as pm_as cd_as ct_as : Value}
    {f_ib : Addr} {od_ib an_ib : Option Addr} {sl_ib : Array (Option Value)} {oc_ib kV_ib dc_ib pm_ib cd_ib ct_ib : Value}
    {f_ir : Addr} {od_ir an_ir : Option Addr} {sl_ir : Array (Option Value)} {oc_ir kV_ir dc_ir pm_ir cd_ir ct_ir : Value}
    {f_pr : Addr} {od_pr an_pr : Option Addr} {sl_pr : Array (Option Value)} {oc_pr kV_pr dc_pr pm_pr cd_pr ct_pr : Value}
    {f_gb : Addr} {od_gb an_gb : Option Addr} {sl_gb : Array (Option Value)} {oc_gb kV_gb dc_gb pm_gb cd_gb ct_gb : Value}
    {f_fo : Addr} {od_fo an_fo : Option Addr} {sl_fo : Array (Option Value)} {oc_fo kV_fo dc_fo pm_fo cd_fo ct_fo : Value}
    {f_rf : Addr} {od_rf an_rf : Option Addr} {sl_rf : Array (Option Value)} {oc_rf kV_rf dc_rf pm_rf cd_rf ct_rf : Value}
    {f_rs : Addr} {od_rs an_rs : Option Addr} {sl_rs : Array (Option Value)} {oc_rs kV_rs dc_rs pm_rs cd_rs ct_rs : Value}
    {f_mo : Addr} {od_mo an_mo : Option Addr} {sl_mo : Array (Option Value)} {oc_mo kV_mo dc_mo pm_mo cd_mo ct_mo : Value}
    {cPl tPl : Addr}
    {f_ei : Addr} {od_ei an_ei : Option Addr} {sl_ei : Array (Option Value)} {oc_ei kV_ei dc_ei pm_ei cd_ei ct_ei : Value}
    {f_e2 : Addr} {od_e2 an_e2 : Option Addr} {sl_e2 : Array (Option Value)} {oc_e2 kV_e2 dc_e2 pm_e2 cd_e2 ct_e2 : Value}
    {f_e3 : Addr} {od_e3 an_e3 : Option Addr} {sl_e3 : Array (Option Value)} {oc_e3 kV_e3 dc_e3 pm_e3 cd_e3 ct_e3 : Value}
    {f_eq : Addr} {od_eq an_eq : Option Addr} {sl_eq : Array (Option Value)} {oc_eq kV_eq dc_eq pm_eq cd_eq ct_eq : Value}
    {f_pi : Addr} {od_pi an_pi : Option Addr} {sl_pi : Array (Option Value)} {oc_pi kV_pi dc_pi pm_pi cd_pi ct_pi : Value}
    {f_ri dTr : Addr} {od_ri an_ri dd_ri : Option Addr} {sl_ri sm_ri : Array (Option Value)} {nd_ri : Nat} {oc_ri kV_ri dc_ri pm_ri cd_ri ct_ri ol_ri : Value}
    {eU : Addr}
    {f_ui dTu : Addr} {od_ui an_ui dd_ui : Option Addr} {sl_ui sm_ui : Array (Option Value)} {nd_ui : Nat} {oc_ui kV_ui dc_ui pm_ui cd_ui ct_ui ol_ui : Value}
    {xn_CE xq_CE : Str} {xN_CE : Addr} {xb_CE : List Value} {xs_CE : List Str} {xu_CE : List Value} {xa_CE : Bool} {xc_CE : Option Bool} {xd_CE : Option Addr} {m0_CE m1_CE m2_CE m3_CE m5_CE : Option Value}
    {xn_C2 xq_C2 : Str} {xN_C2 : Addr} {xb_C2 : List Value} {xs_C2 : List Str} {xu_C2 : List Value} {xa_C2 : Bool} {xc_C2 : Option Bool} {xd_C2 : Option Addr} {m0_C2 m1_C2 m2_C2 m3_C2 m5_C2 : Option Value}
    {xn_C3 xq_C3 : Str} {xN_C3 : Addr} {xb_C3 : List Value} {xs_C3 : List Str} {xu_C3 : List Value} {xa_C3 : Bool} {xc_C3 : Option Bool} {xd_C3 : Option Addr} {m0_C3 m1_C3 m2_C3 m3_C3 m5_C3 : Option Value}
    {pR gR : Addr} {restR : List Value}
    {od_rd an_rd : Option Addr} {sl_rd : Array (Option Value)} {oc_rd kV_rd dc_rd pm_rd cd_rd ct_rd : Value}
    {ddE : Option Addr} {nE : Nat} {slE : Array (Option Value)}
    {CN : Addr}
    {f_se : Addr} {od_se an_se : Option Addr} {sl_se : Array (Option Value)} {oc_se kV_se dc_se pm_se cd_se ct_se : Value}
    {f_ch : Addr} {od_ch an_ch : Option Addr} {sl_ch : Array (Option Value)} {oc_ch kV_ch dc_ch pm_ch cd_ch ct_ch : Value}
    {f_oo : Addr} {od_oo an_oo : Option Addr} {sl_oo : Array (Option Value)} {oc_oo kV_oo dc_oo pm_oo cd_oo ct_oo : Value}
    {f_nn : Addr} {od_nn an_nn : Option Addr} {sl_nn : Array (Option Value)} {oc_nn kV_nn dc_nn pm_nn cd_nn ct_nn : Value}
    {f_ar : Addr} {od_ar an_ar : Option Addr} {sl_ar : Array (Option Value)} {oc_ar kV_ar dc_ar pm_ar cd_ar ct_ar : Value}
    {f_fa : Addr} {od_fa an_fa : Option Addr} {sl_fa : Array (Option Value)} {oc_fa kV_fa dc_fa pm_fa cd_fa ct_fa : Value}
    {f_lr : Addr} {od_lr an_lr : Option Addr} {sl_lr : Array (Option Value)} {oc_lr kV_lr dc_lr pm_lr cd_lr ct_lr : Value}
    {f_rw : Addr} {od_rw an_rw : Option Addr} {sl_rw : Array (Option Value)} {oc_rw kV_rw dc_rw pm_rw cd_rw ct_rw : Value}
    {f_rx : Addr} {od_rx an_rx : Option Addr} {sl_rx : Array (Option Value)} {oc_rx kV_rx dc_rx pm_rx cd_rx ct_rx : Value}
    {f_md : Addr} {od_md an_md : Option Addr} {sl_md : Array (Option Value)} {oc_md kV_md dc_md pm_md cd_md ct_md : Value}
    {f_mi : Addr} {od_mi an_mi : Option Addr} {sl_mi : Array (Option Value)} {oc_mi kV_mi dc_mi pm_mi cd_mi ct_mi : Value}
    {f_st : Addr} {od_st an_st : Option Addr} {sl_st : Array (Option Value)} {oc_st kV_st dc_st pm_st cd_st ct_st : Value}
    {f_qs : Addr} {od_qs an_qs : Option Addr} {sl_qs : Array (Option Value)} {oc_qs kV_qs dc_qs pm_qs cd_qs ct_qs : Value}
    {f_qe : Addr} {od_qe an_qe : Option Addr} {sl_qe : Array (Option Value)} {oc_qe kV_qe dc_qe pm_qe cd_qe ct_qe : Value}
    {f_ql : Addr} {od_ql an_ql : Option Addr} {sl_ql : Array (Option Value)} {oc_ql kV_ql dc_ql pm_ql cd_ql ct_ql : Value}
    {f_qi : Addr} {od_qi an_qi : Option Addr} {sl_qi : Array (Option Value)} {oc_qi kV_qi dc_qi pm_qi cd_qi ct_qi : Value}
    {f_qw : Addr} {od_qw an_qw : Option Addr} {sl_qw : Array (Option Value)} {oc_qw kV_qw dc_qw pm_qw cd_qw ct_qw : Value}
    {f_en : Addr} {od_en an_en : Option Addr} {sl_en : Array (Option Value)} {oc_en kV_en dc_en pm_en cd_en ct_en : Value}
    {xnN xqN : Str} {xNN : Addr} {xbN : List Value} {xsN : List Str} {xuN : List Value} {xaN : Bool} {xcN : Option Bool} {xdN : Option Addr} {m0N m1N m2N m3N m5N : Option Value}
    {f_la : Addr} {od_la an_la : Option Addr} {sl_la : Array (Option Value)} {oc_la kV_la dc_la pm_la cd_la ct_la : Value}
    (hTab : ∀ P ∈ [tPl], h.get? P = some (PySem.W.tabObj #[]))
    (gC : PySem.W.nsIn K mainGlobals "Row" = some (some (.ref C)))
    (gCE : PySem.W.nsIn K mainGlobals "InvalidRow" = some (some (.ref CE)))
    (gC2 : PySem.W.nsIn K mainGlobals "InvalidRule" = some (some (.ref C2)))
    (gC3 : PySem.W.nsIn K mainGlobals "InvalidText" = some (some (.ref C3)))
    (gCL : PySem.W.nsIn K mainGlobals "LineError" = some (some (.ref CL)))
    (gCP : PySem.W.nsIn K mainGlobals "Played" = some (some (.ref CP)))
    (gCR : PySem.W.nsIn K mainGlobals "Rule" = some (some (.ref CR)))
    (gpP : PySem.W.nsIn K mainGlobals "PICKS" = some (some (.ref pP)))
    (gpM : PySem.W.nsIn K mainGlobals "MOVES" = some (some (.ref pM)))
    (lP : K.lookup pP = some ⟨.type "tuple", ddP, .seq #[.str "keep" t1, .str "at" t2, .str "past" t3, .str "under" t4, .str "all" t5] nP, slP⟩)
    (lM : K.lookup pM = some ⟨.type "tuple", ddM, .seq #[.str "stay" t6, .str "on" t7, .str "home" t8] nM, slM⟩)
    (a_nm : PySem.W.nsIn K mainGlobals "is_name" = some (some (.ref f_nm)))
    (l_nm : K.lookup f_nm = some ⟨oc_nm, od_nm, .func (PySem.W.fnOf "is_name" "is_name" (defArgs sIsName) (defBody sIsName) (defScope sIsName) .none kV_nm dc_nm pm_nm an_nm cd_nm ct_nm), sl_nm⟩)
    (c_nm : PySem.W.codeIn K cd_nm "is_name" = true)
    (k_nm : PySem.W.keepIn K (.ref f_nm) = true)
    (a_iw : PySem.W.nsIn K mainGlobals "is_whole" = some (some (.ref f_iw)))
    (l_iw : K.lookup f_iw = some ⟨oc_iw, od_iw, .func (PySem.W.fnOf "is_whole" "is_whole" (defArgs sIsWhole) (defBody sIsWhole) (defScope sIsWhole) .none kV_iw dc_iw pm_iw an_iw cd_iw ct_iw), sl_iw⟩)
    (c_iw : PySem.W.codeIn K cd_iw "is_whole" = true)
    (k_iw : PySem.W.keepIn K (.ref f_iw) = true)
    (a_sq : PySem.W.nsIn K mainGlobals "is_sequence" = some (some (.ref f_sq)))
    (l_sq : K.lookup f_sq = some ⟨oc_sq, od_sq, .func (PySem.W.fnOf "is_sequence" "is_sequence" (defArgs sIsSeq) (defBody sIsSeq) (defScope sIsSeq) .none kV_sq dc_sq pm_sq an_sq cd_sq ct_sq), sl_sq⟩)
    (c_sq : PySem.W.codeIn K cd_sq "is_sequence" = true)
    (k_sq : PySem.W.keepIn K (.ref f_sq) = true)
    (a_rr : PySem.W.nsIn K mainGlobals "read_row" = some (some (.ref f_rr)))
    (l_rr : K.lookup f_rr = some ⟨oc_rr, od_rr, .func (PySem.W.fnOf "read_row" "read_row" (defArgs sReadRow) (defBody sReadRow) (defScope sReadRow) .none kV_rr dc_rr pm_rr an_rr cd_rr ct_rr), sl_rr⟩)
    (c_rr : PySem.W.codeIn K cd_rr "read_row" = true)
    (k_rr : PySem.W.keepIn K (.ref f_rr) = true)
    (a_ig : PySem.W.nsIn K mainGlobals "in_region" = some (some (.ref f_ig)))
    (l_ig : K.lookup f_ig = some ⟨oc_ig, od_ig, .func (PySem.W.fnOf "in_region" "in_region" (defArgs sRegion) (defBody sRegion) (defScope sRegion) .none kV_ig dc_ig pm_ig an_ig cd_ig ct_ig), sl_ig⟩)
    (c_ig : PySem.W.codeIn K cd_ig "in_region" = true)
    (k_ig : PySem.W.keepIn K (.ref f_ig) = true)
    (a_mv : PySem.W.nsIn K mainGlobals "moved" = some (some (.ref f_mv)))
    (l_mv : K.lookup f_mv = some ⟨oc_mv, od_mv, .func (PySem.W.fnOf "moved" "moved" (defArgs sMoved) (defBody sMoved) (defScope sMoved) .none kV_mv dc_mv pm_mv an_mv cd_mv ct_mv), sl_mv⟩)
    (c_mv : PySem.W.codeIn K cd_mv "moved" = true)
    (k_mv : PySem.W.keepIn K (.ref f_mv) = true)
    (a_pl : PySem.W.nsIn K mainGlobals "play" = some (some (.ref f_pl)))
    (l_pl : K.lookup f_pl = some ⟨oc_pl, od_pl, .func (PySem.W.fnOf "play" "play" (defArgs sPlay) (defBody sPlay) (defScope sPlay) .none kV_pl dc_pl pm_pl an_pl (.ref cPl) ct_pl), sl_pl⟩)
    (c_pl : PySem.W.codeIn K (.ref cPl) "play" = true)
    (k_pl : PySem.W.keepIn K (.ref f_pl) = true)
    (a_as : PySem.W.nsIn K mainGlobals "ascending_rounds" = some (some (.ref f_as)))
    (l_as : K.lookup f_as = some ⟨oc_as, od_as, .func (PySem.W.fnOf "ascending_rounds" "ascending_rounds" (defArgs sAscending) (defBody sAscending) (defScope sAscending) .none kV_as dc_as pm_as an_as cd_as ct_as), sl_as⟩)
    (c_as : PySem.W.codeIn K cd_as "ascending_rounds" = true)
    (k_as : PySem.W.keepIn K (.ref f_as) = true)
    (a_ib : PySem.W.nsIn K mainGlobals "is_below" = some (some (.ref f_ib)))
    (l_ib : K.lookup f_ib = some ⟨oc_ib, od_ib, .func (PySem.W.fnOf "is_below" "is_below" (defArgs sIsBelow) (defBody sIsBelow) (defScope sIsBelow) .none kV_ib dc_ib pm_ib an_ib cd_ib ct_ib), sl_ib⟩)
    (c_ib : PySem.W.codeIn K cd_ib "is_below" = true)
    (k_ib : PySem.W.keepIn K (.ref f_ib) = true)
    (a_ir : PySem.W.nsIn K mainGlobals "is_round" = some (some (.ref f_ir)))
    (l_ir : K.lookup f_ir = some ⟨oc_ir, od_ir, .func (PySem.W.fnOf "is_round" "is_round" (defArgs sIsRound) (defBody sIsRound) (defScope sIsRound) .none kV_ir dc_ir pm_ir an_ir cd_ir ct_ir), sl_ir⟩)
    (c_ir : PySem.W.codeIn K cd_ir "is_round" = true)
    (k_ir : PySem.W.keepIn K (.ref f_ir) = true)
    (a_pr : PySem.W.nsIn K mainGlobals "play_round" = some (some (.ref f_pr)))
    (l_pr : K.lookup f_pr = some ⟨oc_pr, od_pr, .func (PySem.W.fnOf "play_round" "play_round" (defArgs sPlayRound) (defBody sPlayRound) (defScope sPlayRound) .none kV_pr dc_pr pm_pr an_pr cd_pr ct_pr), sl_pr⟩)
    (c_pr : PySem.W.codeIn K cd_pr "play_round" = true)
    (k_pr : PySem.W.keepIn K (.ref f_pr) = true)
    (a_gb : PySem.W.nsIn K mainGlobals "granted_by" = some (some (.ref f_gb)))
    (l_gb : K.lookup f_gb = some ⟨oc_gb, od_gb, .func (PySem.W.fnOf "granted_by" "granted_by" (defArgs sGranted) (defBody sGranted) (defScope sGranted) .none kV_gb dc_gb pm_gb an_gb cd_gb ct_gb), sl_gb⟩)
    (c_gb : PySem.W.codeIn K cd_gb "granted_by" = true)
    (k_gb : PySem.W.keepIn K (.ref f_gb) = true)
    (a_fo : PySem.W.nsIn K mainGlobals "faults_of" = some (some (.ref f_fo)))
    (l_fo : K.lookup f_fo = some ⟨oc_fo, od_fo, .func (PySem.W.fnOf "faults_of" "faults_of" (defArgs sFaults) (defBody sFaults) (defScope sFaults) .none kV_fo dc_fo pm_fo an_fo cd_fo ct_fo), sl_fo⟩)
    (c_fo : PySem.W.codeIn K cd_fo "faults_of" = true)
    (k_fo : PySem.W.keepIn K (.ref f_fo) = true)
    (a_rf : PySem.W.nsIn K mainGlobals "round_fault" = some (some (.ref f_rf)))
    (l_rf : K.lookup f_rf = some ⟨oc_rf, od_rf, .func (PySem.W.fnOf "round_fault" "round_fault" (defArgs sFault) (defBody sFault) (defScope sFault) .none kV_rf dc_rf pm_rf an_rf cd_rf ct_rf), sl_rf⟩)
    (c_rf : PySem.W.codeIn K cd_rf "round_fault" = true)
    (k_rf : PySem.W.keepIn K (.ref f_rf) = true)
    (a_rs : PySem.W.nsIn K mainGlobals "is_row_sequence" = some (some (.ref f_rs)))
    (l_rs : K.lookup f_rs = some ⟨oc_rs, od_rs, .func (PySem.W.fnOf "is_row_sequence" "is_row_sequence" (defArgs sIsRows) (defBody sIsRows) (defScope sIsRows) .none kV_rs dc_rs pm_rs an_rs cd_rs ct_rs), sl_rs⟩)
    (c_rs : PySem.W.codeIn K cd_rs "is_row_sequence" = true)
    (k_rs : PySem.W.keepIn K (.ref f_rs) = true)
    (a_mo : PySem.W.nsIn K mainGlobals "modes_of" = some (some (.ref f_mo)))
    (l_mo : K.lookup f_mo = some ⟨oc_mo, od_mo, .func (PySem.W.fnOf "modes_of" "modes_of" (defArgs sModesOf) (defBody sModesOf) (defScope sModesOf) .none kV_mo dc_mo pm_mo an_mo cd_mo ct_mo), sl_mo⟩)
    (c_mo : PySem.W.codeIn K cd_mo "modes_of" = true)
    (k_mo : PySem.W.keepIn K (.ref f_mo) = true)
    (hdPl : PySem.W.codeHdIn K cPl tPl = true)
    (noPl : K.lookup tPl = none)
    (a_ei : PySem.W.findIn K (.ref CE) "__init__" = some (some (.ref f_ei)))
    (l_ei : K.lookup f_ei = some ⟨oc_ei, od_ei, .func (PySem.W.fnOf "__init__" "InvalidRow.__init__" (defArgs sErrInit) (defBody sErrInit) (defScope sErrInit) .none kV_ei dc_ei pm_ei an_ei cd_ei ct_ei), sl_ei⟩)
    (c_ei : PySem.W.codeIn K cd_ei "InvalidRow.__init__" = true)
    (k_ei : PySem.W.keepIn K (.ref f_ei) = true)
    (t_ei : PySem.W.typeIn K (.ref f_ei) = some (.type "function"))
    (a_e2 : PySem.W.findIn K (.ref C2) "__init__" = some (some (.ref f_e2)))
    (l_e2 : K.lookup f_e2 = some ⟨oc_e2, od_e2, .func (PySem.W.fnOf "__init__" "InvalidRule.__init__" (defArgs sRuleErrI) (defBody sRuleErrI) (defScope sRuleErrI) .none kV_e2 dc_e2 pm_e2 an_e2 cd_e2 ct_e2), sl_e2⟩)
    (c_e2 : PySem.W.codeIn K cd_e2 "InvalidRule.__init__" = true)
    (k_e2 : PySem.W.keepIn K (.ref f_e2) = true)
    (t_e2 : PySem.W.typeIn K (.ref f_e2) = some (.type "function"))
    (a_e3 : PySem.W.findIn K (.ref C3) "__init__" = some (some (.ref f_e3)))
    (l_e3 : K.lookup f_e3 = some ⟨oc_e3, od_e3, .func (PySem.W.fnOf "__init__" "InvalidText.__init__" (defArgs sTextErrI) (defBody sTextErrI) (defScope sTextErrI) .none kV_e3 dc_e3 pm_e3 an_e3 cd_e3 ct_e3), sl_e3⟩)
    (c_e3 : PySem.W.codeIn K cd_e3 "InvalidText.__init__" = true)
    (k_e3 : PySem.W.keepIn K (.ref f_e3) = true)
    (t_e3 : PySem.W.typeIn K (.ref f_e3) = some (.type "function"))
    (a_eq : PySem.W.findIn K (.ref C) "__eq__" = some (some (.ref f_eq)))
    (l_eq : K.lookup f_eq = some ⟨oc_eq, od_eq, .func (PySem.W.fnOf "__eq__" "Row.__eq__" (defArgs sRowEq) (defBody sRowEq) (defScope sRowEq) .none kV_eq dc_eq pm_eq an_eq cd_eq ct_eq), sl_eq⟩)
    (c_eq : PySem.W.codeIn K cd_eq "Row.__eq__" = true)
    (k_eq : PySem.W.keepIn K (.ref f_eq) = true)
    (i_eq : PySem.W.isFn K (.ref f_eq) = true)
    (a_pi : PySem.W.findIn K (.ref CP) "__init__" = some (some (.ref f_pi)))
    (l_pi : K.lookup f_pi = some ⟨oc_pi, od_pi, .func (PySem.W.fnOf "__init__" "Played.__init__" (defArgs sPlayedInit) (defBody sPlayedInit) (defScope sPlayedInit) .none kV_pi dc_pi pm_pi an_pi cd_pi ct_pi), sl_pi⟩)
    (c_pi : PySem.W.codeIn K cd_pi "Played.__init__" = true)
    (k_pi : PySem.W.keepIn K (.ref f_pi) = true)
    (a_ri : PySem.W.findIn K (.ref C) "__init__" = some (some (.ref f_ri)))
    (l_ri : K.lookup f_ri = some ⟨oc_ri, od_ri, .func (PySem.W.fnOf "__init__" "Row.__init__" (defArgs sRowInit) (defBody sRowInit) (defScope sRowInit) (.ref dTr) kV_ri dc_ri pm_ri an_ri cd_ri ct_ri), sl_ri⟩)
    (c_ri : PySem.W.codeIn K cd_ri "Row.__init__" = true)
    (k_ri : PySem.W.keepIn K (.ref f_ri) = true)
    (d_ri : K.lookup dTr = some ⟨ol_ri, dd_ri, .seq #[.bool false] nd_ri, sm_ri⟩)
    (a_ui : PySem.W.findIn K (.ref CR) "__init__" = some (some (.ref f_ui)))
    (l_ui : K.lookup f_ui = some ⟨oc_ui, od_ui, .func (PySem.W.fnOf "__init__" "Rule.__init__" (defArgs sRuleInit) (defBody sRuleInit) (defScope sRuleInit) (.ref dTu) kV_ui dc_ui pm_ui an_ui cd_ui ct_ui), sl_ui⟩)
    (c_ui : PySem.W.codeIn K cd_ui "Rule.__init__" = true)
    (k_ui : PySem.W.keepIn K (.ref f_ui) = true)
    (d_ui : K.lookup dTu = some ⟨ol_ui, dd_ui, .seq #[.ref eU] nd_ui, sm_ui⟩)
    (pg_C : PySem.W.plainGet K C Str.empty = true)
    (hd_C : PySem.W.hasDictIn K C = true)
    (po_C : PySem.W.plainOver K C = true)
    (sa_C : PySem.W.findIn K (.ref C) "__setattr__" = some (some (.builtin "object.__setattr__")))
    (n_C_mode : PySem.W.findIn K (.ref C) "mode" = some none)
    (n_C_pick : PySem.W.findIn K (.ref C) "pick" = some none)
    (n_C_move : PySem.W.findIn K (.ref C) "move" = some none)
    (n_C_then : PySem.W.findIn K (.ref C) "then" = some none)
    (n_C_also : PySem.W.findIn K (.ref C) "also" = some none)
    (mk_C : PySem.W.makesIn K C = true)
    (kc_C : PySem.W.keepIn K (.ref C) = true)
    (if_C : PySem.W.isFn K (.ref f_ri) = true)
    (pg_CP : PySem.W.plainGet K CP Str.empty = true)
    (hd_CP : PySem.W.hasDictIn K CP = true)
    (po_CP : PySem.W.plainOver K CP = true)
    (sa_CP : PySem.W.findIn K (.ref CP) "__setattr__" = some (some (.builtin "object.__setattr__")))
    (n_CP_grants : PySem.W.findIn K (.ref CP) "grants" = some none)
    (n_CP_done : PySem.W.findIn K (.ref CP) "done" = some none)
    (n_CP_modes : PySem.W.findIn K (.ref CP) "modes" = some none)
    (n_CP_pointers : PySem.W.findIn K (.ref CP) "pointers" = some none)
    (n_CP_faults : PySem.W.findIn K (.ref CP) "faults" = some none)
    (mk_CP : PySem.W.makesIn K CP = true)
    (kc_CP : PySem.W.keepIn K (.ref CP) = true)
    (if_CP : PySem.W.isFn K (.ref f_pi) = true)
    (pg_CR : PySem.W.plainGet K CR Str.empty = true)
    (hd_CR : PySem.W.hasDictIn K CR = true)
    (po_CR : PySem.W.plainOver K CR = true)
    (sa_CR : PySem.W.findIn K (.ref CR) "__setattr__" = some (some (.builtin "object.__setattr__")))
    (n_CR_first : PySem.W.findIn K (.ref CR) "first" = some none)
    (n_CR_rows : PySem.W.findIn K (.ref CR) "rows" = some none)
    (n_CR_modes : PySem.W.findIn K (.ref CR) "modes" = some none)
    (mk_CR : PySem.W.makesIn K CR = true)
    (kc_CR : PySem.W.keepIn K (.ref CR) = true)
    (if_CR : PySem.W.isFn K (.ref f_ui) = true)
    (xL_CE : K.lookup CE = some (excClassObj xn_CE xq_CE CE xN_CE xb_CE [.ref CL, .type "ValueError", .type "Exception", .type "BaseException", .type "object"] true xs_CE xu_CE xa_CE xc_CE xd_CE m0_CE m1_CE m2_CE m3_CE m5_CE "ValueError.__new__"))
    (sx_CE : PySem.W.findIn K (.ref CE) "__setattr__" = some (some (.builtin "object.__setattr__")))
    (ex_CE : PySem.W.subIn K (.ref CE) (.type "BaseException") = some true)
    (ty_CE : PySem.W.typeIn K (.ref CE) = some (.type "type"))
    (ke_CE : PySem.W.keepIn K (.ref CE) = true)
    (no_CE : PySem.W.findIn K (.ref CE) "word" = some none)
    (xL_C2 : K.lookup C2 = some (excClassObj xn_C2 xq_C2 C2 xN_C2 xb_C2 [.ref CL, .type "ValueError", .type "Exception", .type "BaseException", .type "object"] true xs_C2 xu_C2 xa_C2 xc_C2 xd_C2 m0_C2 m1_C2 m2_C2 m3_C2 m5_C2 "ValueError.__new__"))
    (sx_C2 : PySem.W.findIn K (.ref C2) "__setattr__" = some (some (.builtin "object.__setattr__")))
    (ex_C2 : PySem.W.subIn K (.ref C2) (.type "BaseException") = some true)
    (ty_C2 : PySem.W.typeIn K (.ref C2) = some (.type "type"))
    (ke_C2 : PySem.W.keepIn K (.ref C2) = true)
    (no_C2 : PySem.W.findIn K (.ref C2) "word" = some none)
    (xL_C3 : K.lookup C3 = some (excClassObj xn_C3 xq_C3 C3 xN_C3 xb_C3 [.ref CL, .type "ValueError", .type "Exception", .type "BaseException", .type "object"] true xs_C3 xu_C3 xa_C3 xc_C3 xd_C3 m0_C3 m1_C3 m2_C3 m3_C3 m5_C3 "ValueError.__new__"))
    (sx_C3 : PySem.W.findIn K (.ref C3) "__setattr__" = some (some (.builtin "object.__setattr__")))
    (ex_C3 : PySem.W.subIn K (.ref C3) (.type "BaseException") = some true)
    (ty_C3 : PySem.W.typeIn K (.ref C3) = some (.type "type"))
    (ke_C3 : PySem.W.keepIn K (.ref C3) = true)
    (no_C3 : PySem.W.findIn K (.ref C3) "at" = some none)
    (hdE : PySem.W.hasDictIn K CE = true)
    (seE : PySem.W.subIn K (.ref CE) (.ref CE) = some true)
    (ha : PySem.W.findIn K (.ref C) "__class__" = some (some (.builtin "object.__class__")))
    (hn : PySem.W.specialIn K (.builtin "object.__class__") "__get__" = some (some (.builtin "getset_descriptor.__get__")))
    (ht : PySem.W.takesIn K (.builtin "object.__class__") = some true)
    (hm : PySem.W.mroIn K C (.type "object") = some true)
    (ks : PySem.W.kitOne K (.ref C) (.type "str") = some false)
    (kb : PySem.W.kitOne K (.ref C) (.type "bool") = some false)
    (kT : PySem.W.kitOne K (.type "str") (.ref C) = some false)
    (kC : PySem.W.kitOne K (.ref C) (.ref C) = some true)
    (sub : PySem.W.subIn K (.ref C) (.type "str") = some false)
    (rdR : PySem.W.readsIn K CR (.type "type") = true)
    (gaR : PySem.W.specialIn K (.ref CR) "__getattribute__" = some (some (.builtin "type.__getattribute__")))
    (atR : PySem.W.findCls K (.ref CR) (.type "type") "read" = some (.get (.builtin "classmethod.__get__") (.ref pR) .none (.ref CR)))
    (rcR : PySem.W.recIn K pR "classmethod" = some (.ref gR :: restR))
    (fiR : PySem.W.fnIn K gR = true)
    (l_rd : K.lookup gR = some ⟨oc_rd, od_rd, .func (PySem.W.fnOf "read" "Rule.read" (defArgs sRuleRead) (defBody sRuleRead) (defScope sRuleRead) .none kV_rd dc_rd pm_rd an_rd cd_rd ct_rd), sl_rd⟩)
    (c_rd : PySem.W.codeIn K cd_rd "Rule.read" = true)
    (k_rd : PySem.W.keepIn K (.ref gR) = true)
    (z_len : PySem.W.nsIn K mainGlobals "len" = some none)
    (z_abs : PySem.W.nsIn K mainGlobals "abs" = some none)
    (z_int : PySem.W.nsIn K mainGlobals "int" = some none)
    (z_range : PySem.W.nsIn K mainGlobals "range" = some none)
    (z_tuple : PySem.W.nsIn K mainGlobals "tuple" = some none)
    (z_isinstance : PySem.W.nsIn K mainGlobals "isinstance" = some none)
    (z_str : PySem.W.nsIn K mainGlobals "str" = some none)
    (z_bool : PySem.W.nsIn K mainGlobals "bool" = some none)
    (z_enumerate : PySem.W.nsIn K mainGlobals "enumerate" = some none)
    (z_sorted : PySem.W.nsIn K mainGlobals "sorted" = some none)
    (z_set : PySem.W.nsIn K mainGlobals "set" = some none)
    (z_list : PySem.W.nsIn K mainGlobals "list" = some none)
    (z_zip : PySem.W.nsIn K mainGlobals "zip" = some none)
    (z_all : PySem.W.nsIn K mainGlobals "all" = some none)
    (z_max : PySem.W.nsIn K mainGlobals "max" = some none)
    (z_min : PySem.W.nsIn K mainGlobals "min" = some none)
    (lE : K.lookup eU = some ⟨.type "tuple", ddE, .seq #[] nE, slE⟩)
    (gCN : PySem.W.nsIn K mainGlobals "NoRow" = some (some (.ref CN)))
    (a_se : PySem.W.nsIn K mainGlobals "_law_seed" = some (some (.ref f_se)))
    (l_se : K.lookup f_se = some ⟨oc_se, od_se, .func (PySem.W.fnOf "_law_seed" "_law_seed" (defArgs sSeed) (defBody sSeed) (defScope sSeed) .none kV_se dc_se pm_se an_se cd_se ct_se), sl_se⟩)
    (c_se : PySem.W.codeIn K cd_se "_law_seed" = true)
    (k_se : PySem.W.keepIn K (.ref f_se) = true)
    (a_ch : PySem.W.nsIn K mainGlobals "_law_choose" = some (some (.ref f_ch)))
    (l_ch : K.lookup f_ch = some ⟨oc_ch, od_ch, .func (PySem.W.fnOf "_law_choose" "_law_choose" (defArgs sChoose) (defBody sChoose) (defScope sChoose) .none kV_ch dc_ch pm_ch an_ch cd_ch ct_ch), sl_ch⟩)
    (c_ch : PySem.W.codeIn K cd_ch "_law_choose" = true)
    (k_ch : PySem.W.keepIn K (.ref f_ch) = true)
    (a_oo : PySem.W.nsIn K mainGlobals "_law_one_of" = some (some (.ref f_oo)))
    (l_oo : K.lookup f_oo = some ⟨oc_oo, od_oo, .func (PySem.W.fnOf "_law_one_of" "_law_one_of" (defArgs sOneOf) (defBody sOneOf) (defScope sOneOf) .none kV_oo dc_oo pm_oo an_oo cd_oo ct_oo), sl_oo⟩)
    (c_oo : PySem.W.codeIn K cd_oo "_law_one_of" = true)
    (k_oo : PySem.W.keepIn K (.ref f_oo) = true)
    (a_nn : PySem.W.nsIn K mainGlobals "_law_names" = some (some (.ref f_nn)))
    (l_nn : K.lookup f_nn = some ⟨oc_nn, od_nn, .func (PySem.W.fnOf "_law_names" "_law_names" (defArgs sNames) (defBody sNames) (defScope sNames) .none kV_nn dc_nn pm_nn an_nn cd_nn ct_nn), sl_nn⟩)
    (c_nn : PySem.W.codeIn K cd_nn "_law_names" = true)
    (k_nn : PySem.W.keepIn K (.ref f_nn) = true)
    (a_ar : PySem.W.nsIn K mainGlobals "_law_any_row" = some (some (.ref f_ar)))
    (l_ar : K.lookup f_ar = some ⟨oc_ar, od_ar, .func (PySem.W.fnOf "_law_any_row" "_law_any_row" (defArgs sAnyRow) (defBody sAnyRow) (defScope sAnyRow) .none kV_ar dc_ar pm_ar an_ar cd_ar ct_ar), sl_ar⟩)
    (c_ar : PySem.W.codeIn K cd_ar "_law_any_row" = true)
    (k_ar : PySem.W.keepIn K (.ref f_ar) = true)
    (a_fa : PySem.W.nsIn K mainGlobals "_law_fair_rows" = some (some (.ref f_fa)))
    (l_fa : K.lookup f_fa = some ⟨oc_fa, od_fa, .func (PySem.W.fnOf "_law_fair_rows" "_law_fair_rows" (defArgs sFairRows) (defBody sFairRows) (defScope sFairRows) .none kV_fa dc_fa pm_fa an_fa cd_fa ct_fa), sl_fa⟩)
    (c_fa : PySem.W.codeIn K cd_fa "_law_fair_rows" = true)
    (k_fa : PySem.W.keepIn K (.ref f_fa) = true)
    (a_lr : PySem.W.nsIn K mainGlobals "_law_rule" = some (some (.ref f_lr)))
    (l_lr : K.lookup f_lr = some ⟨oc_lr, od_lr, .func (PySem.W.fnOf "_law_rule" "_law_rule" (defArgs sLRule) (defBody sLRule) (defScope sLRule) .none kV_lr dc_lr pm_lr an_lr cd_lr ct_lr), sl_lr⟩)
    (c_lr : PySem.W.codeIn K cd_lr "_law_rule" = true)
    (k_lr : PySem.W.keepIn K (.ref f_lr) = true)
    (a_rw : PySem.W.nsIn K mainGlobals "_law_row_text" = some (some (.ref f_rw)))
    (l_rw : K.lookup f_rw = some ⟨oc_rw, od_rw, .func (PySem.W.fnOf "_law_row_text" "_law_row_text" (defArgs sRowText) (defBody sRowText) (defScope sRowText) .none kV_rw dc_rw pm_rw an_rw cd_rw ct_rw), sl_rw⟩)
    (c_rw : PySem.W.codeIn K cd_rw "_law_row_text" = true)
    (k_rw : PySem.W.keepIn K (.ref f_rw) = true)
    (a_rx : PySem.W.nsIn K mainGlobals "_law_rule_text" = some (some (.ref f_rx)))
    (l_rx : K.lookup f_rx = some ⟨oc_rx, od_rx, .func (PySem.W.fnOf "_law_rule_text" "_law_rule_text" (defArgs sRuleText) (defBody sRuleText) (defScope sRuleText) .none kV_rx dc_rx pm_rx an_rx cd_rx ct_rx), sl_rx⟩)
    (c_rx : PySem.W.codeIn K cd_rx "_law_rule_text" = true)
    (k_rx : PySem.W.keepIn K (.ref f_rx) = true)
    (a_md : PySem.W.nsIn K mainGlobals "_law_made" = some (some (.ref f_md)))
    (l_md : K.lookup f_md = some ⟨oc_md, od_md, .func (PySem.W.fnOf "_law_made" "_law_made" (defArgs sMade) (defBody sMade) (defScope sMade) .none kV_md dc_md pm_md an_md cd_md ct_md), sl_md⟩)
    (c_md : PySem.W.codeIn K cd_md "_law_made" = true)
    (k_md : PySem.W.keepIn K (.ref f_md) = true)
    (a_mi : PySem.W.nsIn K mainGlobals "_law_missed" = some (some (.ref f_mi)))
    (l_mi : K.lookup f_mi = some ⟨oc_mi, od_mi, .func (PySem.W.fnOf "_law_missed" "_law_missed" (defArgs sMissed) (defBody sMissed) (defScope sMissed) .none kV_mi dc_mi pm_mi an_mi cd_mi ct_mi), sl_mi⟩)
    (c_mi : PySem.W.codeIn K cd_mi "_law_missed" = true)
    (k_mi : PySem.W.keepIn K (.ref f_mi) = true)
    (a_st : PySem.W.findIn K (.ref C) "__str__" = some (some (.ref f_st)))
    (l_st : K.lookup f_st = some ⟨oc_st, od_st, .func (PySem.W.fnOf "__str__" "Row.__str__" (defArgs sRowStr) (defBody sRowStr) (defScope sRowStr) .none kV_st dc_st pm_st an_st cd_st ct_st), sl_st⟩)
    (c_st : PySem.W.codeIn K cd_st "Row.__str__" = true)
    (k_st : PySem.W.keepIn K (.ref f_st) = true)
    (i_st : PySem.W.isFn K (.ref f_st) = true)
    (a_qs : PySem.W.findIn K (.ref CR) "__str__" = some (some (.ref f_qs)))
    (l_qs : K.lookup f_qs = some ⟨oc_qs, od_qs, .func (PySem.W.fnOf "__str__" "Rule.__str__" (defArgs sRuleStr) (defBody sRuleStr) (defScope sRuleStr) .none kV_qs dc_qs pm_qs an_qs cd_qs ct_qs), sl_qs⟩)
    (c_qs : PySem.W.codeIn K cd_qs "Rule.__str__" = true)
    (k_qs : PySem.W.keepIn K (.ref f_qs) = true)
    (i_qs : PySem.W.isFn K (.ref f_qs) = true)
    (a_qe : PySem.W.findIn K (.ref CR) "__eq__" = some (some (.ref f_qe)))
    (l_qe : K.lookup f_qe = some ⟨oc_qe, od_qe, .func (PySem.W.fnOf "__eq__" "Rule.__eq__" (defArgs sRuleEq) (defBody sRuleEq) (defScope sRuleEq) .none kV_qe dc_qe pm_qe an_qe cd_qe ct_qe), sl_qe⟩)
    (c_qe : PySem.W.codeIn K cd_qe "Rule.__eq__" = true)
    (k_qe : PySem.W.keepIn K (.ref f_qe) = true)
    (i_qe : PySem.W.isFn K (.ref f_qe) = true)
    (a_ql : PySem.W.findIn K (.ref CR) "__len__" = some (some (.ref f_ql)))
    (l_ql : K.lookup f_ql = some ⟨oc_ql, od_ql, .func (PySem.W.fnOf "__len__" "Rule.__len__" (defArgs sRuleLen) (defBody sRuleLen) (defScope sRuleLen) .none kV_ql dc_ql pm_ql an_ql cd_ql ct_ql), sl_ql⟩)
    (c_ql : PySem.W.codeIn K cd_ql "Rule.__len__" = true)
    (k_ql : PySem.W.keepIn K (.ref f_ql) = true)
    (i_ql : PySem.W.isFn K (.ref f_ql) = true)
    (a_qi : PySem.W.findIn K (.ref CR) "__getitem__" = some (some (.ref f_qi)))
    (l_qi : K.lookup f_qi = some ⟨oc_qi, od_qi, .func (PySem.W.fnOf "__getitem__" "Rule.__getitem__" (defArgs sRuleItem) (defBody sRuleItem) (defScope sRuleItem) .none kV_qi dc_qi pm_qi an_qi cd_qi ct_qi), sl_qi⟩)
    (c_qi : PySem.W.codeIn K cd_qi "Rule.__getitem__" = true)
    (k_qi : PySem.W.keepIn K (.ref f_qi) = true)
    (i_qi : PySem.W.isFn K (.ref f_qi) = true)
    (a_qw : PySem.W.findIn K (.ref CR) "without" = some (some (.ref f_qw)))
    (l_qw : K.lookup f_qw = some ⟨oc_qw, od_qw, .func (PySem.W.fnOf "without" "Rule.without" (defArgs sRuleWithout) (defBody sRuleWithout) (defScope sRuleWithout) .none kV_qw dc_qw pm_qw an_qw cd_qw ct_qw), sl_qw⟩)
    (c_qw : PySem.W.codeIn K cd_qw "Rule.without" = true)
    (k_qw : PySem.W.keepIn K (.ref f_qw) = true)
    (i_qw : PySem.W.isFn K (.ref f_qw) = true)
    (fi_qi : PySem.W.fnIn K f_qi = true)
    (neR : PySem.W.findIn K (.ref CR) "__ne__" = some (some (.builtin "object.__ne__")))
    (haR : PySem.W.findIn K (.ref CR) "__class__" = some (some (.builtin "object.__class__")))
    (hmR : PySem.W.mroIn K CR (.type "object") = some true)
    (kRR : PySem.W.kitOne K (.ref CR) (.ref CR) = some true)
    (suS : PySem.W.subIn K (.ref CR) (.type "str") = some false)
    (kRS : PySem.W.kitOne K (.type "str") (.ref CR) = some false)
    (suT : PySem.W.subIn K (.ref CR) (.type "tuple") = some false)
    (kRT : PySem.W.kitOne K (.type "tuple") (.ref CR) = some false)
    (suN : PySem.W.subIn K (.ref CR) (.type "NoneType") = some false)
    (kRN : PySem.W.kitOne K (.type "NoneType") (.ref CR) = some false)
    (suL : PySem.W.subIn K (.ref CR) (.type "list") = some false)
    (a_en : PySem.W.findIn K (.ref CN) "__init__" = some (some (.ref f_en)))
    (l_en : K.lookup f_en = some ⟨oc_en, od_en, .func (PySem.W.fnOf "__init__" "NoRow.__init__" (defArgs sNoRowI) (defBody sNoRowI) (defScope sNoRowI) .none kV_en dc_en pm_en an_en cd_en ct_en), sl_en⟩)
    (c_en : PySem.W.codeIn K cd_en "NoRow.__init__" = true)
    (k_en : PySem.W.keepIn K (.ref f_en) = true)
    (t_en : PySem.W.typeIn K (.ref f_en) = some (.type "function"))
    (xLN : K.lookup CN = some (excClassObj xnN xqN CN xNN xbN [.type "IndexError", .type "LookupError", .type "Exception", .type "BaseException", .type "object"] true xsN xuN xaN xcN xdN m0N m1N m2N m3N m5N "IndexError.__new__"))
    (sxN : PySem.W.findIn K (.ref CN) "__setattr__" = some (some (.builtin "object.__setattr__")))
    (exN : PySem.W.subIn K (.ref CN) (.type "BaseException") = some true)
    (tyN : PySem.W.typeIn K (.ref CN) = some (.type "type"))
    (keN : PySem.W.keepIn K (.ref CN) = true)
    (noN : PySem.W.findIn K (.ref CN) "at" = some none)
    (gaN : PySem.W.findIn K (.ref CN) "__getattribute__" = some (some (.builtin "BaseException.__getattribute__")))
    (ggN : PySem.W.findIn K (.ref CN) "__getattr__" = some none)
    (hdN : PySem.W.hasDictIn K CN = true)
    (haN : PySem.W.findIn K (.ref CN) "__class__" = some (some (.builtin "object.__class__")))
    (hmN : PySem.W.mroIn K CN (.type "object") = some true)
    (seN : PySem.W.subIn K (.ref CN) (.ref CN) = some true)
    (kNI : PySem.W.kitOne K (.ref CN) (.type "IndexError") = some true)
    (kNL : PySem.W.kitOne K (.ref CN) (.ref CL) = some false)
    (z_IndexError : PySem.W.nsIn K mainGlobals "IndexError" = some none)
    (a_la : PySem.W.nsIn K mainGlobals "law" = some (some (.ref f_la)))
    (l_la : K.lookup f_la = some ⟨oc_la, od_la, .func (PySem.W.fnOf "law" "law" (defArgs sLaw) (defBody sLaw) (defScope sLaw) .none kV_la dc_la pm_la an_la cd_la ct_la), sl_la⟩)
    (c_la : PySem.W.codeIn K cd_la "law" = true)
    (k_la : PySem.W.keepIn K (.ref f_la) = true) :
    EndT l.prog w K mg h fa 10 (spLaw K) := by
  have e := hfa.symm.trans (PySem.W.mg_of X G a_la)
  cases e
  have T : Blt mg := ⟨PySem.W.mg_none_of X G z_len, PySem.W.mg_none_of X G z_abs, PySem.W.mg_none_of X G z_int, PySem.W.mg_none_of X G z_range, PySem.W.mg_none_of X G z_tuple⟩
  have U : Blt2 mg := ⟨PySem.W.mg_none_of X G z_isinstance, PySem.W.mg_none_of X G z_str, PySem.W.mg_none_of X G z_bool⟩
  have Z4 : Blt4 mg := ⟨PySem.W.mg_none_of X G z_enumerate, PySem.W.mg_none_of X G z_sorted, PySem.W.mg_none_of X G z_set⟩
  have Y5 : Blt5 mg := ⟨PySem.W.mg_none_of X G z_int, PySem.W.mg_none_of X G z_bool, PySem.W.mg_none_of X G z_list, PySem.W.mg_none_of X G z_tuple⟩
  have F_nm := fun_mk (st := sIsName) l_nm c_nm k_nm
  have F_iw := fun_mk (st := sIsWhole) l_iw c_iw k_iw
  have F_sq := fun_mk (st := sIsSeq) l_sq c_sq k_sq
  have F_rr := fun_mk (st := sReadRow) l_rr c_rr k_rr
  have F_ig := fun_mk (st := sRegion) l_ig c_ig k_ig
  have F_mv := fun_mk (st := sMoved) l_mv c_mv k_mv
  have F_pl := fun_mk (st := sPlay) l_pl c_pl k_pl
  have F_as := fun_mk (st := sAscending) l_as c_as k_as
  have F_ib := fun_mk (st := sIsBelow) l_ib c_ib k_ib
  have F_ir := fun_mk (st := sIsRound) l_ir c_ir k_ir
  have F_pr := fun_mk (st := sPlayRound) l_pr c_pr k_pr
  have F_gb := fun_mk (st := sGranted) l_gb c_gb k_gb
  have F_fo := fun_mk (st := sFaults) l_fo c_fo k_fo
  have F_rf := fun_mk (st := sFault) l_rf c_rf k_rf
  have F_rs := fun_mk (st := sIsRows) l_rs c_rs k_rs
  have F_mo := fun_mk (st := sModesOf) l_mo c_mo k_mo
  have F_ei := fun_mk (st := sErrInit) l_ei c_ei k_ei
  have F_e2 := fun_mk (st := sRuleErrI) l_e2 c_e2 k_e2
  have F_e3 := fun_mk (st := sTextErrI) l_e3 c_e3 k_e3
  have F_eq := fun_mk (st := sRowEq) l_eq c_eq k_eq
  have F_pi := fun_mk (st := sPlayedInit) l_pi c_pi k_pi
  have F_rd := fun_mk (st := sRuleRead) l_rd c_rd k_rd
  have F_se := fun_mk (st := sSeed) l_se c_se k_se
  have F_ch := fun_mk (st := sChoose) l_ch c_ch k_ch
  have F_oo := fun_mk (st := sOneOf) l_oo c_oo k_oo
  have F_nn := fun_mk (st := sNames) l_nn c_nn k_nn
  have F_ar := fun_mk (st := sAnyRow) l_ar c_ar k_ar
  have F_fa := fun_mk (st := sFairRows) l_fa c_fa k_fa
  have F_lr := fun_mk (st := sLRule) l_lr c_lr k_lr
  have F_rw := fun_mk (st := sRowText) l_rw c_rw k_rw
  have F_rx := fun_mk (st := sRuleText) l_rx c_rx k_rx
  have F_md := fun_mk (st := sMade) l_md c_md k_md
  have F_mi := fun_mk (st := sMissed) l_mi c_mi k_mi
  have F_st := fun_mk (st := sRowStr) l_st c_st k_st
  have F_qs := fun_mk (st := sRuleStr) l_qs c_qs k_qs
  have F_qe := fun_mk (st := sRuleEq) l_qe c_qe k_qe
  have F_ql := fun_mk (st := sRuleLen) l_ql c_ql k_ql
  have F_qi := fun_mk (st := sRuleItem) l_qi c_qi k_qi
  have F_qw := fun_mk (st := sRuleWithout) l_qw c_qw k_qw
  have F_en := fun_mk (st := sNoRowI) l_en c_en k_en
  have F_la := fun_mk (st := sLaw) l_la c_la k_la
  have b_nm := F_nm.binds (ps := ["value"]) fun _ _ _ _ _ _ us hl => match us, hl with | [_], _ => rfl
  have b_iw := F_iw.binds (ps := ["value"]) fun _ _ _ _ _ _ us hl => match us, hl with | [_], _ => rfl
  have b_sq := F_sq.binds (ps := ["value"]) fun _ _ _ _ _ _ us hl => match us, hl with | [_], _ => rfl
  have b_rr := F_rr.binds (ps := ["line"]) fun _ _ _ _ _ _ us hl => match us, hl with | [_], _ => rfl
  have b_ig := F_ig.binds (ps := ["pick", "pointer", "asker"]) fun _ _ _ _ _ _ us hl => match us, hl with | [_, _, _], _ => rfl
  have b_mv := F_mv.binds (ps := ["move", "pointer", "granted"]) fun _ _ _ _ _ _ us hl => match us, hl with | [_, _, _], _ => rfl
  have b_pl := F_pl.binds (ps := ["rule", "askers", "rounds"]) fun _ _ _ _ _ _ us hl => match us, hl with | [_, _, _], _ => rfl
  have b_as := F_as.binds (ps := ["rounds", "is_right"]) fun _ _ _ _ _ _ us hl => match us, hl with | [_, _], _ => rfl
  have b_ib := F_ib.binds (ps := ["value", "bound"]) fun _ _ _ _ _ _ us hl => match us, hl with | [_, _], _ => rfl
  have b_ir := F_ir.binds (ps := ["value", "askers"]) fun _ _ _ _ _ _ us hl => match us, hl with | [_, _], _ => rfl
  have b_pr := F_pr.binds (ps := ["rule", "mode", "pointer", "asking"]) fun _ _ _ _ _ _ us hl => match us, hl with | [_, _, _, _], _ => rfl
  have b_gb := F_gb.binds (ps := ["row", "mode", "pointer", "asking"]) fun _ _ _ _ _ _ us hl => match us, hl with | [_, _, _, _], _ => rfl
  have b_fo := F_fo.binds (ps := ["asked", "grants"]) fun _ _ _ _ _ _ us hl => match us, hl with | [_, _], _ => rfl
  have b_rf := F_rf.binds (ps := ["asking", "granted"]) fun _ _ _ _ _ _ us hl => match us, hl with | [_, _], _ => rfl
  have b_rs := F_rs.binds (ps := ["value"]) fun _ _ _ _ _ _ us hl => match us, hl with | [_], _ => rfl
  have b_mo := F_mo.binds (ps := ["first", "rows"]) fun _ _ _ _ _ _ us hl => match us, hl with | [_, _], _ => rfl
  have b_ei := F_ei.binds (ps := ["self", "word"]) fun _ _ _ _ _ _ us hl => match us, hl with | [_, _], _ => rfl
  have b_e2 := F_e2.binds (ps := ["self", "word"]) fun _ _ _ _ _ _ us hl => match us, hl with | [_, _], _ => rfl
  have b_e3 := F_e3.binds (ps := ["self", "at"]) fun _ _ _ _ _ _ us hl => match us, hl with | [_, _], _ => rfl
  have b_eq := F_eq.binds (ps := ["self", "other"]) fun _ _ _ _ _ _ us hl => match us, hl with | [_, _], _ => rfl
  have b_pi := F_pi.binds (ps := ["self", "grants", "done", "modes", "pointers", "faults"]) fun _ _ _ _ _ _ us hl => match us, hl with | [_, _, _, _, _, _], _ => rfl
  have b_rd := F_rd.binds (ps := ["cls", "text"]) fun _ _ _ _ _ _ us hl => match us, hl with | [_, _], _ => rfl
  have b_se := F_se.binds (ps := ["_law_script", "_law_k"]) fun _ _ _ _ _ _ us hl => match us, hl with | [_, _], _ => rfl
  have b_ch := F_ch.binds (ps := ["_law_box", "_law_many"]) fun _ _ _ _ _ _ us hl => match us, hl with | [_, _], _ => rfl
  have b_oo := F_oo.binds (ps := ["_law_box", "_law_some"]) fun _ _ _ _ _ _ us hl => match us, hl with | [_, _], _ => rfl
  have b_nn := F_nn.binds (ps := ["_law_box"]) fun _ _ _ _ _ _ us hl => match us, hl with | [_], _ => rfl
  have b_ar := F_ar.binds (ps := ["_law_box", "_law_names_here"]) fun _ _ _ _ _ _ us hl => match us, hl with | [_, _], _ => rfl
  have b_fa := F_fa.binds (ps := ["_law_box", "_law_names_here"]) fun _ _ _ _ _ _ us hl => match us, hl with | [_, _], _ => rfl
  have b_lr := F_lr.binds (ps := ["_law_box", "_law_most"]) fun _ _ _ _ _ _ us hl => match us, hl with | [_, _], _ => rfl
  have b_rw := F_rw.binds (ps := ["_law_row"]) fun _ _ _ _ _ _ us hl => match us, hl with | [_], _ => rfl
  have b_rx := F_rx.binds (ps := ["_law_rule_here"]) fun _ _ _ _ _ _ us hl => match us, hl with | [_], _ => rfl
  have b_md := F_md.binds (ps := ["_law_rows"]) fun _ _ _ _ _ _ us hl => match us, hl with | [_], _ => rfl
  have b_mi := F_mi.binds (ps := ["_law_rule_here", "_law_at", "_law_is_without"]) fun _ _ _ _ _ _ us hl => match us, hl with | [_, _, _], _ => rfl
  have b_st := F_st.binds (ps := ["self"]) fun _ _ _ _ _ _ us hl => match us, hl with | [_], _ => rfl
  have b_qs := F_qs.binds (ps := ["self"]) fun _ _ _ _ _ _ us hl => match us, hl with | [_], _ => rfl
  have b_qe := F_qe.binds (ps := ["self", "other"]) fun _ _ _ _ _ _ us hl => match us, hl with | [_, _], _ => rfl
  have b_ql := F_ql.binds (ps := ["self"]) fun _ _ _ _ _ _ us hl => match us, hl with | [_], _ => rfl
  have b_qi := F_qi.binds (ps := ["self", "at"]) fun _ _ _ _ _ _ us hl => match us, hl with | [_, _], _ => rfl
  have b_qw := F_qw.binds (ps := ["self", "at"]) fun _ _ _ _ _ _ us hl => match us, hl with | [_, _], _ => rfl
  have b_en := F_en.binds (ps := ["self", "at"]) fun _ _ _ _ _ _ us hl => match us, hl with | [_, _], _ => rfl
  have D_ri : FunD K "__init__" "Row.__init__" (defArgs sRowInit) (defBody sRowInit) (defScope sRowInit) [.bl false] [] f_ri (PySem.W.fnOf "__init__" "Row.__init__" (defArgs sRowInit) (defBody sRowInit) (defScope sRowInit) (.ref dTr) kV_ri dc_ri pm_ri an_ri cd_ri ct_ri) :=
    ⟨⟨oc_ri, od_ri, _, _, _, _, _, _, _, sl_ri, rfl, l_ri, c_ri, .inr ⟨List.cons_ne_nil _ _, dTr, _, [.bool false], nd_ri, rfl, d_ri, rfl, .cons rfl .nil⟩, .inl rfl⟩, k_ri⟩
  have D_ui : FunD K "__init__" "Rule.__init__" (defArgs sRuleInit) (defBody sRuleInit) (defScope sRuleInit) [.ref eU] [] f_ui (PySem.W.fnOf "__init__" "Rule.__init__" (defArgs sRuleInit) (defBody sRuleInit) (defScope sRuleInit) (.ref dTu) kV_ui dc_ui pm_ui an_ui cd_ui ct_ui) :=
    ⟨⟨oc_ui, od_ui, _, _, _, _, _, _, _, sl_ui, rfl, l_ui, c_ui, .inr ⟨List.cons_ne_nil _ _, dTu, _, [.ref eU], nd_ui, rfl, d_ui, rfl, .cons rfl .nil⟩, .inl rfl⟩, k_ui⟩
  obtain ⟨d6, v6, b6⟩ := row_b6 D_ri
  cases v6
  obtain ⟨d3, v3, b3⟩ := rule_b3 D_ui
  cases v3
  have RC : RowC K mg C := ⟨⟨pg_C, hd_C, po_C, sa_C⟩, ha, hn, ht, hm, ks, kb, n_C_mode, n_C_pick, n_C_move, n_C_then, n_C_also, PySem.W.mg_of X G gC⟩
  have OX_CE : OexC K CE := ⟨⟨xn_CE, xq_CE, xN_CE, xb_CE, _, xs_CE, xu_CE, xa_CE, xc_CE, xd_CE, m0_CE, m1_CE, m2_CE, m3_CE, m5_CE, xL_CE, rfl⟩, sx_CE, ex_CE, ty_CE, ke_CE⟩
  have OX_C2 : OexC K C2 := ⟨⟨xn_C2, xq_C2, xN_C2, xb_C2, _, xs_C2, xu_C2, xa_C2, xc_C2, xd_C2, m0_C2, m1_C2, m2_C2, m3_C2, m5_C2, xL_C2, rfl⟩, sx_C2, ex_C2, ty_C2, ke_C2⟩
  have OX_C3 : OexC K C3 := ⟨⟨xn_C3, xq_C3, xN_C3, xb_C3, _, xs_C3, xu_C3, xa_C3, xc_C3, xd_C3, m0_C3, m1_C3, m2_C3, m3_C3, m5_C3, xL_C3, rfl⟩, sx_C3, ex_C3, ty_C3, ke_C3⟩
  have M : Mk K C f_ri := ⟨mk_C, a_ri, if_C, kc_C⟩
  have MP : Mk K CP f_pi := ⟨mk_CP, a_pi, if_CP, kc_CP⟩
  have MU : Mk K CR f_ui := ⟨mk_CR, a_ui, if_CR, kc_CR⟩
  have clR : Cls K CR := ⟨pg_CR, hd_CR, po_CR, sa_CR⟩
  have PC : PlC K CP := ⟨⟨pg_CP, hd_CP, po_CP, sa_CP⟩, n_CP_grants, n_CP_done, n_CP_modes, n_CP_pointers, n_CP_faults⟩
  have RCl : RuleC K CR := ⟨clR, n_CR_rows⟩
  have te := PySem.W.exm_ref ex_CE hdE ty_CE seE
  have five : (5 : Nat) ≤ sizeLine := by decide
  have three : (3 : Nat) ≤ sizeLine := by decide
  refine ⟨PySem.W.fnOf "law" "law" (defArgs sLaw) (defBody sLaw) (defScope sLaw) .none kV_la dc_la pm_la an_la cd_la ct_la, cPl, tPl, hTab _ (List.mem_singleton.mpr rfl), noPl, PySem.W.codeHd_of_K X hdPl, fun s v => .of_eq rfl, fun base _ _ TBp => ?_⟩
  have g_nm : FnOk l.prog w K mg base CX0 1 f_nm _ ["value"] (spIsName K) := ok_isname F_nm T U
  have g_ei : FnOk l.prog w K mg base CX0 1 f_ei _ ["self", "word"] (spErr CE) := ok_err F_ei OX_CE no_CE
  have g_eq : FnOk l.prog w K mg base CX0 1 f_eq _ ["self", "other"] (spEqT C) := ok_eqT F_eq RC U kT
  have RG : RowG l.prog w K mg base C CE := ⟨RC, ⟨f_nm, _, g_nm, b_nm, k_nm, PySem.W.mg_of X G a_nm⟩, ⟨f_ei, _, g_ei, b_ei, a_ei, t_ei⟩, OX_CE, PySem.W.mg_of X G gCE, ⟨f_eq, _, g_eq, b_eq, a_eq, i_eq⟩, sub,
    ⟨pP, PySem.W.mg_of X G gpP, fun H => .inr ⟨_, _, _, lP, rfl, rfl, five, .cons ⟨_, rfl⟩ (.cons ⟨_, rfl⟩ (.cons ⟨_, rfl⟩ (.cons ⟨_, rfl⟩ (.cons ⟨_, rfl⟩ .nil))))⟩⟩,
    ⟨pM, PySem.W.mg_of X G gpM, fun H => .inr ⟨_, _, _, lM, rfl, rfl, three, .cons ⟨_, rfl⟩ (.cons ⟨_, rfl⟩ (.cons ⟨_, rfl⟩ .nil))⟩⟩⟩
  have g_ri : FnOk l.prog w K mg base (L2.CX l.prog w) 3 f_ri _ ["self", "mode", "pick", "move", "then", "also"] (spRow K C CE) := ok_row D_ri RG U
  have g_rr : FnOk l.prog w K mg base CX0 5 f_rr _ ["line"] (spReadRow C) := ok_readrow F_rr T RC (PySem.W.mg_of X G gCE) te M g_ri b6
  have g_ig : FnOk l.prog w K mg base CX0 1 f_ig _ ["pick", "pointer", "asker"] spRegion := ok_region F_ig
  have g_mv : FnOk l.prog w K mg base CX0 1 f_mv _ ["move", "pointer", "granted"] spMoved := ok_moved F_mv
  have g_gb : FnOk l.prog w K mg base CX0 2 f_gb _ ["row", "mode", "pointer", "asking"] (spGranted K C) := ok_granted F_gb RC g_ig b_ig k_ig (PySem.W.mg_of X G a_ig)
  have g_rf : FnOk l.prog w K mg base CX0 1 f_rf _ ["asking", "granted"] (spFault K) := ok_fault F_rf T
  have g_fo : FnOk l.prog w K mg base CX0 2 f_fo _ ["asked", "grants"] (spFaults K) := ok_faults F_fo T (PySem.W.mg_none_of X G z_zip) g_rf b_rf k_rf (PySem.W.mg_of X G a_rf)
  have g_pr : FnOk l.prog w K mg base CX0 3 f_pr _ ["rule", "mode", "pointer", "asking"] (spPlayRound K C CR) := ok_playround F_pr T Z4 RC RCl g_gb b_gb k_gb (PySem.W.mg_of X G a_gb) g_mv b_mv k_mv (PySem.W.mg_of X G a_mv)
  have g_sq : FnOk l.prog w K mg base CX0 1 f_sq _ ["value"] (spSeq K) := ok_seq F_sq U Y5
  have g_iw : FnOk l.prog w K mg base CX0 1 f_iw _ ["value"] (spWhole K) := ok_whole F_iw U Y5
  have g_ib : FnOk l.prog w K mg base CX0 2 f_ib _ ["value", "bound"] (spBelow K) := ok_below F_ib g_iw b_iw k_iw (PySem.W.mg_of X G a_iw)
  have g_ir : FnOk l.prog w K mg base CX0 3 f_ir _ ["value", "askers"] (spIsRound K) := ok_isround F_ir Z4 T (PySem.W.mg_none_of X G z_all) g_sq b_sq k_sq (PySem.W.mg_of X G a_sq) g_ib b_ib k_ib (PySem.W.mg_of X G a_ib)
  have g_pi : FnOk l.prog w K mg base CX0 1 f_pi _ ["self", "grants", "done", "modes", "pointers", "faults"] (spPlayedI CP) := ok_playedI F_pi PC
  have g_pl : FnOk l.prog w K mg base CX0 6 f_pl _ ["rule", "askers", "rounds"] (spPlay K (playT tPl) C CR CP) := ok_play l_pl c_pl T Z4 RCl n_CR_first TBp rfl g_sq b_sq k_sq (PySem.W.mg_of X G a_sq) g_ir b_ir k_ir (PySem.W.mg_of X G a_ir) F_as b_as (PySem.W.mg_of X G a_as) g_pr b_pr k_pr (PySem.W.mg_of X G a_pr) g_fo b_fo k_fo (PySem.W.mg_of X G a_fo) MP g_pi b_pi (PySem.W.mg_of X G gCP)
  have g_rs : FnOk l.prog w K mg base CX0 2 f_rs _ ["value"] (spIsRows K C) := ok_isrows F_rs U (PySem.W.mg_none_of X G z_all) (PySem.W.mg_of X G gC) g_sq b_sq k_sq (PySem.W.mg_of X G a_sq)
  have g_mo : FnOk l.prog w K mg base CX0 1 f_mo _ ["first", "rows"] (spModes K C) := ok_modes F_mo T Z4 RC
  have g_e2 : FnOk l.prog w K mg base CX0 1 f_e2 _ ["self", "word"] (spErrA C2 "word") := ok_errRule F_e2 OX_C2 no_C2
  have g_e3 : FnOk l.prog w K mg base CX0 1 f_e3 _ ["self", "at"] (spErrA C3 "at") := ok_errText F_e3 OX_C3 no_C3
  have UG : RuleG l.prog w K mg base C CR C2 := ⟨RC, kC, clR, n_CR_first, n_CR_rows, n_CR_modes, ⟨f_nm, _, g_nm, b_nm, k_nm, PySem.W.mg_of X G a_nm⟩, ⟨f_rs, _, g_rs, b_rs, k_rs, PySem.W.mg_of X G a_rs⟩, ⟨f_mo, _, g_mo, b_mo, k_mo, PySem.W.mg_of X G a_mo⟩, ⟨f_e2, _, g_e2, b_e2, a_e2, t_e2⟩, OX_C2, PySem.W.mg_of X G gC2⟩
  have g_ui : FnOk l.prog w K mg base (L2.CX l.prog w) 3 f_ui _ ["self", "first", "rows"] (spRuleI K C CR C2) := ok_ruleI D_ui UG T
  have RdG : ReadG l.prog w K mg base C CR C2 C3 := ⟨RC, ⟨f_nm, _, g_nm, b_nm, k_nm, PySem.W.mg_of X G a_nm⟩, ⟨f_rr, _, g_rr, b_rr, k_rr, PySem.W.mg_of X G a_rr⟩, ⟨f_ui, _, MU, g_ui, b3⟩, ⟨f_e3, _, g_e3, b_e3, a_e3, t_e3⟩, OX_C3, PySem.W.mg_of X G gC3⟩
  have g_rd : FnOk l.prog w K mg base (L2.CX l.prog w) 6 gR _ ["cls", "text"] (spRead K C CR C3) := ok_read F_rd RdG T
  have r_rd : FnR l.prog w K mg base (L2.CX l.prog w) 6 gR (spRead K C CR C3) := (g_rd.raw b_rd .nil).imp fun vs H Q E h => by
    rw [List.append_nil]
    exact h
  have RdX : ∃ (g p : Addr) (mc : Value), ClX.CRead K CR mc ∧ ClX.CMet K CR mc "read" p g ∧ FnR l.prog w K mg base (L2.CX l.prog w) 6 g (spRead K C CR C3) := ⟨gR, pR, .type "type", ⟨rdR, gaR⟩, ⟨atR, ⟨restR, rcR⟩, fiR⟩, r_rd⟩
  have Z6 : Blt6 mg := ⟨PySem.W.mg_none_of X G z_max, PySem.W.mg_none_of X G z_min⟩
  obtain ⟨d2, v2, b2⟩ := rule_b2 D_ui
  obtain ⟨d5, v5, b5⟩ := row_b5 D_ri
  have emp : ∀ H : Hp, SqT K H eU [] := fun H => .inr ⟨_, _, _, lE, rfl, rfl, Nat.zero_le _, .nil⟩
  have MG : MethG l.prog w K mg base C CR C2 := ⟨clR, n_CR_first, n_CR_rows, haR, hn, ht, hmR, kRR, PySem.W.mg_of X G gCR, RC, ⟨f_ui, _, MU, g_ui, b3⟩, ⟨f_ib, _, g_ib, b_ib, k_ib, PySem.W.mg_of X G a_ib⟩⟩
  have EN : EC K CN "IndexError" "IndexError.__new__" "IndexError.__init__" [.type "IndexError", .type "LookupError", .type "Exception", .type "BaseException", .type "object"] := ⟨PySem.F.excBase_IndexError, PySem.F.store_IndexError.passes, by decide +kernel, ⟨_, _, _, _, _, _, _, _, _, _, _, _, _, _, [], xLN⟩, sxN, keN⟩
  have g_en : FnOk l.prog w K mg base CX0 1 f_en _ ["self", "at"] (spErrA CN "at") := ok_errNoRow F_en EN noN
  have NG : NoRowG l.prog w K mg base CN := ⟨⟨_, _, _, _, EN⟩, exN, tyN, ⟨f_en, _, g_en, b_en, a_en, t_en⟩, PySem.W.mg_of X G gCN⟩
  have MI : MissG K mg CN CL := ⟨⟨gaN, ggN, exN, hdN, haN, hn, ht, hmN⟩, ⟨gaN, ggN, exN, hdN⟩, noN, PySem.W.mg_of X G gCN, PySem.W.mg_of X G gCL, PySem.W.mg_none_of X G z_IndexError, kNI, kNL, PySem.W.exm_ref exN hdN tyN seN⟩
  have g_se : FnOk l.prog w K mg base CX0 1 f_se _ ["_law_script", "_law_k"] (spSeed K) := ok_seed F_se T
  have g_ch : FnOk l.prog w K mg base CX0 1 f_ch _ ["_law_box", "_law_many"] spChoose := ok_choose F_ch T
  have g_oo : FnOk l.prog w K mg base CX0 2 f_oo _ ["_law_box", "_law_some"] (spOneOf K) := ok_oneof F_oo T g_ch b_ch k_ch (PySem.W.mg_of X G a_ch)
  have g_nn : FnOk l.prog w K mg base CX0 3 f_nn _ ["_law_box"] spNames := ok_names F_nn g_oo b_oo k_oo (PySem.W.mg_of X G a_oo)
  have g_ar : FnOk l.prog w K mg base CX0 3 f_ar _ ["_law_box", "_law_names_here"] (spAnyRow K) := ok_anyrow F_ar g_ch b_ch k_ch (PySem.W.mg_of X G a_ch) g_oo b_oo k_oo (PySem.W.mg_of X G a_oo)
  have g_fa : FnOk l.prog w K mg base CX0 3 f_fa _ ["_law_box", "_law_names_here"] spFair := ok_fair F_fa T Z4 g_ch b_ch k_ch (PySem.W.mg_of X G a_ch) g_oo b_oo k_oo (PySem.W.mg_of X G a_oo)
  have g_lr : FnOk l.prog w K mg base CX0 4 f_lr _ ["_law_box", "_law_most"] spLRule := ok_lrule F_lr T g_ch b_ch k_ch (PySem.W.mg_of X G a_ch) g_nn b_nn k_nn (PySem.W.mg_of X G a_nn) g_fa b_fa k_fa (PySem.W.mg_of X G a_fa) g_ar b_ar k_ar (PySem.W.mg_of X G a_ar)
  have g_rw : FnOk l.prog w K mg base CX0 1 f_rw _ ["_law_row"] (spText K) := ok_rowtext F_rw
  have g_rx : FnOk l.prog w K mg base CX0 2 f_rx _ ["_law_rule_here"] spRText := ok_rtext F_rx g_rw b_rw k_rw (PySem.W.mg_of X G a_rw)
  have g_st : FnOk l.prog w K mg base CX0 1 f_st _ ["self"] (spStr C) := ok_str F_st RC
  have g_qs : FnOk l.prog w K mg base CX0 4 f_qs _ ["self"] (spRStr K C CR) := ok_rstr F_qs MG U g_st b_st a_st i_st
  have g_qe : FnOk l.prog w K mg base CX0 7 f_qe _ ["self", "other"] (spREq K C CR) := ok_req F_qe MG U g_qs b_qs a_qs i_qs
  have g_qo : FnOk l.prog w K mg base CX0 7 f_qe _ ["self", "other"] (spREqO K C CR) := ok_reqO F_qe MG U g_qs b_qs a_qs i_qs
  have g_ql : FnOk l.prog w K mg base CX0 1 f_ql _ ["self"] (spRLen K C CR) := ok_rlen F_ql MG T
  have g_qi : FnOk l.prog w K mg base (L2.CX l.prog w) 3 f_qi _ ["self", "at"] (spRItemX K C CR CN) := ok_ritemX F_qi MG NG T
  have g_qw : FnOk l.prog w K mg base (L2.CX l.prog w) 5 f_qw _ ["self", "at"] (spRWithoutX K C CR CN) := ok_rwithoutX F_qw MG NG T
  have meW : Meth K CR "without" f_qw := ⟨a_qw, i_qw, k_qw⟩
  have g_md : FnOk l.prog w K mg base CX0 5 f_md _ ["_law_rows"] (spMade C) := ok_made F_md M g_ri b6 (PySem.W.mg_of X G gC)
  have g_mi : FnOk l.prog w K mg base CX0 6 f_mi _ ["_law_rule_here", "_law_at", "_law_is_without"] (spMissed K C CR) := ok_missed F_mi U MI clR g_qi b_qi a_qi i_qi fi_qi g_qw b_qw meW
  exact ok_law F_la T U Z4 Z6 ⟨⟨f_se, _, g_se, b_se, k_se, PySem.W.mg_of X G a_se⟩, ⟨f_ch, _, g_ch, b_ch, k_ch, PySem.W.mg_of X G a_ch⟩, ⟨f_lr, _, g_lr, b_lr, k_lr, PySem.W.mg_of X G a_lr⟩, ⟨f_rx, _, g_rx, b_rx, k_rx, PySem.W.mg_of X G a_rx⟩, ⟨f_rw, _, g_rw, b_rw, k_rw, PySem.W.mg_of X G a_rw⟩, ⟨f_md, _, g_md, b_md, k_md, PySem.W.mg_of X G a_md⟩, ⟨f_mi, _, g_mi, b_mi, k_mi, PySem.W.mg_of X G a_mi⟩, ⟨f_st, _, g_st, b_st, a_st, i_st⟩, ⟨f_qs, _, g_qs, b_qs, a_qs, i_qs⟩, ⟨f_ql, _, g_ql, b_ql, a_ql, i_ql⟩, ⟨f_qe, _, g_qe, g_qo, b_qe, a_qe, i_qe, neR, hmR⟩, ⟨f_qi, _, g_qi, b_qi, a_qi, i_qi, fi_qi⟩, ⟨f_qw, _, meW, g_qw, b_qw⟩,
    ⟨f_ui, _, d2, MU, g_ui, b3, v2, b2⟩, ⟨f_ri, _, d5, M, g_ri, v5, b5⟩, emp, ⟨suS, suN, suT, suL⟩, kRS, kRT, kRN, clR, n_CR_first, n_CR_rows, n_CR_modes, RC, PySem.W.mg_of X G gCR, PySem.W.mg_of X G gC⟩
theorem walk {l : PySem.W.OpenLaw} {q : Program} {loose : List Str} {XP : (Str → Option Value) → Heap → Prop} {YP : World → Heap → Prop} {d : DefRec} {K : Params → PySem.W.Frag} (hn : l.most = some 63) (hdf : d.params.defaults = [])
    (hY : ∀ (w : World) (h : Heap), YP w h → (K w.params).In h)
    (F : ∀ (w : World) (mg : Str → Option Value) (fa : Addr) (h : Heap), YP w h → (K w.params).In h → h.Ns mainGlobals mg → mg d.name = some (.ref fa) → EndT l.prog w (K w.params) mg h fa 10 (spLaw (K w.params))) :
    PySem.W.WalkO q loose XP YP l.row.toRowW d [] (fun f vs => PySem.call f vs) :=
  LamX.walk_ofTs (n := 63) (k := 10) (x := "_law_script") (CX := fun _ => CX0) hn (by decide) hdf ⟨rfl, by decide, by decide⟩ hY (fun w mg fa h Y KX G hm => by
    obtain ⟨fd, cP, tP, e1, e2, e3, e4, e5⟩ := F w mg fa h Y KX G hm
    refine ⟨fd, [(cP, tP)], spLaw (K w.params) (playT tP), fun p mp => ?_, fun p mp => ?_, fun p mp => ?_, e4, fun H a ns hl _ hT hS => ⟨a, ns, rfl, hS, hl, fun p mp => ?_, fun _ => rfl⟩, fun base h1 h2 h3 => e5 base h1 h2 (h3 _ (List.mem_singleton.mpr rfl))⟩
    · rw [List.mem_singleton.mp mp]
      exact e1
    · rw [List.mem_singleton.mp mp]
      exact e2
    · rw [List.mem_singleton.mp mp]
      exact e3
    · rw [List.mem_singleton.mp mp]
      exact LamX.TabS.nil (hT (cP, tP) (List.mem_singleton.mpr rfl))) fun _ _ _ _ _ z => z
end LT
open PySem PySem.W PyProof.Rows
set_option maxRecDepth 100000 in
set_option maxHeartbeats 0 in
theorem PySem.Challenge.cw_lineturns_k04_rules_made_holds : PySem.Challenge.rw_lineturns_k04_rules_made.Holds := by
  w_on; o_law; k_head; (case hw => w_witness2)
  k_fill
  refine LT.walk (l := PySem.Challenge.rw_lineturns_k04_rules_made) rfl rfl (fun w h Y => PySem.W.km_in_of Y) ?F
  case F =>
    intro w mg fa h Y KX G hmg
    refine' LT.all_mk KX G hmg (PySem.W.km_tabs_of Y) ?gC ?gCE ?gC2 ?gC3 ?gCL ?gCP ?gCR ?gpP ?gpM ?lP ?lM ?a_nm ?l_nm ?c_nm ?k_nm ?a_iw ?l_iw ?c_iw ?k_iw ?a_sq ?l_sq ?c_sq ?k_sq ?a_rr ?l_rr ?c_rr ?k_rr ?a_ig ?l_ig ?c_ig ?k_ig ?a_mv ?l_mv ?c_mv ?k_mv ?a_pl ?l_pl ?c_pl ?k_pl ?a_as ?l_as ?c_as ?k_as ?a_ib ?l_ib ?c_ib ?k_ib ?a_ir ?l_ir ?c_ir ?k_ir ?a_pr ?l_pr ?c_pr ?k_pr ?a_gb ?l_gb ?c_gb ?k_gb ?a_fo ?l_fo ?c_fo ?k_fo ?a_rf ?l_rf ?c_rf ?k_rf ?a_rs ?l_rs ?c_rs ?k_rs ?a_mo ?l_mo ?c_mo ?k_mo ?hdPl ?noPl ?a_ei ?l_ei ?c_ei ?k_ei ?t_ei ?a_e2 ?l_e2 ?c_e2 ?k_e2 ?t_e2 ?a_e3 ?l_e3 ?c_e3 ?k_e3 ?t_e3 ?a_eq ?l_eq ?c_eq ?k_eq ?i_eq ?a_pi ?l_pi ?c_pi ?k_pi ?a_ri ?l_ri ?c_ri ?k_ri ?d_ri ?a_ui ?l_ui ?c_ui ?k_ui ?d_ui ?pg_C ?hd_C ?po_C ?sa_C ?n_C_mode ?n_C_pick ?n_C_move ?n_C_then ?n_C_also ?mk_C ?kc_C ?if_C ?pg_CP ?hd_CP ?po_CP ?sa_CP ?n_CP_grants ?n_CP_done ?n_CP_modes ?n_CP_pointers ?n_CP_faults ?mk_CP ?kc_CP ?if_CP ?pg_CR ?hd_CR ?po_CR ?sa_CR ?n_CR_first ?n_CR_rows ?n_CR_modes ?mk_CR ?kc_CR ?if_CR ?xL_CE ?sx_CE ?ex_CE ?ty_CE ?ke_CE ?no_CE ?xL_C2 ?sx_C2 ?ex_C2 ?ty_C2 ?ke_C2 ?no_C2 ?xL_C3 ?sx_C3 ?ex_C3 ?ty_C3 ?ke_C3 ?no_C3 ?hdE ?seE ?ha ?hn ?ht ?hm ?ks ?kb ?kT ?kC ?sub ?rdR ?gaR ?atR ?rcR ?fiR ?l_rd ?c_rd ?k_rd ?z_len ?z_abs ?z_int ?z_range ?z_tuple ?z_isinstance ?z_str ?z_bool ?z_enumerate ?z_sorted ?z_set ?z_list ?z_zip ?z_all ?z_max ?z_min ?lE ?gCN ?a_se ?l_se ?c_se ?k_se ?a_ch ?l_ch ?c_ch ?k_ch ?a_oo ?l_oo ?c_oo ?k_oo ?a_nn ?l_nn ?c_nn ?k_nn ?a_ar ?l_ar ?c_ar ?k_ar ?a_fa ?l_fa ?c_fa ?k_fa ?a_lr ?l_lr ?c_lr ?k_lr ?a_rw ?l_rw ?c_rw ?k_rw ?a_rx ?l_rx ?c_rx ?k_rx ?a_md ?l_md ?c_md ?k_md ?a_mi ?l_mi ?c_mi ?k_mi ?a_st ?l_st ?c_st ?k_st ?i_st ?a_qs ?l_qs ?c_qs ?k_qs ?i_qs ?a_qe ?l_qe ?c_qe ?k_qe ?i_qe ?a_ql ?l_ql ?c_ql ?k_ql ?i_ql ?a_qi ?l_qi ?c_qi ?k_qi ?i_qi ?a_qw ?l_qw ?c_qw ?k_qw ?i_qw ?fi_qi ?neR ?haR ?hmR ?kRR ?suS ?kRS ?suT ?kRT ?suN ?kRN ?suL ?a_en ?l_en ?c_en ?k_en ?t_en ?xLN ?sxN ?exN ?tyN ?keN ?noN ?gaN ?ggN ?hdN ?haN ?hmN ?seN ?kNI ?kNL ?z_IndexError ?a_la ?l_la ?c_la ?k_la
    (case gC => k_is)
    (case gCE => k_is)
    (case gC2 => k_is)
    (case gC3 => k_is)
    (case gCL => k_is)
    (case gCP => k_is)
    (case gCR => k_is)
    (case gpP => k_is)
    (case gpM => k_is)
    (case lP => k_is)
    (case lM => k_is)
    (case a_nm => k_is)
    (case l_nm => k_is)
    (case c_nm => k_is)
    (case k_nm => k_is)
    (case a_iw => k_is)
    (case l_iw => k_is)
    (case c_iw => k_is)
    (case k_iw => k_is)
    (case a_sq => k_is)
    (case l_sq => k_is)
    (case c_sq => k_is)
    (case k_sq => k_is)
    (case a_rr => k_is)
    (case l_rr => k_is)
    (case c_rr => k_is)
    (case k_rr => k_is)
    (case a_ig => k_is)
    (case l_ig => k_is)
    (case c_ig => k_is)
    (case k_ig => k_is)
    (case a_mv => k_is)
    (case l_mv => k_is)
    (case c_mv => k_is)
    (case k_mv => k_is)
    (case a_pl => k_is)
    (case l_pl => k_is)
    (case c_pl => k_is)
    (case k_pl => k_is)
    (case a_as => k_is)
    (case l_as => k_is)
    (case c_as => k_is)
    (case k_as => k_is)
    (case a_ib => k_is)
    (case l_ib => k_is)
    (case c_ib => k_is)
    (case k_ib => k_is)
    (case a_ir => k_is)
    (case l_ir => k_is)
    (case c_ir => k_is)
    (case k_ir => k_is)
    (case a_pr => k_is)
    (case l_pr => k_is)
    (case c_pr => k_is)
    (case k_pr => k_is)
    (case a_gb => k_is)
    (case l_gb => k_is)
    (case c_gb => k_is)
    (case k_gb => k_is)
    (case a_fo => k_is)
    (case l_fo => k_is)
    (case c_fo => k_is)
    (case k_fo => k_is)
    (case a_rf => k_is)
    (case l_rf => k_is)
    (case c_rf => k_is)
    (case k_rf => k_is)
    (case a_rs => k_is)
    (case l_rs => k_is)
    (case c_rs => k_is)
    (case k_rs => k_is)
    (case a_mo => k_is)
    (case l_mo => k_is)
    (case c_mo => k_is)
    (case k_mo => k_is)
    (case hdPl => kernel_rfl)
    (case noPl => kernel_rfl)
    (case a_ei => k_is)
    (case l_ei => k_is)
    (case c_ei => k_is)
    (case k_ei => k_is)
    (case t_ei => k_is)
    (case a_e2 => k_is)
    (case l_e2 => k_is)
    (case c_e2 => k_is)
    (case k_e2 => k_is)
    (case t_e2 => k_is)
    (case a_e3 => k_is)
    (case l_e3 => k_is)
    (case c_e3 => k_is)
    (case k_e3 => k_is)
    (case t_e3 => k_is)
    (case a_eq => k_is)
    (case l_eq => k_is)
    (case c_eq => k_is)
    (case k_eq => k_is)
    (case i_eq => k_is)
    (case a_pi => k_is)
    (case l_pi => k_is)
    (case c_pi => k_is)
    (case k_pi => k_is)
    (case a_ri => k_is)
    (case l_ri => k_is)
    (case c_ri => k_is)
    (case k_ri => k_is)
    (case d_ri => k_is)
    (case a_ui => k_is)
    (case l_ui => k_is)
    (case c_ui => k_is)
    (case k_ui => k_is)
    (case d_ui => k_is)
    (case pg_C => k_is)
    (case hd_C => k_is)
    (case po_C => k_is)
    (case sa_C => k_is)
    (case n_C_mode => k_is)
    (case n_C_pick => k_is)
    (case n_C_move => k_is)
    (case n_C_then => k_is)
    (case n_C_also => k_is)
    (case mk_C => k_is)
    (case kc_C => k_is)
    (case if_C => k_is)
    (case pg_CP => k_is)
    (case hd_CP => k_is)
    (case po_CP => k_is)
    (case sa_CP => k_is)
    (case n_CP_grants => k_is)
    (case n_CP_done => k_is)
    (case n_CP_modes => k_is)
    (case n_CP_pointers => k_is)
    (case n_CP_faults => k_is)
    (case mk_CP => k_is)
    (case kc_CP => k_is)
    (case if_CP => k_is)
    (case pg_CR => k_is)
    (case hd_CR => k_is)
    (case po_CR => k_is)
    (case sa_CR => k_is)
    (case n_CR_first => k_is)
    (case n_CR_rows => k_is)
    (case n_CR_modes => k_is)
    (case mk_CR => k_is)
    (case kc_CR => k_is)
    (case if_CR => k_is)
    (case xL_CE => k_is)
    (case sx_CE => k_is)
    (case ex_CE => k_is)
    (case ty_CE => k_is)
    (case ke_CE => k_is)
    (case no_CE => k_is)
    (case xL_C2 => k_is)
    (case sx_C2 => k_is)
    (case ex_C2 => k_is)
    (case ty_C2 => k_is)
    (case ke_C2 => k_is)
    (case no_C2 => k_is)
    (case xL_C3 => k_is)
    (case sx_C3 => k_is)
    (case ex_C3 => k_is)
    (case ty_C3 => k_is)
    (case ke_C3 => k_is)
    (case no_C3 => k_is)
    (case hdE => k_is)
    (case seE => k_is)
    (case ha => k_is)
    (case hn => k_is)
    (case ht => k_is)
    (case hm => k_is)
    (case ks => kit_is)
    (case kb => kit_is)
    (case kT => kit_is)
    (case kC => kit_is)
    (case sub => k_is)
    (case rdR => k_is)
    (case gaR => k_is)
    (case atR => k_is)
    (case rcR => k_is)
    (case fiR => k_is)
    (case l_rd => k_is)
    (case c_rd => k_is)
    (case k_rd => k_is)
    (case z_len => k_is)
    (case z_abs => k_is)
    (case z_int => k_is)
    (case z_range => k_is)
    (case z_tuple => k_is)
    (case z_isinstance => k_is)
    (case z_str => k_is)
    (case z_bool => k_is)
    (case z_enumerate => k_is)
    (case z_sorted => k_is)
    (case z_set => k_is)
    (case z_list => k_is)
    (case z_zip => k_is)
    (case z_all => k_is)
    (case z_max => k_is)
    (case z_min => k_is)
    (case lE => k_is)
    (case gCN => k_is)
    (case a_se => k_is)
    (case l_se => k_is)
    (case c_se => k_is)
    (case k_se => k_is)
    (case a_ch => k_is)
    (case l_ch => k_is)
    (case c_ch => k_is)
    (case k_ch => k_is)
    (case a_oo => k_is)
    (case l_oo => k_is)
    (case c_oo => k_is)
    (case k_oo => k_is)
    (case a_nn => k_is)
    (case l_nn => k_is)
    (case c_nn => k_is)
    (case k_nn => k_is)
    (case a_ar => k_is)
    (case l_ar => k_is)
    (case c_ar => k_is)
    (case k_ar => k_is)
    (case a_fa => k_is)
    (case l_fa => k_is)
    (case c_fa => k_is)
    (case k_fa => k_is)
    (case a_lr => k_is)
    (case l_lr => k_is)
    (case c_lr => k_is)
    (case k_lr => k_is)
    (case a_rw => k_is)
    (case l_rw => k_is)
    (case c_rw => k_is)
    (case k_rw => k_is)
    (case a_rx => k_is)
    (case l_rx => k_is)
    (case c_rx => k_is)
    (case k_rx => k_is)
    (case a_md => k_is)
    (case l_md => k_is)
    (case c_md => k_is)
    (case k_md => k_is)
    (case a_mi => k_is)
    (case l_mi => k_is)
    (case c_mi => k_is)
    (case k_mi => k_is)
    (case a_st => k_is)
    (case l_st => k_is)
    (case c_st => k_is)
    (case k_st => k_is)
    (case i_st => k_is)
    (case a_qs => k_is)
    (case l_qs => k_is)
    (case c_qs => k_is)
    (case k_qs => k_is)
    (case i_qs => k_is)
    (case a_qe => k_is)
    (case l_qe => k_is)
    (case c_qe => k_is)
    (case k_qe => k_is)
    (case i_qe => k_is)
    (case a_ql => k_is)
    (case l_ql => k_is)
    (case c_ql => k_is)
    (case k_ql => k_is)
    (case i_ql => k_is)
    (case a_qi => k_is)
    (case l_qi => k_is)
    (case c_qi => k_is)
    (case k_qi => k_is)
    (case i_qi => k_is)
    (case a_qw => k_is)
    (case l_qw => k_is)
    (case c_qw => k_is)
    (case k_qw => k_is)
    (case i_qw => k_is)
    (case fi_qi => k_is)
    (case neR => k_is)
    (case haR => k_is)
    (case hmR => k_is)
    (case kRR => kit_is)
    (case suS => k_is)
    (case kRS => kit_is)
    (case suT => k_is)
    (case kRT => kit_is)
    (case suN => k_is)
    (case kRN => kit_is)
    (case suL => k_is)
    (case a_en => k_is)
    (case l_en => k_is)
    (case c_en => k_is)
    (case k_en => k_is)
    (case t_en => k_is)
    (case xLN => k_is)
    (case sxN => k_is)
    (case exN => k_is)
    (case tyN => k_is)
    (case keN => k_is)
    (case noN => k_is)
    (case gaN => k_is)
    (case ggN => k_is)
    (case hdN => k_is)
    (case haN => k_is)
    (case hmN => k_is)
    (case seN => k_is)
    (case kNI => kit_is)
    (case kNL => kit_is)
    (case z_IndexError => k_is)
    (case a_la => k_is)
    (case l_la => k_is)
    (case c_la => k_is)
    (case k_la => k_is)
#print axioms PySem.Challenge.cw_lineturns_k04_rules_made_holds
