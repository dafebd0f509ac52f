import PyProof.Rows.All
import Wide.All
import OpenK.AllK
import Wide.FinOn
import HandS.Base
import HandS.Call
import HandS.List
import HandS.Comp
import HandS.Ends
import HandS.Iter
import HandS.Words
import PyProof.ReprRoads
import KE.KIsAll
import KE.KTryMore
import HandS.Exc
import HandS.ExcIs
import HandS.ExcInit
import HandS.ExcField
import HandS.ExcValue
import HandS.IsInst
import HandS.MakeKw
import KE.KExcInit
import HandS.ExcOwn
import HandS.WordsExc
import HandS.FStrTup
import HandS.Walk
import KE.RegKIsAll
import PySem.Challenge.RW_lineturns_k01_errors_and_what_they_keep
set_option Elab.async false
set_option linter.all false
set_option maxRecDepth 100000
set_option maxHeartbeats 4000000
namespace LT
open PySem L2
def top (i : Nat) : Stmt := PySem.Challenge.pw_lineturns_k01_errors_and_what_they_keep.main.body.getD i (.Pass ⟨0, 0, 0, 0⟩)
abbrev sSeed : Stmt := top 11
abbrev sChoose : Stmt := top 12
abbrev sOneOf : Stmt := top 13
abbrev sAny : Stmt := top 14

/-- the heap without the box -/
def offB (H : Hp) (b : Addr) : Hp := fun c => if c = b then none else H c
theorem offB_ne {H : Hp} {b c : Addr} (h : c ≠ b) : offB H b c = H c := if_neg h
theorem offB_some {H : Hp} {b c : Addr} {o : HO} (h : offB H b c = some o) : c ≠ b ∧ H c = some o := by
  unfold offB at h
  by_cases e : c = b
  · rw [if_pos e] at h
    cases h
  · rw [if_neg e] at h
    exact ⟨e, h⟩
theorem offB_sub {H : Hp} {b : Addr} : Same (offB H b) H := fun _ _ h => (offB_some h).2
/-- from H to J all but the box at b is kept -/
def Kb (b : Addr) (H J : Hp) : Prop := ∀ c o, c ≠ b → H c = some o → J c = some o
theorem Kb.refl {b : Addr} {H : Hp} : Kb b H H := fun _ _ _ h => h
theorem Kb.trans {b : Addr} {H J L : Hp} (x : Kb b H J) (y : Kb b J L) : Kb b H L := fun c o n h => y c o n (x c o n h)
theorem Kb.of {b : Addr} {H J : Hp} (x : Same H J) : Kb b H J := fun c o _ h => x c o h
theorem Kb.box {b : Addr} {H : Hp} {o : HO} : Kb b H (upd H b o) := fun c u n h => by rw [upd_ne n]; exact h
theorem Kb.new {b p : Addr} {H : Hp} {o : HO} (h : H p = none) : Kb b H (upd H p o) := fun c u _ e => by rw [upd_ne (ne_of_none e h)]; exact e
theorem Kb.seq {K : PySem.W.Frag} {b : Addr} {H J : Hp} {a : Addr} {xs : List V} (x : Kb b H J) (n : a ≠ b) (h : SqL K H a xs) : SqL K J a xs := by
  rcases h with (h | ⟨o, h⟩) | h
  · exact .inl (.inl (x _ _ n h))
  · exact .inl (.inr ⟨o, x _ _ n h⟩)
  · exact .inr h
theorem new_same {H : Hp} {p : Addr} (h : H p = none) (o : HO) : Same H (upd H p o) := fun c u e => by rw [upd_ne (ne_of_none e h)]; exact e
/-- a box: a list of two ints -/
def Box (H : Hp) (b : Addr) : Prop := ∃ x y : Int, H b = some (.lst [.int x, .int y])

/-! ### promises -/
def spSeed (K : PySem.W.Frag) : Sp := fun vs H Q _ => ∃ (a : Addr) (ns : List Int) (k : Int), vs = [.ref a, .int k] ∧ SqL K H a (ns.map V.int) ∧ 0 ≤ k ∧ k ≤ 1000 ∧
  ∀ (p : Addr) (x y : Int), H p = none → Q (.ref p) (upd H p (.lst [.int x, .int y]))
def spChoose : Sp := fun vs H Q _ => ∃ (b : Addr) (m : Int), vs = [.ref b, .int m] ∧ Box H b ∧ 0 < m ∧ m ≤ 1000000 ∧
  ∀ (d x y : Int), 0 ≤ d → d < m → Q (.int d) (upd H b (.lst [.int x, .int y]))
def spOneOf (K : PySem.W.Frag) : Sp := fun vs H Q _ => ∃ (b s : Addr) (xs : List V), vs = [.ref b, .ref s] ∧ Box H b ∧ s ≠ b ∧ SqL K H s xs ∧ 0 < xs.length ∧ xs.length ≤ 1000 ∧
  ∀ (i : Nat) (v : V) (x y : Int), xs[i]? = some v → Q v (upd H b (.lst [.int x, .int y]))
structure Blt (mg : Str → Option Value) : Prop where
  len : mg "len" = none
  abs : mg "abs" = none
  int : mg "int" = none
  range : mg "range" = none
  tuple : mg "tuple" = none
section
variable {P : Program} {w : World} {K : PySem.W.Frag} {mg : Str → Option Value} {base : Heap}
theorem mod_ix {k n : Int} (hn : 0 < n) : 0 ≤ k % n ∧ k % n < n := ⟨Int.emod_nonneg _ (by omega), Int.emod_lt_of_pos _ hn⟩
theorem at_in {ns : List Int} {i : Int} (h0 : 0 ≤ i) (h1 : i < (ns.length : Int)) : ∃ z, atI (ns.map V.int) i = some (.int z) := by
  obtain ⟨j, rfl⟩ : ∃ j : Nat, i = (j : Int) := ⟨i.toNat, by omega⟩
  have hj : j < ns.length := by omega
  exact ⟨ns[j], atI_nat (by rw [List.getElem?_map, List.getElem?_eq_getElem hj] <;> rfl)⟩
theorem scSeed : FnScope ["_law_script", "_law_k", "_law_cell"] ["_law_script", "_law_k"] (defScope sSeed) := ⟨rfl, rfl, rfl, by decide +kernel, rfl, by decide +kernel, by decide +kernel⟩
theorem ok_seed {f : Addr} {fd : FuncData} (F : Fun K "_law_seed" "_law_seed" sSeed f fd) (T : Blt mg) : FnOk P w K mg base CX0 1 f fd ["_law_script", "_law_k"] (spSeed K) := by
  refine F.ok scSeed (fun vs H Q E h => ?_) (fun cdv A outer s H vs Q E hr h => ?_)
  · obtain ⟨a, ns, k, rfl, _⟩ := h
    rfl
  obtain ⟨a, ns, k, rfl, hS, h0, h1, q⟩ := h
  refine ⟨_, pss_cons (ps_set (i := 2) scSeed.nd rfl (Or.inl rfl) (pe_op op_add (pe_op op_mul pe_int (pv 1)) pe_int))
    (pss_cons (ps_if (pt_cmpR op_lt (pv 1) (pe_callB call_len_seq (by rfl) T.len PySem.boot_len (pa_cons (pv 0) pa_nil)) (nomark _))
        (pss_one (ps_set (i := 2) scSeed.nd rfl (Or.inl rfl) (pe_callB call_abs (by rfl) T.abs (by decide +kernel) (pa_cons (pe_ix ix_list (pv 0) (pv 1) (fun _ _ => rfl)) pa_nil))))
        (pss_one (ps_if (pt_cmpR op_gt (pe_callB call_len_seq (by rfl) T.len PySem.boot_len (pa_cons (pv 0) pa_nil)) pe_int (nomark _))
          (pss_one (ps_set (i := 2) scSeed.nd rfl (Or.inl rfl) (pe_op op_add (pv 2) (pe_op op_mul (pe_op op_mod (pe_callTy call_int1 (by rfl) T.int (by decide +kernel) (pa_cons (pe_callB call_abs (by rfl) T.abs (by decide +kernel)
            (pa_cons (pe_ix ix_list (pv 0) (pe_op op_mod (pe_callTy call_int1 (by rfl) T.int (by decide +kernel) (pa_cons (pv 1) pa_nil)) (pe_callB call_len_seq (by rfl) T.len PySem.boot_len (pa_cons (pv 0) pa_nil))) (fun _ _ => rfl)) pa_nil)) pa_nil)) pe_int) pe_int))))
          pss_nil)))
    (pss_one (ps_ret (pe_lst (pa_cons (pe_ifExp (pt_cmpR op_ge (pv 2) (pe_op op_pow pe_int pe_int) (nomark _)) (pv 2) pe_int)
      (pa_cons (pe_op op_add (pe_op op_mod (pe_callTy call_int1 (by rfl) T.int (by decide +kernel) (pa_cons (pe_op op_add (pe_op op_mul (pe_op op_mod (pe_callTy call_int1 (by rfl) T.int (by decide +kernel) (pa_cons (pv 2) pa_nil)) pe_int) pe_int) (pe_op op_mul pe_int (pv 1))) pa_nil)) pe_int) pe_int) pa_nil)))))), ?_⟩
  have hl : (ns.map V.int).length = ns.length := List.length_map _
  refine ⟨_, rfl, _, _, rfl, rfl, .inl (by decide), _, _, rfl, rfl, ?_⟩
  refine ⟨_, rfl, _, rfl, a, _, rfl, .inl hS, _, _, rfl, rfl, _, rfl, ?_⟩
  refine ite2 (fun c => ?_) (fun c => ?_)
  · have c' : k < (((ns.map V.int).length : Nat) : Int) := of_decide_eq_true c
    rw [hl] at c'
    obtain ⟨z, hz⟩ := at_in h0 c'
    refine ⟨_, rfl, _, rfl, a, _, _, _, rfl, rfl, hS, hz, _, rfl, ?_⟩
    generalize hc : (if z < 0 then -z else z) = cell
    refine ⟨_, rfl, _, _, rfl, rfl, ⟨by decide, by decide, by decide⟩, _, _, rfl, rfl, _, rfl, ?_⟩
    refine ite2 (fun _ => ⟨_, rfl, ?_⟩) (fun _ => ?_)
    all_goals
      refine ⟨_, rfl, .inl ⟨_, rfl, _, _, rfl, rfl, (by show (0 : Int) < 2147483629; decide), _, _, rfl, rfl, .inr (by decide), _, rfl, _, _, rfl, rfl, .inl (by decide), _, _, rfl, rfl, ?_⟩⟩
      refine .inl ⟨_, rfl, _, _, rfl, rfl, (by show (0 : Int) < 2147483629; decide), _, _, rfl, rfl, (by show 2 ≤ sizeLine; decide), fun p hp => q p _ _ hp⟩
  · refine ⟨_, rfl, a, _, rfl, .inl hS, _, _, rfl, rfl, _, rfl, ?_⟩
    refine ite2 (fun d => ?_) (fun d => ?_)
    · have d' : (0 : Int) < (((ns.map V.int).length : Nat) : Int) := of_decide_eq_true d
      obtain ⟨m0, m1⟩ := mod_ix (k := k) d'
      obtain ⟨z, hz⟩ := at_in (ns := ns) m0 (by rw [hl] at m1 ⊢; exact m1)
      refine ⟨_, rfl, _, rfl, _, rfl, .inl ⟨_, rfl, _, rfl, a, _, rfl, .inl hS, _, _, rfl, rfl, d', a, _, _, _, rfl, rfl, hS, hz, _, rfl, ?_⟩⟩
      refine .inl ⟨_, rfl, _, _, rfl, rfl, (by show (0 : Int) < 2147483629; decide), _, _, rfl, rfl, .inr (by decide), _, _, rfl, rfl, ?_⟩
      generalize hc : (6481 * k + 37 + (if z < 0 then -z else z) % 2147483629 * 40093) = cell
      refine ⟨_, rfl, _, _, rfl, rfl, ⟨by decide, by decide, by decide⟩, _, _, rfl, rfl, _, rfl, ?_⟩
      refine ite2 (fun _ => ⟨_, rfl, ?_⟩) (fun _ => ?_)
      all_goals
        refine ⟨_, rfl, .inl ⟨_, rfl, _, _, rfl, rfl, (by show (0 : Int) < 2147483629; decide), _, _, rfl, rfl, .inr (by decide), _, rfl, _, _, rfl, rfl, .inl (by decide), _, _, rfl, rfl, ?_⟩⟩
        refine .inl ⟨_, rfl, _, _, rfl, rfl, (by show (0 : Int) < 2147483629; decide), _, _, rfl, rfl, (by show 2 ≤ sizeLine; decide), fun p hp => q p _ _ hp⟩
    · generalize hc : (6481 * k + 37) = cell
      refine ⟨_, rfl, _, _, rfl, rfl, ⟨by decide, by decide, by decide⟩, _, _, rfl, rfl, _, rfl, ?_⟩
      refine ite2 (fun _ => ⟨_, rfl, ?_⟩) (fun _ => ?_)
      all_goals
        refine ⟨_, rfl, .inl ⟨_, rfl, _, _, rfl, rfl, (by show (0 : Int) < 2147483629; decide), _, _, rfl, rfl, .inr (by decide), _, rfl, _, _, rfl, rfl, .inl (by decide), _, _, rfl, rfl, ?_⟩⟩
        refine .inl ⟨_, rfl, _, _, rfl, rfl, (by show (0 : Int) < 2147483629; decide), _, _, rfl, rfl, (by show 2 ≤ sizeLine; decide), fun p hp => q p _ _ hp⟩
theorem scChoose : FnScope ["_law_box", "_law_many", "_law_digit", "_law_first"] ["_law_box", "_law_many"] (defScope sChoose) := ⟨rfl, rfl, rfl, by decide +kernel, rfl, by decide +kernel, by decide +kernel⟩
theorem ok_choose {f : Addr} {fd : FuncData} (F : Fun K "_law_choose" "_law_choose" sChoose f fd) (T : Blt mg) : FnOk P w K mg base CX0 1 f fd ["_law_box", "_law_many"] spChoose := by
  refine F.ok scChoose (fun vs H Q E h => ?_) (fun cdv A outer s H vs Q E hr h => ?_)
  · obtain ⟨b, m, rfl, _⟩ := h
    rfl
  obtain ⟨b, m, rfl, ⟨x, y, hb⟩, h0, h1, q⟩ := h
  have hS : SqL K H b [.int x, .int y] := SqL.of hb
  refine ⟨_, pss_cons (ps_if (pt_cmpR op_gt (pe_ix ix_list (pv 0) pe_int (fun _ _ => rfl)) pe_int (nomark _))
      (pss_cons (ps_set (i := 2) scChoose.nd rfl (Or.inl rfl) (pe_op op_mod (pe_callTy call_int1 (by rfl) T.int (by decide +kernel) (pa_cons (pe_ix ix_list (pv 0) pe_int (fun _ _ => rfl)) pa_nil)) (pv 1)))
      (pss_cons (ps_asg (pe_op op_fdiv (pe_ix ix_list (pv 0) pe_int (fun _ _ => rfl)) (pv 1)) (pg_sub (pv 0) pe_int set_list))
      (pss_one (ps_ret (pv 2))))) pss_nil)
    (pss_cons (ps_set (i := 3) scChoose.nd rfl (Or.inl rfl) (pe_op op_mod (pe_callTy call_int1 (by rfl) T.int (by decide +kernel) (pa_cons (pe_op op_add (pe_op op_mul (pe_ix ix_list (pv 0) pe_int (fun _ _ => rfl)) pe_int) pe_int) pa_nil)) pe_int))
    (pss_cons (ps_asg (pe_op op_add (pe_op op_mod (pe_callTy call_int1 (by rfl) T.int (by decide +kernel) (pa_cons (pe_op op_add (pe_op op_mul (pv 3) pe_int) pe_int) pa_nil)) pe_int) pe_int) (pg_sub (pv 0) pe_int set_list))
    (pss_one (ps_ret (pe_op op_mod (pe_callTy call_int1 (by rfl) T.int (by decide +kernel) (pa_cons (pe_op op_fdiv (pe_op op_add (pe_op op_mul (pv 3) pe_int) (pe_ix ix_list (pv 0) pe_int (fun _ _ => rfl))) pe_int) pa_nil)) (pv 1)))))), ?_⟩
  have a0 : atI ([.int x, .int y] : List V) 0 = some (.int x) := rfl
  have a1 : atI ([.int x, .int y] : List V) 1 = some (.int y) := rfl
  refine ⟨_, rfl, b, _, _, _, rfl, rfl, hS, a0, _, _, rfl, rfl, _, rfl, ?_⟩
  refine ite2 (fun c => ?_) (fun c => ?_)
  · refine ⟨_, rfl, b, _, _, _, rfl, rfl, hS, a0, .inl ⟨_, rfl, _, rfl, _, _, rfl, rfl, h0, ?_⟩⟩
    refine ⟨_, rfl, b, _, _, _, rfl, rfl, hS, a0, _, rfl, _, _, rfl, rfl, ⟨h0, by omega⟩, ?_⟩
    refine ⟨_, rfl, b, _, _, 0, rfl, rfl, hb, rfl, ?_⟩
    exact ⟨_, rfl, q (x % m) (x / m) y (mod_ix h0).1 (mod_ix h0).2⟩
  · refine ⟨_, rfl, b, _, _, _, rfl, rfl, hS, a1, _, _, rfl, rfl, .inr (by decide), _, _, rfl, rfl, .inl ⟨_, rfl, _, _, rfl, rfl, (by show (0 : Int) < 2147483563; decide), ?_⟩⟩
    refine ⟨_, rfl, _, _, rfl, rfl, .inr (by decide), _, _, rfl, rfl, .inl ⟨_, rfl, _, _, rfl, rfl, (by show (0 : Int) < 2147483629; decide), _, _, rfl, rfl, ?_⟩⟩
    refine ⟨_, rfl, b, _, _, 1, rfl, rfl, hb, rfl, ?_⟩
    refine ⟨_, rfl, _, _, rfl, rfl, .inr (by decide), _, rfl, b, _, _, _, rfl, rfl, SqL.of upd_same, rfl, _, _, rfl, rfl, _, _, rfl, rfl, ⟨by decide, by decide⟩, .inl ⟨_, rfl, _, rfl, _, _, rfl, rfl, h0, ?_⟩⟩
    exact q _ x ((((y * 40014 + 17) % 2147483563) * 40692 + 3067) % 2147483629 + 1) (mod_ix h0).1 (mod_ix h0).2
theorem scOneOf : FnScope ["_law_box", "_law_some"] ["_law_box", "_law_some"] (defScope sOneOf) := ⟨rfl, rfl, rfl, by decide +kernel, rfl, by decide +kernel, by decide +kernel⟩
theorem ok_oneof {f g : Addr} {fd gd : FuncData} (F : Fun K "_law_one_of" "_law_one_of" sOneOf f fd) (T : Blt mg) (G : FnOk P w K mg base CX0 1 g gd ["_law_box", "_law_many"] spChoose) (bG : Binds K gd ["_law_box", "_law_many"] []) (kG : PySem.W.keepIn K (.ref g) = true) (mG : mg "_law_choose" = some (.ref g)) :
    FnOk P w K mg base CX0 2 f fd ["_law_box", "_law_some"] (spOneOf K) := by
  refine F.ok scOneOf (fun vs H Q E h => ?_) (fun cdv A outer s H vs Q E hr h => ?_)
  · obtain ⟨b, s, xs, rfl, _⟩ := h
    rfl
  obtain ⟨b, a, xs, rfl, hb, hn, hS, h0, h1, q⟩ := h
  refine ⟨_, pss_one (ps_ret (pe_ix ix_list (pv 1) (pe_call G hr rfl mG kG bG .nil pass0 (pa_cons (pv 0) (pa_cons (pe_callB call_len_seq (by rfl) T.len PySem.boot_len (pa_cons (pv 1) pa_nil)) pa_nil))) (fun _ _ => rfl))), ?_⟩
  refine ⟨_, rfl, _, rfl, _, rfl, a, xs, rfl, .inl hS, b, _, rfl, hb, by omega, by omega, fun d x y d0 d1 => ?_⟩
  obtain ⟨j, rfl⟩ : ∃ j : Nat, d = (j : Int) := ⟨d.toNat, by omega⟩
  have hj : j < xs.length := by omega
  have e : xs[j]? = some xs[j] := List.getElem?_eq_getElem hj
  exact ⟨a, xs, _, _, rfl, rfl, Kb.box.seq hn hS, atI_nat e, q j _ x y e⟩
end
end LT
namespace LT
open PySem L2
/-! ### data -/
mutual
theorem dp_mono {K : PySem.W.Frag} {H J : Hp} (s : Same H J) : ∀ (d : PyData) (v : V), Dp K H v d → Dp K J v d
  | .none, _, h => by cases h; exact .non
  | .bool b, _, h => by cases h; exact .bl b
  | .int i, _, h => by cases h; exact .int i
  | .str x, _, h => by cases h; exact .str x
  | .list ds, _, h => by
    cases h with
    | lst hs ha => exact .lst (s.seq hs) (dpAll_mono s ds _ ha)
  | .tuple ds, _, h => by
    cases h with
    | tup hs ha => exact .tup (same_tup s hs) (dpAll_mono s ds _ ha)
  | .dict _, _, h => by cases h
where
  same_tup {K : PySem.W.Frag} {H J : Hp} {a : Addr} {xs : List V} (e : Same H J) (h : SqT K H a xs) : SqT K J a xs := by
    rcases h with (h | ⟨o, h⟩) | h
    · exact .inl (.inl (e _ _ h))
    · exact .inl (.inr ⟨o, e _ _ h⟩)
    · exact .inr h
theorem dpAll_mono {K : PySem.W.Frag} {H J : Hp} (s : Same H J) : ∀ (ds : List PyData) (vs : List V), DpAll K H vs ds → DpAll K J vs ds
  | [], _, h => by cases h; exact .nil
  | d :: ds, _, h => by
    cases h with
    | cons h1 h2 => exact .cons (dp_mono s d _ h1) (dpAll_mono s ds _ h2)
end
theorem dpAll_get {K : PySem.W.Frag} {H : Hp} : ∀ {ds : List PyData} {vs : List V} {i : Nat} {v : V}, DpAll K H vs ds → vs[i]? = some v → ∃ d, d ∈ ds ∧ Dp K H v d
  | [], _, _, _, h, e => by
    cases h
    cases e
  | d :: ds, _, 0, _, h, e => by
    cases h with
    | cons h1 h2 =>
      cases e
      exact ⟨d, List.mem_cons_self, h1⟩
  | d :: ds, _, i + 1, _, h, e => by
    cases h with
    | cons h1 h2 =>
      obtain ⟨d', m, q⟩ := dpAll_get h2 (i := i) e
      exact ⟨d', List.mem_cons_of_mem _ m, q⟩
theorem dpAll_add {K : PySem.W.Frag} {H : Hp} {v : V} {d : PyData} (hd : Dp K H v d) : ∀ {ds : List PyData} {vs : List V}, DpAll K H vs ds → DpAll K H (vs ++ [v]) (ds ++ [d])
  | [], _, h => by
    cases h
    exact .cons hd .nil
  | _ :: _, _, h => by
    cases h with
    | cons h1 h2 => exact .cons h1 (dpAll_add hd h2)
theorem dpAll_len {K : PySem.W.Frag} {H : Hp} : ∀ {ds : List PyData} {vs : List V}, DpAll K H vs ds → vs.length = ds.length
  | [], _, h => by
    cases h
    rfl
  | _ :: _, _, h => by
    cases h with
    | cons h1 h2 => exact congrArg (· + 1) (dpAll_len h2)
/-- what is new from H to J -/
def frs (H J : Hp) : Hp := fun c => match H c with
  | some _ => none
  | none => J c
theorem frs_of {H J : Hp} {c : Addr} (h : H c = none) : frs H J c = J c := by
  unfold frs
  rw [h]
theorem frs_some {H J : Hp} {c : Addr} {o : HO} (h : frs H J c = some o) : H c = none ∧ J c = some o := by
  unfold frs at h
  split at h
  · cases h
  · rename_i e
    exact ⟨e, h⟩
/-- where what is new from H to J stands also in L, seen from G -/
theorem frs_same {G H J L : Hp} (h : ∀ c o, H c = none → J c = some o → G c = none ∧ L c = some o) : Same (frs H J) (frs G L) := fun c o e => by
  obtain ⟨e1, e2⟩ := frs_some e
  obtain ⟨q1, q2⟩ := h c o e1 e2
  rw [frs_of q1]
  exact q2
theorem frs_sub {H J : Hp} : Same (frs H J) J := fun _ _ e => (frs_some e).2
def menu : List PyData := [.none, .bool true, .bool false, .int 0, .int 1, .int 7, .int (-1), .int (10 ^ 20), .str "", .str "run", .str "also", .str "keep", .tuple [], .list [], .str "abcde", .str "A", .tuple [.str "run"]]
/-- the data that the law draws: n levels -/
inductive An : Nat → PyData → Prop
  | one {n : Nat} {d : PyData} : d ∈ menu → An n d
  | lst {n : Nat} {ds : List PyData} : ds.length ≤ 3 → (∀ d ∈ ds, An n d) → An (n + 1) (.list ds)
  | tup {n : Nat} {ds : List PyData} : ds.length ≤ 3 → (∀ d ∈ ds, An n d) → An (n + 1) (.tuple ds)
def spAny (K : PySem.W.Frag) (n : Nat) : Sp := fun vs H Q _ => ∃ b : Addr, vs = [.ref b, .int (n : Int)] ∧ Box H b ∧
  ∀ (v : V) (d : PyData) (J : Hp), An n d → Dp K (frs H J) v d → Kb b H J → Box J b → Q v J
section
variable {P : Program} {w : World} {K : PySem.W.Frag} {mg : Str → Option Value} {base : Heap}
theorem no_ok {CX : CXT} {f : Addr} {fd : FuncData} {ps : List Str} {k : Nat} : FnOk P w K mg base CX k f fd ps (fun _ _ _ _ => False) :=
  ⟨fun _ _ _ _ h => h.elim, fun _ _ _ _ _ _ _ _ _ _ _ _ _ h => h.elim⟩
/-- the displayed list -/
theorem odd_dp {H : Hp} {p q r : Addr} (hp : H p = some (.tup [])) (hq : H q = some (.lst [])) (hr : H r = some (.tup [.str "run"])) :
    DpAll K H [.non, .bl true, .bl false, .int 0, .int 1, .int 7, .int (-1), .int (10 ^ (20 : Int).toNat), .str "", .str "run", .str "also", .str "keep", .ref p, .ref q, .str "abcde", .str "A", .ref r] menu :=
  .cons .non (.cons (.bl _) (.cons (.bl _) (.cons (.int _) (.cons (.int _) (.cons (.int _) (.cons (.int _) (.cons (.int _) (.cons (.str _) (.cons (.str _) (.cons (.str _) (.cons (.str _)
    (.cons (.tup (SqT.of hp) .nil) (.cons (.lst (SqL.of hq) .nil) (.cons (.str _) (.cons (.str _) (.cons (.tup (SqT.of hr) (.cons (.str _) .nil)) .nil))))))))))))))))
theorem menu_heap {H1 : Hp} {b p t r l : Addr} {us : List V} (hp : H1 p = none) (ht : upd H1 p (.tup []) t = none) (hr : upd (upd H1 p (.tup [])) t (.lst []) r = none)
    (hl : upd (upd (upd H1 p (.tup [])) t (.lst [])) r (.tup [.str "run"]) l = none) (hb : Box H1 b) :
    Kb b H1 (upd (upd (upd (upd H1 p (.tup [])) t (.lst [])) r (.tup [.str "run"])) l (.lst us)) ∧
    frs H1 (upd (upd (upd (upd H1 p (.tup [])) t (.lst [])) r (.tup [.str "run"])) l (.lst us)) p = some (.tup []) ∧
    frs H1 (upd (upd (upd (upd H1 p (.tup [])) t (.lst [])) r (.tup [.str "run"])) l (.lst us)) t = some (.lst []) ∧
    frs H1 (upd (upd (upd (upd H1 p (.tup [])) t (.lst [])) r (.tup [.str "run"])) l (.lst us)) r = some (.tup [.str "run"]) ∧
    Box (upd (upd (upd (upd H1 p (.tup [])) t (.lst [])) r (.tup [.str "run"])) l (.lst us)) b ∧ l ≠ b := by
  have s1 := new_same hp (.tup [])
  have s2 := new_same ht (.lst [])
  have s3 := new_same hr (.tup [.str "run"])
  have s4 := new_same hl (.lst us)
  have f1 : H1 t = none := s1.free ht
  have f2 : H1 r = none := s1.free (s2.free hr)
  have f3 : H1 l = none := s1.free (s2.free (s3.free hl))
  obtain ⟨x, y, eb⟩ := hb
  refine ⟨fun c o _ e => s4 _ _ (s3 _ _ (s2 _ _ (s1 _ _ e))), ?_, ?_, ?_, ⟨x, y, s4 _ _ (s3 _ _ (s2 _ _ (s1 _ _ eb)))⟩, fun z => by rw [z, eb] at f3; cases f3⟩
  · rw [frs_of hp]
    exact s4 _ _ (s3 _ _ (s2 _ _ upd_same))
  · rw [frs_of f1]
    exact s4 _ _ (s3 _ _ upd_same)
  · rw [frs_of f2]
    exact s4 _ _ upd_same
/-- the comprehension's turns: what stands behind i of them -/
def Loop (K : PySem.W.Frag) (b : Addr) (m : Nat) (H2 : Hp) (D : Addr) (i : Nat) (J : Hp) : Prop :=
  ∃ (vs : List V) (ds : List PyData), J D = some (.lst vs) ∧ vs.length = i ∧ DpAll K (frs (upd H2 D (.lst [])) J) vs ds ∧ (∀ d ∈ ds, An m d) ∧ Box J b ∧ H2 D = none ∧ D ≠ b ∧ ∀ c o, c ≠ b → H2 c = some o → J c = some o
theorem loop_start {K : PySem.W.Frag} {b D : Addr} {m : Nat} {H2 : Hp} (hD : H2 D = none) (hb : Box H2 b) : Loop K b m H2 D 0 (upd H2 D (.lst [])) := by
  obtain ⟨x, y, e⟩ := hb
  have n : D ≠ b := fun z => by rw [z, e] at hD; cases hD
  exact ⟨[], [], upd_same, rfl, .nil, (fun _ h => nomatch h), ⟨x, y, by rw [upd_ne (Ne.symm n)]; exact e⟩, hD, n, fun c o _ q => by rw [upd_ne (ne_of_none q hD)]; exact q⟩
theorem loop_turn {K : PySem.W.Frag} {b D : Addr} {m i : Nat} {H2 J L : Hp} {v : V} {d : PyData} (h : Loop K b m H2 D i J) (hb2 : Box H2 b) (hd : An m d) (hv : Dp K (frs J L) v d) (k : Kb b J L) (hb : Box L b) :
    ∃ acc, L D = some (.lst acc) ∧ acc.length = i ∧ Loop K b m H2 D (i + 1) (upd L D (.lst (acc ++ [v]))) := by
  obtain ⟨vs, ds, h1, h2, h3, h4, ⟨x0, y0, h5⟩, h6, h7, h8⟩ := h
  obtain ⟨x, y, e⟩ := hb
  obtain ⟨x2, y2, e2⟩ := hb2
  have g : ∀ c, upd H2 D (.lst []) c = none → c ≠ b ∧ c ≠ D := fun c z => ⟨(fun q => by rw [q, upd_ne (Ne.symm h7), e2] at z; cases z), (fun q => by rw [q, upd_same] at z; cases z)⟩
  refine ⟨vs, k D _ h7 h1, h2, vs ++ [v], ds ++ [d], upd_same, by rw [List.length_append, h2]; rfl, dpAll_add (dp_mono (frs_same fun c o n z => ?_) d v hv) (dpAll_mono (frs_same fun c o n z => ?_) ds vs h3), fun d' hm => ?_, ⟨x, y, by rw [upd_ne (Ne.symm h7)]; exact e⟩, h6, h7, fun c o n q => ?_⟩
  · have cD : c ≠ D := fun q => by rw [q, h1] at n; cases n
    have cb : c ≠ b := fun q => by rw [q, h5] at n; cases n
    refine ⟨?_, by rw [upd_ne cD]; exact z⟩
    rw [upd_ne cD]
    cases w : H2 c with
    | none => rfl
    | some u =>
      rw [h8 c u cb w] at n
      cases n
  · obtain ⟨cb, cD⟩ := g c n
    exact ⟨n, by rw [upd_ne cD]; exact k c o cb z⟩
  · rcases List.mem_append.mp hm with q | q
    · exact h4 d' q
    · rw [List.mem_singleton.mp q]
      exact hd
  · have cD : c ≠ D := fun z => by rw [z, h6] at q; cases q
    rw [upd_ne cD]
    exact k c o n (h8 c o n q)
theorem scAny : FnScope ["_law_box", "_law_deep", "_law_form", "_law_odd", "_law_some", "_law_turn"] ["_law_box", "_law_deep"] (defScope sAny) := ⟨rfl, rfl, rfl, by decide +kernel, rfl, by decide +kernel, by decide +kernel⟩
structure DefG (P : Program) (w : World) (K : PySem.W.Frag) (mg : Str → Option Value) (base : Heap) (x : Str) (k : Nat) (ps : List Str) (sp : Sp) : Prop where
  ex : ∃ (g : Addr) (gd : FuncData), FnOk P w K mg base CX0 k g gd ps sp ∧ Binds K gd ps [] ∧ PySem.W.keepIn K (.ref g) = true ∧ mg x = some (.ref g)
theorem ok_any {n : Nat} {f g o : Addr} {fd gd od : FuncData} {spR : Sp} (F : Fun K "_law_anything" "_law_anything" sAny f fd) (T : Blt mg)
    (G : FnOk P w K mg base CX0 1 g gd ["_law_box", "_law_many"] spChoose) (bG : Binds K gd ["_law_box", "_law_many"] []) (kG : PySem.W.keepIn K (.ref g) = true) (mG : mg "_law_choose" = some (.ref g))
    (O : FnOk P w K mg base CX0 2 o od ["_law_box", "_law_some"] (spOneOf K)) (bO : Binds K od ["_law_box", "_law_some"] []) (kO : PySem.W.keepIn K (.ref o) = true) (mO : mg "_law_one_of" = some (.ref o))
    (R : FnOk P w K mg base CX0 (n + 2) f fd ["_law_box", "_law_deep"] spR) (bR : Binds K fd ["_law_box", "_law_deep"] []) (mR : mg "_law_anything" = some (.ref f))
    (hR : ∀ m, n = m + 1 → spR = spAny K m) :
    FnOk P w K mg base CX0 (n + 3) f fd ["_law_box", "_law_deep"] (spAny K n) := by
  refine F.ok scAny (fun vs H Q E h => ?_) (fun cdv A outer s H vs Q E hr h => ?_)
  · obtain ⟨b, rfl, _⟩ := h
    rfl
  obtain ⟨b, rfl, hb, q⟩ := h
  have hr1 : Room 1 _ := hr.mono (by omega)
  have hr2 : Room 2 _ := hr.mono (by omega)
  refine ⟨_, pss_cons (ps_set (i := 2) scAny.nd rfl (Or.inl rfl) (pe_call G hr1 rfl mG kG bG .nil pass0 (pa_cons (pv 0) (pa_cons pe_int pa_nil))))
    (pss_cons (ps_if (PW.pt (pw_or (pt_cmpR op_lt (pv 1) pe_int (nomark _)) (pw_or1 (pt_cmpR op_lt (pv 2) pe_int (nomark _)))))
      (pss_cons (ps_set (i := 3) scAny.nd rfl (Or.inl rfl) (pe_lst (pa_cons pe_non (pa_cons pe_bl (pa_cons pe_bl (pa_cons pe_int (pa_cons pe_int (pa_cons pe_int (pa_cons (pe_un un_neg pe_int) (pa_cons (pe_op op_pow pe_int pe_int)
        (pa_cons pe_str (pa_cons pe_str (pa_cons pe_str (pa_cons pe_str (pa_cons (pe_tup pa_nil) (pa_cons (pe_lst pa_nil) (pa_cons pe_str (pa_cons pe_str (pa_cons (pe_tup (pa_cons pe_str pa_nil)) pa_nil)))))))))))))))))))
      (pss_one (ps_ret (pe_call O hr2 rfl mO kO bO .nil pass0 (pa_cons (pv 0) (pa_cons (pv 3) pa_nil))))))
      pss_nil)
    (pss_cons (ps_setLc (i := 4) (own := [("_law_turn", 5)]) (g := gName 5) (tt := tYes) rfl scAny.nd rfl rfl (sw_true rfl rfl rfl (by decide +kernel)) (pi_range1 rfl T.range (pa_cons (pe_call G hr1 rfl mG kG bG .nil pass0 (pa_cons (pv 0) (pa_cons pe_int pa_nil))) pa_nil))
        (blkOk_by (N := ["_law_box", "_law_deep", "_law_form", "_law_odd", "_law_some", "_law_turn"]) (sc := defScope sAny) (own := [("_law_turn", 5)]) (by decide +kernel)) (fun _ _ _ _ _ => pg_name (i := 5) scAny.nd rfl (Or.inl rfl)) (fun _ _ _ _ _ => pts_nil)
        (fun _ _ _ _ _ => pe_call R hr rfl mR F.kp bR .nil pass0 (pa_cons (pv 0) (pa_cons (pe_op op_sub (pv 1) pe_int) pa_nil))))
    (pss_one (ps_ret (pe_ifExp (pt_cmpR op_lt (pv 2) pe_int (nomark _)) (pe_callTy call_tuple_of (by rfl) T.tuple (by decide +kernel) (pa_cons (pv 4) pa_nil)) (pv 4)))))), ?_⟩
  refine ⟨_, rfl, b, _, rfl, hb, by decide, by decide, fun form x y f0 f1 => ?_⟩
  have b1 : Box (upd H b (.lst [.int x, .int y])) b := ⟨x, y, upd_same⟩
  generalize hH1 : upd H b (.lst [.int x, .int y]) = H1 at b1 ⊢
  have k1 : Kb b H H1 := by rw [← hH1]; exact Kb.box
  have fr1 : ∀ c, H1 c = none → H c = none := fun c e => by
    cases z : H c with
    | none => rfl
    | some u =>
      by_cases hc : c = b
      · obtain ⟨x', y', b2⟩ := b1
        rw [hc, b2] at e
        cases e
      · rw [k1 c u hc z] at e
        cases e
  have base : ∀ v J, (∃ d, An n d ∧ Dp K (frs H1 J) v d) → Kb b H1 J → Box J b → Q v J := fun v J ⟨d, hd, hp⟩ kk bb =>
    q v d J hd (dp_mono (frs_same fun c o e1 e2 => ⟨fr1 c e1, e2⟩) d v hp) (k1.trans kk) bb
  refine ⟨_, rfl, _, _, rfl, rfl, _, rfl, ?_⟩
  refine ite2 (fun c1 => iteT ?_) (fun c1 => ?_)
  · refine ⟨_, rfl, _, _, rfl, rfl, ⟨by decide, by decide, by decide⟩, (by show 0 ≤ sizeLine; decide), fun p hp => ⟨(by show 0 ≤ sizeLine; decide), fun t ht => ⟨(by show 1 ≤ sizeLine; decide), fun r hr => ⟨(by show 17 ≤ sizeLine; decide), fun l hl => ?_⟩⟩⟩⟩
    obtain ⟨kk, e1, e2, e3, e4, e5⟩ := menu_heap hp ht hr hl b1
    refine ⟨_, rfl, _, rfl, b, l, _, rfl, e4, e5, SqL.of upd_same, (by show 0 < 17; decide), (by show 17 ≤ 1000; decide), fun i v x y e => ?_⟩
    refine base v _ ?_ (kk.trans Kb.box) ⟨x, y, upd_same⟩
    obtain ⟨d, md, hd⟩ := dpAll_get (odd_dp e1 e2 e3) e
    refine ⟨d, .one md, dp_mono (frs_same fun c o n z => ⟨n, ?_⟩) d v hd⟩
    have nb : c ≠ b := fun zb => by
      obtain ⟨x', y', b2⟩ := b1
      rw [zb, b2] at n
      cases n
    rw [upd_ne nb]
    exact z
  · refine ⟨_, rfl, _, _, rfl, rfl, _, rfl, ?_⟩
    refine ite2 (fun c2 => ?_) (fun c2 => ?_)
    · refine ⟨_, rfl, _, _, rfl, rfl, ⟨by decide, by decide, by decide⟩, (by show 0 ≤ sizeLine; decide), fun p hp => ⟨(by show 0 ≤ sizeLine; decide), fun t ht => ⟨(by show 1 ≤ sizeLine; decide), fun r hr => ⟨(by show 17 ≤ sizeLine; decide), fun l hl => ?_⟩⟩⟩⟩
      obtain ⟨kk, e1, e2, e3, e4, e5⟩ := menu_heap hp ht hr hl b1
      refine ⟨_, rfl, _, rfl, b, l, _, rfl, e4, e5, SqL.of upd_same, (by show 0 < 17; decide), (by show 17 ≤ 1000; decide), fun i v x y e => ?_⟩
      refine base v _ ?_ (kk.trans Kb.box) ⟨x, y, upd_same⟩
      obtain ⟨d, md, hd⟩ := dpAll_get (odd_dp e1 e2 e3) e
      refine ⟨d, .one md, dp_mono (frs_same fun c o n z => ⟨n, ?_⟩) d v hd⟩
      have nb : c ≠ b := fun zb => by
        obtain ⟨x', y', b2⟩ := b1
        rw [zb, b2] at n
        cases n
      rw [upd_ne nb]
      exact z
    · have hn : ¬ ((n : Int) < 1) := fun z => c1 (decide_eq_true z)
      obtain ⟨m, rfl⟩ : ∃ m, n = m + 1 := ⟨n - 1, by omega⟩
      cases hR m rfl
      refine ⟨_, rfl, b, _, rfl, b1, by decide, by decide, fun many x2 y2 g0 g1 => ?_⟩
      have b2 : Box (upd H1 b (.lst [.int x2, .int y2])) b := ⟨x2, y2, upd_same⟩
      have k2 : Kb b H1 (upd H1 b (.lst [.int x2, .int y2])) := Kb.box
      generalize hH2 : upd H1 b (.lst [.int x2, .int y2]) = H2 at b2 k2 ⊢
      refine ⟨many, rfl, by omega, by omega, fun D hD => lc_range (lo := 0) (n := many.toNat) (Loop K b m H2 D) (loop_start hD b2) (fun i J hi L => ?_) (fun J L => ?_)⟩
      · have bJ : Box J b := by
          obtain ⟨_, _, _, _, _, _, z, _⟩ := L
          exact z
        have em : ((m + 1 : Nat) : Int) - 1 = (m : Int) := by omega
        refine ⟨rfl, _, rfl, _, rfl, _, _, rfl, rfl, b, by rw [← em]; rfl, bJ, fun v d M hd hv kk bb => ?_⟩
        obtain ⟨acc, e1, e2, e3⟩ := loop_turn L b2 hd hv kk bb
        exact ⟨acc, e1, by rw [e2]; exact small1000 (by omega), e3⟩
      · obtain ⟨vs, ds, h1, h2, h3, h4, h5, h6, h7, h8⟩ := L
        have hlen : ds.length ≤ 3 := by
          have z := dpAll_len h3
          omega
        have fD : H1 D = none := by
          cases w : H1 D with
          | none => rfl
          | some u =>
            rw [k2 D u h7 w] at h6
            cases h6
        have kJ : Kb b H1 J := fun c o n e => h8 c o n (k2 c o n e)
        have fr2 : ∀ c, upd H2 D (.lst []) c = none → H1 c = none := fun c e => by
          cases w : H1 c with
          | none => rfl
          | some u =>
            have cD : c ≠ D := fun z => by rw [z, upd_same] at e; cases e
            rw [upd_ne cD] at e
            by_cases cb : c = b
            · obtain ⟨x', y', z⟩ := b2
              rw [cb, z] at e
              cases e
            · rw [k2 c u cb w] at e
              cases e
        refine ⟨_, rfl, _, _, rfl, rfl, _, rfl, ?_⟩
        refine ite2 (fun c3 => ?_) (fun c3 => ?_)
        · refine ⟨_, rfl, D, vs, rfl, .inl ⟨SqL.of h1, fun l hl => ?_⟩⟩
          have fl : H1 l = none := by
            cases w : H1 l with
            | none => rfl
            | some u =>
              by_cases lb : l = b
              · obtain ⟨x', y', z⟩ := h5
                rw [lb, z] at hl
                cases hl
              · rw [kJ l u lb w] at hl
                cases hl
          refine base _ _ ⟨.tuple ds, .tup hlen h4, .tup (SqT.of (by rw [frs_of fl]; exact upd_same)) (dpAll_mono (frs_same fun c o n z => ⟨fr2 c n, new_same hl _ c o z⟩) ds vs h3)⟩ (kJ.trans (Kb.of (new_same hl _))) ?_
          obtain ⟨x', y', z⟩ := h5
          exact ⟨x', y', new_same hl _ _ _ z⟩
        · refine ⟨_, rfl, base _ _ ⟨.list ds, .lst hlen h4, .lst (SqL.of (by rw [frs_of fD]; exact h1)) (dpAll_mono (frs_same fun c o n z => ⟨fr2 c n, z⟩) ds vs h3)⟩ kJ h5⟩
theorem any_all {f g o : Addr} {fd gd od : FuncData} (F : Fun K "_law_anything" "_law_anything" sAny f fd) (T : Blt mg)
    (G : FnOk P w K mg base CX0 1 g gd ["_law_box", "_law_many"] spChoose) (bG : Binds K gd ["_law_box", "_law_many"] []) (kG : PySem.W.keepIn K (.ref g) = true) (mG : mg "_law_choose" = some (.ref g))
    (O : FnOk P w K mg base CX0 2 o od ["_law_box", "_law_some"] (spOneOf K)) (bO : Binds K od ["_law_box", "_law_some"] []) (kO : PySem.W.keepIn K (.ref o) = true) (mO : mg "_law_one_of" = some (.ref o))
    (bR : Binds K fd ["_law_box", "_law_deep"] []) (mR : mg "_law_anything" = some (.ref f)) : ∀ n : Nat, FnOk P w K mg base CX0 (n + 3) f fd ["_law_box", "_law_deep"] (spAny K n)
  | 0 => ok_any F T G bG kG mG O bO kO mO no_ok bR mR (fun m e => nomatch e)
  | n + 1 => ok_any F T G bG kG mG O bO kO mO (any_all F T G bG kG mG O bO kO mO bR mR n) bR mR (fun m e => by cases e; rfl)
end
end LT
namespace L2
open PySem PySem.Spec PyProof.Rows
/-- a def's promise where nothing that repr looks for is under way -/
def FnG (P : Program) (w : World) (K : PySem.W.Frag) (mg : Str → Option Value) (base : Heap) (CX : CXT) (k : Nat) (f : Addr) (fd : FuncData) (ps : List Str) (sp : Sp) : Prop :=
  ∀ (A : Around) (outer : List Env) (s : Shared) (H : Hp) (args : Args) (us : List Value) (vs : List V) (Q : VK) (E : XK), A.guards = some [] → Room k A → Env0 P w K mg base A outer s H →
    BindsTo s fd args (ps.zip us) → Vals vs us → sp vs H Q E → codeAny (model P w) A (.call (.ref f) args) (CR CX outer P w H s Q E) s
section
variable {P : Program} {w : World} {K : PySem.W.Frag} {mg : Str → Option Value} {base : Heap}
theorem Fun.okG {x qual : Str} {st : Stmt} {f : Addr} {fd : FuncData} {N ps : List Str} {k : Nat} {sp : Sp} (F : Fun K x qual st f fd) (S : FnScope N ps (defScope st)) (len : ∀ vs H Q E, sp vs H Q E → vs.length = ps.length)
    (body : ∀ (cdv : Value) (A : Around) (outer : List Env) (s : Shared) (H : Hp) (vs : List V) (Q : VK) (E : XK), (A.deeper (envOfC qual (defScope st) s.heap.objs.size f cdv)).guards = some [] →
      Room k (A.deeper (envOfC qual (defScope st) s.heap.objs.size f cdv)) → sp vs H Q E →
      ∃ t, PSs (cxOf CX0 P w K mg base N qual (defScope st) f cdv A outer s H E).nox (defBody st) t ∧ t { nx := fun _ J => Q .non J, rt := Q } (start N vs) H) : FnG P w K mg base CX0 (k + 1) f fd ps sp := by
  obtain ⟨oc, od, kV, doc, pm, an, cdv, ct, osl, rfl, lk, code⟩ := F.ex
  intro A outer s H args us vs Q E hg hr env bind rel hsp
  have n := len _ _ _ _ hsp
  have inK : K.In s.heap := env.mod.kin.keeps fun b o e => (env.bs b o e).1
  have free : s.heap.NoLimit := env.mod.nolimit.keeps fun b o e => (env.bs b o e).1
  have names : ∀ y ∈ ps.zip us, (defScope st).names.lookup y.1 = some .local ∨
      ((defScope st).names.lookup y.1 = some .cell ∧ ((cellsFrom (s.heap.objs.size + 1) (defScope st).names []).lookup y.1).isSome = true) := by
    rintro ⟨z, v⟩ hz
    rcases S.par z (List.of_mem_zip hz).1 with e | e
    · exact .inl e
    · exact .inr ⟨e, PySem.W.cellsFrom_some _ _ _ (.inl e)⟩
  refine codeAny_call_function hr.depth (inK _ _ lk) rfl S.co S.gen rfl (PySem.W.codeRec_of inK code)
    (bind _ _ _ _ (wpAny_newFunctionEnv_cells S.kind names fun env' he s1 x => ?_))
  subst he
  refine ⟨free.keeps x.toInCall.keep, codeAny_func ?_⟩
  obtain ⟨t, ht, q⟩ := body cdv A outer s H vs Q E hg (hr.deeper _) hsp
  have I0 : Inv (cxOf CX0 P w K mg base N qual (defScope st) f cdv A outer s H E) [] (start N vs) H s1 :=
    inv_start S hr.hd env n rel x
  have done : ∀ {τ : St} {J : Hp} {v : V} {u : Value} {s' : Shared}, Inv (cxOf CX0 P w K mg base N qual (defScope st) f cdv A outer s H E) [] τ J s' → RelV v u → Q v J → CE outer P w H s Q u s' :=
    fun {τ J v u s'} I r z => ⟨v, J, I.os, I.bare, I.base, I.hok, r, z⟩
  refine wpAny_mono (ht.nox.run [] s1 (start N vs) H _ I0 q) (fun fl s' h => ?_) fun e s' h => h
  cases fl with
  | ret u =>
    obtain ⟨v, τ, J, I, r, z⟩ := h
    exact done I r z
  | next =>
    obtain ⟨τ, J, I, z⟩ := h
    exact done (v := V.non) (u := Value.none) I rfl z
  | brk =>
    obtain ⟨_, _, _, z⟩ := h
    exact False.elim z
  | cont =>
    obtain ⟨_, _, _, z⟩ := h
    exact False.elim z
end
/-- the law's own call, nothing being under way -/
theorem law_runG {P : Program} {w : World} {K : PySem.W.Frag} {mg mb : Str → Option Value} {k : Nat} {fa a : Addr} {fd : FuncData} {x : Str} {sp : Sp} {s0 : Shared} {us : List Value} {ns : List Int}
    (inK : K.In s0.heap) (hmg : s0.heap.Ns mainGlobals mg) (hmb : s0.heap.Ns builtinsNs mb) (boot : ∀ x : Str, x ≠ "__name__" → mb x = bootBuiltins x) (free : s0.heap.NoLimit) (hgens : s0.gens = #[])
    (obj : s0.heap.get? a = some { cls := .type "list", data := .seq us.toArray }) (isI : IntsAre us ns) (short : ns.length ≤ sizeLine) (room : Room k callerA)
    (F : ∀ base : Heap, K.In base → base.Ns mainGlobals mg → FnG P w K mg base CX0 k fa fd [x] sp) (bind : ∀ (s : Shared) (u : Value), BindsTo s fd ⟨[u], []⟩ [(x, u)])
    (hsp : ∀ H : Hp, SqL K H a (ns.map V.int) → sp [.ref a] H (fun v _ => v = .bl true) E0) :
    codeAny (model P w) callerA (.call (.ref fa) ⟨[.ref a], []⟩) (fun r s' => r = .ok (.ret (.bool true)) ∧ OldK s0.heap s'.heap ∧ s'.os = s0.os ∧ AllBare s'.gens) s0 := by
  have rel := vals_ints isI
  have nlen := isI.length
  have main : ∀ H : Hp, (∀ b, H b = none ∨ ∃ o xs, H b = some (.frz o (.lst xs))) → SqL K H a (ns.map V.int) → HOk P w H s0.heap → (∀ b u, H b = some u → b = a) → (∀ u, H a = some u → K.lookup a = none) →
      codeAny (model P w) callerA (.call (.ref fa) ⟨[.ref a], []⟩) (fun r s' => r = .ok (.ret (.bool true)) ∧ OldK s0.heap s'.heap ∧ s'.os = s0.os ∧ AllBare s'.gens) s0 := by
    intro H only hS ok atA notK
    have dictNo : ∀ {b : Addr} {o : Obj} {es : Array DictEntry} {ep : Nat}, s0.heap.get? b = some o → o.data = .dict es ep → H b = none := by
      intro b o es ep e d
      cases q : H b with
      | none => rfl
      | some u =>
        cases atA b u q
        rw [obj] at e
        cases e
        exact nomatch d
    have nsAt : ∀ {b : Addr} {m : Str → Option Value}, s0.heap.Ns b m → (hidT s0.heap H).Ns b m := by
      rintro b m ⟨o, es, ep, e, d, rest⟩
      exact ⟨o, es, ep, hidT_get e (dictNo e d), d, rest⟩
    have inB : K.In (hidT s0.heap H) := fun b o e => by
      refine hidT_get (inK b o e) ?_
      cases q : H b with
      | none => rfl
      | some u =>
        cases atA b u q
        rw [notK u q] at e
        cases e
    obtain ⟨mc, lim1, lim2⟩ := free
    have modB : Mod K mg (hidT s0.heap H) := ⟨inB, nsAt hmg, ⟨mb, nsAt hmb, boot⟩, mc, nsAt lim1, lim2⟩
    have env : Env0 P w K mg (hidT s0.heap H) callerA [] s0 H :=
      ⟨rfl, modB, fun b o => of_hidT, Nat.le_of_eq (hidT_size _ _), trivial, (fun b hb => by cases hb), ok, .of_eq hgens⟩
    refine codeAny_mono (F _ inB (nsAt hmg) callerA [] s0 H ⟨[.ref a], []⟩ [.ref a] [.ref a] _ _ rfl room env (bind s0 (.ref a)) (.cons rfl .nil) (hsp H hS)) fun r s' h => ?_
    cases r with
    | error e => exact h.elim
    | ok fl =>
      cases fl with
      | next => exact h.elim
      | brk => exact h.elim
      | cont => exact h.elim
      | ret u =>
        obtain ⟨v, J, os, bare, un, ok', rv, ev⟩ := h
        have ev' : v = .bl true := ev
        subst ev'
        obtain rfl : u = Value.bool true := rv
        refine ⟨rfl, OldK.of_keep fun b o e => ?_, os, bare⟩
        rcases only b with z | ⟨ob, xs, z⟩
        · exact un.keep b o e z (fun m => by cases m) (fun m => by cases m)
        · obtain ⟨e1, _⟩ := ok b _ z
          obtain ⟨e2, _⟩ := ok' b _ (un.frzs b ob _ z)
          rw [e] at e1
          cases e1
          exact e2
  cases inMod : K.lookup a with
  | some o =>
    have e := inK a o inMod
    rw [obj] at e
    cases e
    have sz : us.toArray.size ≤ sizeLine := by
      rw [List.size_toArray, nlen]
      exact short
    have no : ∀ (b : Addr) (u : HO), (fun _ : Addr => (none : Option HO)) b = some u → False := fun b u z => nomatch z
    exact main (fun _ => none) (fun _ => .inl rfl) (.inr ⟨_, us.toArray, _, inMod, rfl, rfl, rfl, sz, by simpa using rel⟩) (fun b u z => (no b u z).elim) (fun b u z => (no b u z).elim) fun u z => (no a u z).elim
  | none =>
    have hit : ∀ (b : Addr) (u : HO), (fun c : Addr => if c = a then some (HO.frz { cls := .type "list", data := .seq us.toArray } (.lst (ns.map V.int))) else none) b = some u →
        b = a ∧ u = .frz { cls := .type "list", data := .seq us.toArray } (.lst (ns.map V.int)) := by
      intro b u z
      by_cases hb : b = a
      · exact ⟨hb, (Option.some.inj ((if_pos hb).symm.trans z)).symm⟩
      · exact nomatch ((if_neg hb).symm.trans z)
    refine main (fun c => if c = a then some (.frz { cls := .type "list", data := .seq us.toArray } (.lst (ns.map V.int))) else none) (fun b => ?_) (.inl (.inr ⟨_, if_pos rfl⟩)) (fun b u z => ?_) (fun b u z => (hit b u z).1) fun _ _ => inMod
    · by_cases hb : b = a
      · exact .inr ⟨_, _, if_pos hb⟩
      · exact .inl (if_neg hb)
    · obtain ⟨rfl, rfl⟩ := hit b u z
      exact ⟨obj, by rw [List.length_map]; exact short, us, _, rel, obj⟩
theorem walk_ofG {l : PySem.W.OpenLaw} {n k : Nat} {q : Program} {loose : List Str} {XP : (Str → Option Value) → Heap → Prop} {YP : World → Heap → Prop} {d : DefRec} {K : Params → PySem.W.Frag} {sp : World → Sp} {x : Str}
    (hn : l.most = some n) (hn2 : n ≤ sizeLine) (hdf : d.params.defaults = []) (hr : Room k callerA) (hY : ∀ (w : World) (h : Heap), YP w h → (K w.params).In h)
    (F : ∀ (w : World) (mg : Str → Option Value) (fa : Addr) (h : Heap), (K w.params).In h → h.Ns mainGlobals mg → mg d.name = some (.ref fa) →
      ∃ fd : FuncData, (∀ (s : Shared) (u : Value), BindsTo s fd ⟨[u], []⟩ [(x, u)]) ∧
        ∀ base : Heap, (K w.params).In base → base.Ns mainGlobals mg → FnG l.prog w (K w.params) mg base CX0 k fa fd [x] (sp w))
    (hsp : ∀ (w : World) (H : Hp) (a : Addr) (ns : List Int), ns.length ≤ n → SqL (K w.params) H a (ns.map V.int) → sp w [.ref a] H (fun v _ => v = .bl true) E0) :
    PySem.W.WalkO q loose XP YP l.row.toRowW d [] (fun f vs => PySem.call f vs) := by
  refine Att.attach_call hn hdf fun w s₀ s₁ mg mb fa o pm cd doc a vs ns G Y ho hd hcd hmg hobj hints hlen hg => ?_
  obtain ⟨fd, hb, hF⟩ := F w mg fa _ (hY w _ Y) G.T.g hmg
  exact law_runG (hY w _ Y) G.T.g G.T.b G.T.builtins G.T.nolimit hg hobj hints (Nat.le_trans hlen hn2) hr hF hb fun H hS => hsp w H a ns hlen hS
/-! ### repr of data, nothing being under way -/
def rRepr (K : PySem.W.Frag) : List V → Hp → VK → Prop := fun xs H Q => ∃ (v : V) (d : PyData), xs = [v] ∧ Dp K H v d ∧ d.showable = true ∧ d.hasDict = false ∧ d.depth ≤ 50 ∧ d.shown.length ≤ sizeLine ∧ Q (.str d.shown) H
theorem call_reprD {X : Cx} {k : Nat} (hg : X.A.guards = some []) (hr : Room k X.A) : CallR X (.builtin "repr") (rRepr X.K) := by
  intro pins s σ H xs us Q I r h
  obtain ⟨v, d, rfl, hd, hs, hn, hdep, hsz, q⟩ := h
  obtain ⟨u, rfl, rv⟩ := vals1 r
  obtain ⟨as, rd⟩ := Dp.reads I d v u hd rv
  have hun := hr.un
  have key : ∀ a, u = .ref a → wpAny (model X.prog X.w) X.A (call (.builtin "repr") [u]) (EP X pins σ Q) X.xe s := by
    intro a e
    subst e
    exact PySem.repr_of_reads' rd hs (PyData.noDict_hsm hn) hg (by omega) (fun _ _ e => e) (fun h' t tk hk => ⟨.str _, H, I.kept hk, ⟨t, rfl⟩, q⟩) hsz
  cases hd with
  | non =>
    cases rv
    exact PySem.P.repr_of_none ⟨.str _, H, I.tok _, ⟨_, rfl⟩, q⟩
  | bl b =>
    cases rv
    exact PySem.P.repr_of_bool ⟨.str _, H, I.tok _, ⟨_, rfl⟩, q⟩
  | int i =>
    obtain ⟨t, rfl⟩ := rv
    exact PySem.P.repr_of_int (by simpa [PyData.showable] using hs) ⟨.str _, H, I.tok _, ⟨_, rfl⟩, q⟩
  | str x =>
    obtain ⟨t, rfl⟩ := rv
    exact PySem.P.repr_of_str ⟨.str _, H, I.tok _, ⟨_, rfl⟩, q⟩ hsz
  | lst _ _ =>
    cases rv
    exact key _ rfl
  | tup _ _ =>
    cases rv
    exact key _ rfl
end L2
namespace LT
open PySem PySem.HandSPX PySem.Calls Builtin
/-- what the written part must say of an own class of exceptions with the built-in base B -/
structure ExK (h : Heap) (C : Addr) (B newId : String) (bm : List Value) : Prop where
  at_ : ∃ nm q N bs sn sub ab col dd k0 k1 k2 k3 k5, h.get? C = some (excClassObj nm q C N bs bm true sn sub ab col dd k0 k1 k2 k3 k5 newId)
section
variable {M : Model} {A : Around} {E : Value → Shared → Prop} {s : Shared} {C : Addr} {bm bmB : List Value} {B newId initId : String}
theorem kw_new_ok (F : ExcBaseFacts B newId initId bmB) (same : ∀ Y : String, bm.contains (.type Y) = bmB.contains (.type Y)) {us : List Value} {kws : List (Str × Value)} {Q : Unit → Shared → Prop}
    (K : ExK s.heap C B newId bm) (q : Q () s) : wpAny M A (checkBuiltinCall newId ⟨.ref C :: us, kws⟩) Q E s := by
  obtain ⟨nm, qn, N, bs, sn, sub, ab, col, dd, k0, k1, k2, k3, k5, cl⟩ := K
  obtain ⟨hp, g, d, t, os⟩ := s
  have inB : (Value.ref C :: bm).contains (.type B) = true := by rw [List.contains_cons, same, F.hasB, Bool.or_true]
  have star := F.noStar
  simp only [checkBuiltinCall, F.newKind, F.newSplit, F.newRow]
  repeat (first
    | refine wpAny_loadPart_at cl ?_
    | (refine wpAny_isSubtype_exc cl ?_; rw [inB])
    | refine wpAny_staticBase_exc cl ?_
    | refine wpAny_madeBy_exc cl ?_
    | simp only [bne_self_eq_false, Bool.false_eq_true, if_false]
    | wp_step)
  exact q
end
section
variable {prog : Program} {w : World} {A : Around} {E : Value → Shared → Prop} {R : Result → Shared → Prop} {s : Shared} {C : Addr} {bm bmB : List Value} {B newId initId : String}
/-- the heap with the arguments' tuple and the new exception -/
def laidX (s : Shared) (C : Addr) (us : List Value) : Heap := (s.heap.push (W.kdv_tup us)).push (excO C s.heap.objs.size)
theorem laidX_keeps (s : Shared) (C : Addr) (us : List Value) : ∀ b o, s.heap.get? b = some o → (laidX s C us).get? b = some o := fun b o e => Heap.get?_push_of_some _ (Heap.get?_push_of_some _ e)
theorem laidX_get (s : Shared) (C : Addr) (us : List Value) : (laidX s C us).get? (s.heap.objs.size + 1) = some (excO C s.heap.objs.size) := by
  unfold laidX
  heap_get
theorem kw_new_runs (F : ExcBaseFacts B newId initId bmB) (same : ∀ Y : String, bm.contains (.type Y) = bmB.contains (.type Y)) {us : List Value} {kws : List (Str × Value)} (K : ExK s.heap C B newId bm) (hz : us.length ≤ sizeLine)
    (q : R (.ok (.ret (.ref (s.heap.objs.size + 1)))) { s with heap := laidX s C us }) : codeAny (model prog w) A (.builtin newId ⟨.ref C :: us, kws⟩) R s := by
  obtain ⟨nm, qn, N, bs, sn, sub, ab, col, dd, k0, k1, k2, k3, k5, cl⟩ := K
  obtain ⟨hp, g, d, t, os⟩ := s
  have hrest := hz
  have hends := F.ends
  have inB : (Value.ref C :: bm).contains (.type B) = true := by rw [List.contains_cons, same, F.hasB, Bool.or_true]
  have noA : (Value.ref C :: bm).contains (.type "AttributeError") = false := by rw [List.contains_cons, same, F.noAttr]; rfl
  have noN : (Value.ref C :: bm).contains (.type "NameError") = false := by rw [List.contains_cons, same, F.noName]; rfl
  refine codeAny_builtinAt F.entry ?_
  unfold Builtin.«BaseException.__new__»
  refine wpAt_bind ?_
  show wpAt _ _ _ (stack >>= _) _ _ _
  refine wpAt_bind (wpAt_stack fun p below => wpAt_of_wpAny ?_)
  wp_walk
  refine wpAt_of_wpAny ?_
  rw [F.owner]
  repeat (first
    | with_reducible refine wpAny_madeHere_exc F.canon cl ?_
    | with_reducible refine wpAny_loadPart_at cl ?_
    | (with_reducible refine wpAny_isSubtype_exc cl ?_; first | rw [inB] | rw [noA] | rw [noN])
    | wp_step)
  show R _ _
  rw [Heap.size_push]
  exact q
theorem kw_type_call (F : ExcBaseFacts B newId initId bmB) (same : ∀ Y : String, bm.contains (.type Y) = bmB.contains (.type Y)) {us : List Value} {kws : List (Str × Value)} {fI : Addr} {Q : Fin → Shared → Prop} (K : ExK s.heap C B newId bm)
    (hi : W.Looks (model prog w) s.heap (typeLookup (.ref C) "__init__") (some (.ref fI))) (hb : ∀ self, W.Looks (model prog w) s.heap (bindSpecial (.ref fI) self) (.ref fI, [self])) (hz : us.length ≤ sizeLine)
    (q : codeAny (model prog w) A (.call (.ref fI) ⟨.ref (s.heap.objs.size + 1) :: us, kws⟩) (fun r s' => match r with | .ok (.ret v) => v = .none ∧ Q (.done (.ret (.ref (s.heap.objs.size + 1)))) s' | .ok _ => False | .error e => E e s') { s with heap := laidX s C us }) :
    wpAny (model prog w) A (Builtin.«type.__call__» ⟨.ref C :: us, kws⟩) Q E s := by
  have K0 := K
  have kee := laidX_keeps s C us
  have got := laidX_get s C us
  obtain ⟨nm, qn, N, bs, sn, sub, ab, col, dd, k0, k1, k2, k3, k5, cl⟩ := K
  have clL := kee _ _ cl
  have inC : (Value.ref C :: bm).contains (.ref C) = true := by simp
  have i1 := hi.keeps kee
  have b1 := (hb (.ref (s.heap.objs.size + 1))).keeps kee
  obtain ⟨hp, g, d, t, os⟩ := s
  repeat (first | with_reducible refine wpAny_loadPart_at cl ?_ | with_reducible refine wpAny_madeBy_exc cl ?_ | wp_step)
  refine codeAny_call_builtin_code (Code.quiet_builtin _ F.quiet) (kw_new_ok F same K0 ?_)
  refine kw_new_runs F same K0 hz ?_
  show wpAny _ _ _ _ _ _
  unfold isInstance
  repeat (first | with_reducible refine wpAny_loadPart_at got ?_ | (with_reducible refine wpAny_isSubtype_exc clL ?_; rw [inC]) | wp_step)
  show wpAny _ _ (typeLookup (.ref C) _) _ _ _
  refine i1.at ?_
  refine wpAny_holding (wpAny_bind (b1.at ?_))
  refine wpAny_bind (wpAny_call (codeAny_mono q fun r s' z => ?_))
  rcases r with e | (v | _ | _ | _) <;> first | exact z | exact z.elim | skip
  obtain ⟨rfl, z⟩ := z
  first
    | exact wpAny_pure (wpAny_pure z)
    | (wp_walk; exact z)
theorem kw_call (F : ExcBaseFacts B newId initId bmB) (same : ∀ Y : String, bm.contains (.type Y) = bmB.contains (.type Y)) {us : List Value} {kws : List (Str × Value)} {fI : Addr} (K : ExK s.heap C B newId bm)
    (hi : W.Looks (model prog w) s.heap (typeLookup (.ref C) "__init__") (some (.ref fI))) (hb : ∀ self, W.Looks (model prog w) s.heap (bindSpecial (.ref fI) self) (.ref fI, [self])) (hz : us.length ≤ sizeLine)
    (q : codeAny (model prog w) (A.under (.builtin "type.__call__" ⟨.ref C :: us, kws⟩)) (.call (.ref fI) ⟨.ref (s.heap.objs.size + 1) :: us, kws⟩) (W.InitBack (s.heap.objs.size + 1) R) { s with heap := laidX s C us }) :
    codeAny (model prog w) A (.call (.ref C) ⟨us, kws⟩) R s := by
  have K0 := K
  obtain ⟨nm, qn, N, bs, sn, sub, ab, col, dd, k0, k1, k2, k3, k5, cl⟩ := K
  have f1 := tc_lookup
  have f2 := tc_bind (.ref C)
  have hTy : s.TypeIs (.ref C) "type" := ⟨_, cl, rfl⟩
  obtain ⟨hp, g, d, t, os⟩ := s
  refine codeAny_of_tree ?_
  show wpAny _ _ (callAny (.ref C) _) _ _ _
  repeat (any_goals (first | assumption | with_reducible refine wpAny_loadPart_at cl ?_ | wp_step))
  refine ⟨rfl, ?_⟩
  refine codeAny_call_builtin_at (Code.quiet_builtin _ (by decide +kernel)) entry_typeCall (wpAny_check_type_call_sub cl (kw_type_call F same K0 hi hb hz ?_))
  refine codeAny_mono q fun r s' z => ?_
  rcases r with e | (v | _ | _ | _) <;> exact z
end
end LT
namespace LT
open PySem PySem.W PySem.Spec PySem.Calls PyProof.Rows
section
variable {prog : Program} {w : World} {A : Around} {E : Value → Shared → Prop} {s : Shared} {K : Frag} {x D : Addr} {ox : Obj}
theorem class_of_exc {od : Option Obj} {Q : Option Value → Shared → Prop} (T : L2.ExcC K D) (X : K.In s.heap) (I : InstAt s.heap x ox D od) (h : Q (some (.ref D)) { s with toks := s.toks + 1 }) :
    wpAny (model prog w) A (getAttr? (.ref x) "__class__") Q E s := by
  have found : findObj K D od "__class__" = some (.bind (.builtin "getset_descriptor.__get__") (.builtin "object.__class__")) := by
    cases od with
    | none => exact findObj_dataN (by obtain ⟨cd, e, _⟩ := any_some T.hd; rw [e]; rfl) T.ha T.hn T.ht
    | some o => exact findObj_data (by obtain ⟨cd, e, _⟩ := any_some T.hd; rw [e]; rfl) T.ha T.hn T.ht
  obtain ⟨hh, gg, dd, tt, oo⟩ := s
  have l0 := I.type (M := model prog w)
  have l1 := looks_findIn (M := model prog w) X T.hg
  have l2 := looks_findIn (M := model prog w) X T.hk
  have l3 := looks_find (M := model prog w) X I found
  have isB : Looks (model prog w) hh (isInstance (.ref x) (.type "BaseException")) true :=
    l0.andThen (looks_subIn X T.hs)
  have n2 : (Value.builtin "BaseException.__getattribute__" == Value.builtin "object.__getattribute__") = false :=
    by decide +kernel
  have n1 : (onTheHeap (Value.ref D) && Value.builtin "BaseException.__getattribute__" == Value.builtin "object.__getattribute__") = false :=
    (congrArg (onTheHeap (Value.ref D) && ·) n2).trans (Bool.and_false _)
  unfold getAttr? getAttrBy? getAttrBy
  refine wpAny_bind (wpAny_mkText (wpAny_bind (wpAny_attempt (wpAny_holding
    (wpAny_bind (l0.at (wpAny_bind (l1.at ?_))))))))
  show wpAny _ _ (if (onTheHeap (Value.ref D) &&
    Value.builtin "BaseException.__getattribute__" == Value.builtin "object.__getattribute__") = true then _ else _) _ _ _
  rw [n1, if_neg Bool.false_ne_true]
  unfold getAttrByItsOwn hookBefore
  refine wpAny_bind ?_
  have onH : onTheHeap (Value.ref D) = true := rfl
  rw [if_pos onH]
  refine l2.at (wpAny_bind (wpAny_attempt (wpAny_holding ?_)))
  unfold callGetattribute
  have n0 : (false && onTheHeap (Value.builtin "BaseException.__getattribute__")) = false := rfl
  rw [n0, if_neg Bool.false_ne_true]
  unfold boundAndCalled
  rw [PySem.F.excAttr_ValueError.ga.bind (.ref x)]
  refine wpAny_bind (wpAny_pure ?_)
  show wpAny _ _ (call (.builtin "BaseException.__getattribute__") [.ref x, .str "__class__" tt]) _ _ _
  refine wpAny_call (codeAny_call_builtin PySem.F.excAttr_ValueError.ga.plain
    PySem.F.entry_bexc_ga ?_)
  refine @check_slot (model prog w) _ _ ⟨hh, gg, dd, tt + 1, oo⟩ "BaseException.__getattribute__" "BaseException" "__getattribute__"
    (.ref x) [.str "__class__" tt] [] _ (by decide +kernel) (by decide +kernel) isB
    (PySem.F.args_bexc_ga (.ref x) (.str "__class__" tt)) ?_
  unfold Builtin.«object.__getattribute__»
  refine wpAny_bind (wpAny_of_eq (a := ((Value.ref x : Value), [Value.str "__class__" tt]))
    (by first | rfl | (simp only [slotArgs]; rfl)) ?_)
  refine wpAny_bind (wpAny_pure (wpAny_bind (l0.at (wpAny_bind (l3.at ?_)))))
  show wpAny _ _ (holding [Value.builtin "object.__class__"]
    (call (.builtin "getset_descriptor.__get__") [.builtin "object.__class__", .ref x, .ref D]) >>= ret) _ _ _
  refine wpAny_bind (wpAny_holding (wpAny_call
    (class_get (s := ⟨hh, gg, dd, tt + 1, oo⟩) (ox := ox) (od := od) X I T.hm ?_)))
  refine wpAny_pure ?_
  show wpAny _ _ (handedOut (.ref D)) _ _ _
  rw [handedOut_of (v := .ref D) rfl]
  first
    | exact wpAny_pure (wpAny_pure h)
    | exact wpAny_pure h
    | exact wpAny_pure (wpAny_bind (wpAny_pure (wpAny_pure h)))
theorem kit_exc (T : L2.ExcC K D) : KitX K (.ref x) (.ref D) (fun h => ∃ ox od, InstAt h x ox D od) where
  ty := fun _ _ _ ⟨_, _, I⟩ => I.type
  it := fun _ _ X _ => by
    obtain ⟨cdD, hcD, _⟩ := any_some T.hd
    unfold clsIn at hcD
    split at hcD
    · rename_i c' d' cd' sl' ho
      intro A' Q' E' s' k q
      unfold isType loadHead
      exact wpAny_bind (wpAny_loadPart (k _ _ (X _ _ ho)) (wpAny_pure q))
    · cases hcD
  ne := fun h tp dd its n sl X htp => by
    obtain ⟨cdD, hcD, _⟩ := any_some T.hd
    refine Bool.eq_false_iff.mpr fun q => ?_
    have e : D = tp := Value.ref.inj (beq_iff_eq.mp q)
    subst e
    unfold clsIn at hcD
    split at hcD
    · rename_i c' d' cd' sl' ho
      have z := (X _ _ ho).symm.trans htp
      cases z
    · cases hcD
  ca := fun X ⟨_, _, I⟩ k => class_of_exc T X I k
end
end LT
namespace LT
open PySem PySem.HandSPX PySem.Calls Builtin Builtin.ObjectAttr
section
variable {prog : Program} {w : World} {A : Around} {E : Value → Shared → Prop} {R : Result → Shared → Prop} {s : Shared}
theorem refs_pass {bmB : List Value} (h : ∀ self, refuseLoop self "__setattr__" bmB = pure ()) (self : Value) : ∀ cs : List Addr, refuseLoop self "__setattr__" (cs.map Value.ref ++ bmB) = pure ()
  | [] => h self
  | c :: cs => by
    rw [List.map_cons, List.cons_append, refuseLoop_ref]
    exact refs_pass h self cs
theorem refs_has {bmB : List Value} (X : String) : ∀ cs : List Addr, (cs.map Value.ref ++ bmB).contains (.type X) = bmB.contains (.type X)
  | [] => rfl
  | c :: cs => by
    rw [List.map_cons, List.cons_append, List.contains_cons, refs_has X cs]
    rfl
/-- the first attribute of an exception of an own class, its built-in base being told by its mro -/
theorem set_first {K : W.Frag} {f : Str} {tk : Tok} {u : Value} {x C : Addr} {fv : Array Value} {cd : ClassData}
    (X : K.In s.heap) (at_ : s.heap.get? x = some { cls := .ref C, data := .fields fv }) (hcd : W.clsIn K C = some cd) (pas : ∀ self, refuseLoop self "__setattr__" cd.mro = pure ()) (ob : cd.mro.contains (.type "object") = true) (hh : cd.hasDict = true) (no : W.findIn K (.ref C) f = some none)
    (q : ∀ h' tk' dx, (∀ b o, b ≠ x → s.heap.get? b = some o → h'.get? b = some o) → s.heap.objs.size ≤ dx → dx ≠ x → h'.get? x = some { cls := .ref C, dict := some dx, data := .fields fv } →
      h'.Ns1 dx (fun y => if y = f then some u else none) → R (.ok (.ret .none)) { s with heap := h', toks := tk' }) :
    codeAny (model prog w) A (.call (.builtin "object.__setattr__") ⟨[.ref x, .str f tk, u], []⟩) R s := by
  obtain ⟨hp, g, d, t, os⟩ := s
  have J : W.InstAt hp x { cls := .ref C, data := .fields fv } C none := ⟨at_, rfl, rfl, trivial⟩
  have ne : cd.mro.isEmpty = false := by
    cases h : cd.mro with
    | nil =>
      rw [h] at ob
      exact absurd ob (by decide)
    | cons _ _ => rfl
  have far : x ≠ hp.objs.size := Nat.ne_of_lt (Heap.lt_size at_)
  have S := F.store_object
  have isObj : W.Looks (model prog w) hp (isInstance (.ref x) (.type "object")) true := J.type.andThen (W.looks_mroIn X (by
    unfold W.mroIn
    rw [hcd, Option.bind_some, if_neg (by rw [ne]; decide), ob]))
  refine codeAny_call_builtin S.slot.plain S.entry (@W.check_slot (model prog w) _ _ ⟨hp, g, d, t, os⟩ "object.__setattr__" "object" "__setattr__" (.ref x) [.str f tk, u] [] _ S.kind S.split isObj (S.args (.ref x) (.str f tk) u) ?_)
  have lm : W.Looks (model prog w) hp (mroOf (.ref C)) cd.mro := (W.looks_clsIn X hcd).andThen .now
  have lt : W.Looks (model prog w) hp (storeTaker? none) none := .now
  have lc : W.Looks (model prog w) hp (classData C) cd := W.looks_clsIn X hcd
  rw [W.osa_eq, refuse_eq]
  refine wpAny_bind (wpAny_bind (J.type.at (wpAny_bind (lm.at ?_))))
  rw [pas]
  refine wpAny_pure (wpAny_bind (J.type.at (wpAny_bind ((W.looks_findIn X no).at (wpAny_bind (lt.at ?_))))))
  show wpAny _ _ (storeInOwnDict (.ref x) (.ref C) (.str f tk) f u false) _ _ _
  obtain ⟨nm, bs, mro, ns, qn, hd, sn, sb, ab, col, del⟩ := cd
  dsimp only at hh
  subst hh
  unfold storeInOwnDict ownDictForStores
  repeat (first
    | with_reducible refine store_in_new ?_ ?_
    | with_reducible refine wpAny_loadPart_at at_ ?_
    | with_reducible refine lc.at ?_
    | wp_step)
  · exact ⟨_, #[], _, (Heap.get?_update_ne _ _ _ _ far.symm).trans (Heap.get?_push_at rfl rfl), rfl, fun e he => absurd he (by simp), fun _ => rfl⟩
  · intro h' tk' ns1 same
    have at1 : (hp.push { cls := .type "dict", data := .dict #[] }).get? x = some { cls := .ref C, data := .fields fv } := Heap.get?_push_of_some _ at_
    refine q h' tk' hp.objs.size (fun b o nb e => ?_) (Nat.le_refl _) far.symm ?_ ns1
    · exact (same.2 b (Nat.ne_of_lt (Heap.lt_size e))).trans ((Heap.get?_update_ne _ _ _ _ nb).trans (Heap.get?_push_of_some _ e))
    · exact (same.2 x far).trans (Heap.get?_update_self _ at1 rfl)
end
end LT
namespace L2
open PySem PySem.Spec PyProof.Rows
/-- what the written part says of an own class of exceptions with the built-in base B -/
structure EC (K : PySem.W.Frag) (C : Addr) (B newId initId : String) (bmB : List Value) : Prop where
  base : ExcBaseFacts B newId initId bmB
  pas : ∀ self, refuseLoop self "__setattr__" bmB = pure ()
  ob : bmB.contains (.type "object") = true
  cls : ∃ nm q N bs sn sub ab col dd k0 k1 k2 k3 k5, ∃ cs : List Addr, K.lookup C = some (excClassObj nm q C N bs (cs.map Value.ref ++ bmB) true sn sub ab col dd k0 k1 k2 k3 k5 newId)
  sa : PySem.W.findIn K (.ref C) "__setattr__" = some (some (.builtin "object.__setattr__"))
  kC : PySem.W.keepIn K (.ref C) = true
section
variable {X : Cx} {pins : List (Addr × Obj)} {σ : St} {H : Hp} {s : Shared} {a C dx : Addr} {f : Str} {y : V} {u : Value} {Q : Unit → Shared → Prop} {E : Value → Shared → Prop} {A : Around} {B newId initId : String} {bmB : List Value}
theorem EC.laid {K : PySem.W.Frag} (T : EC K C B newId initId bmB) {h : Heap} (X : K.In h) : ∃ bm, (∀ Y : String, bm.contains (.type Y) = bmB.contains (.type Y)) ∧ LT.ExK h C B newId bm := by
  obtain ⟨nm, q, N, bs, sn, sub, ab, col, dd, k0, k1, k2, k3, k5, cs, l⟩ := T.cls
  exact ⟨cs.map Value.ref ++ bmB, fun Y => LT.refs_has Y cs, ⟨_, _, _, _, _, _, _, _, _, _, _, _, _, _, X _ _ l⟩⟩
/-- self.f = y, the first attribute of an exception -/
theorem set_ex (T : EC X.K C B newId initId bmB) (I : Inv X pins σ H s) (e : H a = some (exo a C none)) (no : PySem.W.findIn X.K (.ref C) f = some none) (ry : RelV y u)
    (h : ∀ dx s', H dx = none → dx ≠ a → Inv X pins σ (upd (upd H dx (exd dx [(f, y)])) a (exo a C (some dx))) s' → Q () s') : wpAny (model X.prog X.w) A (setAttr (.ref a) f u) Q E s := by
  obtain ⟨nm, q, N, bs, sn, sub, ab, col, dd, k0, k1, k2, k3, k5, cs, hC⟩ := T.cls
  have hcl : PySem.W.clsIn X.K C = some { name := nm, bases := bs, mro := .ref C :: (cs.map Value.ref ++ bmB), ns := N, qualname := q, hasDict := true, slotNames := sn, subclasses := sub, abstract := ab, collection := col, hasDel := false } := by
    unfold PySem.W.clsIn
    rw [hC] <;> rfl
  obtain ⟨t1, ho⟩ := exo_at I.hok e
  refine PySem.W.set_plain I.kIn (ox := { cls := .ref C, dict := none, data := .fields #[.ref t1, .none, .none, .none, .bool false, .none] }) (od := none) ⟨ho, rfl, rfl, trivial⟩ T.sa ?_
  refine LT.set_first I.kIn ho hcl (fun self => LT.refs_pass T.pas self (C :: cs)) ((LT.refs_has "object" (C :: cs)).trans T.ob) rfl no (fun h' tk' dx k dn dne hx hn => ?_)
  have fre : H dx = none := I.hok.fresh dn
  have nd : ∀ {b : Addr} {o : Obj}, s.heap.get? b = some o → b ≠ dx := fun z => Nat.ne_of_lt (Nat.lt_of_lt_of_le (Heap.lt_size z) dn)
  have na : ∀ {b : Addr}, H b = none → b ≠ a := fun n z => by
    rw [z, e] at n
    cases n
  have U : Un X.fs [] H (upd (upd H dx (exd dx [(f, y)])) a (exo a C (some dx))) s.heap h' := {
    keep := fun b o z n _ _ => k b o (na n) z
    slot := fun b o z n _ _ => ⟨o.slots, k b o (na n) z⟩
    free := fun b o z n _ => by
      rw [upd_ne (na n), upd_ne (nd z)]
      exact n
    there := fun b o z _ => by
      by_cases hb : b = a
      · exact ⟨_, by rw [hb]; exact hx⟩
      · exact ⟨o, k b o hb z⟩
    tups := fun b xs z => by
      rw [upd_ne (at_ne e z exo_tup), upd_ne (ne_of_none z fre)]
      exact z
    frzs := fun b o v z => by
      rw [upd_ne (at_ne e z exo_frz), upd_ne (ne_of_none z fre)]
      exact z
    tbls := fun b ps z => ⟨#[], by
      rw [upd_ne (at_ne e z exo_tbl), upd_ne (ne_of_none z fre), z]
      simp⟩ }
  refine h dx _ fre dne (I.un (t' := tk') U fun b o z => ?_)
  by_cases hb : b = a
  · subst hb
    rw [upd_same] at z
    cases z
    exact exo_ok hx
  rw [upd_ne hb] at z
  by_cases hd : b = dx
  · subst hd
    rw [upd_same] at z
    cases z
    exact exd_ok hn (relO_put (fs := []) ry fun _ => True.intro)
  rw [upd_ne hd] at z
  refine (I.hok b o z).stay (fun c v hc e' => k c v ?_ e') (fun c hc => ?_) fun c xs hc => ?_
  · rcases hc with hc | hc
    · rw [hc]
      exact hb
    · exact at_ne e hc exo_own
  · rw [upd_ne (at_ne e hc exo_own), upd_ne (ne_of_none hc fre)]
    exact hc
  · rw [upd_ne (at_ne e hc exo_tup), upd_ne (ne_of_none hc fre)]
    exact hc
end
end L2
namespace L2
open PySem PySem.Spec PyProof.Rows
section
variable {X : Cx} {CX : CXT} {x f : Str} {C fI : Addr} {k : Nat} {fd : FuncData} {ps : List Str} {sp : Sp} {B newId initId : String} {bmB : List Value} {e o : Expr} {es : List Expr} {te to : TE} {ta : TA} {p p' pos : Pos} {EE : XK}
/-- self.f = e, the first attribute of an exception -/
def tSetE (K : PySem.W.Frag) (f : Str) (to te : TE) : TS := fun D σ H => te σ H fun y H1 => to σ H1 fun x H2 => ∃ (a C : Addr) (B newId initId : String) (bmB : List Value), x = .ref a ∧ EC K C B newId initId bmB ∧ PySem.W.findIn K (.ref C) f = some none ∧ H2 a = some (exo a C none) ∧
  ∀ dx, H2 dx = none → dx ≠ a → D.nx σ (upd (upd H2 dx (exd dx [(f, y)])) a (exo a C (some dx)))
theorem ps_setE (ho : PE X o to) (he : PE X e te) (hs : swapsWith e (some (.Attribute o f p')) pos.line X.env = pure false := by rfl) : PS X (.Assign [.Attribute o f p'] e pos) (tSetE X.K f to te) := by
  refine ⟨fun pins s σ H D I h => ?_⟩
  refine plainObj_wpAny_Assign_Attribute (thn (he.run pins s σ H _ I h) fun v s1 ⟨y, H1, I1, r1, q1⟩ => thn (ho.run pins s1 σ H1 _ I1 q1) fun u s2 ⟨z, H2, I2, r2, a, C, B, nI, iI, bm, ez, T, no, ea, q⟩ => ?_) hs
  subst ez
  obtain rfl : u = Value.ref a := r2
  exact set_ex T I2 ea no r1 fun dx s' n ne J => ⟨σ, _, J, q dx n ne⟩
/-- the new exception stands, unmade as yet -/
theorem ex_laid {pins : List (Addr × Obj)} {σ : St} {H : Hp} {s : Shared} (I : Inv X pins σ H s) (us : List Value) :
    Inv X pins σ (upd H (s.heap.objs.size + 1) (exo (s.heap.objs.size + 1) C none)) { s with heap := LT.laidX s C us } :=
  I.laid (t' := s.toks) (LT.laidX_keeps s C us) (Nat.le_succ _) (exo_ok (LT.laidX_get s C us))
/-- an own class of exceptions with an own __init__ is called: a new exception -/
theorem run_ex {pins : List (Addr × Obj)} {σ : St} {H : Hp} {s : Shared} {Q : VK} {us all : List Value} {kws : List (Str × Value)} {vs : List V} (T : EC X.K C B newId initId bmB) (iC : PySem.W.findIn X.K (.ref C) "__init__" = some (some (.ref fI))) (tI : PySem.W.typeIn X.K (.ref fI) = some (.type "function"))
    (F : FnOk X.prog X.w X.K X.mg X.base CX k fI fd ps sp) (hr : Room (k + 1) X.A) (hx : Passes CX X EE) (I : Inv X pins σ H s) (r : Vals vs all) (hz : us.length ≤ 1000)
    (hb : ∀ s' : Shared, X.K.In s'.heap → BindsTo s' fd ⟨Value.ref (s.heap.objs.size + 1) :: us, kws⟩ (ps.zip (Value.ref (s.heap.objs.size + 1) :: all)))
    (h : ∀ a, H a = none → sp (.ref a :: vs) (upd H a (exo a C none)) (fun v H2 => v = .non ∧ Q (.ref a) H2) EE) : wpAny (model X.prog X.w) X.A (call (.ref C) us kws) (EP X pins σ Q) X.xe s := by
  obtain ⟨bm, same, Z⟩ := T.laid I.kIn
  have fre : H (s.heap.objs.size + 1) = none := I.hok.fresh (Nat.le_succ _)
  have here := h _ fre
  have J := ex_laid (C := C) I us
  have rr : Vals (V.ref (s.heap.objs.size + 1) :: vs) (Value.ref (s.heap.objs.size + 1) :: all) := .cons rfl r
  have hus : us.length ≤ sizeLine := by
    rw [sizeLine_eq]
    omega
  refine wpAny_call (LT.kw_call T.base same Z (PySem.W.looks_findIn I.kIn iC) (fun self => PySem.W.bind_fn I.kIn self tI) hus
    (codeAny_mono (F.run _ X.stack _ _ ⟨Value.ref (s.heap.objs.size + 1) :: us, kws⟩ _ _ _ EE (hr.make C us kws) (J.env0.make C us kws) (hb _ J.kIn) rr here) fun q s' hq => ?_))
  cases q with
  | error e => exact hx pins σ _ _ e s' J hq
  | ok fl =>
    cases fl with
    | ret u =>
      obtain ⟨v, H', J', rv, ev, fin⟩ := J.after hq
      subst ev
      exact ⟨rv, V.ref (s.heap.objs.size + 1), H', J', rfl, fin⟩
    | next => exact False.elim hq
    | brk => exact False.elim hq
    | cont => exact False.elim hq
/-- C(e, ..) as a value -/
def tExV (C : Addr) (sp : Sp) (EE : XK) (ta : TA) : TE := fun σ H Q => ta σ H fun vs H1 => vs.length ≤ 1000 ∧ ∀ a, H1 a = none → sp (.ref a :: vs) (upd H1 a (exo a C none)) (fun v H2 => v = .non ∧ Q (.ref a) H2) EE
theorem pe_exV (T : EC X.K C B newId initId bmB) (iC : PySem.W.findIn X.K (.ref C) "__init__" = some (some (.ref fI))) (tI : PySem.W.typeIn X.K (.ref fI) = some (.type "function"))
    (F : FnOk X.prog X.w X.K X.mg X.base CX k fI fd ps sp) (hr : Room (k + 1) X.A) (hb : Binds X.K fd ps []) (hx : Passes CX X EE) (hg : Gl X x) (hm : X.mg x = some (.ref C)) (ha : PA X (e :: es) ta)
    (hdb : (x == ("__debug__" : Str)) = false := by decide) (he : starEach (e :: es) X.env = (false, eval e X.env) :: starEach es X.env := by rfl) (hpl : (backTo pos (starEach es X.env)).any (·.1) = false := by rfl) :
    PE X (.Call (.Name x p) (e :: es) [] pos) (tExV C sp EE ta) := by
  refine ⟨fun pins s σ H Q I h => wpAny_Call_Name_kw (ld_glob I hg hm ?_ hdb)⟩
  refine PySem.W.callWith_K (h₀ := X.base) I.ok.mod.kin T.kC (thn (ha.run pos pins s σ H _ I h) fun us s1 hh => ?_) he hpl
  obtain ⟨vs, H1, I1, r, hz, q⟩ := hh
  refine ⟨I1.kIn, run_ex (all := us) (kws := []) T iC tI F hr hx I1 r (by show us.length ≤ 1000; rw [← r.length]; exact hz) (fun s' K => ?_) q⟩
  have len : (Value.ref (s1.heap.objs.size + 1) :: us).length = ps.length := by
    have := F.len _ _ _ _ (q (s1.heap.objs.size + 1) (I1.hok.fresh (Nat.le_succ _)))
    rw [← this, List.length_cons, List.length_cons, r.length]
  have := hb s' (Value.ref (s1.heap.objs.size + 1) :: us) K (by simpa using len)
  simpa using this
/-- C(f = e) as a value -/
def tExK (C : Addr) (sp : Sp) (EE : XK) (tk : TA) : TE := fun σ H Q => tk σ H fun zs H1 => ∃ v, zs = [v] ∧ ∀ a, H1 a = none → sp [.ref a, v] (upd H1 a (exo a C none)) (fun v H2 => v = .non ∧ Q (.ref a) H2) EE
theorem pe_exK {kw : List Keyword} {tk : TA} (T : EC X.K C B newId initId bmB) (iC : PySem.W.findIn X.K (.ref C) "__init__" = some (some (.ref fI))) (tI : PySem.W.typeIn X.K (.ref fI) = some (.type "function"))
    (F : FnOk X.prog X.w X.K X.mg X.base CX k fI fd ["self", f] sp) (hr : Room (k + 1) X.A) (hb : ∀ (s : Shared) (a u : Value), BindsTo s fd ⟨[a], [(f, u)]⟩ [("self", a), (f, u)]) (hx : Passes CX X EE) (hg : Gl X x) (hm : X.mg x = some (.ref C)) (hkw : PK X kw tk)
    (hall : (backToKw pos (keywordEach kw X.env)).all (·.1.isSome) = true := by rfl) (hks : (backToKw pos (keywordEach kw X.env)).filterMap (·.1) = [f] := by rfl) (hdb : (x == ("__debug__" : Str)) = false := by decide)
    (hpl : ((backTo pos (starEach [] X.env)).any (·.1) || (backToKw pos (keywordEach kw X.env)).any (·.1.isNone)) = false := by rfl) :
    PE X (.Call (.Name x p) [] kw pos) (tExK C sp EE tk) := by
  refine ⟨fun pins s σ H Q I h => wpAny_Call_Name_kw (ld_glob I hg hm ?_ hdb)⟩
  refine PySem.W.callWith_KW0 (h₀ := X.base) I.ok.mod.kin T.kC hall ?_ hpl
  refine thn (hkw.run pos pins s σ H _ I h) fun ws s2 hh => ?_
  obtain ⟨zs, H2, I2, rz, v, rfl, q⟩ := hh
  obtain ⟨u, rfl, ru⟩ := vals1 rz
  refine ⟨I2.kIn, ?_⟩
  rw [hks]
  exact run_ex (us := []) (all := [u]) (kws := [(f, u)]) T iC tI F hr hx I2 (.cons ru .nil) (by decide) (fun s' _ => hb s' _ u) q
/-- C(), C an own class of exceptions without own __init__ -/
theorem pe_ex0 (F : ExcBaseFacts B newId initId bmB) (q : PySem.W.excIn X.K C bmB newId = true) (gC : X.mg x = some (.ref C)) (kC : PySem.W.keepIn X.K (.ref C) = true) (hg : Gl X x) (hdb : (x == ("__debug__" : Str)) = false := by decide) :
    PE X (.Call (.Name x p) [] [] pos) (fun _ H Q => ∀ a, H a = none → Q (.ref a) (upd H a (exo a C none))) := by
  refine ⟨fun pins s σ H Q I h => ?_⟩
  refine wpAny_Call_Name_kw (ld_glob I hg gC ?_ hdb)
  refine PySem.W.callWith_K0 I.kIn kC ?_
  show wpAny _ _ (call (.ref C) []) _ _ _
  obtain ⟨bm, N, nm, qn, bs, hdct, sn, sub, ab, col, dd, k0, k1, k2, k3, k5, mN, hC, hN, hni, T⟩ := exc_obj I.kIn q
  refine wpAny_call_exc_subT F T hC hN hni (fun h' a hm => ?_) (by show 0 ≤ sizeLine; rw [sizeLine_eq]; omega)
  have hn : H a = none := I.hok.gone hm.new
  obtain ⟨t, ht, _, _⟩ := hm.there
  exact ⟨.ref a, upd H a (exo a C none), I.laidN hm.keeps hm.new hn (exo_ok ht), rfl, h a hn⟩
/-- e.f, e an exception that has its attributes -/
def tFldE (K : PySem.W.Frag) (f : Str) (te : TE) : TE := fun σ H Q => te σ H fun x H1 => ∃ (a C d : Addr) (fs : List (Str × V)) (v : V), x = .ref a ∧ H1 a = some (exo a C (some d)) ∧ H1 d = some (exd d fs) ∧ XfC K C ∧ PySem.W.findIn K (.ref C) f = some none ∧ fs.lookup f = some v ∧ Q v H1
theorem exo_inst {pins : List (Addr × Obj)} {σ : St} {H : Hp} {s : Shared} {a d : Addr} {fs : List (Str × V)} (I : Inv X pins σ H s) (ha : H a = some (exo a C (some d))) (hd : H d = some (exd d fs)) :
    ∃ (ox od : Obj) (mA : Str → Option Value), PySem.W.InstAt s.heap a ox C (some od) ∧ (∀ g, RelO (fs.lookup g) (mA g)) ∧ ∀ g, PySem.W.lookIn g od = some (mA g) := by
  obtain ⟨t1, ho⟩ := exo_at I.hok ha
  obtain ⟨mA, hns, rel⟩ := exd_at I.hok hd
  obtain ⟨od, hod, hl⟩ := lookIn_ns hns
  exact ⟨_, od, mA, ⟨ho, rfl, rfl, hod⟩, rel, hl⟩
theorem pe_fldE {te : TE} (he : PE X e te) (hb : attributeBase e f X.env (eval e X.env) = eval e X.env := by rfl) : PE X (.Attribute e f pos) (tFldE X.K f te) := by
  refine ⟨fun pins s σ H Q I h => ?_⟩
  refine attr_of hb (thn (he.run pins s σ H _ I h) fun u s1 hh => ?_)
  obtain ⟨x, H1, I1, rx, a, C, d, fs, v, ex, ea, ed, T, no, l, q⟩ := hh
  subst ex
  obtain rfl : u = Value.ref a := rx
  obtain ⟨ox, od, mA, J, rel, hl⟩ := exo_inst I1 ea ed
  obtain ⟨u, hu, ru⟩ := RelO.some_of (v := v) (o := mA f) (by rw [← l]; exact rel f)
  exact HandSPX.exc_get I1.kIn J T.ga T.gg T.exC (PySem.W.findObj_own T.hdC no rfl (by rw [hl, hu])) (handed_of ru) ⟨v, H1, I1.tok _, ru, q⟩
/-- isinstance(e, c), e an exception at hand -/
def rIsO (K : PySem.W.Frag) : List V → Hp → VK → Prop := fun xs H Q => ∃ (a C : Addr) (od : Option Addr) (c : V) (cv : Value) (b : Bool), xs = [.ref a, c] ∧ H a = some (exo a C od) ∧ (∀ d, od = some d → ∃ fs, H d = some (exd d fs)) ∧ ExcC K C ∧ ClsV c cv ∧ PySem.W.kitOne K (.ref C) cv = some b ∧ Q (.bl b) H
theorem call_isO : CallR X (.builtin "isinstance") (rIsO X.K) := by
  intro pins s σ H xs us Q I r h
  obtain ⟨a, C, od, c, cv, b, rfl, ha, hd, T, kc, e, q⟩ := h
  obtain ⟨u1, u2, rfl, r1, r2⟩ := vals2 r
  obtain rfl : u1 = Value.ref a := r1
  have J : ∃ ox oo, PySem.W.InstAt s.heap a ox C oo := by
    cases od with
    | none =>
      obtain ⟨t1, ho⟩ := exo_at I.hok ha
      exact ⟨_, none, ho, rfl, rfl, trivial⟩
    | some d =>
      obtain ⟨fs, hd⟩ := hd d rfl
      obtain ⟨ox, oo, _, J, _⟩ := exo_inst I ha hd
      exact ⟨ox, some oo, J⟩
  have Z := LT.kit_exc (K := X.K) (x := a) (D := C) T
  have e2 := kc.eq r2
  subst e2
  exact PySem.W.kia_one Z I.kIn J e (fun z => nomatch z) fun tk => ⟨.bl b, H, I.tok tk, rfl, q⟩
end
end L2
namespace LT
open PySem L2
abbrev sI0 : Stmt := inClass (top 2) 0
abbrev sI1 : Stmt := inClass (top 3) 0
abbrev sI2 : Stmt := inClass (top 4) 0
abbrev sI3 : Stmt := inClass (top 5) 0
abbrev sI4 : Stmt := inClass (top 8) 0
abbrev sI5 : Stmt := inClass (top 9) 0
abbrev sMade : Stmt := top 15
abbrev sNamed : Stmt := top 16
abbrev sKept : Stmt := top 17
abbrev sKinds : Stmt := top 18
abbrev sLaw : Stmt := top 19
theorem boot_isin : bootBuiltins "isinstance" = some (.builtin "isinstance") := by decide +kernel
/-- an own __init__ that keeps its one argument -/
def spIn (A : Addr) (f : Str) : Sp := fun vs H Q _ => ∃ (a : Addr) (v : V), vs = [.ref a, v] ∧ H a = some (exo a A none) ∧
  ∀ dx, H dx = none → dx ≠ a → Q .non (upd (upd H dx (exd dx [(f, v)])) a (exo a A (some dx)))
/-- an error with its attribute -/
def ErrAt (H : Hp) (A : Addr) (f : Str) (v x : V) : Prop := ∃ a d : Addr, x = .ref a ∧ H a = some (exo a A (some d)) ∧ H d = some (exd d [(f, v)])
theorem ErrAt.mono {H J : Hp} {A : Addr} {f : Str} {v x : V} (s : Same H J) (h : ErrAt H A f v x) : ErrAt J A f v x := by
  obtain ⟨a, d, e, h1, h2⟩ := h
  exact ⟨a, d, e, s _ _ h1, s _ _ h2⟩
/-- an error of the class at A, with or without attributes -/
def KindAt (H : Hp) (A : Addr) (x : V) : Prop := ∃ (a : Addr) (od : Option Addr), x = .ref a ∧ H a = some (exo a A od) ∧ ∀ d, od = some d → ∃ fs, H d = some (exd d fs)
theorem KindAt.mono {H J : Hp} {A : Addr} {x : V} (s : Same H J) (h : KindAt H A x) : KindAt J A x := by
  obtain ⟨a, od, e, h1, h2⟩ := h
  exact ⟨a, od, e, s _ _ h1, fun d z => (h2 d z).imp fun fs q => s _ _ q⟩
theorem ErrAt.kind {H : Hp} {A : Addr} {f : Str} {v x : V} (h : ErrAt H A f v x) : KindAt H A x := by
  obtain ⟨a, d, e, h1, h2⟩ := h
  exact ⟨a, some d, e, h1, fun d' z => by cases z; exact ⟨_, h2⟩⟩
theorem new_err {H : Hp} {a d A : Addr} {f : Str} {v : V} (ha : H a = none) (hd : upd H a (exo a A none) d = none) (ne : d ≠ a) :
    Same H (upd (upd (upd H a (exo a A none)) d (exd d [(f, v)])) a (exo a A (some d))) ∧ ErrAt (upd (upd (upd H a (exo a A none)) d (exd d [(f, v)])) a (exo a A (some d))) A f v (.ref a) := by
  have hd' : H d = none := by
    rw [upd_ne ne] at hd
    exact hd
  refine ⟨fun c o e => ?_, a, d, rfl, upd_same, by rw [upd_ne ne]; exact upd_same⟩
  rw [upd_ne (ne_of_none e ha), upd_ne (ne_of_none e hd'), upd_ne (ne_of_none e ha)]
  exact e
/-- what the written part says of a class of errors that keeps f -/
structure OneG (P : Program) (w : World) (K : PySem.W.Frag) (mg : Str → Option Value) (base : Heap) (A : Addr) (x f : Str) : Prop where
  ec : ∃ (B newId initId : String) (bmB : List Value), EC K A B newId initId bmB
  ini : ∃ (fI : Addr) (fd : FuncData), FnOk P w K mg base CX0 1 fI fd ["self", f] (spIn A f) ∧ Binds K fd ["self", f] [] ∧ (∀ (s : Shared) (a u : Value), BindsTo s fd ⟨[a], [(f, u)]⟩ [("self", a), (f, u)]) ∧
    PySem.W.findIn K (.ref A) "__init__" = some (some (.ref fI)) ∧ PySem.W.typeIn K (.ref fI) = some (.type "function")
  m : mg x = some (.ref A)
  no : PySem.W.findIn K (.ref A) f = some none
structure NilG (K : PySem.W.Frag) (mg : Str → Option Value) (A : Addr) (x : Str) : Prop where
  ec : ∃ (B newId initId : String) (bmB : List Value), ExcBaseFacts B newId initId bmB ∧ PySem.W.excIn K A bmB newId = true
  m : mg x = some (.ref A)
  k : PySem.W.keepIn K (.ref A) = true
structure AllG (P : Program) (w : World) (K : PySem.W.Frag) (mg : Str → Option Value) (base : Heap) (C : Nat → Addr) : Prop where
  g0 : OneG P w K mg base (C 0) "InvalidRow" "word"
  g1 : OneG P w K mg base (C 1) "InvalidRule" "word"
  g2 : OneG P w K mg base (C 2) "InvalidText" "at"
  g3 : OneG P w K mg base (C 3) "InvalidRound" "at"
  g4 : OneG P w K mg base (C 4) "Refused" "at"
  g5 : OneG P w K mg base (C 5) "NoRow" "at"
  g6 : NilG K mg (C 6) "InvalidFault"
  g7 : NilG K mg (C 7) "InvalidCommand"
  xf : ∀ i, i < 8 → XfC K (C i)
  xc : ∀ i, i < 8 → ExcC K (C i)
  kk : ∀ i j, i < 8 → j < 8 → PySem.W.kitOne K (.ref (C i)) (.ref (C j)) = some (decide (i = j))
structure BltX (mg : Str → Option Value) : Prop where
  isin : mg "isinstance" = none
theorem pe_fldE' {X : Cx} {K : PySem.W.Frag} {e : Expr} {f : Str} {te : TE} {pos : Pos} (hK : X.K = K) (he : PE X e te) (hb : attributeBase e f X.env (eval e X.env) = eval e X.env := by rfl) : PE X (.Attribute e f pos) (tFldE K f te) := by
  subst hK
  exact pe_fldE he hb
section
variable {P : Program} {w : World} {K : PySem.W.Frag} {mg : Str → Option Value} {base : Heap}
theorem sc0 : FnScope ["self", "word"] ["self", "word"] (defScope sI0) := ⟨rfl, rfl, rfl, by decide +kernel, rfl, by decide +kernel, by decide +kernel⟩
theorem ok_in0 {A g : Addr} {fd : FuncData} {B newId initId : String} {bmB : List Value} (F : Fun K "__init__" "InvalidRow.__init__" sI0 g fd) (T : EC K A B newId initId bmB) (no : PySem.W.findIn K (.ref A) "word" = some none) : FnOk P w K mg base CX0 1 g fd ["self", "word"] (spIn A "word") := by
  refine F.ok sc0 (fun vs H Q E h => ?_) (fun cdv A outer s H vs Q E hr h => ?_)
  · obtain ⟨a, v, rfl, _⟩ := h
    rfl
  obtain ⟨a, v, rfl, ha, q⟩ := h
  refine ⟨_, pss_one (ps_setE (pv 0) (pv 1)), ?_⟩
  exact ⟨_, rfl, _, rfl, a, _, B, newId, initId, bmB, rfl, T, no, ha, q⟩
theorem sc1 : FnScope ["self", "word"] ["self", "word"] (defScope sI1) := ⟨rfl, rfl, rfl, by decide +kernel, rfl, by decide +kernel, by decide +kernel⟩
theorem ok_in1 {A g : Addr} {fd : FuncData} {B newId initId : String} {bmB : List Value} (F : Fun K "__init__" "InvalidRule.__init__" sI1 g fd) (T : EC K A B newId initId bmB) (no : PySem.W.findIn K (.ref A) "word" = some none) : FnOk P w K mg base CX0 1 g fd ["self", "word"] (spIn A "word") := by
  refine F.ok sc1 (fun vs H Q E h => ?_) (fun cdv A outer s H vs Q E hr h => ?_)
  · obtain ⟨a, v, rfl, _⟩ := h
    rfl
  obtain ⟨a, v, rfl, ha, q⟩ := h
  refine ⟨_, pss_one (ps_setE (pv 0) (pv 1)), ?_⟩
  exact ⟨_, rfl, _, rfl, a, _, B, newId, initId, bmB, rfl, T, no, ha, q⟩
theorem sc2 : FnScope ["self", "at"] ["self", "at"] (defScope sI2) := ⟨rfl, rfl, rfl, by decide +kernel, rfl, by decide +kernel, by decide +kernel⟩
theorem ok_in2 {A g : Addr} {fd : FuncData} {B newId initId : String} {bmB : List Value} (F : Fun K "__init__" "InvalidText.__init__" sI2 g fd) (T : EC K A B newId initId bmB) (no : PySem.W.findIn K (.ref A) "at" = some none) : FnOk P w K mg base CX0 1 g fd ["self", "at"] (spIn A "at") := by
  refine F.ok sc2 (fun vs H Q E h => ?_) (fun cdv A outer s H vs Q E hr h => ?_)
  · obtain ⟨a, v, rfl, _⟩ := h
    rfl
  obtain ⟨a, v, rfl, ha, q⟩ := h
  refine ⟨_, pss_one (ps_setE (pv 0) (pv 1)), ?_⟩
  exact ⟨_, rfl, _, rfl, a, _, B, newId, initId, bmB, rfl, T, no, ha, q⟩
theorem sc3 : FnScope ["self", "at"] ["self", "at"] (defScope sI3) := ⟨rfl, rfl, rfl, by decide +kernel, rfl, by decide +kernel, by decide +kernel⟩
theorem ok_in3 {A g : Addr} {fd : FuncData} {B newId initId : String} {bmB : List Value} (F : Fun K "__init__" "InvalidRound.__init__" sI3 g fd) (T : EC K A B newId initId bmB) (no : PySem.W.findIn K (.ref A) "at" = some none) : FnOk P w K mg base CX0 1 g fd ["self", "at"] (spIn A "at") := by
  refine F.ok sc3 (fun vs H Q E h => ?_) (fun cdv A outer s H vs Q E hr h => ?_)
  · obtain ⟨a, v, rfl, _⟩ := h
    rfl
  obtain ⟨a, v, rfl, ha, q⟩ := h
  refine ⟨_, pss_one (ps_setE (pv 0) (pv 1)), ?_⟩
  exact ⟨_, rfl, _, rfl, a, _, B, newId, initId, bmB, rfl, T, no, ha, q⟩
theorem sc4 : FnScope ["self", "at"] ["self", "at"] (defScope sI4) := ⟨rfl, rfl, rfl, by decide +kernel, rfl, by decide +kernel, by decide +kernel⟩
theorem ok_in4 {A g : Addr} {fd : FuncData} {B newId initId : String} {bmB : List Value} (F : Fun K "__init__" "Refused.__init__" sI4 g fd) (T : EC K A B newId initId bmB) (no : PySem.W.findIn K (.ref A) "at" = some none) : FnOk P w K mg base CX0 1 g fd ["self", "at"] (spIn A "at") := by
  refine F.ok sc4 (fun vs H Q E h => ?_) (fun cdv A outer s H vs Q E hr h => ?_)
  · obtain ⟨a, v, rfl, _⟩ := h
    rfl
  obtain ⟨a, v, rfl, ha, q⟩ := h
  refine ⟨_, pss_one (ps_setE (pv 0) (pv 1)), ?_⟩
  exact ⟨_, rfl, _, rfl, a, _, B, newId, initId, bmB, rfl, T, no, ha, q⟩
theorem sc5 : FnScope ["self", "at"] ["self", "at"] (defScope sI5) := ⟨rfl, rfl, rfl, by decide +kernel, rfl, by decide +kernel, by decide +kernel⟩
theorem ok_in5 {A g : Addr} {fd : FuncData} {B newId initId : String} {bmB : List Value} (F : Fun K "__init__" "NoRow.__init__" sI5 g fd) (T : EC K A B newId initId bmB) (no : PySem.W.findIn K (.ref A) "at" = some none) : FnOk P w K mg base CX0 1 g fd ["self", "at"] (spIn A "at") := by
  refine F.ok sc5 (fun vs H Q E h => ?_) (fun cdv A outer s H vs Q E hr h => ?_)
  · obtain ⟨a, v, rfl, _⟩ := h
    rfl
  obtain ⟨a, v, rfl, ha, q⟩ := h
  refine ⟨_, pss_one (ps_setE (pv 0) (pv 1)), ?_⟩
  exact ⟨_, rfl, _, rfl, a, _, B, newId, initId, bmB, rfl, T, no, ha, q⟩
def Made (C : Nat → Addr) (v : V) (J : Hp) (xs : List V) : Prop := ∃ e0 e1 e2 e3 e4 e5 e6 e7 : V, xs = [e0, e1, e2, e3, e4, e5, e6, e7] ∧ ErrAt J (C 0) "word" v e0 ∧ ErrAt J (C 1) "word" v e1 ∧ ErrAt J (C 2) "at" v e2 ∧ ErrAt J (C 3) "at" v e3 ∧ ErrAt J (C 4) "at" v e4 ∧ ErrAt J (C 5) "at" v e5 ∧ KindAt J (C 6) e6 ∧ KindAt J (C 7) e7
/-- the errors that keep something -/
def Six (C : Nat → Addr) (v : V) (J : Hp) (xs : List V) : Prop := ∃ (e0 e1 e2 e3 e4 e5 : V) (rest : List V), xs = e0 :: e1 :: e2 :: e3 :: e4 :: e5 :: rest ∧ (rest = [] ∨ ∃ y z, rest = [y, z]) ∧ ErrAt J (C 0) "word" v e0 ∧ ErrAt J (C 1) "word" v e1 ∧ ErrAt J (C 2) "at" v e2 ∧ ErrAt J (C 3) "at" v e3 ∧ ErrAt J (C 4) "at" v e4 ∧ ErrAt J (C 5) "at" v e5
theorem Made.six {C : Nat → Addr} {v : V} {J : Hp} {xs : List V} (h : Made C v J xs) : Six C v J xs := by
  obtain ⟨e0, e1, e2, e3, e4, e5, e6, e7, e, h0, h1, h2, h3, h4, h5, _⟩ := h
  exact ⟨e0, e1, e2, e3, e4, e5, [e6, e7], e, .inr ⟨e6, e7, rfl⟩, h0, h1, h2, h3, h4, h5⟩
theorem Six.mono {C : Nat → Addr} {v : V} {J L : Hp} {xs : List V} (s : Same J L) (h : Six C v J xs) : Six C v L xs := by
  obtain ⟨e0, e1, e2, e3, e4, e5, r, e, sh, h0, h1, h2, h3, h4, h5⟩ := h
  exact ⟨e0, e1, e2, e3, e4, e5, r, e, sh, h0.mono s, h1.mono s, h2.mono s, h3.mono s, h4.mono s, h5.mono s⟩
theorem Made.mono {C : Nat → Addr} {v : V} {J L : Hp} {xs : List V} (s : Same J L) (h : Made C v J xs) : Made C v L xs := by
  obtain ⟨e0, e1, e2, e3, e4, e5, e6, e7, e, h0, h1, h2, h3, h4, h5, h6, h7⟩ := h
  exact ⟨e0, e1, e2, e3, e4, e5, e6, e7, e, h0.mono s, h1.mono s, h2.mono s, h3.mono s, h4.mono s, h5.mono s, h6.mono s, h7.mono s⟩
def spMade (C : Nat → Addr) : Sp := fun vs H Q _ => ∃ v : V, vs = [v] ∧ ∀ (l : Addr) (xs : List V) (J : Hp), Same H J → H l = none → J l = some (.lst xs) → Made C v J xs → Q (.ref l) J
def spNamed (C : Nat → Addr) : Sp := fun vs H Q _ => ∃ v : V, vs = [v] ∧ ∀ (l : Addr) (xs : List V) (J : Hp), Same H J → H l = none → J l = some (.lst xs) → Six C v J xs → Q (.ref l) J
def nMade : List Str := ["_law_value", "_law_found"]
theorem scMade : FnScope nMade ["_law_value"] (defScope sMade) := ⟨rfl, rfl, rfl, by decide +kernel, rfl, by decide +kernel, by decide +kernel⟩
theorem scNamed : FnScope nMade ["_law_value"] (defScope sNamed) := ⟨rfl, rfl, rfl, by decide +kernel, rfl, by decide +kernel, by decide +kernel⟩
theorem ok_made {C : Nat → Addr} {f : Addr} {fd : FuncData} (F : Fun K "_law_made" "_law_made" sMade f fd) (G : AllG P w K mg base C) : FnOk P w K mg base CX0 3 f fd ["_law_value"] (spMade C) := by
  obtain ⟨⟨B0', nI0, iI0, bm0, E0⟩, ⟨f0, d0, G0, b0, B0, I0, t0⟩, m0, no0⟩ := G.g0
  obtain ⟨⟨B1', nI1, iI1, bm1, E1⟩, ⟨f1, d1, G1, b1, B1, I1, t1⟩, m1, no1⟩ := G.g1
  obtain ⟨⟨B2', nI2, iI2, bm2, E2⟩, ⟨f2, d2, G2, b2, B2, I2, t2⟩, m2, no2⟩ := G.g2
  obtain ⟨⟨B3', nI3, iI3, bm3, E3⟩, ⟨f3, d3, G3, b3, B3, I3, t3⟩, m3, no3⟩ := G.g3
  obtain ⟨⟨B4', nI4, iI4, bm4, E4⟩, ⟨f4, d4, G4, b4, B4, I4, t4⟩, m4, no4⟩ := G.g4
  obtain ⟨⟨B5', nI5, iI5, bm5, E5⟩, ⟨f5, d5, G5, b5, B5, I5, t5⟩, m5, no5⟩ := G.g5
  obtain ⟨⟨_, _, _, _, F6, x6⟩, m6, k6⟩ := G.g6
  obtain ⟨⟨_, _, _, _, F7, x7⟩, m7, k7⟩ := G.g7
  refine F.ok scMade (fun vs H Q E h => ?_) (fun cdv A outer s H vs Q E hr h => ?_)
  · obtain ⟨v, rfl, _⟩ := h
    rfl
  obtain ⟨v, rfl, q⟩ := h
  refine ⟨_, (pss_cons (ps_set (i := 1) scMade.nd rfl (Or.inl rfl) (pe_lst (pa_cons (pe_exV E0 I0 t0 G0 hr b0 pass0 rfl m0 (pa_cons (pv 0) pa_nil)) (pa_cons (pe_exV E1 I1 t1 G1 hr b1 pass0 rfl m1 (pa_cons (pv 0) pa_nil)) (pa_cons (pe_exV E2 I2 t2 G2 hr b2 pass0 rfl m2 (pa_cons (pv 0) pa_nil)) (pa_cons (pe_exV E3 I3 t3 G3 hr b3 pass0 rfl m3 (pa_cons (pv 0) pa_nil)) (pa_cons (pe_exV E4 I4 t4 G4 hr b4 pass0 rfl m4 (pa_cons (pv 0) pa_nil)) pa_nil)))))))
    (pss_one (ps_ret (pe_op op_cat (pv 1) (pe_lst (pa_cons (pe_exV E5 I5 t5 G5 hr b5 pass0 rfl m5 (pa_cons (pv 0) pa_nil)) (pa_cons (pe_ex0 F6 x6 m6 k6 rfl) (pa_cons (pe_ex0 F7 x7 m7 k7 rfl) pa_nil)))))))), ?_⟩
  refine ⟨_, rfl, (by show 1 ≤ 1000; decide), fun a0 n0 => ⟨a0, v, rfl, upd_same, fun d0' m0' ne0 => ⟨rfl, ?_⟩⟩⟩
  obtain ⟨s0, r0⟩ := new_err (A := C 0) (f := "word") (v := v) n0 m0' ne0
  generalize upd (upd (upd H a0 _) d0' _) a0 _ = J0 at s0 r0 ⊢
  refine ⟨_, rfl, (by show 1 ≤ 1000; decide), fun a1 n1 => ⟨a1, v, rfl, upd_same, fun d1' m1' ne1 => ⟨rfl, ?_⟩⟩⟩
  obtain ⟨s1, r1⟩ := new_err (A := C 1) (f := "word") (v := v) n1 m1' ne1
  generalize upd (upd (upd J0 a1 _) d1' _) a1 _ = J1 at s1 r1 ⊢
  refine ⟨_, rfl, (by show 1 ≤ 1000; decide), fun a2 n2 => ⟨a2, v, rfl, upd_same, fun d2' m2' ne2 => ⟨rfl, ?_⟩⟩⟩
  obtain ⟨s2, r2⟩ := new_err (A := C 2) (f := "at") (v := v) n2 m2' ne2
  generalize upd (upd (upd J1 a2 _) d2' _) a2 _ = J2 at s2 r2 ⊢
  refine ⟨_, rfl, (by show 1 ≤ 1000; decide), fun a3 n3 => ⟨a3, v, rfl, upd_same, fun d3' m3' ne3 => ⟨rfl, ?_⟩⟩⟩
  obtain ⟨s3, r3⟩ := new_err (A := C 3) (f := "at") (v := v) n3 m3' ne3
  generalize upd (upd (upd J2 a3 _) d3' _) a3 _ = J3 at s3 r3 ⊢
  refine ⟨_, rfl, (by show 1 ≤ 1000; decide), fun a4 n4 => ⟨a4, v, rfl, upd_same, fun d4' m4' ne4 => ⟨rfl, ?_⟩⟩⟩
  obtain ⟨s4, r4⟩ := new_err (A := C 4) (f := "at") (v := v) n4 m4' ne4
  generalize upd (upd (upd J3 a4 _) d4' _) a4 _ = J4 at s4 r4 ⊢
  refine ⟨(by show 5 ≤ sizeLine; decide), fun l0 k0 => ?_⟩
  have sl := new_same k0 (.lst [.ref a0, .ref a1, .ref a2, .ref a3, .ref a4])
  have hl : upd J4 l0 (.lst [.ref a0, .ref a1, .ref a2, .ref a3, .ref a4]) l0 = some (.lst [.ref a0, .ref a1, .ref a2, .ref a3, .ref a4]) := upd_same
  generalize upd J4 l0 _ = L at sl hl ⊢
  refine ⟨_, rfl, _, rfl, (by show 1 ≤ 1000; decide), fun a5 n5 => ⟨a5, v, rfl, upd_same, fun d5' m5' ne5 => ⟨rfl, ?_⟩⟩⟩
  obtain ⟨s5, r5⟩ := new_err (A := C 5) (f := "at") (v := v) n5 m5' ne5
  generalize upd (upd (upd L a5 _) d5' _) a5 _ = J5 at s5 r5 ⊢
  intro a6 n6
  have s6 := new_same n6 (exo a6 (C 6) none)
  have r6 : KindAt (upd J5 a6 (exo a6 (C 6) none)) (C 6) (.ref a6) := ⟨a6, none, rfl, upd_same, fun _ z => nomatch z⟩
  generalize upd J5 a6 _ = J6 at s6 r6 ⊢
  intro a7 n7
  have s7 := new_same n7 (exo a7 (C 7) none)
  have r7 : KindAt (upd J6 a7 (exo a7 (C 7) none)) (C 7) (.ref a7) := ⟨a7, none, rfl, upd_same, fun _ z => nomatch z⟩
  generalize upd J6 a7 _ = J7 at s7 r7 ⊢
  have t5 := s5.trans (s6.trans s7)
  have t4 := sl.trans t5
  have t3 := s4.trans t4
  have t2 := s3.trans t3
  have t1 := s2.trans t2
  have t0' := s1.trans t1
  have tH := s0.trans t0'
  refine ⟨(by show 3 ≤ sizeLine; decide), fun l1 k1 => ⟨l0, l1, _, _, rfl, rfl, new_same k1 _ _ _ (t5 _ _ hl), upd_same, (by show 8 ≤ sizeLine; decide), fun l2 k2 => ?_⟩⟩
  have u1 := new_same k1 (.lst [V.ref a5, .ref a6, .ref a7])
  have u2 := u1.trans (new_same k2 (.lst ([V.ref a0, .ref a1, .ref a2, .ref a3, .ref a4] ++ [V.ref a5, .ref a6, .ref a7])))
  refine q l2 _ _ (tH.trans u2) ((tH.trans u1).free k2) upd_same ⟨_, _, _, _, _, _, _, _, rfl, (r0.mono t0').mono u2, (r1.mono t1).mono u2, (r2.mono t2).mono u2, (r3.mono t3).mono u2, (r4.mono t4).mono u2, (r5.mono (s6.trans s7)).mono u2, (r6.mono s7).mono u2, r7.mono u2⟩
theorem ok_named {C : Nat → Addr} {f : Addr} {fd : FuncData} (F : Fun K "_law_named" "_law_named" sNamed f fd) (G : AllG P w K mg base C) : FnOk P w K mg base CX0 3 f fd ["_law_value"] (spNamed C) := by
  obtain ⟨⟨B0', nI0, iI0, bm0, E0⟩, ⟨f0, d0, G0, b0, B0, I0, t0⟩, m0, no0⟩ := G.g0
  obtain ⟨⟨B1', nI1, iI1, bm1, E1⟩, ⟨f1, d1, G1, b1, B1, I1, t1⟩, m1, no1⟩ := G.g1
  obtain ⟨⟨B2', nI2, iI2, bm2, E2⟩, ⟨f2, d2, G2, b2, B2, I2, t2⟩, m2, no2⟩ := G.g2
  obtain ⟨⟨B3', nI3, iI3, bm3, E3⟩, ⟨f3, d3, G3, b3, B3, I3, t3⟩, m3, no3⟩ := G.g3
  obtain ⟨⟨B4', nI4, iI4, bm4, E4⟩, ⟨f4, d4, G4, b4, B4, I4, t4⟩, m4, no4⟩ := G.g4
  obtain ⟨⟨B5', nI5, iI5, bm5, E5⟩, ⟨f5, d5, G5, b5, B5, I5, t5⟩, m5, no5⟩ := G.g5
  refine F.ok scNamed (fun vs H Q E h => ?_) (fun cdv A outer s H vs Q E hr h => ?_)
  · obtain ⟨v, rfl, _⟩ := h
    rfl
  obtain ⟨v, rfl, q⟩ := h
  refine ⟨_, (pss_cons (ps_set (i := 1) scNamed.nd rfl (Or.inl rfl) (pe_lst (pa_cons (pe_exK E0 I0 t0 G0 hr B0 pass0 rfl m0 (pk_cons (pv 0) pk_nil)) (pa_cons (pe_exK E1 I1 t1 G1 hr B1 pass0 rfl m1 (pk_cons (pv 0) pk_nil)) (pa_cons (pe_exK E2 I2 t2 G2 hr B2 pass0 rfl m2 (pk_cons (pv 0) pk_nil)) (pa_cons (pe_exK E3 I3 t3 G3 hr B3 pass0 rfl m3 (pk_cons (pv 0) pk_nil)) pa_nil))))))
    (pss_one (ps_ret (pe_op op_cat (pv 1) (pe_lst (pa_cons (pe_exK E4 I4 t4 G4 hr B4 pass0 rfl m4 (pk_cons (pv 0) pk_nil)) (pa_cons (pe_exK E5 I5 t5 G5 hr B5 pass0 rfl m5 (pk_cons (pv 0) pk_nil)) pa_nil))))))), ?_⟩
  refine ⟨_, rfl, v, rfl, fun a0 n0 => ⟨a0, v, rfl, upd_same, fun d0' m0' ne0 => ⟨rfl, ?_⟩⟩⟩
  obtain ⟨s0, r0⟩ := new_err (A := C 0) (f := "word") (v := v) n0 m0' ne0
  generalize upd (upd (upd H a0 _) d0' _) a0 _ = J0 at s0 r0 ⊢
  refine ⟨_, rfl, v, rfl, fun a1 n1 => ⟨a1, v, rfl, upd_same, fun d1' m1' ne1 => ⟨rfl, ?_⟩⟩⟩
  obtain ⟨s1, r1⟩ := new_err (A := C 1) (f := "word") (v := v) n1 m1' ne1
  generalize upd (upd (upd J0 a1 _) d1' _) a1 _ = J1 at s1 r1 ⊢
  refine ⟨_, rfl, v, rfl, fun a2 n2 => ⟨a2, v, rfl, upd_same, fun d2' m2' ne2 => ⟨rfl, ?_⟩⟩⟩
  obtain ⟨s2, r2⟩ := new_err (A := C 2) (f := "at") (v := v) n2 m2' ne2
  generalize upd (upd (upd J1 a2 _) d2' _) a2 _ = J2 at s2 r2 ⊢
  refine ⟨_, rfl, v, rfl, fun a3 n3 => ⟨a3, v, rfl, upd_same, fun d3' m3' ne3 => ⟨rfl, ?_⟩⟩⟩
  obtain ⟨s3, r3⟩ := new_err (A := C 3) (f := "at") (v := v) n3 m3' ne3
  generalize upd (upd (upd J2 a3 _) d3' _) a3 _ = J3 at s3 r3 ⊢
  refine ⟨(by show 4 ≤ sizeLine; decide), fun l0 k0 => ?_⟩
  have sl := new_same k0 (.lst [.ref a0, .ref a1, .ref a2, .ref a3])
  have hl : upd J3 l0 (.lst [.ref a0, .ref a1, .ref a2, .ref a3]) l0 = some (.lst [.ref a0, .ref a1, .ref a2, .ref a3]) := upd_same
  generalize upd J3 l0 _ = L at sl hl ⊢
  refine ⟨_, rfl, _, rfl, v, rfl, fun a4 n4 => ⟨a4, v, rfl, upd_same, fun d4' m4' ne4 => ⟨rfl, ?_⟩⟩⟩
  obtain ⟨s4, r4⟩ := new_err (A := C 4) (f := "at") (v := v) n4 m4' ne4
  generalize upd (upd (upd L a4 _) d4' _) a4 _ = J4 at s4 r4 ⊢
  refine ⟨_, rfl, v, rfl, fun a5 n5 => ⟨a5, v, rfl, upd_same, fun d5' m5' ne5 => ⟨rfl, ?_⟩⟩⟩
  obtain ⟨s5, r5⟩ := new_err (A := C 5) (f := "at") (v := v) n5 m5' ne5
  generalize upd (upd (upd J4 a5 _) d5' _) a5 _ = J5 at s5 r5 ⊢
  have t4 := s5
  have t3 := sl.trans (s4.trans t4)
  have t2 := s3.trans t3
  have t1 := s2.trans t2
  have t0' := s1.trans t1
  have tH := s0.trans t0'
  refine ⟨(by show 2 ≤ sizeLine; decide), fun l1 k1 => ⟨l0, l1, _, _, rfl, rfl, new_same k1 _ _ _ (t4 _ _ (s4 _ _ hl)), upd_same, (by show 6 ≤ sizeLine; decide), fun l2 k2 => ?_⟩⟩
  have u1 := new_same k1 (.lst [V.ref a4, .ref a5])
  have u2 := u1.trans (new_same k2 (.lst ([V.ref a0, .ref a1, .ref a2, .ref a3] ++ [V.ref a4, .ref a5])))
  refine q l2 _ _ (tH.trans u2) ((tH.trans u1).free k2) upd_same ⟨_, _, _, _, _, _, [], rfl, .inl rfl, (r0.mono t0').mono u2, (r1.mono t1).mono u2, (r2.mono t2).mono u2, (r3.mono t3).mono u2, (r4.mono t4).mono u2, r5.mono u2⟩
end
end LT
namespace LT
open PySem L2
theorem cut26 {e0 e1 e2 e3 e4 e5 : V} {r : List V} (h : r = [] ∨ ∃ y z, r = [y, z]) : cutV (e0 :: e1 :: e2 :: e3 :: e4 :: e5 :: r) none (some 2) = [e0, e1] ∧ cutV (e0 :: e1 :: e2 :: e3 :: e4 :: e5 :: r) (some 2) (some 6) = [e2, e3, e4, e5] := by
  rcases h with rfl | ⟨y, z, rfl⟩ <;> exact ⟨rfl, rfl⟩
def spKept (K : PySem.W.Frag) (C : Nat → Addr) : Sp := fun vs H Q _ => ∃ (l : Addr) (xs : List V) (v : V), vs = [.ref l] ∧ SqL K H l xs ∧ Six C v H xs ∧ ∀ (n : Addr) (J : Hp), Same H J → H n = none → J n = some (.lst [v, v, v, v, v, v]) → Q (.ref n) J
def spKinds (C : Nat → Addr) : Sp := fun vs H Q _ => ∃ (x : V) (i : Nat), vs = [x] ∧ i < 8 ∧ KindAt H (C i) x ∧ ∀ (n : Addr) (J : Hp), Same H J → H n = none → J n = some (.lst ((List.range 8).map fun j => V.bl (decide (i = j)))) → Q (.ref n) J
def nKept : List Str := ["_law_errors", "_law_error"]
def nKinds : List Str := ["_law_error", "_law_found"]
/-- a comprehension that reads one attribute of each error: what stands behind i turns -/
def LoopF (v : V) (H1 : Hp) (D : Addr) (i : Nat) (J : Hp) : Prop := J D = some (.lst (List.replicate i v)) ∧ Same H1 J
theorem loopF_turn {v : V} {H1 J : Hp} {D : Addr} {i : Nat} (hD : H1 D = none) (h : LoopF v H1 D i J) : LoopF v H1 D (i + 1) (upd J D (.lst (List.replicate i v ++ [v]))) :=
  ⟨by rw [upd_same, List.replicate_succ'], fun c o e => by
    rw [upd_ne (ne_of_none e hD)]
    exact h.2 c o e⟩
section
variable {P : Program} {w : World} {K : PySem.W.Frag} {mg : Str → Option Value} {base : Heap}
theorem scKept : FnScope nKept ["_law_errors"] (defScope sKept) := ⟨rfl, rfl, rfl, by decide +kernel, rfl, by decide +kernel, by decide +kernel⟩
theorem scKinds : FnScope nKinds ["_law_error"] (defScope sKinds) := ⟨rfl, rfl, rfl, by decide +kernel, rfl, by decide +kernel, by decide +kernel⟩
theorem ok_kept {C : Nat → Addr} {f : Addr} {fd : FuncData} (F : Fun K "_law_kept" "_law_kept" sKept f fd) (G : AllG P w K mg base C) : FnOk P w K mg base CX0 1 f fd ["_law_errors"] (spKept K C) := by
  refine F.ok scKept (fun vs H Q E h => ?_) (fun cdv A outer s H vs Q E hr h => ?_)
  · obtain ⟨l, xs, v, rfl, _⟩ := h
    rfl
  obtain ⟨l, xs, v, rfl, hS, ⟨e0, e1, e2, e3, e4, e5, r, rfl, hrest, h0, h1, h2, h3, h4, h5⟩, q⟩ := h
  obtain ⟨c2, c6⟩ := cut26 (e0 := e0) (e1 := e1) (e2 := e2) (e3 := e3) (e4 := e4) (e5 := e5) hrest
  have two : ∀ x ∈ [e0, e1], ∃ i, i < 8 ∧ ErrAt H (C i) "word" v x ∧ PySem.W.findIn K (.ref (C i)) "word" = some none := fun x hx => by
    simp only [List.mem_cons, List.not_mem_nil, or_false] at hx
    rcases hx with rfl | rfl
    · exact ⟨0, by decide, h0, G.g0.no⟩
    · exact ⟨1, by decide, h1, G.g1.no⟩
  have four : ∀ x ∈ [e2, e3, e4, e5], ∃ i, i < 8 ∧ ErrAt H (C i) "at" v x ∧ PySem.W.findIn K (.ref (C i)) "at" = some none := fun x hx => by
    simp only [List.mem_cons, List.not_mem_nil, or_false] at hx
    rcases hx with rfl | rfl | rfl | rfl
    · exact ⟨2, by decide, h2, G.g2.no⟩
    · exact ⟨3, by decide, h3, G.g3.no⟩
    · exact ⟨4, by decide, h4, G.g4.no⟩
    · exact ⟨5, by decide, h5, G.g5.no⟩
  refine ⟨_, (pss_one (ps_ret (pe_op op_cat (pe_lc (own := [("_law_error", 1)]) (g := gName 1) (tt := tYes) (by rfl) scKept.nd (pi_list (pe_slice sl_list (pv 0) po_none (po_some pe_int))) (blkOk_by (N := nKept) (sc := defScope sKept) (own := [("_law_error", 1)]) (by decide +kernel)) (fun _ _ _ _ _ => pg_name (i := 1) scKept.nd rfl (Or.inl rfl)) (fun _ _ _ _ _ => pts_nil) (fun _ _ _ _ _ => (pe_fldE' (K := K) rfl (pv 1)))) (pe_lc (own := [("_law_error", 1)]) (g := gName 1) (tt := tYes) (by rfl) scKept.nd (pi_list (pe_slice sl_list (pv 0) (po_some pe_int) (po_some pe_int))) (blkOk_by (N := nKept) (sc := defScope sKept) (own := [("_law_error", 1)]) (by decide +kernel)) (fun _ _ _ _ _ => pg_name (i := 1) scKept.nd rfl (Or.inl rfl)) (fun _ _ _ _ _ => pts_nil) (fun _ _ _ _ _ => (pe_fldE' (K := K) rfl (pv 1))))))), ?_⟩
  refine ⟨_, rfl, _, rfl, l, _, rfl, hS, fun p np => ⟨p, rfl, ⟨_, SqL.of upd_same⟩, fun D hD => lc_list (K := K) (a := p) (xs := [e0, e1]) (LoopF v (upd H p (.lst [e0, e1])) D) ⟨upd_same, new_same (by rw [c2] at hD; exact hD) _⟩ (fun i J _ L => SqL.of (L.2 _ _ upd_same)) (fun i x J hx L => ?_) (fun J L => ?_)⟩⟩
  · obtain ⟨i', hi', ⟨a, d, rfl, ha, hd⟩, no⟩ := two x (List.mem_of_getElem? hx)
    rw [c2] at hD
    have sJ := (new_same np (.lst [e0, e1])).trans L.2
    exact ⟨rfl, _, rfl, a, C i', d, _, v, rfl, sJ _ _ ha, sJ _ _ hd, G.xf i' hi', no, rfl, _, L.1, by
      rw [List.length_replicate]
      have := (List.getElem?_eq_some_iff.mp hx).1
      exact small1000 (by simp at this; omega), loopF_turn hD L⟩
  obtain ⟨l1, s1⟩ := L
  rw [c2] at hD
  have sH := (new_same np (.lst [e0, e1])).trans s1
  have hDH : H D = none := (new_same np (.lst [e0, e1])).free hD
  refine ⟨_, rfl, _, rfl, _, rfl, l, _, rfl, sH.seq hS, fun p2 np2 => ⟨p2, rfl, ⟨_, SqL.of upd_same⟩, fun D2 hD2 => lc_list (K := K) (a := p2) (xs := [e2, e3, e4, e5]) (LoopF v (upd J p2 (.lst [e2, e3, e4, e5])) D2) ⟨upd_same, new_same (by rw [c6] at hD2; exact hD2) _⟩ (fun i J _ L => SqL.of (L.2 _ _ upd_same)) (fun i x J2 hx L => ?_) (fun J2 L => ?_)⟩⟩
  · obtain ⟨i', hi', ⟨a, d, rfl, ha, hd⟩, no⟩ := four x (List.mem_of_getElem? hx)
    rw [c6] at hD2
    have sJ := sH.trans ((new_same np2 (.lst [e2, e3, e4, e5])).trans L.2)
    exact ⟨rfl, _, rfl, a, C i', d, _, v, rfl, sJ _ _ ha, sJ _ _ hd, G.xf i' hi', no, rfl, _, L.1, by
      rw [List.length_replicate]
      have := (List.getElem?_eq_some_iff.mp hx).1
      exact small1000 (by simp at this; omega), loopF_turn hD2 L⟩
  obtain ⟨l2, s2⟩ := L
  have s3 := (new_same np2 (.lst [e2, e3, e4, e5])).trans s2
  refine ⟨D, D2, _, _, rfl, rfl, s3 _ _ l1, l2, (by show 6 ≤ sizeLine; decide), fun n nn => q n _ (sH.trans (s3.trans (new_same nn _))) ((sH.trans s3).free nn) upd_same⟩
theorem ok_kinds {C : Nat → Addr} {f : Addr} {fd : FuncData} (F : Fun K "_law_kinds" "_law_kinds" sKinds f fd) (Z : BltX mg) (G : AllG P w K mg base C) : FnOk P w K mg base CX0 1 f fd ["_law_error"] (spKinds C) := by
  refine F.ok scKinds (fun vs H Q E h => ?_) (fun cdv A outer s H vs Q E hr h => ?_)
  · obtain ⟨x, i, rfl, _⟩ := h
    rfl
  obtain ⟨x, i, rfl, hi, ⟨a, od, rfl, ha, hd⟩, q⟩ := h
  have m0 := G.g0.m
  have m1 := G.g1.m
  have m2 := G.g2.m
  have m3 := G.g3.m
  have m4 := G.g4.m
  have m5 := G.g5.m
  have m6 := G.g6.m
  have m7 := G.g7.m
  refine ⟨_, (pss_cons (ps_set (i := 1) scKinds.nd rfl (Or.inl rfl) (pe_lst (pa_cons (pe_callB call_isO (by rfl) Z.isin boot_isin (pa_cons (pv 0) (pa_cons (pe_glob (by rfl) m0 (v := .ref (C 0)) rfl) pa_nil))) (pa_cons (pe_callB call_isO (by rfl) Z.isin boot_isin (pa_cons (pv 0) (pa_cons (pe_glob (by rfl) m1 (v := .ref (C 1)) rfl) pa_nil))) (pa_cons (pe_callB call_isO (by rfl) Z.isin boot_isin (pa_cons (pv 0) (pa_cons (pe_glob (by rfl) m2 (v := .ref (C 2)) rfl) pa_nil))) pa_nil)))))
    (pss_cons (ps_set (i := 1) scKinds.nd rfl (Or.inl rfl) (pe_op op_cat (pv 1) (pe_lst (pa_cons (pe_callB call_isO (by rfl) Z.isin boot_isin (pa_cons (pv 0) (pa_cons (pe_glob (by rfl) m3 (v := .ref (C 3)) rfl) pa_nil))) (pa_cons (pe_callB call_isO (by rfl) Z.isin boot_isin (pa_cons (pv 0) (pa_cons (pe_glob (by rfl) m4 (v := .ref (C 4)) rfl) pa_nil))) (pa_cons (pe_callB call_isO (by rfl) Z.isin boot_isin (pa_cons (pv 0) (pa_cons (pe_glob (by rfl) m5 (v := .ref (C 5)) rfl) pa_nil))) pa_nil))))))
    (pss_one (ps_ret (pe_op op_cat (pv 1) (pe_lst (pa_cons (pe_callB call_isO (by rfl) Z.isin boot_isin (pa_cons (pv 0) (pa_cons (pe_glob (by rfl) m6 (v := .ref (C 6)) rfl) pa_nil))) (pa_cons (pe_callB call_isO (by rfl) Z.isin boot_isin (pa_cons (pv 0) (pa_cons (pe_glob (by rfl) m7 (v := .ref (C 7)) rfl) pa_nil))) pa_nil)))))))), ?_⟩
  have k : ∀ J : Hp, Same H J → J a = some (exo a (C i) od) ∧ ∀ d, od = some d → ∃ fs, J d = some (exd d fs) := fun J s => ⟨s _ _ ha, fun d z => (hd d z).imp fun fs e => s _ _ e⟩
  refine ⟨_, rfl, a, C i, od, .ref (C 0), _, _, rfl, ha, hd, G.xc i hi, .own (C 0), G.kk i 0 hi (by decide), _, rfl, a, C i, od, .ref (C 1), _, _, rfl, ha, hd, G.xc i hi, .own (C 1), G.kk i 1 hi (by decide), _, rfl, a, C i, od, .ref (C 2), _, _, rfl, ha, hd, G.xc i hi, .own (C 2), G.kk i 2 hi (by decide), (by show 3 ≤ sizeLine; decide), fun l0 n0 => ?_⟩
  have s0 := new_same n0 (.lst [V.bl (decide (i = 0)), .bl (decide (i = 1)), .bl (decide (i = 2))])
  have h0 : upd H l0 (.lst [V.bl (decide (i = 0)), .bl (decide (i = 1)), .bl (decide (i = 2))]) l0 = some (.lst [V.bl (decide (i = 0)), .bl (decide (i = 1)), .bl (decide (i = 2))]) := upd_same
  generalize upd H l0 _ = J0 at s0 h0 ⊢
  obtain ⟨a0, d0⟩ := k _ s0
  refine ⟨_, rfl, _, rfl, a, C i, od, .ref (C 3), _, _, rfl, a0, d0, G.xc i hi, .own (C 3), G.kk i 3 hi (by decide), _, rfl, a, C i, od, .ref (C 4), _, _, rfl, a0, d0, G.xc i hi, .own (C 4), G.kk i 4 hi (by decide), _, rfl, a, C i, od, .ref (C 5), _, _, rfl, a0, d0, G.xc i hi, .own (C 5), G.kk i 5 hi (by decide), (by show 3 ≤ sizeLine; decide), fun l1 n1 => ⟨l0, l1, _, _, rfl, rfl, new_same n1 _ _ _ h0, upd_same, (by show 6 ≤ sizeLine; decide), fun l2 n2 => ?_⟩⟩
  have s1 := s0.trans ((new_same n1 (.lst [V.bl (decide (i = 3)), .bl (decide (i = 4)), .bl (decide (i = 5))])).trans (new_same n2 (.lst ([V.bl (decide (i = 0)), .bl (decide (i = 1)), .bl (decide (i = 2))] ++ [V.bl (decide (i = 3)), .bl (decide (i = 4)), .bl (decide (i = 5))]))))
  have h1 : upd (upd J0 l1 (.lst [V.bl (decide (i = 3)), .bl (decide (i = 4)), .bl (decide (i = 5))])) l2 (.lst ([V.bl (decide (i = 0)), .bl (decide (i = 1)), .bl (decide (i = 2))] ++ [V.bl (decide (i = 3)), .bl (decide (i = 4)), .bl (decide (i = 5))])) l2 = some (.lst ([V.bl (decide (i = 0)), .bl (decide (i = 1)), .bl (decide (i = 2))] ++ [V.bl (decide (i = 3)), .bl (decide (i = 4)), .bl (decide (i = 5))])) := upd_same
  clear n2
  generalize upd (upd J0 l1 _) l2 _ = J1 at s1 h1 ⊢
  obtain ⟨a1, d1⟩ := k _ s1
  refine ⟨_, rfl, _, rfl, a, C i, od, .ref (C 6), _, _, rfl, a1, d1, G.xc i hi, .own (C 6), G.kk i 6 hi (by decide), _, rfl, a, C i, od, .ref (C 7), _, _, rfl, a1, d1, G.xc i hi, .own (C 7), G.kk i 7 hi (by decide), (by show 2 ≤ sizeLine; decide), fun l3 n3 => ⟨l2, l3, _, _, rfl, rfl, new_same n3 _ _ _ h1, upd_same, (by show 8 ≤ sizeLine; decide), fun l4 n4 => ?_⟩⟩
  exact q l4 _ (s1.trans ((new_same n3 _).trans (new_same n4 _))) ((s1.trans (new_same n3 _)).free n4) upd_same
end
end LT
namespace LT
open PySem L2
theorem menu_all : ∀ d ∈ menu, (d.canLay0 && d.showable && decide (d.depth ≤ 2) && decide (d.shown.length ≤ 40)) = true := by decide +kernel
theorem from_text : ∀ (ts : List Str) (k : Nat) (acc : Str), (textFrom k acc ts).length ≤ acc.length + piled ts
  | [], k, acc => by
    show acc.length ≤ _
    omega
  | t :: r, k, acc => by
    have h := from_text r (k + 1) (acc ++ (if k > 0 then ", " else "" : String) ++ t)
    have e : (((if k > 0 then ", " else "" : String) : Str)).length ≤ 2 := by split <;> decide
    rw [strLen_append, strLen_append] at h
    show (textFrom (k + 1) _ r).length ≤ _
    rw [piled_cons]
    omega
theorem list_text (ts : List Str) : (listText ts).length ≤ piled ts + 2 := by
  have e3 : ((("]" : String) : Str)).length = 1 := rfl
  have e1 : ((("[" : String) : Str)).length = 1 := rfl
  unfold listText
  rw [strLen_append, e3]
  have := from_text ts 0 ("[" : String)
  omega
/-- what repr needs of a value -/
structure Shows (d : PyData) (k m : Nat) : Prop where
  lay : d.canLay0 = true
  sho : d.showable = true
  dep : d.depth ≤ k
  len : d.shown.length ≤ m
theorem piled_le : ∀ {ts : List Str} {m : Nat}, (∀ t ∈ ts, t.length ≤ m) → piled ts ≤ ts.length * (m + 2)
  | [], m, _ => by simp [piled]
  | t :: ts, m, h => by
    have a := h t List.mem_cons_self
    have b := piled_le fun u hu => h u (List.mem_cons_of_mem _ hu)
    rw [piled_cons, List.length_cons, Nat.succ_mul]
    omega
theorem shows_all {k m : Nat} : ∀ {ds : List PyData}, (∀ d ∈ ds, Shows d k m) → PyData.canLayAll0 ds = true ∧ PyData.showableAll ds = true ∧ PyData.depthAll ds ≤ k ∧ (PyData.shownAll ds).length = ds.length ∧ ∀ t ∈ PyData.shownAll ds, t.length ≤ m
  | [], _ => ⟨rfl, rfl, Nat.zero_le _, rfl, fun _ h => nomatch h⟩
  | d :: ds, h => by
    have a := h d List.mem_cons_self
    obtain ⟨b1, b2, b3, b4, b5⟩ := shows_all fun u hu => h u (List.mem_cons_of_mem _ hu)
    refine ⟨by simp only [PyData.canLayAll0]; rw [a.lay, b1]; rfl, by simp only [PyData.showableAll]; rw [a.sho, b2]; rfl, by simp only [PyData.depthAll]; exact Nat.max_le.mpr ⟨a.dep, b3⟩, by simp only [PyData.shownAll, List.length_cons]; rw [b4], fun t ht => ?_⟩
    simp only [PyData.shownAll] at ht
    rcases List.mem_cons.mp ht with rfl | q
    · exact a.len
    · exact b5 t q
theorem shows_list {k m n : Nat} {ds : List PyData} (h : ∀ d ∈ ds, Shows d k m) (hn : ds.length ≤ n) : Shows (.list ds) (k + 1) (n * (m + 2) + 3) := by
  obtain ⟨a1, a2, a3, a4, a5⟩ := shows_all h
  refine ⟨by simp only [PyData.canLay0]; exact a1, by simp only [PyData.showable]; exact a2, by simp only [PyData.depth]; omega, ?_⟩
  simp only [PyData.shown]
  have b := list_text (PyData.shownAll ds)
  have c := piled_le a5
  rw [a4] at c
  have e := Nat.mul_le_mul_right (m + 2) hn
  omega
theorem shows_tuple {k m n : Nat} {ds : List PyData} (h : ∀ d ∈ ds, Shows d k m) (hn : ds.length ≤ n) : Shows (.tuple ds) (k + 1) (n * (m + 2) + 3) := by
  obtain ⟨a1, a2, a3, a4, a5⟩ := shows_all h
  refine ⟨by simp only [PyData.canLay0]; exact a1, by simp only [PyData.showable]; exact a2, by simp only [PyData.depth]; omega, ?_⟩
  simp only [PyData.shown]
  have b := fmt_text (PyData.shownAll ds)
  have c := piled_le a5
  rw [a4] at c
  have e := Nat.mul_le_mul_right (m + 2) hn
  omega
theorem Shows.more {d : PyData} {k m k' m' : Nat} (h : Shows d k m) (hk : k ≤ k') (hm : m ≤ m') : Shows d k' m' := ⟨h.lay, h.sho, Nat.le_trans h.dep hk, Nat.le_trans h.len hm⟩
def room (n : Nat) : Nat := 40 * 5 ^ n
theorem room_le (n : Nat) : 40 ≤ room n := by
  unfold room
  have := Nat.one_le_pow n 5 (by decide)
  omega
theorem room_step (n : Nat) : 3 * (room n + 2) + 3 ≤ room (n + 1) := by
  have h := room_le n
  have e : room (n + 1) = 5 * room n := by
    unfold room
    rw [Nat.pow_succ]
    omega
  omega
theorem an_shows : ∀ {n : Nat} {d : PyData}, An n d → Shows d (n + 2) (room n) := by
  intro n d h
  induction h with
  | one hm =>
    have all := menu_all _ hm
    simp only [Bool.and_eq_true, decide_eq_true_eq] at all
    exact ⟨all.1.1.1, all.1.1.2, by have := all.1.2; omega, Nat.le_trans all.2 (room_le _)⟩
  | lst hl hd ih => exact (shows_list ih hl).more (by omega) (room_step _)
  | tup hl hd ih => exact (shows_tuple ih hl).more (by omega) (room_step _)
theorem an_shows3 {d : PyData} (h : An 3 d) : Shows d 5 5000 := (an_shows h).more (by decide) (by decide)
theorem int_shows : Shows (.int 5) 5 5000 := ⟨rfl, by decide +kernel, by decide +kernel, by decide +kernel⟩
theorem Shows.rep {d : PyData} (h : Shows d 6 20000) : d.showable = true ∧ d.hasDict = false ∧ d.depth ≤ 50 ∧ d.shown.length ≤ sizeLine :=
  ⟨h.sho, PyData.hasDict_of_canLay d h.lay, by have := h.dep; omega, by have := h.len; rw [sizeLine_eq]; omega⟩
theorem one_shows {d : PyData} (h : An 3 d) : Shows (.list [d]) 6 20000 :=
  (shows_list (ds := [d]) (n := 1) (k := 5) (m := 5000) (fun u hu => by rw [List.mem_singleton.mp hu]; exact an_shows3 h) (Nat.le_refl 1)).more (by decide) (by decide)
theorem two_shows {d : PyData} (h : An 3 d) : Shows (.list [d, .int 5]) 6 20000 :=
  (shows_list (ds := [d, .int 5]) (n := 2) (k := 5) (m := 5000) (fun u hu => by
    simp only [List.mem_cons, List.not_mem_nil, or_false] at hu
    rcases hu with rfl | rfl
    · exact an_shows3 h
    · exact int_shows) (Nat.le_refl 2)).more (by decide) (by decide)
end LT
namespace LT
open PySem L2
def spLaw (K : PySem.W.Frag) : Sp := fun vs H Q _ => ∃ (a : Addr) (ns : List Int), vs = [.ref a] ∧ SqL K H a (ns.map V.int) ∧ ns.length ≤ 63 ∧ ∀ J, Q (.bl true) J
structure Blt3 (mg : Str → Option Value) : Prop where
  max : mg "max" = none
  min : mg "min" = none
  isin : mg "isinstance" = none
  repr : mg "repr" = none
  enumerate : mg "enumerate" = none
  ValueError : mg "ValueError" = none
  IndexError : mg "IndexError" = none
  KeyError : mg "KeyError" = none
theorem boot_repr : bootBuiltins "repr" = some (.builtin "repr") := by decide +kernel
abbrev nLaw : List Str := ["_law_script", "_law_k", "_law_box", "_law_value", "_law_some", "_law_thing", "_law_errors", "_law_spot", "_law_error", "_law_is_line", "_law_one", "_law_other"]
/-- all is kept but lists -/
def Keep (J L : Hp) : Prop := ∀ c o, (∀ ys, o ≠ HO.lst ys) → J c = some o → L c = some o
theorem exo_lst {e C : Addr} {d : Option Addr} {ys : List V} : exo e C d ≠ HO.lst ys := fun z => nomatch z
theorem exd_lst {e : Addr} {fs : List (Str × V)} {ys : List V} : exd e fs ≠ HO.lst ys := fun z => nomatch z
theorem ErrAt.keep {H J : Hp} {A : Addr} {f : Str} {v x : V} (s : Keep H J) (h : ErrAt H A f v x) : ErrAt J A f v x := by
  obtain ⟨a, d, e, h1, h2⟩ := h
  exact ⟨a, d, e, s _ _ (fun _ => exo_lst) h1, s _ _ (fun _ => exd_lst) h2⟩
theorem KindAt.keep {H J : Hp} {A : Addr} {x : V} (s : Keep H J) (h : KindAt H A x) : KindAt J A x := by
  obtain ⟨a, od, e, h1, h2⟩ := h
  exact ⟨a, od, e, s _ _ (fun _ => exo_lst) h1, fun d z => (h2 d z).imp fun fs q => s _ _ (fun _ => exd_lst) q⟩
theorem Made.keep {C : Nat → Addr} {v : V} {J L : Hp} {xs : List V} (s : Keep J L) (h : Made C v J xs) : Made C v L xs := by
  obtain ⟨e0, e1, e2, e3, e4, e5, e6, e7, e, h0, h1, h2, h3, h4, h5, h6, h7⟩ := h
  exact ⟨e0, e1, e2, e3, e4, e5, e6, e7, e, h0.keep s, h1.keep s, h2.keep s, h3.keep s, h4.keep s, h5.keep s, h6.keep s, h7.keep s⟩
theorem Made.at {C : Nat → Addr} {v : V} {J : Hp} {xs : List V} (h : Made C v J xs) : xs.length = 8 ∧ ∀ (i : Nat) (x : V), xs[i]? = some x → i < 8 ∧ KindAt J (C i) x := by
  obtain ⟨e0, e1, e2, e3, e4, e5, e6, e7, rfl, h0, h1, h2, h3, h4, h5, h6, h7⟩ := h
  refine ⟨rfl, fun i x e => ?_⟩
  have hi : i < 8 := (List.getElem?_eq_some_iff.mp e).1
  refine ⟨hi, ?_⟩
  match i, hi, e with
  | 0, _, e => cases e; exact h0.kind
  | 1, _, e => cases e; exact h1.kind
  | 2, _, e => cases e; exact h2.kind
  | 3, _, e => cases e; exact h3.kind
  | 4, _, e => cases e; exact h4.kind
  | 5, _, e => cases e; exact h5.kind
  | 6, _, e => cases e; exact h6
  | 7, _, e => cases e; exact h7
/-- lists of booleans as data -/
def boolsD (bs : List Bool) : List PyData := bs.map PyData.bool
theorem dp_bools {K : PySem.W.Frag} {H : Hp} : ∀ bs : List Bool, DpAll K H (bs.map V.bl) (boolsD bs)
  | [] => .nil
  | b :: bs => .cons (.bl b) (dp_bools bs)
theorem eqv_bools : ∀ bs : List Bool, PyData.eqvAll (boolsD bs) (boolsD bs) = true
  | [] => by simp [boolsD, PyData.eqvAll]
  | b :: bs => by
    have e := eqv_bools bs
    simp only [boolsD, List.map_cons, PyData.eqvAll, PyData.eqv, beq_self_eq_true, Bool.true_and] at e ⊢
    exact e
theorem lay_bools : ∀ bs : List Bool, PyData.canLayAll0 (boolsD bs) = true ∧ PyData.depthAll (boolsD bs) ≤ 1
  | [] => by simp [boolsD, PyData.canLayAll0, PyData.depthAll]
  | b :: bs => by
    obtain ⟨e1, e2⟩ := lay_bools bs
    simp only [boolsD, List.map_cons, PyData.canLayAll0, PyData.depthAll, PyData.canLay0, PyData.depth, Bool.true_and] at e1 e2 ⊢
    exact ⟨e1, Nat.max_le.mpr ⟨by omega, e2⟩⟩
theorem shaped_bools (bs : List Bool) : SeqAt.shaped (.list (boolsD bs)) = true := by
  obtain ⟨e1, e2⟩ := lay_bools bs
  show ((PyData.list (boolsD bs)).canLay0 && decide ((PyData.list (boolsD bs)).depth ≤ 64)) = true
  rw [Bool.and_eq_true, decide_eq_true_eq]
  refine ⟨by simp only [PyData.canLay0]; exact e1, by simp only [PyData.depth]; omega⟩
theorem dp_boolsL {K : PySem.W.Frag} {H : Hp} {a : Addr} {bs : List Bool} (h : H a = some (.lst (bs.map V.bl))) : Dp K H (.ref a) (.list (boolsD bs)) := .lst (SqL.of h) (dp_bools bs)
theorem ite_same {bs : List Bool} {A B : Prop} (h : B) : if (!PyData.eqv (.list (boolsD bs)) (.list (boolsD bs))) = true then A else B := by
  have e : PyData.eqv (.list (boolsD bs)) (.list (boolsD bs)) = true := by
    simp only [PyData.eqv]
    exact eqv_bools bs
  rw [e]
  exact iteF h
theorem spot_eq (i j : Nat) : decide (V.int (i : Int) = V.int (0 + (j : Int))) = decide (i = j) := by
  by_cases h : i = j
  · subst h
    rw [decide_eq_true rfl, decide_eq_true]
    rw [Int.zero_add]
  · rw [decide_eq_false h, decide_eq_false fun z => h ?_]
    have := V.int.inj z
    omega
theorem spot_ne (i : Nat) : (!decide (V.int (i : Int) = V.int 5)) = !decide (i = 5) := by
  by_cases h : i = 5
  · subst h
    rfl
  · rw [decide_eq_false h, decide_eq_false fun z => h ?_]
    have := V.int.inj z
    omega
section
variable {P : Program} {w : World} {K : PySem.W.Frag} {mg : Str → Option Value} {base : Heap}
theorem scLaw : FnScope nLaw ["_law_script"] (defScope sLaw) := ⟨rfl, rfl, rfl, by decide +kernel, rfl, by decide +kernel, by decide +kernel⟩
structure LawG (P : Program) (w : World) (K : PySem.W.Frag) (mg : Str → Option Value) (base : Heap) (C : Nat → Addr) (CL : Addr) : Prop where
  seed : ∃ (f : Addr) (fd : FuncData), FnOk P w K mg base CX0 1 f fd ["_law_script", "_law_k"] (spSeed K) ∧ Binds K fd ["_law_script", "_law_k"] [] ∧ PySem.W.keepIn K (.ref f) = true ∧ mg "_law_seed" = some (.ref f)
  any : ∃ (f : Addr) (fd : FuncData), FnOk P w K mg base CX0 6 f fd ["_law_box", "_law_deep"] (spAny K 3) ∧ Binds K fd ["_law_box", "_law_deep"] [] ∧ PySem.W.keepIn K (.ref f) = true ∧ mg "_law_anything" = some (.ref f)
  made : ∃ (f : Addr) (fd : FuncData), FnOk P w K mg base CX0 3 f fd ["_law_value"] (spMade C) ∧ Binds K fd ["_law_value"] [] ∧ PySem.W.keepIn K (.ref f) = true ∧ mg "_law_made" = some (.ref f)
  named : ∃ (f : Addr) (fd : FuncData), FnOk P w K mg base CX0 3 f fd ["_law_value"] (spNamed C) ∧ Binds K fd ["_law_value"] [] ∧ PySem.W.keepIn K (.ref f) = true ∧ mg "_law_named" = some (.ref f)
  kept : ∃ (f : Addr) (fd : FuncData), FnOk P w K mg base CX0 1 f fd ["_law_errors"] (spKept K C) ∧ Binds K fd ["_law_errors"] [] ∧ PySem.W.keepIn K (.ref f) = true ∧ mg "_law_kept" = some (.ref f)
  kinds : ∃ (f : Addr) (fd : FuncData), FnOk P w K mg base CX0 1 f fd ["_law_error"] (spKinds C) ∧ Binds K fd ["_law_error"] [] ∧ PySem.W.keepIn K (.ref f) = true ∧ mg "_law_kinds" = some (.ref f)
  mL : mg "LineError" = some (.ref CL)
  xc : ∀ i, i < 8 → ExcC K (C i)
  kL : ∀ i, i < 8 → PySem.W.kitOne K (.ref (C i)) (.ref CL) = some (!decide (i = 5))
  kV : ∀ i, i < 8 → PySem.W.kitOne K (.ref (C i)) (.type "ValueError") = some (!decide (i = 5))
  kI : ∀ i, i < 8 → PySem.W.kitOne K (.ref (C i)) (.type "IndexError") = some (decide (i = 5))
  kK : ∀ i, i < 8 → PySem.W.kitOne K (.ref (C i)) (.type "KeyError") = some false
theorem ok_law {C : Nat → Addr} {CL f : Addr} {fd : FuncData} (F : Fun K "law" "law" sLaw f fd) (T : Blt mg) (Z : Blt3 mg) (G : LawG P w K mg base C CL) : FnG P w K mg base CX0 7 f fd ["_law_script"] (spLaw K) := by
  obtain ⟨fS, dS, GS, bS, kS, mS⟩ := G.seed
  obtain ⟨fA, dA, GA, bA, kA, mA⟩ := G.any
  obtain ⟨fM, dM, GM, bM, kM, mM⟩ := G.made
  obtain ⟨fN, dN, GN, bN, kN, mN⟩ := G.named
  obtain ⟨fK, dK, GK, bK, kK, mK⟩ := G.kept
  obtain ⟨fI, dI, GI, bI, kI, mI⟩ := G.kinds
  have mL := G.mL
  refine F.okG scLaw (fun vs H Q E h => ?_) (fun cdv A outer s H vs Q E hg hr h => ?_)
  · obtain ⟨a, ns, rfl, _⟩ := h
    rfl
  obtain ⟨a, ns, rfl, hS, h63, q⟩ := h
  have hr1 : Room 1 _ := hr.mono (by decide)
  have hr3 : Room 3 _ := hr.mono (by decide)
  refine ⟨_, (pss_cons (ps_for PassesOwn.never rfl (pi_range1 (by rfl) T.range (pa_cons (pe_callB (call_max2 rfl) (by rfl) Z.max (by decide +kernel) (pa_cons pe_int (pa_cons (pe_callB (call_min2 rfl) (by rfl) Z.min (by decide +kernel) (pa_cons pe_int (pa_cons (pe_callB call_len_seq (by rfl) T.len PySem.boot_len (pa_cons (pv 0) pa_nil)) pa_nil))) pa_nil))) pa_nil)) (pg_name (i := 1) scLaw.nd rfl (Or.inl rfl))
    (pss_cons (ps_set (i := 2) scLaw.nd rfl (Or.inl rfl) (pe_call GS hr1 (by rfl) mS kS bS .nil pass0 (pa_cons (pv 0) (pa_cons (pv 1) pa_nil))))
      (pss_cons (ps_set (i := 3) scLaw.nd rfl (Or.inr rfl) (pe_call GA hr (by rfl) mA kA bA .nil pass0 (pa_cons (pv 2) (pa_cons pe_int pa_nil))))
      (pss_cons (ps_for PassesOwn.never rfl (pi_tup (pe_tup (pa_cons (pe_call GM hr3 (by rfl) mM kM bM .nil pass0 (pa_cons (pv 3) pa_nil)) (pa_cons (pe_call GN hr3 (by rfl) mN kN bN .nil pass0 (pa_cons (pv 3) pa_nil)) pa_nil)))) (pg_name (i := 4) scLaw.nd rfl (Or.inl rfl))
      (pss_one (ps_if (pt_cmpR (op_neD hr.units) (pe_lc (own := [("_law_one", 10)]) (g := gName 10) (by rfl) scLaw.nd (pi_list (pe_call GK hr1 (by rfl) mK kK bK .nil pass0 (pa_cons (pv 4) pa_nil))) (blkOk_by (N := nLaw) (sc := defScope sLaw) (own := [("_law_one", 10)]) (by decide +kernel)) (fun _ _ _ _ _ => pg_name (i := 10) scLaw.nd rfl (Or.inl rfl)) (fun _ _ _ _ _ => (pts_one (pt_cmpR op_ne (pe_callB (r := rRepr K) (call_reprD hg hr) (by rfl) Z.repr boot_repr (pa_cons (pv 10) pa_nil)) (pe_callB (r := rRepr K) (call_reprD hg hr) (by rfl) Z.repr boot_repr (pa_cons (pv 3) pa_nil)) (nomark _)))) (fun _ _ _ _ _ => (pv 10))) (pe_lst pa_nil) (nomark _)) (pss_one (ps_ret pe_bl)) pss_nil)))
      (pss_cons (ps_set (i := 5) scLaw.nd rfl (Or.inl rfl) (pe_lst (pa_cons (pv 3) pa_nil)))
      (pss_cons (ps_set (i := 6) scLaw.nd rfl (Or.inl rfl) (pe_call GM hr3 (by rfl) mM kM bM .nil pass0 (pa_cons (pv 5) pa_nil)))
      (pss_cons (ps_if (pt_cmpR (op_neD hr.units) (pe_lc (own := [("_law_one", 10)]) (g := gName 10) (by rfl) scLaw.nd (pi_list (pe_call GK hr1 (by rfl) mK kK bK .nil pass0 (pa_cons (pv 6) pa_nil))) (blkOk_by (N := nLaw) (sc := defScope sLaw) (own := [("_law_one", 10)]) (by decide +kernel)) (fun _ _ _ _ _ => pg_name (i := 10) scLaw.nd rfl (Or.inl rfl)) (fun _ _ _ _ _ => (pts_one (pt_cmpR op_ne (pe_callB (r := rRepr K) (call_reprD hg hr) (by rfl) Z.repr boot_repr (pa_cons (pv 10) pa_nil)) (pe_callB (r := rRepr K) (call_reprD hg hr) (by rfl) Z.repr boot_repr (pa_cons (pe_lst (pa_cons (pv 3) pa_nil)) pa_nil)) (nomark _)))) (fun _ _ _ _ _ => (pv 10))) (pe_lst pa_nil) (nomark _)) (pss_one (ps_ret pe_bl)) pss_nil)
      (pss_cons (ps_expr (pe_bm PySem.F.plainAttrs_list PySem.F.slot_list_append PySem.F.type_list_append mt_append (pv 5) (pa_cons pe_int pa_nil)))
      (pss_cons (ps_if (pt_cmpR (op_neD hr.units) (pe_lc (own := [("_law_one", 10)]) (g := gName 10) (by rfl) scLaw.nd (pi_list (pe_call GK hr1 (by rfl) mK kK bK .nil pass0 (pa_cons (pv 6) pa_nil))) (blkOk_by (N := nLaw) (sc := defScope sLaw) (own := [("_law_one", 10)]) (by decide +kernel)) (fun _ _ _ _ _ => pg_name (i := 10) scLaw.nd rfl (Or.inl rfl)) (fun _ _ _ _ _ => (pts_one (pt_cmpR op_ne (pe_callB (r := rRepr K) (call_reprD hg hr) (by rfl) Z.repr boot_repr (pa_cons (pv 10) pa_nil)) (pe_callB (r := rRepr K) (call_reprD hg hr) (by rfl) Z.repr boot_repr (pa_cons (pe_lst (pa_cons (pv 3) (pa_cons pe_int pa_nil))) pa_nil)) (nomark _)))) (fun _ _ _ _ _ => (pv 10))) (pe_lst pa_nil) (nomark _)) (pss_one (ps_ret pe_bl)) pss_nil)
      (pss_one (ps_for PassesOwn.never rfl (pi_enum (by rfl) Z.enumerate (pa_cons (pv 6) pa_nil)) (pg_tup rfl (pgs_cons (pg_name (i := 7) scLaw.nd rfl (Or.inr rfl)) (pgs_cons (pg_name (i := 8) scLaw.nd rfl (Or.inl rfl)) pgs_nil)))
      (pss_cons (ps_if (pt_cmpR (op_neD hr.units) (pe_call GI hr1 (by rfl) mI kI bI .nil pass0 (pa_cons (pv 8) pa_nil)) (pe_lc (own := [("_law_other", 11)]) (g := gName 11) (tt := tYes) (by rfl) scLaw.nd (pi_range1 (by rfl) T.range (pa_cons pe_int pa_nil)) (blkOk_by (N := nLaw) (sc := defScope sLaw) (own := [("_law_other", 11)]) (by decide +kernel)) (fun _ _ _ _ _ => pg_name (i := 11) scLaw.nd rfl (Or.inl rfl)) (fun _ _ _ _ _ => pts_nil) (fun _ _ _ _ _ => (pe_cmpR op_eq (pv 7) (pv 11) (nomark _)))) (nomark _)) (pss_one (ps_ret pe_bl)) pss_nil)
        (pss_cons (ps_set (i := 9) scLaw.nd rfl (Or.inl rfl) (pe_lst (pa_cons (pe_callB call_isO (by rfl) Z.isin boot_isin (pa_cons (pv 8) (pa_cons (pe_glob (by rfl) mL (v := .ref CL) rfl) pa_nil))) (pa_cons (pe_callB call_isO (by rfl) Z.isin boot_isin (pa_cons (pv 8) (pa_cons (pe_bltn (v := .ty "ValueError") (by rfl) Z.ValueError (by decide +kernel) rfl) pa_nil))) (pa_cons (pe_not (pe_callB call_isO (by rfl) Z.isin boot_isin (pa_cons (pv 8) (pa_cons (pe_bltn (v := .ty "IndexError") (by rfl) Z.IndexError (by decide +kernel) rfl) pa_nil)))) pa_nil)))))
        (pss_one (ps_if (PW.pt (pw_or (pt_cmpR (op_neD hr.units) (pv 9) (pe_op op_rep (pe_lst (pa_cons (pe_cmpR op_ne (pv 7) pe_int (nomark _)) pa_nil)) pe_int) (nomark _)) (pw_or1 (pt_val (pe_callB call_isO (by rfl) Z.isin boot_isin (pa_cons (pv 8) (pa_cons (pe_bltn (v := .ty "KeyError") (by rfl) Z.KeyError (by decide +kernel) rfl) pa_nil))))))) (pss_one (ps_ret pe_bl)) pss_nil)))))))))))))))
    (pss_one (ps_ret pe_bl))), ?_⟩
  refine ⟨_, rfl, a, _, rfl, .inl hS, _, _, rfl, _, _, rfl, ?_⟩
  have hl : (ns.map V.int).length = ns.length := List.length_map _
  obtain ⟨j, hj⟩ : ∃ j : Int, j = (if (if (((ns.map V.int).length : Nat) : Int) < 4 then (((ns.map V.int).length : Nat) : Int) else 4) > 2 then (if (((ns.map V.int).length : Nat) : Int) < 4 then (((ns.map V.int).length : Nat) : Int) else 4) else 2) := ⟨_, rfl⟩
  have bj : 0 ≤ j ∧ j ≤ 4 := by
    rw [hj]
    split <;> split <;> omega
  refine ⟨j, by rw [hj], by omega, by omega, for_range (lo := 0) (n := j.toNat) (fun _ σ J => ∃ v1 v2 v3 v4 v5 v6 v7 v8 v9 va vb, σ = [some (.ref a), v1, v2, v3, v4, v5, v6, v7, v8, v9, va, vb] ∧ Same H J) ⟨_, _, _, _, _, _, _, _, _, _, _, rfl, Same.refl _⟩ ?_ (fun σ J _ => q J)⟩
  rintro i σ J hi ⟨v1, v2, v3, v4, v5, v6, v7, v8, v9, va, vb, rfl, s⟩
  refine ⟨_, rfl, _, rfl, a, ns, 0 + (i : Int), rfl, s.seq hS, by omega, by omega, fun b x y nb => ?_⟩
  have h0 : H b = none := s.free nb
  have bx : Box (upd J b (.lst [.int x, .int y])) b := ⟨x, y, upd_same⟩
  have s1 : Same H (upd J b (.lst [.int x, .int y])) := s.trans (new_same nb _)
  generalize upd J b (.lst [.int x, .int y]) = J1 at bx s1 ⊢
  refine ⟨_, rfl, b, rfl, bx, fun v d J2 hd hv kb bx2 => ?_⟩
  have s2 : Same H J2 := fun c o e => kb c o (ne_of_none e h0) (s1 c o e)
  have hvd := dp_mono frs_sub d v hv
  clear kb bx2 hv s1 bx nb
  have sh := (an_shows3 hd).more (k' := 6) (m' := 20000) (by decide) (by decide)
  -- made and named
  refine ⟨_, rfl, v, rfl, fun l1 xs1 Ja sa na ha ma => ⟨_, rfl, v, rfl, fun l2 xs2 Jb sb nb hb mb => ⟨(by show 2 ≤ sizeLine; decide), fun tp nt => ⟨tp, rfl, ⟨_, SqT.of upd_same⟩, ?_⟩⟩⟩⟩
  have sC := sb.trans (new_same nt (.tup [V.ref l1, .ref l2]))
  have htp : upd Jb tp (.tup [V.ref l1, .ref l2]) tp = some (.tup [V.ref l1, .ref l2]) := upd_same
  have q1 : (upd Jb tp (.tup [V.ref l1, .ref l2])) l1 = some (.lst xs1) ∧ Six C v (upd Jb tp (.tup [V.ref l1, .ref l2])) xs1 := ⟨sC _ _ ha, (ma.six).mono sC⟩
  have q2 : (upd Jb tp (.tup [V.ref l1, .ref l2])) l2 = some (.lst xs2) ∧ Six C v (upd Jb tp (.tup [V.ref l1, .ref l2])) xs2 := ⟨new_same nt _ _ _ hb, mb.mono (new_same nt _)⟩
  have sC2 := sa.trans sC
  clear sC nt hb mb ha ma
  generalize upd Jb tp (.tup [V.ref l1, .ref l2]) = Jc at sC2 htp q1 q2 ⊢
  have both : ∀ x ∈ [V.ref l1, .ref l2], ∃ l xs, x = .ref l ∧ Jc l = some (.lst xs) ∧ Six C v Jc xs := fun x hx => by
    simp only [List.mem_cons, List.not_mem_nil, or_false] at hx
    rcases hx with rfl | rfl
    · exact ⟨l1, xs1, rfl, q1.1, q1.2⟩
    · exact ⟨l2, xs2, rfl, q2.1, q2.2⟩
  refine for_tup (K := K) (a := tp) (xs := [.ref l1, .ref l2]) (fun _ σ J => ∃ w1 w4 w5 w6 w7 w8 w9 wa wb, σ = [some (.ref a), w1, some (.ref b), some v, w4, w5, w6, w7, w8, w9, wa, wb] ∧ Same Jc J) ⟨_, _, _, _, _, _, _, _, _, rfl, Same.refl _⟩ (fun i σ J _ ⟨_, _, _, _, _, _, _, _, _, _, z⟩ => SqT.of (z _ _ htp)) ?_ ?_
  · rintro i x σ J hx ⟨w1, w4, w5, w6, w7, w8, w9, wa, wb, rfl, sJ⟩
    obtain ⟨l, xs, rfl, hl, six⟩ := both x (List.mem_of_getElem? hx)
    refine ⟨_, rfl, l, xs, v, rfl, SqL.of (sJ _ _ hl), six.mono sJ, fun n Jn sn nn hn => ⟨n, rfl, ⟨_, SqL.of hn⟩, fun D hD => lc_list (K := K) (a := n) (xs := [v, v, v, v, v, v]) (fun _ M => M D = some (.lst []) ∧ Same Jn M) ⟨upd_same, new_same hD _⟩ (fun i M _ L => SqL.of (L.2 _ _ hn)) (fun i x M hx L => ?_) (fun M L => ?_)⟩⟩
    · have hx' : x = v := by
        have z := List.mem_of_getElem? hx
        simp only [List.mem_cons, List.not_mem_nil, or_false, or_self] at z
        exact z
      subst hx'
      obtain ⟨LD, sM⟩ := L
      have dv := dp_mono (sC2.trans (sJ.trans (sn.trans sM))) d x hvd
      obtain ⟨p1, p2, p3, p4⟩ := sh.rep
      refine ⟨rfl, _, rfl, x, d, rfl, dv, p1, p2, p3, p4, ?_⟩
      refine ⟨_, rfl, x, d, rfl, dv, p1, p2, p3, p4, ?_⟩
      generalize d.shown = tx
      exact ⟨rfl, _, rfl, iteNS rfl ⟨LD, sM⟩⟩
    · obtain ⟨LD, sM⟩ := L
      refine ⟨(by show 0 ≤ sizeLine; decide), fun z nz => ⟨_, _, dp_boolsL (bs := []) (new_same nz _ _ _ LD), dp_boolsL (bs := []) upd_same, shaped_bools [], shaped_bools [], _, rfl, ite_same ?_⟩⟩
      exact ⟨_, _, _, _, _, _, _, _, _, rfl, sJ.trans (sn.trans (sM.trans (new_same nz _)))⟩
  rintro σ J3 ⟨w1, w4, w5, w6, w7, w8, w9, wa, wb, rfl, sJ⟩
  have s3 := s2.trans (sC2.trans sJ)
  replace hvd := dp_mono (sC2.trans sJ) d v hvd
  clear both q1 q2 htp sC2 sJ sa sb s2
  -- a list of it
  refine ⟨_, rfl, (by show 1 ≤ sizeLine; decide), fun t nt => ?_⟩
  have ht : H t = none := s3.free nt
  have s4 : Same J3 (upd J3 t (.lst [v])) := new_same nt _
  have h4 : upd J3 t (.lst [v]) t = some (.lst [v]) := upd_same
  generalize upd J3 t (.lst [v]) = J4 at s4 h4 ⊢
  refine ⟨_, rfl, .ref t, rfl, fun l xs J5 s5 n5 h5 me => ?_⟩
  have lt : l ≠ t := fun z => by rw [z, h4] at n5; cases n5
  have b5 : Same J3 J5 := s4.trans s5
  have t5 := s5 _ _ h4
  -- kept, as it is
  refine ⟨_, rfl, l, xs, .ref t, rfl, SqL.of h5, me.six, fun n Jn sn nn hn => ⟨n, rfl, ⟨_, SqL.of hn⟩, fun D hD => lc_list (K := K) (a := n) (xs := [V.ref t, .ref t, .ref t, .ref t, .ref t, .ref t]) (fun _ M => M D = some (.lst []) ∧ Same Jn M) ⟨upd_same, new_same hD _⟩ (fun i M _ L => SqL.of (L.2 _ _ hn)) (fun i x M hx L => ?_) (fun M L => ?_)⟩⟩
  · have hx' : x = V.ref t := by
      have z := List.mem_of_getElem? hx
      simp only [List.mem_cons, List.not_mem_nil, or_false, or_self] at z
      exact z
    subst hx'
    obtain ⟨LD, sM⟩ := L
    have sn' := sn.trans sM
    have dt : Dp K M (.ref t) (.list [d]) := .lst (SqL.of (sn' _ _ t5)) (.cons (dp_mono (b5.trans sn') d v hvd) .nil)
    obtain ⟨p1, p2, p3, p4⟩ := (one_shows hd).rep
    refine ⟨rfl, _, rfl, .ref t, .list [d], rfl, dt, p1, p2, p3, p4, ?_⟩
    refine ⟨_, rfl, (by show 1 ≤ sizeLine; decide), fun z nz => ?_⟩
    have sz := new_same nz (.lst [v])
    refine ⟨.ref z, .list [d], rfl, .lst (SqL.of upd_same) (.cons (dp_mono (b5.trans (sn'.trans sz)) d v hvd) .nil), p1, p2, p3, p4, ?_⟩
    generalize (PyData.list [d]).shown = tx
    exact ⟨rfl, _, rfl, iteNS rfl ⟨sz _ _ LD, sM.trans sz⟩⟩
  obtain ⟨LD, sM⟩ := L
  refine ⟨(by show 0 ≤ sizeLine; decide), fun z nz => ⟨_, _, dp_boolsL (bs := []) (new_same nz _ _ _ LD), dp_boolsL (bs := []) upd_same, shaped_bools [], shaped_bools [], _, rfl, ite_same ?_⟩⟩
  have s6 := sn.trans (sM.trans (new_same nz (.lst [])))
  have t6 : (upd M z (.lst [])) t = some (.lst [v]) := s6 _ _ t5
  have l6 : (upd M z (.lst [])) l = some (.lst xs) := s6 _ _ h5
  have me6 := me.mono s6
  have b6 := b5.trans s6
  clear nz LD sM s6 sn nn hn hD
  generalize upd M z (.lst []) = J6 at t6 l6 me6 b6 ⊢
  clear n5 h5 me b5 t5 s5 s4 h4 M D Jn n J5 J4
  -- the list changes behind them
  refine ⟨_, rfl, .inl ⟨rfl, _, SqL.of t6⟩, t, _, _, rfl, rfl, t6, (by show 1 < sizeLine; decide), ?_⟩
  have t7 : upd J6 t (.lst ([v] ++ [V.int 5])) t = some (.lst [v, .int 5]) := upd_same
  have k7 : Keep J6 (upd J6 t (.lst ([v] ++ [V.int 5]))) := fun c o no e => by
    have n : c ≠ t := fun z => by
      rw [z, t6] at e
      exact no _ (Option.some.inj e).symm
    rw [upd_ne n]
    exact e
  have l7 : upd J6 t (.lst ([v] ++ [V.int 5])) l = some (.lst xs) := by
    rw [upd_ne lt]
    exact l6
  have me7 := me6.keep k7
  have b7 : Same J3 (upd J6 t (.lst ([v] ++ [V.int 5]))) := fun c o e => by
    rw [upd_ne (ne_of_none e nt)]
    exact b6 _ _ e
  have s7 := s3.trans b7
  clear k7
  generalize upd J6 t (.lst ([v] ++ [V.int 5])) = J7 at t7 l7 me7 b7 s7 ⊢
  clear t6 l6 me6 b6 J6
  refine ⟨_, rfl, l, xs, .ref t, rfl, SqL.of l7, me7.six, fun n Jn sn nn hn => ⟨n, rfl, ⟨_, SqL.of hn⟩, fun D hD => lc_list (K := K) (a := n) (xs := [V.ref t, .ref t, .ref t, .ref t, .ref t, .ref t]) (fun _ M => M D = some (.lst []) ∧ Same Jn M) ⟨upd_same, new_same hD _⟩ (fun i M _ L => SqL.of (L.2 _ _ hn)) (fun i x M hx L => ?_) (fun M L => ?_)⟩⟩
  · have hx' : x = V.ref t := by
      have z := List.mem_of_getElem? hx
      simp only [List.mem_cons, List.not_mem_nil, or_false, or_self] at z
      exact z
    subst hx'
    obtain ⟨LD, sM⟩ := L
    have sn' := sn.trans sM
    have dt : Dp K M (.ref t) (.list [d, .int 5]) := .lst (SqL.of (sn' _ _ t7)) (.cons (dp_mono (b7.trans sn') d v hvd) (.cons (.int 5) .nil))
    obtain ⟨p1, p2, p3, p4⟩ := (two_shows hd).rep
    refine ⟨rfl, _, rfl, .ref t, .list [d, .int 5], rfl, dt, p1, p2, p3, p4, ?_⟩
    refine ⟨_, rfl, (by show 2 ≤ sizeLine; decide), fun z nz => ?_⟩
    have sz := new_same nz (.lst [v, .int 5])
    refine ⟨.ref z, .list [d, .int 5], rfl, .lst (SqL.of upd_same) (.cons (dp_mono (b7.trans (sn'.trans sz)) d v hvd) (.cons (.int 5) .nil)), p1, p2, p3, p4, ?_⟩
    generalize (PyData.list [d, .int 5]).shown = tx
    exact ⟨rfl, _, rfl, iteNS rfl ⟨sz _ _ LD, sM.trans sz⟩⟩
  obtain ⟨LD, sM⟩ := L
  refine ⟨(by show 0 ≤ sizeLine; decide), fun z nz => ⟨_, _, dp_boolsL (bs := []) (new_same nz _ _ _ LD), dp_boolsL (bs := []) upd_same, shaped_bools [], shaped_bools [], _, rfl, ite_same ?_⟩⟩
  have s8 := sn.trans (sM.trans (new_same nz (.lst [])))
  have l8 : (upd M z (.lst [])) l = some (.lst xs) := s8 _ _ l7
  have me8 := me7.mono s8
  have H8 := s7.trans s8
  clear nz LD sM s8 sn nn hn hD
  generalize upd M z (.lst []) = J8 at l8 me8 H8 ⊢
  clear t7 l7 me7 b7 s7 M D Jn n J7 nt hvd s3
  -- each by its classes
  obtain ⟨len8, kinds⟩ := me8.at
  refine ⟨_, rfl, l, xs, rfl, SqL.of l8, for_it (walk_enum (K := K) (a := l) (xs := xs)) (fun _ σ J => ∃ w1 w4 w5 w7 w8 w9 wa wb, σ = [some (.ref a), w1, some (.ref b), some v, w4, w5, some (.ref l), w7, w8, w9, wa, wb] ∧ Same J8 J) ⟨_, _, _, _, _, _, _, _, rfl, Same.refl _⟩ (fun i σ J _ ⟨_, _, _, _, _, _, _, _, _, z⟩ => SqL.of (z _ _ l8)) ?_ ?_⟩
  · rintro i x σ J J' hi8 ⟨w1, w4, w5, w7, w8, w9, wa, wb, rfl, sJ⟩ ⟨T, x1, e, rfl, nT, rfl, ex1, ee⟩
    cases ex1
    obtain ⟨hi, kd⟩ := kinds i e ee
    have sT := sJ.trans (new_same nT (.tup [V.int (i : Nat), e]))
    refine ⟨T, _, rfl, SqT.of upd_same, rfl, _, _, rfl, _, _, rfl, rfl, ?_⟩
    generalize upd J T _ = J9 at sT ⊢
    clear nT sJ
    have kd9 := kd.mono sT
    have bsE : ((List.range 8).map fun j => V.bl (decide (i = j))) = ((List.range 8).map fun j => decide (i = j)).map V.bl := by
      rw [List.map_map]
      rfl
    refine ⟨_, rfl, e, i, rfl, hi, kd9, fun n Jn sn nn hn => ⟨8, rfl, by decide, by decide, fun D hD => lc_range (lo := 0) (n := 8) (fun j M => M D = some (.lst ((List.range j).map fun j => V.bl (decide (i = j)))) ∧ Same Jn M) ⟨upd_same, new_same hD _⟩ (fun j M hj L => ?_) (fun M L => ?_)⟩⟩
    · obtain ⟨LD, sM⟩ := L
      refine ⟨rfl, _, rfl, _, rfl, rfl, _, LD, ?_, ?_, ?_⟩
      · rw [List.length_map, List.length_range]
        exact small1000 (by omega)
      · rw [upd_same, List.range_succ, List.map_append, List.map_singleton, spot_eq]
      · exact fun c o z => by
          rw [upd_ne (ne_of_none z hD)]
          exact sM c o z
    obtain ⟨LD, sM⟩ := L
    rw [bsE] at LD hn
    have sa := sn.trans sM
    refine ⟨_, _, dp_boolsL (sM _ _ hn), dp_boolsL LD, shaped_bools _, shaped_bools _, _, rfl, ite_same ?_⟩
    obtain ⟨ad, od, rfl, had, hod⟩ := kd9.mono sa
    have H9 := sT.trans sa
    clear LD hn sM hD nn sa sn kd9 kd sT
    -- of LineError and ValueError, or of IndexError
    refine ⟨_, rfl, ad, C i, od, .ref CL, _, _, rfl, had, hod, G.xc i hi, .own CL, G.kL i hi, _, rfl, ad, C i, od, .ty "ValueError", _, _, rfl, had, hod, G.xc i hi, .ty _, G.kV i hi, _, rfl, ad, C i, od, .ty "IndexError", _, _, rfl, had, hod, G.xc i hi, .ty _, G.kI i hi, _, rfl, (by show 3 ≤ sizeLine; decide), fun y ny => ?_⟩
    have hy : upd M y (.lst [V.bl (!decide (i = 5)), .bl (!decide (i = 5)), .bl (!decide (i = 5))]) y = some (.lst ([!decide (i = 5), !decide (i = 5), !decide (i = 5)].map V.bl)) := upd_same
    have sy := new_same ny (.lst [V.bl (!decide (i = 5)), .bl (!decide (i = 5)), .bl (!decide (i = 5))])
    generalize upd M y _ = Ma at hy sy ⊢
    refine ⟨_, rfl, _, rfl, rfl, (by show 1 ≤ sizeLine; decide), fun z nz => ⟨z, 3, _, rfl, rfl, upd_same, by decide, by decide, (by show 1 * 3 ≤ sizeLine; decide), fun u nu => ?_⟩⟩
    rw [spot_ne] at nu ⊢
    have sz := (new_same nz (.lst [V.bl (!decide (i = 5))])).trans (new_same nu (.lst (List.replicate (3 : Int).toNat [V.bl (!decide (i = 5))]).flatten))
    have hu : upd (upd Ma z (.lst [V.bl (!decide (i = 5))])) u (.lst (List.replicate (3 : Int).toNat [V.bl (!decide (i = 5))]).flatten) u = some (.lst ([!decide (i = 5), !decide (i = 5), !decide (i = 5)].map V.bl)) := upd_same
    refine ⟨_, _, dp_boolsL (sz _ _ hy), dp_boolsL hu, shaped_bools _, shaped_bools _, _, rfl, ite_same ?_⟩
    have sl := sy.trans sz
    refine ⟨_, rfl, ad, C i, od, .ty "KeyError", _, false, rfl, sl _ _ had, fun q hq => (hod q hq).imp fun fs z => sl _ _ z, G.xc i hi, .ty _, G.kK i hi, _, rfl, iteF ?_⟩
    exact ⟨_, _, _, _, _, _, _, _, rfl, H9.trans sl⟩
  · rintro σ J ⟨w1, w4, w5, w7, w8, w9, wa, wb, rfl, sJ⟩
    exact ⟨_, _, _, _, _, _, _, _, _, _, _, rfl, H8.trans sJ⟩
end
end LT
namespace LT
open PySem L2
def pick8 (c0 c1 c2 c3 c4 c5 c6 c7 : Addr) : Nat → Addr
  | 0 => c0
  | 1 => c1
  | 2 => c2
  | 3 => c3
  | 4 => c4
  | 5 => c5
  | 6 => c6
  | _ => c7
theorem all_mk {l : PySem.W.OpenLaw} {w : World} {K : PySem.W.Frag} {h : Heap} {mg : Str → Option Value} {fa : Addr} (X : K.In h) (G : h.Ns mainGlobals mg) (hfa : mg "law" = some (.ref fa))
    {c0 c1 c2 c3 c4 c5 c6 c7 CL : Addr}
    {f_se : Addr} {od_se an_se : Option Addr} {sl_se : Array (Option Value)} {oc_se kV_se dc_se pm_se cd_se ct_se : Value}
    {f_ch : Addr} {od_ch an_ch : Option Addr} {sl_ch : Array (Option Value)} {oc_ch kV_ch dc_ch pm_ch cd_ch ct_ch : Value}
    {f_on : Addr} {od_on an_on : Option Addr} {sl_on : Array (Option Value)} {oc_on kV_on dc_on pm_on cd_on ct_on : Value}
    {f_an : Addr} {od_an an_an : Option Addr} {sl_an : Array (Option Value)} {oc_an kV_an dc_an pm_an cd_an ct_an : Value}
    {f_ma : Addr} {od_ma an_ma : Option Addr} {sl_ma : Array (Option Value)} {oc_ma kV_ma dc_ma pm_ma cd_ma ct_ma : Value}
    {f_na : Addr} {od_na an_na : Option Addr} {sl_na : Array (Option Value)} {oc_na kV_na dc_na pm_na cd_na ct_na : Value}
    {f_ke : Addr} {od_ke an_ke : Option Addr} {sl_ke : Array (Option Value)} {oc_ke kV_ke dc_ke pm_ke cd_ke ct_ke : Value}
    {f_ki : Addr} {od_ki an_ki : Option Addr} {sl_ki : Array (Option Value)} {oc_ki kV_ki dc_ki pm_ki cd_ki ct_ki : Value}
    {f_la : Addr} {od_la an_la : Option Addr} {sl_la : Array (Option Value)} {oc_la kV_la dc_la pm_la cd_la ct_la : Value}
    {xn0 xq0 : Str} {xN0 : Addr} {xb0 : List Value} {xs0 : List Str} {xu0 : List Value} {xa0 : Bool} {xc0 : Option Bool} {xd0 : Option Addr} {p0 q0 r0 s0 t0 : Option Value}
    {f_i0 : Addr} {od_i0 an_i0 : Option Addr} {sl_i0 : Array (Option Value)} {oc_i0 kV_i0 dc_i0 pm_i0 cd_i0 ct_i0 : Value}
    {xn1 xq1 : Str} {xN1 : Addr} {xb1 : List Value} {xs1 : List Str} {xu1 : List Value} {xa1 : Bool} {xc1 : Option Bool} {xd1 : Option Addr} {p1 q1 r1 s1 t1 : Option Value}
    {f_i1 : Addr} {od_i1 an_i1 : Option Addr} {sl_i1 : Array (Option Value)} {oc_i1 kV_i1 dc_i1 pm_i1 cd_i1 ct_i1 : Value}
    {xn2 xq2 : Str} {xN2 : Addr} {xb2 : List Value} {xs2 : List Str} {xu2 : List Value} {xa2 : Bool} {xc2 : Option Bool} {xd2 : Option Addr} {p2 q2 r2 s2 t2 : Option Value}
    {f_i2 : Addr} {od_i2 an_i2 : Option Addr} {sl_i2 : Array (Option Value)} {oc_i2 kV_i2 dc_i2 pm_i2 cd_i2 ct_i2 : Value}
    {xn3 xq3 : Str} {xN3 : Addr} {xb3 : List Value} {xs3 : List Str} {xu3 : List Value} {xa3 : Bool} {xc3 : Option Bool} {xd3 : Option Addr} {p3 q3 r3 s3 t3 : Option Value}
    {f_i3 : Addr} {od_i3 an_i3 : Option Addr} {sl_i3 : Array (Option Value)} {oc_i3 kV_i3 dc_i3 pm_i3 cd_i3 ct_i3 : Value}
    {xn4 xq4 : Str} {xN4 : Addr} {xb4 : List Value} {xs4 : List Str} {xu4 : List Value} {xa4 : Bool} {xc4 : Option Bool} {xd4 : Option Addr} {p4 q4 r4 s4 t4 : Option Value}
    {f_i4 : Addr} {od_i4 an_i4 : Option Addr} {sl_i4 : Array (Option Value)} {oc_i4 kV_i4 dc_i4 pm_i4 cd_i4 ct_i4 : Value}
    {xn5 xq5 : Str} {xN5 : Addr} {xb5 : List Value} {xs5 : List Str} {xu5 : List Value} {xa5 : Bool} {xc5 : Option Bool} {xd5 : Option Addr} {p5 q5 r5 s5 t5 : Option Value}
    {f_i5 : Addr} {od_i5 an_i5 : Option Addr} {sl_i5 : Array (Option Value)} {oc_i5 kV_i5 dc_i5 pm_i5 cd_i5 ct_i5 : Value}
    (aC0 : PySem.W.nsIn K mainGlobals "InvalidRow" = some (some (.ref c0)))
    (aC1 : PySem.W.nsIn K mainGlobals "InvalidRule" = some (some (.ref c1)))
    (aC2 : PySem.W.nsIn K mainGlobals "InvalidText" = some (some (.ref c2)))
    (aC3 : PySem.W.nsIn K mainGlobals "InvalidRound" = some (some (.ref c3)))
    (aC4 : PySem.W.nsIn K mainGlobals "Refused" = some (some (.ref c4)))
    (aC5 : PySem.W.nsIn K mainGlobals "NoRow" = some (some (.ref c5)))
    (aC6 : PySem.W.nsIn K mainGlobals "InvalidFault" = some (some (.ref c6)))
    (aC7 : PySem.W.nsIn K mainGlobals "InvalidCommand" = some (some (.ref c7)))
    (aL : PySem.W.nsIn K mainGlobals "LineError" = some (some (.ref CL)))
    (a_se : PySem.W.nsIn K mainGlobals "_law_seed" = some (some (.ref f_se)))
    (l_se : K.lookup f_se = some ⟨oc_se, od_se, .func (PySem.W.fnOf "_law_seed" "_law_seed" (defArgs sSeed) (defBody sSeed) (defScope sSeed) .none kV_se dc_se pm_se an_se cd_se ct_se), sl_se⟩)
    (c_se : PySem.W.codeIn K cd_se "_law_seed" = true)
    (k_se : PySem.W.keepIn K (.ref f_se) = true)
    (a_ch : PySem.W.nsIn K mainGlobals "_law_choose" = some (some (.ref f_ch)))
    (l_ch : K.lookup f_ch = some ⟨oc_ch, od_ch, .func (PySem.W.fnOf "_law_choose" "_law_choose" (defArgs sChoose) (defBody sChoose) (defScope sChoose) .none kV_ch dc_ch pm_ch an_ch cd_ch ct_ch), sl_ch⟩)
    (c_ch : PySem.W.codeIn K cd_ch "_law_choose" = true)
    (k_ch : PySem.W.keepIn K (.ref f_ch) = true)
    (a_on : PySem.W.nsIn K mainGlobals "_law_one_of" = some (some (.ref f_on)))
    (l_on : K.lookup f_on = some ⟨oc_on, od_on, .func (PySem.W.fnOf "_law_one_of" "_law_one_of" (defArgs sOneOf) (defBody sOneOf) (defScope sOneOf) .none kV_on dc_on pm_on an_on cd_on ct_on), sl_on⟩)
    (c_on : PySem.W.codeIn K cd_on "_law_one_of" = true)
    (k_on : PySem.W.keepIn K (.ref f_on) = true)
    (a_an : PySem.W.nsIn K mainGlobals "_law_anything" = some (some (.ref f_an)))
    (l_an : K.lookup f_an = some ⟨oc_an, od_an, .func (PySem.W.fnOf "_law_anything" "_law_anything" (defArgs sAny) (defBody sAny) (defScope sAny) .none kV_an dc_an pm_an an_an cd_an ct_an), sl_an⟩)
    (c_an : PySem.W.codeIn K cd_an "_law_anything" = true)
    (k_an : PySem.W.keepIn K (.ref f_an) = true)
    (a_ma : PySem.W.nsIn K mainGlobals "_law_made" = some (some (.ref f_ma)))
    (l_ma : K.lookup f_ma = some ⟨oc_ma, od_ma, .func (PySem.W.fnOf "_law_made" "_law_made" (defArgs sMade) (defBody sMade) (defScope sMade) .none kV_ma dc_ma pm_ma an_ma cd_ma ct_ma), sl_ma⟩)
    (c_ma : PySem.W.codeIn K cd_ma "_law_made" = true)
    (k_ma : PySem.W.keepIn K (.ref f_ma) = true)
    (a_na : PySem.W.nsIn K mainGlobals "_law_named" = some (some (.ref f_na)))
    (l_na : K.lookup f_na = some ⟨oc_na, od_na, .func (PySem.W.fnOf "_law_named" "_law_named" (defArgs sNamed) (defBody sNamed) (defScope sNamed) .none kV_na dc_na pm_na an_na cd_na ct_na), sl_na⟩)
    (c_na : PySem.W.codeIn K cd_na "_law_named" = true)
    (k_na : PySem.W.keepIn K (.ref f_na) = true)
    (a_ke : PySem.W.nsIn K mainGlobals "_law_kept" = some (some (.ref f_ke)))
    (l_ke : K.lookup f_ke = some ⟨oc_ke, od_ke, .func (PySem.W.fnOf "_law_kept" "_law_kept" (defArgs sKept) (defBody sKept) (defScope sKept) .none kV_ke dc_ke pm_ke an_ke cd_ke ct_ke), sl_ke⟩)
    (c_ke : PySem.W.codeIn K cd_ke "_law_kept" = true)
    (k_ke : PySem.W.keepIn K (.ref f_ke) = true)
    (a_ki : PySem.W.nsIn K mainGlobals "_law_kinds" = some (some (.ref f_ki)))
    (l_ki : K.lookup f_ki = some ⟨oc_ki, od_ki, .func (PySem.W.fnOf "_law_kinds" "_law_kinds" (defArgs sKinds) (defBody sKinds) (defScope sKinds) .none kV_ki dc_ki pm_ki an_ki cd_ki ct_ki), sl_ki⟩)
    (c_ki : PySem.W.codeIn K cd_ki "_law_kinds" = true)
    (k_ki : PySem.W.keepIn K (.ref f_ki) = true)
    (a_la : PySem.W.nsIn K mainGlobals "law" = some (some (.ref f_la)))
    (l_la : K.lookup f_la = some ⟨oc_la, od_la, .func (PySem.W.fnOf "law" "law" (defArgs sLaw) (defBody sLaw) (defScope sLaw) .none kV_la dc_la pm_la an_la cd_la ct_la), sl_la⟩)
    (c_la : PySem.W.codeIn K cd_la "law" = true)
    (k_la : PySem.W.keepIn K (.ref f_la) = true)
    (xL0 : K.lookup c0 = some (excClassObj xn0 xq0 c0 xN0 xb0 [.ref CL, .type "ValueError", .type "Exception", .type "BaseException", .type "object"] true xs0 xu0 xa0 xc0 xd0 p0 q0 r0 s0 t0 "ValueError.__new__"))
    (sa0 : PySem.W.findIn K (.ref c0) "__setattr__" = some (some (.builtin "object.__setattr__")))
    (no0 : PySem.W.findIn K (.ref c0) "word" = some none)
    (a_i0 : PySem.W.findIn K (.ref c0) "__init__" = some (some (.ref f_i0)))
    (l_i0 : K.lookup f_i0 = some ⟨oc_i0, od_i0, .func (PySem.W.fnOf "__init__" "InvalidRow.__init__" (defArgs sI0) (defBody sI0) (defScope sI0) .none kV_i0 dc_i0 pm_i0 an_i0 cd_i0 ct_i0), sl_i0⟩)
    (c_i0 : PySem.W.codeIn K cd_i0 "InvalidRow.__init__" = true)
    (k_i0 : PySem.W.keepIn K (.ref f_i0) = true)
    (t_i0 : PySem.W.typeIn K (.ref f_i0) = some (.type "function"))
    (xL1 : K.lookup c1 = some (excClassObj xn1 xq1 c1 xN1 xb1 [.ref CL, .type "ValueError", .type "Exception", .type "BaseException", .type "object"] true xs1 xu1 xa1 xc1 xd1 p1 q1 r1 s1 t1 "ValueError.__new__"))
    (sa1 : PySem.W.findIn K (.ref c1) "__setattr__" = some (some (.builtin "object.__setattr__")))
    (no1 : PySem.W.findIn K (.ref c1) "word" = some none)
    (a_i1 : PySem.W.findIn K (.ref c1) "__init__" = some (some (.ref f_i1)))
    (l_i1 : K.lookup f_i1 = some ⟨oc_i1, od_i1, .func (PySem.W.fnOf "__init__" "InvalidRule.__init__" (defArgs sI1) (defBody sI1) (defScope sI1) .none kV_i1 dc_i1 pm_i1 an_i1 cd_i1 ct_i1), sl_i1⟩)
    (c_i1 : PySem.W.codeIn K cd_i1 "InvalidRule.__init__" = true)
    (k_i1 : PySem.W.keepIn K (.ref f_i1) = true)
    (t_i1 : PySem.W.typeIn K (.ref f_i1) = some (.type "function"))
    (xL2 : K.lookup c2 = some (excClassObj xn2 xq2 c2 xN2 xb2 [.ref CL, .type "ValueError", .type "Exception", .type "BaseException", .type "object"] true xs2 xu2 xa2 xc2 xd2 p2 q2 r2 s2 t2 "ValueError.__new__"))
    (sa2 : PySem.W.findIn K (.ref c2) "__setattr__" = some (some (.builtin "object.__setattr__")))
    (no2 : PySem.W.findIn K (.ref c2) "at" = some none)
    (a_i2 : PySem.W.findIn K (.ref c2) "__init__" = some (some (.ref f_i2)))
    (l_i2 : K.lookup f_i2 = some ⟨oc_i2, od_i2, .func (PySem.W.fnOf "__init__" "InvalidText.__init__" (defArgs sI2) (defBody sI2) (defScope sI2) .none kV_i2 dc_i2 pm_i2 an_i2 cd_i2 ct_i2), sl_i2⟩)
    (c_i2 : PySem.W.codeIn K cd_i2 "InvalidText.__init__" = true)
    (k_i2 : PySem.W.keepIn K (.ref f_i2) = true)
    (t_i2 : PySem.W.typeIn K (.ref f_i2) = some (.type "function"))
    (xL3 : K.lookup c3 = some (excClassObj xn3 xq3 c3 xN3 xb3 [.ref CL, .type "ValueError", .type "Exception", .type "BaseException", .type "object"] true xs3 xu3 xa3 xc3 xd3 p3 q3 r3 s3 t3 "ValueError.__new__"))
    (sa3 : PySem.W.findIn K (.ref c3) "__setattr__" = some (some (.builtin "object.__setattr__")))
    (no3 : PySem.W.findIn K (.ref c3) "at" = some none)
    (a_i3 : PySem.W.findIn K (.ref c3) "__init__" = some (some (.ref f_i3)))
    (l_i3 : K.lookup f_i3 = some ⟨oc_i3, od_i3, .func (PySem.W.fnOf "__init__" "InvalidRound.__init__" (defArgs sI3) (defBody sI3) (defScope sI3) .none kV_i3 dc_i3 pm_i3 an_i3 cd_i3 ct_i3), sl_i3⟩)
    (c_i3 : PySem.W.codeIn K cd_i3 "InvalidRound.__init__" = true)
    (k_i3 : PySem.W.keepIn K (.ref f_i3) = true)
    (t_i3 : PySem.W.typeIn K (.ref f_i3) = some (.type "function"))
    (xL4 : K.lookup c4 = some (excClassObj xn4 xq4 c4 xN4 xb4 [.ref CL, .type "ValueError", .type "Exception", .type "BaseException", .type "object"] true xs4 xu4 xa4 xc4 xd4 p4 q4 r4 s4 t4 "ValueError.__new__"))
    (sa4 : PySem.W.findIn K (.ref c4) "__setattr__" = some (some (.builtin "object.__setattr__")))
    (no4 : PySem.W.findIn K (.ref c4) "at" = some none)
    (a_i4 : PySem.W.findIn K (.ref c4) "__init__" = some (some (.ref f_i4)))
    (l_i4 : K.lookup f_i4 = some ⟨oc_i4, od_i4, .func (PySem.W.fnOf "__init__" "Refused.__init__" (defArgs sI4) (defBody sI4) (defScope sI4) .none kV_i4 dc_i4 pm_i4 an_i4 cd_i4 ct_i4), sl_i4⟩)
    (c_i4 : PySem.W.codeIn K cd_i4 "Refused.__init__" = true)
    (k_i4 : PySem.W.keepIn K (.ref f_i4) = true)
    (t_i4 : PySem.W.typeIn K (.ref f_i4) = some (.type "function"))
    (xL5 : K.lookup c5 = some (excClassObj xn5 xq5 c5 xN5 xb5 [.type "IndexError", .type "LookupError", .type "Exception", .type "BaseException", .type "object"] true xs5 xu5 xa5 xc5 xd5 p5 q5 r5 s5 t5 "IndexError.__new__"))
    (sa5 : PySem.W.findIn K (.ref c5) "__setattr__" = some (some (.builtin "object.__setattr__")))
    (no5 : PySem.W.findIn K (.ref c5) "at" = some none)
    (a_i5 : PySem.W.findIn K (.ref c5) "__init__" = some (some (.ref f_i5)))
    (l_i5 : K.lookup f_i5 = some ⟨oc_i5, od_i5, .func (PySem.W.fnOf "__init__" "NoRow.__init__" (defArgs sI5) (defBody sI5) (defScope sI5) .none kV_i5 dc_i5 pm_i5 an_i5 cd_i5 ct_i5), sl_i5⟩)
    (c_i5 : PySem.W.codeIn K cd_i5 "NoRow.__init__" = true)
    (k_i5 : PySem.W.keepIn K (.ref f_i5) = true)
    (t_i5 : PySem.W.typeIn K (.ref f_i5) = some (.type "function"))
    (x6 : PySem.W.excIn K c6 [.type "ValueError", .type "Exception", .type "BaseException", .type "object"] "ValueError.__new__" = true)
    (x7 : PySem.W.excIn K c7 [.type "ValueError", .type "Exception", .type "BaseException", .type "object"] "ValueError.__new__" = true)
    (kc0 : PySem.W.keepIn K (.ref c0) = true)
    (ga0 : PySem.W.findIn K (.ref c0) "__getattribute__" = some (some (.builtin "BaseException.__getattribute__")))
    (gg0 : PySem.W.findIn K (.ref c0) "__getattr__" = some none)
    (ex0 : PySem.W.subIn K (.ref c0) (.type "BaseException") = some true)
    (hd0 : PySem.W.hasDictIn K c0 = true)
    (ha0 : PySem.W.findIn K (.ref c0) "__class__" = some (some (.builtin "object.__class__")))
    (hm0 : PySem.W.mroIn K c0 (.type "object") = some true)
    (kc1 : PySem.W.keepIn K (.ref c1) = true)
    (ga1 : PySem.W.findIn K (.ref c1) "__getattribute__" = some (some (.builtin "BaseException.__getattribute__")))
    (gg1 : PySem.W.findIn K (.ref c1) "__getattr__" = some none)
    (ex1 : PySem.W.subIn K (.ref c1) (.type "BaseException") = some true)
    (hd1 : PySem.W.hasDictIn K c1 = true)
    (ha1 : PySem.W.findIn K (.ref c1) "__class__" = some (some (.builtin "object.__class__")))
    (hm1 : PySem.W.mroIn K c1 (.type "object") = some true)
    (kc2 : PySem.W.keepIn K (.ref c2) = true)
    (ga2 : PySem.W.findIn K (.ref c2) "__getattribute__" = some (some (.builtin "BaseException.__getattribute__")))
    (gg2 : PySem.W.findIn K (.ref c2) "__getattr__" = some none)
    (ex2 : PySem.W.subIn K (.ref c2) (.type "BaseException") = some true)
    (hd2 : PySem.W.hasDictIn K c2 = true)
    (ha2 : PySem.W.findIn K (.ref c2) "__class__" = some (some (.builtin "object.__class__")))
    (hm2 : PySem.W.mroIn K c2 (.type "object") = some true)
    (kc3 : PySem.W.keepIn K (.ref c3) = true)
    (ga3 : PySem.W.findIn K (.ref c3) "__getattribute__" = some (some (.builtin "BaseException.__getattribute__")))
    (gg3 : PySem.W.findIn K (.ref c3) "__getattr__" = some none)
    (ex3 : PySem.W.subIn K (.ref c3) (.type "BaseException") = some true)
    (hd3 : PySem.W.hasDictIn K c3 = true)
    (ha3 : PySem.W.findIn K (.ref c3) "__class__" = some (some (.builtin "object.__class__")))
    (hm3 : PySem.W.mroIn K c3 (.type "object") = some true)
    (kc4 : PySem.W.keepIn K (.ref c4) = true)
    (ga4 : PySem.W.findIn K (.ref c4) "__getattribute__" = some (some (.builtin "BaseException.__getattribute__")))
    (gg4 : PySem.W.findIn K (.ref c4) "__getattr__" = some none)
    (ex4 : PySem.W.subIn K (.ref c4) (.type "BaseException") = some true)
    (hd4 : PySem.W.hasDictIn K c4 = true)
    (ha4 : PySem.W.findIn K (.ref c4) "__class__" = some (some (.builtin "object.__class__")))
    (hm4 : PySem.W.mroIn K c4 (.type "object") = some true)
    (kc5 : PySem.W.keepIn K (.ref c5) = true)
    (ga5 : PySem.W.findIn K (.ref c5) "__getattribute__" = some (some (.builtin "BaseException.__getattribute__")))
    (gg5 : PySem.W.findIn K (.ref c5) "__getattr__" = some none)
    (ex5 : PySem.W.subIn K (.ref c5) (.type "BaseException") = some true)
    (hd5 : PySem.W.hasDictIn K c5 = true)
    (ha5 : PySem.W.findIn K (.ref c5) "__class__" = some (some (.builtin "object.__class__")))
    (hm5 : PySem.W.mroIn K c5 (.type "object") = some true)
    (kc6 : PySem.W.keepIn K (.ref c6) = true)
    (ga6 : PySem.W.findIn K (.ref c6) "__getattribute__" = some (some (.builtin "BaseException.__getattribute__")))
    (gg6 : PySem.W.findIn K (.ref c6) "__getattr__" = some none)
    (ex6 : PySem.W.subIn K (.ref c6) (.type "BaseException") = some true)
    (hd6 : PySem.W.hasDictIn K c6 = true)
    (ha6 : PySem.W.findIn K (.ref c6) "__class__" = some (some (.builtin "object.__class__")))
    (hm6 : PySem.W.mroIn K c6 (.type "object") = some true)
    (kc7 : PySem.W.keepIn K (.ref c7) = true)
    (ga7 : PySem.W.findIn K (.ref c7) "__getattribute__" = some (some (.builtin "BaseException.__getattribute__")))
    (gg7 : PySem.W.findIn K (.ref c7) "__getattr__" = some none)
    (ex7 : PySem.W.subIn K (.ref c7) (.type "BaseException") = some true)
    (hd7 : PySem.W.hasDictIn K c7 = true)
    (ha7 : PySem.W.findIn K (.ref c7) "__class__" = some (some (.builtin "object.__class__")))
    (hm7 : PySem.W.mroIn K c7 (.type "object") = some true)
    (hn : PySem.W.specialIn K (.builtin "object.__class__") "__get__" = some (some (.builtin "getset_descriptor.__get__")))
    (ht : PySem.W.takesIn K (.builtin "object.__class__") = some true)
    (kk00 : PySem.W.kitOne K (.ref c0) (.ref c0) = some true)
    (kk01 : PySem.W.kitOne K (.ref c0) (.ref c1) = some false)
    (kk02 : PySem.W.kitOne K (.ref c0) (.ref c2) = some false)
    (kk03 : PySem.W.kitOne K (.ref c0) (.ref c3) = some false)
    (kk04 : PySem.W.kitOne K (.ref c0) (.ref c4) = some false)
    (kk05 : PySem.W.kitOne K (.ref c0) (.ref c5) = some false)
    (kk06 : PySem.W.kitOne K (.ref c0) (.ref c6) = some false)
    (kk07 : PySem.W.kitOne K (.ref c0) (.ref c7) = some false)
    (kL0 : PySem.W.kitOne K (.ref c0) (.ref CL) = some true)
    (kV0 : PySem.W.kitOne K (.ref c0) (.type "ValueError") = some true)
    (kI0 : PySem.W.kitOne K (.ref c0) (.type "IndexError") = some false)
    (kK0 : PySem.W.kitOne K (.ref c0) (.type "KeyError") = some false)
    (kk10 : PySem.W.kitOne K (.ref c1) (.ref c0) = some false)
    (kk11 : PySem.W.kitOne K (.ref c1) (.ref c1) = some true)
    (kk12 : PySem.W.kitOne K (.ref c1) (.ref c2) = some false)
    (kk13 : PySem.W.kitOne K (.ref c1) (.ref c3) = some false)
    (kk14 : PySem.W.kitOne K (.ref c1) (.ref c4) = some false)
    (kk15 : PySem.W.kitOne K (.ref c1) (.ref c5) = some false)
    (kk16 : PySem.W.kitOne K (.ref c1) (.ref c6) = some false)
    (kk17 : PySem.W.kitOne K (.ref c1) (.ref c7) = some false)
    (kL1 : PySem.W.kitOne K (.ref c1) (.ref CL) = some true)
    (kV1 : PySem.W.kitOne K (.ref c1) (.type "ValueError") = some true)
    (kI1 : PySem.W.kitOne K (.ref c1) (.type "IndexError") = some false)
    (kK1 : PySem.W.kitOne K (.ref c1) (.type "KeyError") = some false)
    (kk20 : PySem.W.kitOne K (.ref c2) (.ref c0) = some false)
    (kk21 : PySem.W.kitOne K (.ref c2) (.ref c1) = some false)
    (kk22 : PySem.W.kitOne K (.ref c2) (.ref c2) = some true)
    (kk23 : PySem.W.kitOne K (.ref c2) (.ref c3) = some false)
    (kk24 : PySem.W.kitOne K (.ref c2) (.ref c4) = some false)
    (kk25 : PySem.W.kitOne K (.ref c2) (.ref c5) = some false)
    (kk26 : PySem.W.kitOne K (.ref c2) (.ref c6) = some false)
    (kk27 : PySem.W.kitOne K (.ref c2) (.ref c7) = some false)
    (kL2 : PySem.W.kitOne K (.ref c2) (.ref CL) = some true)
    (kV2 : PySem.W.kitOne K (.ref c2) (.type "ValueError") = some true)
    (kI2 : PySem.W.kitOne K (.ref c2) (.type "IndexError") = some false)
    (kK2 : PySem.W.kitOne K (.ref c2) (.type "KeyError") = some false)
    (kk30 : PySem.W.kitOne K (.ref c3) (.ref c0) = some false)
    (kk31 : PySem.W.kitOne K (.ref c3) (.ref c1) = some false)
    (kk32 : PySem.W.kitOne K (.ref c3) (.ref c2) = some false)
    (kk33 : PySem.W.kitOne K (.ref c3) (.ref c3) = some true)
    (kk34 : PySem.W.kitOne K (.ref c3) (.ref c4) = some false)
    (kk35 : PySem.W.kitOne K (.ref c3) (.ref c5) = some false)
    (kk36 : PySem.W.kitOne K (.ref c3) (.ref c6) = some false)
    (kk37 : PySem.W.kitOne K (.ref c3) (.ref c7) = some false)
    (kL3 : PySem.W.kitOne K (.ref c3) (.ref CL) = some true)
    (kV3 : PySem.W.kitOne K (.ref c3) (.type "ValueError") = some true)
    (kI3 : PySem.W.kitOne K (.ref c3) (.type "IndexError") = some false)
    (kK3 : PySem.W.kitOne K (.ref c3) (.type "KeyError") = some false)
    (kk40 : PySem.W.kitOne K (.ref c4) (.ref c0) = some false)
    (kk41 : PySem.W.kitOne K (.ref c4) (.ref c1) = some false)
    (kk42 : PySem.W.kitOne K (.ref c4) (.ref c2) = some false)
    (kk43 : PySem.W.kitOne K (.ref c4) (.ref c3) = some false)
    (kk44 : PySem.W.kitOne K (.ref c4) (.ref c4) = some true)
    (kk45 : PySem.W.kitOne K (.ref c4) (.ref c5) = some false)
    (kk46 : PySem.W.kitOne K (.ref c4) (.ref c6) = some false)
    (kk47 : PySem.W.kitOne K (.ref c4) (.ref c7) = some false)
    (kL4 : PySem.W.kitOne K (.ref c4) (.ref CL) = some true)
    (kV4 : PySem.W.kitOne K (.ref c4) (.type "ValueError") = some true)
    (kI4 : PySem.W.kitOne K (.ref c4) (.type "IndexError") = some false)
    (kK4 : PySem.W.kitOne K (.ref c4) (.type "KeyError") = some false)
    (kk50 : PySem.W.kitOne K (.ref c5) (.ref c0) = some false)
    (kk51 : PySem.W.kitOne K (.ref c5) (.ref c1) = some false)
    (kk52 : PySem.W.kitOne K (.ref c5) (.ref c2) = some false)
    (kk53 : PySem.W.kitOne K (.ref c5) (.ref c3) = some false)
    (kk54 : PySem.W.kitOne K (.ref c5) (.ref c4) = some false)
    (kk55 : PySem.W.kitOne K (.ref c5) (.ref c5) = some true)
    (kk56 : PySem.W.kitOne K (.ref c5) (.ref c6) = some false)
    (kk57 : PySem.W.kitOne K (.ref c5) (.ref c7) = some false)
    (kL5 : PySem.W.kitOne K (.ref c5) (.ref CL) = some false)
    (kV5 : PySem.W.kitOne K (.ref c5) (.type "ValueError") = some false)
    (kI5 : PySem.W.kitOne K (.ref c5) (.type "IndexError") = some true)
    (kK5 : PySem.W.kitOne K (.ref c5) (.type "KeyError") = some false)
    (kk60 : PySem.W.kitOne K (.ref c6) (.ref c0) = some false)
    (kk61 : PySem.W.kitOne K (.ref c6) (.ref c1) = some false)
    (kk62 : PySem.W.kitOne K (.ref c6) (.ref c2) = some false)
    (kk63 : PySem.W.kitOne K (.ref c6) (.ref c3) = some false)
    (kk64 : PySem.W.kitOne K (.ref c6) (.ref c4) = some false)
    (kk65 : PySem.W.kitOne K (.ref c6) (.ref c5) = some false)
    (kk66 : PySem.W.kitOne K (.ref c6) (.ref c6) = some true)
    (kk67 : PySem.W.kitOne K (.ref c6) (.ref c7) = some false)
    (kL6 : PySem.W.kitOne K (.ref c6) (.ref CL) = some true)
    (kV6 : PySem.W.kitOne K (.ref c6) (.type "ValueError") = some true)
    (kI6 : PySem.W.kitOne K (.ref c6) (.type "IndexError") = some false)
    (kK6 : PySem.W.kitOne K (.ref c6) (.type "KeyError") = some false)
    (kk70 : PySem.W.kitOne K (.ref c7) (.ref c0) = some false)
    (kk71 : PySem.W.kitOne K (.ref c7) (.ref c1) = some false)
    (kk72 : PySem.W.kitOne K (.ref c7) (.ref c2) = some false)
    (kk73 : PySem.W.kitOne K (.ref c7) (.ref c3) = some false)
    (kk74 : PySem.W.kitOne K (.ref c7) (.ref c4) = some false)
    (kk75 : PySem.W.kitOne K (.ref c7) (.ref c5) = some false)
    (kk76 : PySem.W.kitOne K (.ref c7) (.ref c6) = some false)
    (kk77 : PySem.W.kitOne K (.ref c7) (.ref c7) = some true)
    (kL7 : PySem.W.kitOne K (.ref c7) (.ref CL) = some true)
    (kV7 : PySem.W.kitOne K (.ref c7) (.type "ValueError") = some true)
    (kI7 : PySem.W.kitOne K (.ref c7) (.type "IndexError") = some false)
    (kK7 : PySem.W.kitOne K (.ref c7) (.type "KeyError") = some false)
    (z_len : PySem.W.nsIn K mainGlobals "len" = some none)
    (z_abs : PySem.W.nsIn K mainGlobals "abs" = some none)
    (z_int : PySem.W.nsIn K mainGlobals "int" = some none)
    (z_range : PySem.W.nsIn K mainGlobals "range" = some none)
    (z_tuple : PySem.W.nsIn K mainGlobals "tuple" = some none)
    (z_max : PySem.W.nsIn K mainGlobals "max" = some none)
    (z_min : PySem.W.nsIn K mainGlobals "min" = some none)
    (z_isinstance : PySem.W.nsIn K mainGlobals "isinstance" = some none)
    (z_repr : PySem.W.nsIn K mainGlobals "repr" = some none)
    (z_enumerate : PySem.W.nsIn K mainGlobals "enumerate" = some none)
    (z_ValueError : PySem.W.nsIn K mainGlobals "ValueError" = some none)
    (z_IndexError : PySem.W.nsIn K mainGlobals "IndexError" = some none)
    (z_KeyError : PySem.W.nsIn K mainGlobals "KeyError" = some none) :
    ∃ fd : FuncData, (∀ (s : Shared) (v : Value), BindsTo s fd ⟨[v], []⟩ [("_law_script", v)]) ∧ ∀ base : Heap, K.In base → base.Ns mainGlobals mg → FnG l.prog w K mg base CX0 7 fa fd ["_law_script"] (spLaw K) := by
  have e := hfa.symm.trans (PySem.W.mg_of X G a_la)
  cases e
  have T : Blt mg := ⟨PySem.W.mg_none_of X G z_len, PySem.W.mg_none_of X G z_abs, PySem.W.mg_none_of X G z_int, PySem.W.mg_none_of X G z_range, PySem.W.mg_none_of X G z_tuple⟩
  have Z : Blt3 mg := ⟨PySem.W.mg_none_of X G z_max, PySem.W.mg_none_of X G z_min, PySem.W.mg_none_of X G z_isinstance, PySem.W.mg_none_of X G z_repr, PySem.W.mg_none_of X G z_enumerate, PySem.W.mg_none_of X G z_ValueError, PySem.W.mg_none_of X G z_IndexError, PySem.W.mg_none_of X G z_KeyError⟩
  have F_se := fun_mk (st := sSeed) l_se c_se k_se
  have F_ch := fun_mk (st := sChoose) l_ch c_ch k_ch
  have F_on := fun_mk (st := sOneOf) l_on c_on k_on
  have F_an := fun_mk (st := sAny) l_an c_an k_an
  have F_ma := fun_mk (st := sMade) l_ma c_ma k_ma
  have F_na := fun_mk (st := sNamed) l_na c_na k_na
  have F_ke := fun_mk (st := sKept) l_ke c_ke k_ke
  have F_ki := fun_mk (st := sKinds) l_ki c_ki k_ki
  have F_la := fun_mk (st := sLaw) l_la c_la k_la
  have F_i0 := fun_mk (st := sI0) l_i0 c_i0 k_i0
  have F_i1 := fun_mk (st := sI1) l_i1 c_i1 k_i1
  have F_i2 := fun_mk (st := sI2) l_i2 c_i2 k_i2
  have F_i3 := fun_mk (st := sI3) l_i3 c_i3 k_i3
  have F_i4 := fun_mk (st := sI4) l_i4 c_i4 k_i4
  have F_i5 := fun_mk (st := sI5) l_i5 c_i5 k_i5
  have b_se := F_se.binds (ps := ["_law_script", "_law_k"]) fun _ _ _ _ _ _ us hl => match us, hl with | [_, _], _ => rfl
  have b_ch := F_ch.binds (ps := ["_law_box", "_law_many"]) fun _ _ _ _ _ _ us hl => match us, hl with | [_, _], _ => rfl
  have b_on := F_on.binds (ps := ["_law_box", "_law_some"]) fun _ _ _ _ _ _ us hl => match us, hl with | [_, _], _ => rfl
  have b_an := F_an.binds (ps := ["_law_box", "_law_deep"]) fun _ _ _ _ _ _ us hl => match us, hl with | [_, _], _ => rfl
  have b_ma := F_ma.binds (ps := ["_law_value"]) fun _ _ _ _ _ _ us hl => match us, hl with | [_], _ => rfl
  have b_na := F_na.binds (ps := ["_law_value"]) fun _ _ _ _ _ _ us hl => match us, hl with | [_], _ => rfl
  have b_ke := F_ke.binds (ps := ["_law_errors"]) fun _ _ _ _ _ _ us hl => match us, hl with | [_], _ => rfl
  have b_ki := F_ki.binds (ps := ["_law_error"]) fun _ _ _ _ _ _ us hl => match us, hl with | [_], _ => rfl
  have b_i0 := F_i0.binds (ps := ["self", "word"]) fun _ _ _ _ _ _ us hl => match us, hl with | [_, _], _ => rfl
  have b_i1 := F_i1.binds (ps := ["self", "word"]) fun _ _ _ _ _ _ us hl => match us, hl with | [_, _], _ => rfl
  have b_i2 := F_i2.binds (ps := ["self", "at"]) fun _ _ _ _ _ _ us hl => match us, hl with | [_, _], _ => rfl
  have b_i3 := F_i3.binds (ps := ["self", "at"]) fun _ _ _ _ _ _ us hl => match us, hl with | [_, _], _ => rfl
  have b_i4 := F_i4.binds (ps := ["self", "at"]) fun _ _ _ _ _ _ us hl => match us, hl with | [_, _], _ => rfl
  have b_i5 := F_i5.binds (ps := ["self", "at"]) fun _ _ _ _ _ _ us hl => match us, hl with | [_, _], _ => rfl
  have E0 : EC K c0 "ValueError" "ValueError.__new__" "ValueError.__init__" [.type "ValueError", .type "Exception", .type "BaseException", .type "object"] := ⟨PySem.F.excBase_ValueError, PySem.F.store_ValueError.passes, by decide +kernel, ⟨_, _, _, _, _, _, _, _, _, _, _, _, _, _, [CL], xL0⟩, sa0, kc0⟩
  have E1 : EC K c1 "ValueError" "ValueError.__new__" "ValueError.__init__" [.type "ValueError", .type "Exception", .type "BaseException", .type "object"] := ⟨PySem.F.excBase_ValueError, PySem.F.store_ValueError.passes, by decide +kernel, ⟨_, _, _, _, _, _, _, _, _, _, _, _, _, _, [CL], xL1⟩, sa1, kc1⟩
  have E2 : EC K c2 "ValueError" "ValueError.__new__" "ValueError.__init__" [.type "ValueError", .type "Exception", .type "BaseException", .type "object"] := ⟨PySem.F.excBase_ValueError, PySem.F.store_ValueError.passes, by decide +kernel, ⟨_, _, _, _, _, _, _, _, _, _, _, _, _, _, [CL], xL2⟩, sa2, kc2⟩
  have E3 : EC K c3 "ValueError" "ValueError.__new__" "ValueError.__init__" [.type "ValueError", .type "Exception", .type "BaseException", .type "object"] := ⟨PySem.F.excBase_ValueError, PySem.F.store_ValueError.passes, by decide +kernel, ⟨_, _, _, _, _, _, _, _, _, _, _, _, _, _, [CL], xL3⟩, sa3, kc3⟩
  have E4 : EC K c4 "ValueError" "ValueError.__new__" "ValueError.__init__" [.type "ValueError", .type "Exception", .type "BaseException", .type "object"] := ⟨PySem.F.excBase_ValueError, PySem.F.store_ValueError.passes, by decide +kernel, ⟨_, _, _, _, _, _, _, _, _, _, _, _, _, _, [CL], xL4⟩, sa4, kc4⟩
  have E5 : EC K c5 "IndexError" "IndexError.__new__" "IndexError.__init__" [.type "IndexError", .type "LookupError", .type "Exception", .type "BaseException", .type "object"] := ⟨PySem.F.excBase_IndexError, PySem.F.store_IndexError.passes, by decide +kernel, ⟨_, _, _, _, _, _, _, _, _, _, _, _, _, _, [], xL5⟩, sa5, kc5⟩
  have C0 : ExcC K c0 := ⟨ga0, gg0, ex0, hd0, ha0, hn, ht, hm0⟩
  have C1 : ExcC K c1 := ⟨ga1, gg1, ex1, hd1, ha1, hn, ht, hm1⟩
  have C2 : ExcC K c2 := ⟨ga2, gg2, ex2, hd2, ha2, hn, ht, hm2⟩
  have C3 : ExcC K c3 := ⟨ga3, gg3, ex3, hd3, ha3, hn, ht, hm3⟩
  have C4 : ExcC K c4 := ⟨ga4, gg4, ex4, hd4, ha4, hn, ht, hm4⟩
  have C5 : ExcC K c5 := ⟨ga5, gg5, ex5, hd5, ha5, hn, ht, hm5⟩
  have C6 : ExcC K c6 := ⟨ga6, gg6, ex6, hd6, ha6, hn, ht, hm6⟩
  have C7 : ExcC K c7 := ⟨ga7, gg7, ex7, hd7, ha7, hn, ht, hm7⟩
  have XC : ∀ i, i < 8 → ExcC K (pick8 c0 c1 c2 c3 c4 c5 c6 c7 i) := fun i hi => match i, hi with
      | 0, _ => C0
      | 1, _ => C1
      | 2, _ => C2
      | 3, _ => C3
      | 4, _ => C4
      | 5, _ => C5
      | 6, _ => C6
      | 7, _ => C7
      | n + 8, h => absurd h (by omega)
  have XF : ∀ i, i < 8 → XfC K (pick8 c0 c1 c2 c3 c4 c5 c6 c7 i) := fun i hi => match i, hi with
      | 0, _ => ⟨ga0, gg0, ex0, hd0⟩
      | 1, _ => ⟨ga1, gg1, ex1, hd1⟩
      | 2, _ => ⟨ga2, gg2, ex2, hd2⟩
      | 3, _ => ⟨ga3, gg3, ex3, hd3⟩
      | 4, _ => ⟨ga4, gg4, ex4, hd4⟩
      | 5, _ => ⟨ga5, gg5, ex5, hd5⟩
      | 6, _ => ⟨ga6, gg6, ex6, hd6⟩
      | 7, _ => ⟨ga7, gg7, ex7, hd7⟩
      | n + 8, h => absurd h (by omega)
  have R0 : ∀ j, j < 8 → PySem.W.kitOne K (.ref c0) (.ref (pick8 c0 c1 c2 c3 c4 c5 c6 c7 j)) = some (decide (0 = j)) := fun i hi => match i, hi with
      | 0, _ => kk00
      | 1, _ => kk01
      | 2, _ => kk02
      | 3, _ => kk03
      | 4, _ => kk04
      | 5, _ => kk05
      | 6, _ => kk06
      | 7, _ => kk07
      | n + 8, h => absurd h (by omega)
  have R1 : ∀ j, j < 8 → PySem.W.kitOne K (.ref c1) (.ref (pick8 c0 c1 c2 c3 c4 c5 c6 c7 j)) = some (decide (1 = j)) := fun i hi => match i, hi with
      | 0, _ => kk10
      | 1, _ => kk11
      | 2, _ => kk12
      | 3, _ => kk13
      | 4, _ => kk14
      | 5, _ => kk15
      | 6, _ => kk16
      | 7, _ => kk17
      | n + 8, h => absurd h (by omega)
  have R2 : ∀ j, j < 8 → PySem.W.kitOne K (.ref c2) (.ref (pick8 c0 c1 c2 c3 c4 c5 c6 c7 j)) = some (decide (2 = j)) := fun i hi => match i, hi with
      | 0, _ => kk20
      | 1, _ => kk21
      | 2, _ => kk22
      | 3, _ => kk23
      | 4, _ => kk24
      | 5, _ => kk25
      | 6, _ => kk26
      | 7, _ => kk27
      | n + 8, h => absurd h (by omega)
  have R3 : ∀ j, j < 8 → PySem.W.kitOne K (.ref c3) (.ref (pick8 c0 c1 c2 c3 c4 c5 c6 c7 j)) = some (decide (3 = j)) := fun i hi => match i, hi with
      | 0, _ => kk30
      | 1, _ => kk31
      | 2, _ => kk32
      | 3, _ => kk33
      | 4, _ => kk34
      | 5, _ => kk35
      | 6, _ => kk36
      | 7, _ => kk37
      | n + 8, h => absurd h (by omega)
  have R4 : ∀ j, j < 8 → PySem.W.kitOne K (.ref c4) (.ref (pick8 c0 c1 c2 c3 c4 c5 c6 c7 j)) = some (decide (4 = j)) := fun i hi => match i, hi with
      | 0, _ => kk40
      | 1, _ => kk41
      | 2, _ => kk42
      | 3, _ => kk43
      | 4, _ => kk44
      | 5, _ => kk45
      | 6, _ => kk46
      | 7, _ => kk47
      | n + 8, h => absurd h (by omega)
  have R5 : ∀ j, j < 8 → PySem.W.kitOne K (.ref c5) (.ref (pick8 c0 c1 c2 c3 c4 c5 c6 c7 j)) = some (decide (5 = j)) := fun i hi => match i, hi with
      | 0, _ => kk50
      | 1, _ => kk51
      | 2, _ => kk52
      | 3, _ => kk53
      | 4, _ => kk54
      | 5, _ => kk55
      | 6, _ => kk56
      | 7, _ => kk57
      | n + 8, h => absurd h (by omega)
  have R6 : ∀ j, j < 8 → PySem.W.kitOne K (.ref c6) (.ref (pick8 c0 c1 c2 c3 c4 c5 c6 c7 j)) = some (decide (6 = j)) := fun i hi => match i, hi with
      | 0, _ => kk60
      | 1, _ => kk61
      | 2, _ => kk62
      | 3, _ => kk63
      | 4, _ => kk64
      | 5, _ => kk65
      | 6, _ => kk66
      | 7, _ => kk67
      | n + 8, h => absurd h (by omega)
  have R7 : ∀ j, j < 8 → PySem.W.kitOne K (.ref c7) (.ref (pick8 c0 c1 c2 c3 c4 c5 c6 c7 j)) = some (decide (7 = j)) := fun i hi => match i, hi with
      | 0, _ => kk70
      | 1, _ => kk71
      | 2, _ => kk72
      | 3, _ => kk73
      | 4, _ => kk74
      | 5, _ => kk75
      | 6, _ => kk76
      | 7, _ => kk77
      | n + 8, h => absurd h (by omega)
  have KK : ∀ i j, i < 8 → j < 8 → PySem.W.kitOne K (.ref (pick8 c0 c1 c2 c3 c4 c5 c6 c7 i)) (.ref (pick8 c0 c1 c2 c3 c4 c5 c6 c7 j)) = some (decide (i = j)) := fun i j hi hj => match i, hi with
      | 0, _ => R0 j hj
      | 1, _ => R1 j hj
      | 2, _ => R2 j hj
      | 3, _ => R3 j hj
      | 4, _ => R4 j hj
      | 5, _ => R5 j hj
      | 6, _ => R6 j hj
      | 7, _ => R7 j hj
      | n + 8, h => absurd h (by omega)
  have KLx : ∀ i, i < 8 → PySem.W.kitOne K (.ref (pick8 c0 c1 c2 c3 c4 c5 c6 c7 i)) (.ref CL) = some (!decide (i = 5)) := fun i hi => match i, hi with
      | 0, _ => kL0
      | 1, _ => kL1
      | 2, _ => kL2
      | 3, _ => kL3
      | 4, _ => kL4
      | 5, _ => kL5
      | 6, _ => kL6
      | 7, _ => kL7
      | n + 8, h => absurd h (by omega)
  have KVx : ∀ i, i < 8 → PySem.W.kitOne K (.ref (pick8 c0 c1 c2 c3 c4 c5 c6 c7 i)) (.type "ValueError") = some (!decide (i = 5)) := fun i hi => match i, hi with
      | 0, _ => kV0
      | 1, _ => kV1
      | 2, _ => kV2
      | 3, _ => kV3
      | 4, _ => kV4
      | 5, _ => kV5
      | 6, _ => kV6
      | 7, _ => kV7
      | n + 8, h => absurd h (by omega)
  have KIx : ∀ i, i < 8 → PySem.W.kitOne K (.ref (pick8 c0 c1 c2 c3 c4 c5 c6 c7 i)) (.type "IndexError") = some (decide (i = 5)) := fun i hi => match i, hi with
      | 0, _ => kI0
      | 1, _ => kI1
      | 2, _ => kI2
      | 3, _ => kI3
      | 4, _ => kI4
      | 5, _ => kI5
      | 6, _ => kI6
      | 7, _ => kI7
      | n + 8, h => absurd h (by omega)
  have KKx : ∀ i, i < 8 → PySem.W.kitOne K (.ref (pick8 c0 c1 c2 c3 c4 c5 c6 c7 i)) (.type "KeyError") = some (false) := fun i hi => match i, hi with
      | 0, _ => kK0
      | 1, _ => kK1
      | 2, _ => kK2
      | 3, _ => kK3
      | 4, _ => kK4
      | 5, _ => kK5
      | 6, _ => kK6
      | 7, _ => kK7
      | n + 8, h => absurd h (by omega)
  refine ⟨PySem.W.fnOf "law" "law" (defArgs sLaw) (defBody sLaw) (defScope sLaw) .none kV_la dc_la pm_la an_la cd_la ct_la, fun s v => .of_eq rfl, fun base _ _ => ?_⟩
  have O0 : OneG l.prog w K mg base c0 "InvalidRow" "word" := ⟨⟨_, _, _, _, E0⟩, ⟨f_i0, _, ok_in0 F_i0 E0 no0, b_i0, (fun s a u => .of_eq rfl), a_i0, t_i0⟩, PySem.W.mg_of X G aC0, no0⟩
  have O1 : OneG l.prog w K mg base c1 "InvalidRule" "word" := ⟨⟨_, _, _, _, E1⟩, ⟨f_i1, _, ok_in1 F_i1 E1 no1, b_i1, (fun s a u => .of_eq rfl), a_i1, t_i1⟩, PySem.W.mg_of X G aC1, no1⟩
  have O2 : OneG l.prog w K mg base c2 "InvalidText" "at" := ⟨⟨_, _, _, _, E2⟩, ⟨f_i2, _, ok_in2 F_i2 E2 no2, b_i2, (fun s a u => .of_eq rfl), a_i2, t_i2⟩, PySem.W.mg_of X G aC2, no2⟩
  have O3 : OneG l.prog w K mg base c3 "InvalidRound" "at" := ⟨⟨_, _, _, _, E3⟩, ⟨f_i3, _, ok_in3 F_i3 E3 no3, b_i3, (fun s a u => .of_eq rfl), a_i3, t_i3⟩, PySem.W.mg_of X G aC3, no3⟩
  have O4 : OneG l.prog w K mg base c4 "Refused" "at" := ⟨⟨_, _, _, _, E4⟩, ⟨f_i4, _, ok_in4 F_i4 E4 no4, b_i4, (fun s a u => .of_eq rfl), a_i4, t_i4⟩, PySem.W.mg_of X G aC4, no4⟩
  have O5 : OneG l.prog w K mg base c5 "NoRow" "at" := ⟨⟨_, _, _, _, E5⟩, ⟨f_i5, _, ok_in5 F_i5 E5 no5, b_i5, (fun s a u => .of_eq rfl), a_i5, t_i5⟩, PySem.W.mg_of X G aC5, no5⟩
  have AG : AllG l.prog w K mg base (pick8 c0 c1 c2 c3 c4 c5 c6 c7) := ⟨O0, O1, O2, O3, O4, O5, ⟨⟨_, _, _, _, PySem.F.excBase_ValueError, x6⟩, PySem.W.mg_of X G aC6, kc6⟩, ⟨⟨_, _, _, _, PySem.F.excBase_ValueError, x7⟩, PySem.W.mg_of X G aC7, kc7⟩, XF, XC, KK⟩
  have g_se : FnOk l.prog w K mg base CX0 1 f_se _ ["_law_script", "_law_k"] (spSeed K) := ok_seed F_se T
  have g_ch : FnOk l.prog w K mg base CX0 1 f_ch _ ["_law_box", "_law_many"] spChoose := ok_choose F_ch T
  have mCh := PySem.W.mg_of X G a_ch
  have mOn := PySem.W.mg_of X G a_on
  have g_on : FnOk l.prog w K mg base CX0 2 f_on _ ["_law_box", "_law_some"] (spOneOf K) := ok_oneof F_on T g_ch b_ch k_ch mCh
  have g_an : FnOk l.prog w K mg base CX0 6 f_an _ ["_law_box", "_law_deep"] (spAny K 3) := any_all F_an T g_ch b_ch k_ch mCh g_on b_on k_on mOn b_an (PySem.W.mg_of X G a_an) 3
  exact ok_law F_la T Z ⟨⟨f_se, _, g_se, b_se, k_se, PySem.W.mg_of X G a_se⟩, ⟨f_an, _, g_an, b_an, k_an, PySem.W.mg_of X G a_an⟩, ⟨f_ma, _, ok_made F_ma AG, b_ma, k_ma, PySem.W.mg_of X G a_ma⟩, ⟨f_na, _, ok_named F_na AG, b_na, k_na, PySem.W.mg_of X G a_na⟩,
    ⟨f_ke, _, ok_kept F_ke AG, b_ke, k_ke, PySem.W.mg_of X G a_ke⟩, ⟨f_ki, _, ok_kinds F_ki ⟨PySem.W.mg_none_of X G z_isinstance⟩ AG, b_ki, k_ki, PySem.W.mg_of X G a_ki⟩, PySem.W.mg_of X G aL, XC, KLx, KVx, KIx, KKx⟩
theorem walk {l : PySem.W.OpenLaw} {q : Program} {loose : List Str} {XP : (Str → Option Value) → Heap → Prop} {YP : World → Heap → Prop} {d : DefRec} {K : Params → PySem.W.Frag} (hn : l.most = some 63) (hdf : d.params.defaults = [])
    (hY : ∀ (w : World) (h : Heap), YP w h → (K w.params).In h)
    (F : ∀ (w : World) (mg : Str → Option Value) (fa : Addr) (h : Heap), (K w.params).In h → h.Ns mainGlobals mg → mg d.name = some (.ref fa) →
      ∃ fd : FuncData, (∀ (s : Shared) (u : Value), BindsTo s fd ⟨[u], []⟩ [("_law_script", u)]) ∧ ∀ base : Heap, (K w.params).In base → base.Ns mainGlobals mg → FnG l.prog w (K w.params) mg base CX0 7 fa fd ["_law_script"] (spLaw (K w.params))) :
    PySem.W.WalkO q loose XP YP l.row.toRowW d [] (fun f vs => PySem.call f vs) :=
  walk_ofG (n := 63) (k := 7) (x := "_law_script") (sp := fun w => spLaw (K w.params)) hn (by decide) hdf ⟨rfl, by decide, by decide⟩ hY F (fun _ _ a ns hl hS => ⟨a, ns, rfl, hS, hl, fun _ => rfl⟩)
end LT
open PySem PySem.W PyProof.Rows
set_option maxRecDepth 100000 in
set_option maxHeartbeats 0 in
theorem PySem.Challenge.cw_lineturns_k01_errors_and_what_they_keep_holds : PySem.Challenge.rw_lineturns_k01_errors_and_what_they_keep.Holds := by
  w_on; o_law; k_head; (case hw => w_witness2)
  k_fill
  refine LT.walk (l := PySem.Challenge.rw_lineturns_k01_errors_and_what_they_keep) rfl rfl (fun w h Y => PySem.W.kIn_of Y) ?F
  case F =>
    intro w mg fa h KX G hmg
    refine' LT.all_mk KX G hmg ?aC0 ?aC1 ?aC2 ?aC3 ?aC4 ?aC5 ?aC6 ?aC7 ?aL ?a_se ?l_se ?c_se ?k_se ?a_ch ?l_ch ?c_ch ?k_ch ?a_on ?l_on ?c_on ?k_on ?a_an ?l_an ?c_an ?k_an ?a_ma ?l_ma ?c_ma ?k_ma ?a_na ?l_na ?c_na ?k_na ?a_ke ?l_ke ?c_ke ?k_ke ?a_ki ?l_ki ?c_ki ?k_ki ?a_la ?l_la ?c_la ?k_la ?xL0 ?sa0 ?no0 ?a_i0 ?l_i0 ?c_i0 ?k_i0 ?t_i0 ?xL1 ?sa1 ?no1 ?a_i1 ?l_i1 ?c_i1 ?k_i1 ?t_i1 ?xL2 ?sa2 ?no2 ?a_i2 ?l_i2 ?c_i2 ?k_i2 ?t_i2 ?xL3 ?sa3 ?no3 ?a_i3 ?l_i3 ?c_i3 ?k_i3 ?t_i3 ?xL4 ?sa4 ?no4 ?a_i4 ?l_i4 ?c_i4 ?k_i4 ?t_i4 ?xL5 ?sa5 ?no5 ?a_i5 ?l_i5 ?c_i5 ?k_i5 ?t_i5 ?x6 ?x7 ?kc0 ?ga0 ?gg0 ?ex0 ?hd0 ?ha0 ?hm0 ?kc1 ?ga1 ?gg1 ?ex1 ?hd1 ?ha1 ?hm1 ?kc2 ?ga2 ?gg2 ?ex2 ?hd2 ?ha2 ?hm2 ?kc3 ?ga3 ?gg3 ?ex3 ?hd3 ?ha3 ?hm3 ?kc4 ?ga4 ?gg4 ?ex4 ?hd4 ?ha4 ?hm4 ?kc5 ?ga5 ?gg5 ?ex5 ?hd5 ?ha5 ?hm5 ?kc6 ?ga6 ?gg6 ?ex6 ?hd6 ?ha6 ?hm6 ?kc7 ?ga7 ?gg7 ?ex7 ?hd7 ?ha7 ?hm7 ?hn ?ht ?kk00 ?kk01 ?kk02 ?kk03 ?kk04 ?kk05 ?kk06 ?kk07 ?kL0 ?kV0 ?kI0 ?kK0 ?kk10 ?kk11 ?kk12 ?kk13 ?kk14 ?kk15 ?kk16 ?kk17 ?kL1 ?kV1 ?kI1 ?kK1 ?kk20 ?kk21 ?kk22 ?kk23 ?kk24 ?kk25 ?kk26 ?kk27 ?kL2 ?kV2 ?kI2 ?kK2 ?kk30 ?kk31 ?kk32 ?kk33 ?kk34 ?kk35 ?kk36 ?kk37 ?kL3 ?kV3 ?kI3 ?kK3 ?kk40 ?kk41 ?kk42 ?kk43 ?kk44 ?kk45 ?kk46 ?kk47 ?kL4 ?kV4 ?kI4 ?kK4 ?kk50 ?kk51 ?kk52 ?kk53 ?kk54 ?kk55 ?kk56 ?kk57 ?kL5 ?kV5 ?kI5 ?kK5 ?kk60 ?kk61 ?kk62 ?kk63 ?kk64 ?kk65 ?kk66 ?kk67 ?kL6 ?kV6 ?kI6 ?kK6 ?kk70 ?kk71 ?kk72 ?kk73 ?kk74 ?kk75 ?kk76 ?kk77 ?kL7 ?kV7 ?kI7 ?kK7 ?z_len ?z_abs ?z_int ?z_range ?z_tuple ?z_max ?z_min ?z_isinstance ?z_repr ?z_enumerate ?z_ValueError ?z_IndexError ?z_KeyError
    (case aC0 => k_is)
    (case aC1 => k_is)
    (case aC2 => k_is)
    (case aC3 => k_is)
    (case aC4 => k_is)
    (case aC5 => k_is)
    (case aC6 => k_is)
    (case aC7 => k_is)
    (case aL => k_is)
    (case a_se => k_is)
    (case l_se => k_is)
    (case c_se => k_is)
    (case k_se => k_is)
    (case a_ch => k_is)
    (case l_ch => k_is)
    (case c_ch => k_is)
    (case k_ch => k_is)
    (case a_on => k_is)
    (case l_on => k_is)
    (case c_on => k_is)
    (case k_on => k_is)
    (case a_an => k_is)
    (case l_an => k_is)
    (case c_an => k_is)
    (case k_an => k_is)
    (case a_ma => k_is)
    (case l_ma => k_is)
    (case c_ma => k_is)
    (case k_ma => k_is)
    (case a_na => k_is)
    (case l_na => k_is)
    (case c_na => k_is)
    (case k_na => k_is)
    (case a_ke => k_is)
    (case l_ke => k_is)
    (case c_ke => k_is)
    (case k_ke => k_is)
    (case a_ki => k_is)
    (case l_ki => k_is)
    (case c_ki => k_is)
    (case k_ki => k_is)
    (case a_la => k_is)
    (case l_la => k_is)
    (case c_la => k_is)
    (case k_la => k_is)
    (case xL0 => k_is)
    (case sa0 => k_is)
    (case no0 => k_is)
    (case a_i0 => k_is)
    (case l_i0 => k_is)
    (case c_i0 => k_is)
    (case k_i0 => k_is)
    (case t_i0 => k_is)
    (case xL1 => k_is)
    (case sa1 => k_is)
    (case no1 => k_is)
    (case a_i1 => k_is)
    (case l_i1 => k_is)
    (case c_i1 => k_is)
    (case k_i1 => k_is)
    (case t_i1 => k_is)
    (case xL2 => k_is)
    (case sa2 => k_is)
    (case no2 => k_is)
    (case a_i2 => k_is)
    (case l_i2 => k_is)
    (case c_i2 => k_is)
    (case k_i2 => k_is)
    (case t_i2 => k_is)
    (case xL3 => k_is)
    (case sa3 => k_is)
    (case no3 => k_is)
    (case a_i3 => k_is)
    (case l_i3 => k_is)
    (case c_i3 => k_is)
    (case k_i3 => k_is)
    (case t_i3 => k_is)
    (case xL4 => k_is)
    (case sa4 => k_is)
    (case no4 => k_is)
    (case a_i4 => k_is)
    (case l_i4 => k_is)
    (case c_i4 => k_is)
    (case k_i4 => k_is)
    (case t_i4 => k_is)
    (case xL5 => k_is)
    (case sa5 => k_is)
    (case no5 => k_is)
    (case a_i5 => k_is)
    (case l_i5 => k_is)
    (case c_i5 => k_is)
    (case k_i5 => k_is)
    (case t_i5 => k_is)
    (case x6 => k_exc)
    (case x7 => k_exc)
    (case kc0 => k_is)
    (case ga0 => k_is)
    (case gg0 => k_is)
    (case ex0 => k_is)
    (case hd0 => k_is)
    (case ha0 => k_is)
    (case hm0 => k_is)
    (case kc1 => k_is)
    (case ga1 => k_is)
    (case gg1 => k_is)
    (case ex1 => k_is)
    (case hd1 => k_is)
    (case ha1 => k_is)
    (case hm1 => k_is)
    (case kc2 => k_is)
    (case ga2 => k_is)
    (case gg2 => k_is)
    (case ex2 => k_is)
    (case hd2 => k_is)
    (case ha2 => k_is)
    (case hm2 => k_is)
    (case kc3 => k_is)
    (case ga3 => k_is)
    (case gg3 => k_is)
    (case ex3 => k_is)
    (case hd3 => k_is)
    (case ha3 => k_is)
    (case hm3 => k_is)
    (case kc4 => k_is)
    (case ga4 => k_is)
    (case gg4 => k_is)
    (case ex4 => k_is)
    (case hd4 => k_is)
    (case ha4 => k_is)
    (case hm4 => k_is)
    (case kc5 => k_is)
    (case ga5 => k_is)
    (case gg5 => k_is)
    (case ex5 => k_is)
    (case hd5 => k_is)
    (case ha5 => k_is)
    (case hm5 => k_is)
    (case kc6 => k_is)
    (case ga6 => k_is)
    (case gg6 => k_is)
    (case ex6 => k_is)
    (case hd6 => k_is)
    (case ha6 => k_is)
    (case hm6 => k_is)
    (case kc7 => k_is)
    (case ga7 => k_is)
    (case gg7 => k_is)
    (case ex7 => k_is)
    (case hd7 => k_is)
    (case ha7 => k_is)
    (case hm7 => k_is)
    (case hn => k_is)
    (case ht => k_is)
    (case kk00 => kit_is)
    (case kk01 => kit_is)
    (case kk02 => kit_is)
    (case kk03 => kit_is)
    (case kk04 => kit_is)
    (case kk05 => kit_is)
    (case kk06 => kit_is)
    (case kk07 => kit_is)
    (case kL0 => kit_is)
    (case kV0 => kit_is)
    (case kI0 => kit_is)
    (case kK0 => kit_is)
    (case kk10 => kit_is)
    (case kk11 => kit_is)
    (case kk12 => kit_is)
    (case kk13 => kit_is)
    (case kk14 => kit_is)
    (case kk15 => kit_is)
    (case kk16 => kit_is)
    (case kk17 => kit_is)
    (case kL1 => kit_is)
    (case kV1 => kit_is)
    (case kI1 => kit_is)
    (case kK1 => kit_is)
    (case kk20 => kit_is)
    (case kk21 => kit_is)
    (case kk22 => kit_is)
    (case kk23 => kit_is)
    (case kk24 => kit_is)
    (case kk25 => kit_is)
    (case kk26 => kit_is)
    (case kk27 => kit_is)
    (case kL2 => kit_is)
    (case kV2 => kit_is)
    (case kI2 => kit_is)
    (case kK2 => kit_is)
    (case kk30 => kit_is)
    (case kk31 => kit_is)
    (case kk32 => kit_is)
    (case kk33 => kit_is)
    (case kk34 => kit_is)
    (case kk35 => kit_is)
    (case kk36 => kit_is)
    (case kk37 => kit_is)
    (case kL3 => kit_is)
    (case kV3 => kit_is)
    (case kI3 => kit_is)
    (case kK3 => kit_is)
    (case kk40 => kit_is)
    (case kk41 => kit_is)
    (case kk42 => kit_is)
    (case kk43 => kit_is)
    (case kk44 => kit_is)
    (case kk45 => kit_is)
    (case kk46 => kit_is)
    (case kk47 => kit_is)
    (case kL4 => kit_is)
    (case kV4 => kit_is)
    (case kI4 => kit_is)
    (case kK4 => kit_is)
    (case kk50 => kit_is)
    (case kk51 => kit_is)
    (case kk52 => kit_is)
    (case kk53 => kit_is)
    (case kk54 => kit_is)
    (case kk55 => kit_is)
    (case kk56 => kit_is)
    (case kk57 => kit_is)
    (case kL5 => kit_is)
    (case kV5 => kit_is)
    (case kI5 => kit_is)
    (case kK5 => kit_is)
    (case kk60 => kit_is)
    (case kk61 => kit_is)
    (case kk62 => kit_is)
    (case kk63 => kit_is)
    (case kk64 => kit_is)
    (case kk65 => kit_is)
    (case kk66 => kit_is)
    (case kk67 => kit_is)
    (case kL6 => kit_is)
    (case kV6 => kit_is)
    (case kI6 => kit_is)
    (case kK6 => kit_is)
    (case kk70 => kit_is)
    (case kk71 => kit_is)
    (case kk72 => kit_is)
    (case kk73 => kit_is)
    (case kk74 => kit_is)
    (case kk75 => kit_is)
    (case kk76 => kit_is)
    (case kk77 => kit_is)
    (case kL7 => kit_is)
    (case kV7 => kit_is)
    (case kI7 => kit_is)
    (case kK7 => kit_is)
    (case z_len => k_is)
    (case z_abs => k_is)
    (case z_int => k_is)
    (case z_range => k_is)
    (case z_tuple => k_is)
    (case z_max => k_is)
    (case z_min => k_is)
    (case z_isinstance => k_is)
    (case z_repr => k_is)
    (case z_enumerate => k_is)
    (case z_ValueError => k_is)
    (case z_IndexError => k_is)
    (case z_KeyError => k_is)
#print axioms PySem.Challenge.cw_lineturns_k01_errors_and_what_they_keep_holds
