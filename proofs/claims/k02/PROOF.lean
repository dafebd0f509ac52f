import PyProof.Rows.All
import Wide.All
import OpenK.AllK
import Wide.FinOn
import HandS.Base
import HandS.Call
import HandS.List
import HandS.Comp
import HandS.Ends
import HandS.Iter
import HandS.Words
import PyProof.EqAt
import PyProof.EqKinds
import HandS.OwnEq
import KE.KCallOwn
import PyProof.ReprRoads
import HandS.ExcInit
import HandS.ExcField
import HandS.Exc
import HandS.IsInst
import HandS.Text
import HandS.StrMore
import HandS.ExcOwn
import HandS.TryOnly
import HandS.Walk
import PyProof.P3In
import HandS.WordsExc
import HandS.Defaults
import HandS.FStr
import HandS.Codes
import HandS.FStrTup
import HandS.Zip
import KE.RegKIsAll
import PySem.Challenge.RW_lineturns_k02_rows_made
set_option Elab.async false
set_option linter.all false
set_option maxRecDepth 100000
set_option maxHeartbeats 4000000
namespace LT
open PySem L2
def top (i : Nat) : Stmt := PySem.Challenge.pw_lineturns_k02_rows_made.main.body.getD i (.Pass ⟨0, 0, 0, 0⟩)
abbrev sSeed : Stmt := top 10
abbrev sChoose : Stmt := top 11
abbrev sOneOf : Stmt := top 12

/-- the heap without the box -/
def offB (H : Hp) (b : Addr) : Hp := fun c => if c = b then none else H c
theorem offB_ne {H : Hp} {b c : Addr} (h : c ≠ b) : offB H b c = H c := if_neg h
theorem offB_some {H : Hp} {b c : Addr} {o : HO} (h : offB H b c = some o) : c ≠ b ∧ H c = some o := by
  unfold offB at h
  by_cases e : c = b
  · rw [if_pos e] at h
    cases h
  · rw [if_neg e] at h
    exact ⟨e, h⟩
theorem offB_sub {H : Hp} {b : Addr} : Same (offB H b) H := fun _ _ h => (offB_some h).2
/-- from H to J all but the box at b is kept -/
def Kb (b : Addr) (H J : Hp) : Prop := ∀ c o, c ≠ b → H c = some o → J c = some o
theorem Kb.refl {b : Addr} {H : Hp} : Kb b H H := fun _ _ _ h => h
theorem Kb.trans {b : Addr} {H J L : Hp} (x : Kb b H J) (y : Kb b J L) : Kb b H L := fun c o n h => y c o n (x c o n h)
theorem Kb.of {b : Addr} {H J : Hp} (x : Same H J) : Kb b H J := fun c o _ h => x c o h
theorem Kb.box {b : Addr} {H : Hp} {o : HO} : Kb b H (upd H b o) := fun c u n h => by rw [upd_ne n]; exact h
theorem Kb.new {b p : Addr} {H : Hp} {o : HO} (h : H p = none) : Kb b H (upd H p o) := fun c u _ e => by rw [upd_ne (ne_of_none e h)]; exact e
theorem Kb.seq {K : PySem.W.Frag} {b : Addr} {H J : Hp} {a : Addr} {xs : List V} (x : Kb b H J) (n : a ≠ b) (h : SqL K H a xs) : SqL K J a xs := by
  rcases h with (h | ⟨o, h⟩) | h
  · exact .inl (.inl (x _ _ n h))
  · exact .inl (.inr ⟨o, x _ _ n h⟩)
  · exact .inr h
theorem new_same {H : Hp} {p : Addr} (h : H p = none) (o : HO) : Same H (upd H p o) := fun c u e => by rw [upd_ne (ne_of_none e h)]; exact e
/-- a box: a list of two ints -/
def Box (H : Hp) (b : Addr) : Prop := ∃ x y : Int, H b = some (.lst [.int x, .int y])

/-! ### promises -/
def spSeed (K : PySem.W.Frag) : Sp := fun vs H Q _ => ∃ (a : Addr) (ns : List Int) (k : Int), vs = [.ref a, .int k] ∧ SqL K H a (ns.map V.int) ∧ 0 ≤ k ∧ k ≤ 1000 ∧
  ∀ (p : Addr) (x y : Int), H p = none → Q (.ref p) (upd H p (.lst [.int x, .int y]))
def spChoose : Sp := fun vs H Q _ => ∃ (b : Addr) (m : Int), vs = [.ref b, .int m] ∧ Box H b ∧ 0 < m ∧ m ≤ 1000000 ∧
  ∀ (d x y : Int), 0 ≤ d → d < m → Q (.int d) (upd H b (.lst [.int x, .int y]))
def spOneOf (K : PySem.W.Frag) : Sp := fun vs H Q _ => ∃ (b s : Addr) (xs : List V), vs = [.ref b, .ref s] ∧ Box H b ∧ s ≠ b ∧ SqL K H s xs ∧ 0 < xs.length ∧ xs.length ≤ 1000 ∧
  ∀ (i : Nat) (v : V) (x y : Int), xs[i]? = some v → Q v (upd H b (.lst [.int x, .int y]))
structure Blt (mg : Str → Option Value) : Prop where
  len : mg "len" = none
  abs : mg "abs" = none
  int : mg "int" = none
  range : mg "range" = none
  tuple : mg "tuple" = none
section
variable {P : Program} {w : World} {K : PySem.W.Frag} {mg : Str → Option Value} {base : Heap}
theorem mod_ix {k n : Int} (hn : 0 < n) : 0 ≤ k % n ∧ k % n < n := ⟨Int.emod_nonneg _ (by omega), Int.emod_lt_of_pos _ hn⟩
theorem at_in {ns : List Int} {i : Int} (h0 : 0 ≤ i) (h1 : i < (ns.length : Int)) : ∃ z, atI (ns.map V.int) i = some (.int z) := by
  obtain ⟨j, rfl⟩ : ∃ j : Nat, i = (j : Int) := ⟨i.toNat, by omega⟩
  have hj : j < ns.length := by omega
  exact ⟨ns[j], atI_nat (by rw [List.getElem?_map, List.getElem?_eq_getElem hj] <;> rfl)⟩
theorem scSeed : FnScope ["_law_script", "_law_k", "_law_cell"] ["_law_script", "_law_k"] (defScope sSeed) := ⟨rfl, rfl, rfl, by decide +kernel, rfl, by decide +kernel, by decide +kernel⟩
theorem ok_seed {f : Addr} {fd : FuncData} (F : Fun K "_law_seed" "_law_seed" sSeed f fd) (T : Blt mg) : FnOk P w K mg base CX0 1 f fd ["_law_script", "_law_k"] (spSeed K) := by
  refine F.ok scSeed (fun vs H Q E h => ?_) (fun cdv A outer s H vs Q E hr h => ?_)
  · obtain ⟨a, ns, k, rfl, _⟩ := h
    rfl
  obtain ⟨a, ns, k, rfl, hS, h0, h1, q⟩ := h
  refine ⟨_, pss_cons (ps_set (i := 2) scSeed.nd rfl (Or.inl rfl) (pe_op op_add (pe_op op_mul pe_int (pv 1)) pe_int))
    (pss_cons (ps_if (pt_cmpR op_lt (pv 1) (pe_callB call_len_seq (by rfl) T.len PySem.boot_len (pa_cons (pv 0) pa_nil)) (nomark _))
        (pss_one (ps_set (i := 2) scSeed.nd rfl (Or.inl rfl) (pe_callB call_abs (by rfl) T.abs (by decide +kernel) (pa_cons (pe_ix ix_list (pv 0) (pv 1) (fun _ _ => rfl)) pa_nil))))
        (pss_one (ps_if (pt_cmpR op_gt (pe_callB call_len_seq (by rfl) T.len PySem.boot_len (pa_cons (pv 0) pa_nil)) pe_int (nomark _))
          (pss_one (ps_set (i := 2) scSeed.nd rfl (Or.inl rfl) (pe_op op_add (pv 2) (pe_op op_mul (pe_op op_mod (pe_callTy call_int1 (by rfl) T.int (by decide +kernel) (pa_cons (pe_callB call_abs (by rfl) T.abs (by decide +kernel)
            (pa_cons (pe_ix ix_list (pv 0) (pe_op op_mod (pe_callTy call_int1 (by rfl) T.int (by decide +kernel) (pa_cons (pv 1) pa_nil)) (pe_callB call_len_seq (by rfl) T.len PySem.boot_len (pa_cons (pv 0) pa_nil))) (fun _ _ => rfl)) pa_nil)) pa_nil)) pe_int) pe_int))))
          pss_nil)))
    (pss_one (ps_ret (pe_lst (pa_cons (pe_ifExp (pt_cmpR op_ge (pv 2) (pe_op op_pow pe_int pe_int) (nomark _)) (pv 2) pe_int)
      (pa_cons (pe_op op_add (pe_op op_mod (pe_callTy call_int1 (by rfl) T.int (by decide +kernel) (pa_cons (pe_op op_add (pe_op op_mul (pe_op op_mod (pe_callTy call_int1 (by rfl) T.int (by decide +kernel) (pa_cons (pv 2) pa_nil)) pe_int) pe_int) (pe_op op_mul pe_int (pv 1))) pa_nil)) pe_int) pe_int) pa_nil)))))), ?_⟩
  have hl : (ns.map V.int).length = ns.length := List.length_map _
  refine ⟨_, rfl, _, _, rfl, rfl, .inl (by decide), _, _, rfl, rfl, ?_⟩
  refine ⟨_, rfl, _, rfl, a, _, rfl, .inl hS, _, _, rfl, rfl, _, rfl, ?_⟩
  refine ite2 (fun c => ?_) (fun c => ?_)
  · have c' : k < (((ns.map V.int).length : Nat) : Int) := of_decide_eq_true c
    rw [hl] at c'
    obtain ⟨z, hz⟩ := at_in h0 c'
    refine ⟨_, rfl, _, rfl, a, _, _, _, rfl, rfl, hS, hz, _, rfl, ?_⟩
    generalize hc : (if z < 0 then -z else z) = cell
    refine ⟨_, rfl, _, _, rfl, rfl, ⟨by decide, by decide, by decide⟩, _, _, rfl, rfl, _, rfl, ?_⟩
    refine ite2 (fun _ => ⟨_, rfl, ?_⟩) (fun _ => ?_)
    all_goals
      refine ⟨_, rfl, .inl ⟨_, rfl, _, _, rfl, rfl, (by show (0 : Int) < 2147483629; decide), _, _, rfl, rfl, .inr (by decide), _, rfl, _, _, rfl, rfl, .inl (by decide), _, _, rfl, rfl, ?_⟩⟩
      refine .inl ⟨_, rfl, _, _, rfl, rfl, (by show (0 : Int) < 2147483629; decide), _, _, rfl, rfl, (by show 2 ≤ sizeLine; decide), fun p hp => q p _ _ hp⟩
  · refine ⟨_, rfl, a, _, rfl, .inl hS, _, _, rfl, rfl, _, rfl, ?_⟩
    refine ite2 (fun d => ?_) (fun d => ?_)
    · have d' : (0 : Int) < (((ns.map V.int).length : Nat) : Int) := of_decide_eq_true d
      obtain ⟨m0, m1⟩ := mod_ix (k := k) d'
      obtain ⟨z, hz⟩ := at_in (ns := ns) m0 (by rw [hl] at m1 ⊢; exact m1)
      refine ⟨_, rfl, _, rfl, _, rfl, .inl ⟨_, rfl, _, rfl, a, _, rfl, .inl hS, _, _, rfl, rfl, d', a, _, _, _, rfl, rfl, hS, hz, _, rfl, ?_⟩⟩
      refine .inl ⟨_, rfl, _, _, rfl, rfl, (by show (0 : Int) < 2147483629; decide), _, _, rfl, rfl, .inr (by decide), _, _, rfl, rfl, ?_⟩
      generalize hc : (6481 * k + 37 + (if z < 0 then -z else z) % 2147483629 * 40093) = cell
      refine ⟨_, rfl, _, _, rfl, rfl, ⟨by decide, by decide, by decide⟩, _, _, rfl, rfl, _, rfl, ?_⟩
      refine ite2 (fun _ => ⟨_, rfl, ?_⟩) (fun _ => ?_)
      all_goals
        refine ⟨_, rfl, .inl ⟨_, rfl, _, _, rfl, rfl, (by show (0 : Int) < 2147483629; decide), _, _, rfl, rfl, .inr (by decide), _, rfl, _, _, rfl, rfl, .inl (by decide), _, _, rfl, rfl, ?_⟩⟩
        refine .inl ⟨_, rfl, _, _, rfl, rfl, (by show (0 : Int) < 2147483629; decide), _, _, rfl, rfl, (by show 2 ≤ sizeLine; decide), fun p hp => q p _ _ hp⟩
    · generalize hc : (6481 * k + 37) = cell
      refine ⟨_, rfl, _, _, rfl, rfl, ⟨by decide, by decide, by decide⟩, _, _, rfl, rfl, _, rfl, ?_⟩
      refine ite2 (fun _ => ⟨_, rfl, ?_⟩) (fun _ => ?_)
      all_goals
        refine ⟨_, rfl, .inl ⟨_, rfl, _, _, rfl, rfl, (by show (0 : Int) < 2147483629; decide), _, _, rfl, rfl, .inr (by decide), _, rfl, _, _, rfl, rfl, .inl (by decide), _, _, rfl, rfl, ?_⟩⟩
        refine .inl ⟨_, rfl, _, _, rfl, rfl, (by show (0 : Int) < 2147483629; decide), _, _, rfl, rfl, (by show 2 ≤ sizeLine; decide), fun p hp => q p _ _ hp⟩
theorem scChoose : FnScope ["_law_box", "_law_many", "_law_digit", "_law_first"] ["_law_box", "_law_many"] (defScope sChoose) := ⟨rfl, rfl, rfl, by decide +kernel, rfl, by decide +kernel, by decide +kernel⟩
theorem ok_choose {f : Addr} {fd : FuncData} (F : Fun K "_law_choose" "_law_choose" sChoose f fd) (T : Blt mg) : FnOk P w K mg base CX0 1 f fd ["_law_box", "_law_many"] spChoose := by
  refine F.ok scChoose (fun vs H Q E h => ?_) (fun cdv A outer s H vs Q E hr h => ?_)
  · obtain ⟨b, m, rfl, _⟩ := h
    rfl
  obtain ⟨b, m, rfl, ⟨x, y, hb⟩, h0, h1, q⟩ := h
  have hS : SqL K H b [.int x, .int y] := SqL.of hb
  refine ⟨_, pss_cons (ps_if (pt_cmpR op_gt (pe_ix ix_list (pv 0) pe_int (fun _ _ => rfl)) pe_int (nomark _))
      (pss_cons (ps_set (i := 2) scChoose.nd rfl (Or.inl rfl) (pe_op op_mod (pe_callTy call_int1 (by rfl) T.int (by decide +kernel) (pa_cons (pe_ix ix_list (pv 0) pe_int (fun _ _ => rfl)) pa_nil)) (pv 1)))
      (pss_cons (ps_asg (pe_op op_fdiv (pe_ix ix_list (pv 0) pe_int (fun _ _ => rfl)) (pv 1)) (pg_sub (pv 0) pe_int set_list))
      (pss_one (ps_ret (pv 2))))) pss_nil)
    (pss_cons (ps_set (i := 3) scChoose.nd rfl (Or.inl rfl) (pe_op op_mod (pe_callTy call_int1 (by rfl) T.int (by decide +kernel) (pa_cons (pe_op op_add (pe_op op_mul (pe_ix ix_list (pv 0) pe_int (fun _ _ => rfl)) pe_int) pe_int) pa_nil)) pe_int))
    (pss_cons (ps_asg (pe_op op_add (pe_op op_mod (pe_callTy call_int1 (by rfl) T.int (by decide +kernel) (pa_cons (pe_op op_add (pe_op op_mul (pv 3) pe_int) pe_int) pa_nil)) pe_int) pe_int) (pg_sub (pv 0) pe_int set_list))
    (pss_one (ps_ret (pe_op op_mod (pe_callTy call_int1 (by rfl) T.int (by decide +kernel) (pa_cons (pe_op op_fdiv (pe_op op_add (pe_op op_mul (pv 3) pe_int) (pe_ix ix_list (pv 0) pe_int (fun _ _ => rfl))) pe_int) pa_nil)) (pv 1)))))), ?_⟩
  have a0 : atI ([.int x, .int y] : List V) 0 = some (.int x) := rfl
  have a1 : atI ([.int x, .int y] : List V) 1 = some (.int y) := rfl
  refine ⟨_, rfl, b, _, _, _, rfl, rfl, hS, a0, _, _, rfl, rfl, _, rfl, ?_⟩
  refine ite2 (fun c => ?_) (fun c => ?_)
  · refine ⟨_, rfl, b, _, _, _, rfl, rfl, hS, a0, .inl ⟨_, rfl, _, rfl, _, _, rfl, rfl, h0, ?_⟩⟩
    refine ⟨_, rfl, b, _, _, _, rfl, rfl, hS, a0, _, rfl, _, _, rfl, rfl, ⟨h0, by omega⟩, ?_⟩
    refine ⟨_, rfl, b, _, _, 0, rfl, rfl, hb, rfl, ?_⟩
    exact ⟨_, rfl, q (x % m) (x / m) y (mod_ix h0).1 (mod_ix h0).2⟩
  · refine ⟨_, rfl, b, _, _, _, rfl, rfl, hS, a1, _, _, rfl, rfl, .inr (by decide), _, _, rfl, rfl, .inl ⟨_, rfl, _, _, rfl, rfl, (by show (0 : Int) < 2147483563; decide), ?_⟩⟩
    refine ⟨_, rfl, _, _, rfl, rfl, .inr (by decide), _, _, rfl, rfl, .inl ⟨_, rfl, _, _, rfl, rfl, (by show (0 : Int) < 2147483629; decide), _, _, rfl, rfl, ?_⟩⟩
    refine ⟨_, rfl, b, _, _, 1, rfl, rfl, hb, rfl, ?_⟩
    refine ⟨_, rfl, _, _, rfl, rfl, .inr (by decide), _, rfl, b, _, _, _, rfl, rfl, SqL.of upd_same, rfl, _, _, rfl, rfl, _, _, rfl, rfl, ⟨by decide, by decide⟩, .inl ⟨_, rfl, _, rfl, _, _, rfl, rfl, h0, ?_⟩⟩
    exact q _ x ((((y * 40014 + 17) % 2147483563) * 40692 + 3067) % 2147483629 + 1) (mod_ix h0).1 (mod_ix h0).2
theorem scOneOf : FnScope ["_law_box", "_law_some"] ["_law_box", "_law_some"] (defScope sOneOf) := ⟨rfl, rfl, rfl, by decide +kernel, rfl, by decide +kernel, by decide +kernel⟩
theorem ok_oneof {f g : Addr} {fd gd : FuncData} (F : Fun K "_law_one_of" "_law_one_of" sOneOf f fd) (T : Blt mg) (G : FnOk P w K mg base CX0 1 g gd ["_law_box", "_law_many"] spChoose) (bG : Binds K gd ["_law_box", "_law_many"] []) (kG : PySem.W.keepIn K (.ref g) = true) (mG : mg "_law_choose" = some (.ref g)) :
    FnOk P w K mg base CX0 2 f fd ["_law_box", "_law_some"] (spOneOf K) := by
  refine F.ok scOneOf (fun vs H Q E h => ?_) (fun cdv A outer s H vs Q E hr h => ?_)
  · obtain ⟨b, s, xs, rfl, _⟩ := h
    rfl
  obtain ⟨b, a, xs, rfl, hb, hn, hS, h0, h1, q⟩ := h
  refine ⟨_, pss_one (ps_ret (pe_ix ix_list (pv 1) (pe_call G hr rfl mG kG bG .nil pass0 (pa_cons (pv 0) (pa_cons (pe_callB call_len_seq (by rfl) T.len PySem.boot_len (pa_cons (pv 1) pa_nil)) pa_nil))) (fun _ _ => rfl))), ?_⟩
  refine ⟨_, rfl, _, rfl, _, rfl, a, xs, rfl, .inl hS, b, _, rfl, hb, by omega, by omega, fun d x y d0 d1 => ?_⟩
  obtain ⟨j, rfl⟩ : ∃ j : Nat, d = (j : Int) := ⟨d.toNat, by omega⟩
  have hj : j < xs.length := by omega
  have e : xs[j]? = some xs[j] := List.getElem?_eq_getElem hj
  exact ⟨a, xs, _, _, rfl, rfl, Kb.box.seq hn hS, atI_nat e, q j _ x y e⟩
end
end LT
namespace LT
open PySem L2
/-! ### data -/
mutual
theorem dp_mono {K : PySem.W.Frag} {H J : Hp} (s : Same H J) : ∀ (d : PyData) (v : V), Dp K H v d → Dp K J v d
  | .none, _, h => by cases h; exact .non
  | .bool b, _, h => by cases h; exact .bl b
  | .int i, _, h => by cases h; exact .int i
  | .str x, _, h => by cases h; exact .str x
  | .list ds, _, h => by
    cases h with
    | lst hs ha => exact .lst (s.seq hs) (dpAll_mono s ds _ ha)
  | .tuple ds, _, h => by
    cases h with
    | tup hs ha => exact .tup (same_tup s hs) (dpAll_mono s ds _ ha)
  | .dict _, _, h => by cases h
where
  same_tup {K : PySem.W.Frag} {H J : Hp} {a : Addr} {xs : List V} (e : Same H J) (h : SqT K H a xs) : SqT K J a xs := by
    rcases h with (h | ⟨o, h⟩) | h
    · exact .inl (.inl (e _ _ h))
    · exact .inl (.inr ⟨o, e _ _ h⟩)
    · exact .inr h
theorem dpAll_mono {K : PySem.W.Frag} {H J : Hp} (s : Same H J) : ∀ (ds : List PyData) (vs : List V), DpAll K H vs ds → DpAll K J vs ds
  | [], _, h => by cases h; exact .nil
  | d :: ds, _, h => by
    cases h with
    | cons h1 h2 => exact .cons (dp_mono s d _ h1) (dpAll_mono s ds _ h2)
end
theorem dpAll_get {K : PySem.W.Frag} {H : Hp} : ∀ {ds : List PyData} {vs : List V} {i : Nat} {v : V}, DpAll K H vs ds → vs[i]? = some v → ∃ d, d ∈ ds ∧ Dp K H v d
  | [], _, _, _, h, e => by
    cases h
    cases e
  | d :: ds, _, 0, _, h, e => by
    cases h with
    | cons h1 h2 =>
      cases e
      exact ⟨d, List.mem_cons_self, h1⟩
  | d :: ds, _, i + 1, _, h, e => by
    cases h with
    | cons h1 h2 =>
      obtain ⟨d', m, q⟩ := dpAll_get h2 (i := i) e
      exact ⟨d', List.mem_cons_of_mem _ m, q⟩
theorem dpAll_add {K : PySem.W.Frag} {H : Hp} {v : V} {d : PyData} (hd : Dp K H v d) : ∀ {ds : List PyData} {vs : List V}, DpAll K H vs ds → DpAll K H (vs ++ [v]) (ds ++ [d])
  | [], _, h => by
    cases h
    exact .cons hd .nil
  | _ :: _, _, h => by
    cases h with
    | cons h1 h2 => exact .cons h1 (dpAll_add hd h2)
theorem dpAll_len {K : PySem.W.Frag} {H : Hp} : ∀ {ds : List PyData} {vs : List V}, DpAll K H vs ds → vs.length = ds.length
  | [], _, h => by
    cases h
    rfl
  | _ :: _, _, h => by
    cases h with
    | cons h1 h2 => exact congrArg (· + 1) (dpAll_len h2)
/-- what is new from H to J -/
def frs (H J : Hp) : Hp := fun c => match H c with
  | some _ => none
  | none => J c
theorem frs_of {H J : Hp} {c : Addr} (h : H c = none) : frs H J c = J c := by
  unfold frs
  rw [h]
theorem frs_some {H J : Hp} {c : Addr} {o : HO} (h : frs H J c = some o) : H c = none ∧ J c = some o := by
  unfold frs at h
  split at h
  · cases h
  · rename_i e
    exact ⟨e, h⟩
/-- where what is new from H to J stands also in L, seen from G -/
theorem frs_same {G H J L : Hp} (h : ∀ c o, H c = none → J c = some o → G c = none ∧ L c = some o) : Same (frs H J) (frs G L) := fun c o e => by
  obtain ⟨e1, e2⟩ := frs_some e
  obtain ⟨q1, q2⟩ := h c o e1 e2
  rw [frs_of q1]
  exact q2
theorem frs_sub {H J : Hp} : Same (frs H J) J := fun _ _ e => (frs_some e).2
end LT
namespace LT
open PySem PySem.SeqAt
section
variable {prog : Program} {w : World} {A : Around} {E : Value → Shared → Prop} {s : Shared}
theorem str_no_own (b : Str) (u : Tok) (l C dx : Addr) :
    Meets (Builtin.«str.__eq__» ⟨[.str b u, .ref l], []⟩) (fun _ R s => s.heap.get? l = some (W.instObj C dx) ∧ R (.ok (.ret .notImplemented)) s) :=
  .of_wp fun prog w A R s h => by
    obtain ⟨hp, g, d, tk, os⟩ := s
    obtain ⟨hl, h⟩ := h
    wp_walk using AutoSeq1.wpAny_loadPart' hl, wpAny_load hl
    exact ⟨_, rfl, h⟩
/-- a text == an instance with an own ==: the text declines, the own one is asked -/
theorem rc_str_own {K : W.Frag} {b : Str} {u : Tok} {x C dx f : Addr} {Q : Value → Shared → Prop} (hu : A.units < cLine) (X : K.In s.heap) (ho : s.heap.get? x = some (W.instObj C dx)) {od : Option Obj} (I : W.InstAt s.heap x (W.instObj C dx) C od)
    (hb : W.subIn K (.ref C) (.type "str") = some false) (hs : W.findIn K (.ref C) "__eq__" = some (some (.ref f))) (hf : W.isFn K (.ref f) = true)
    (h : wpAny (model prog w) A (call (.ref f) [.ref x, .str b u]) (W.CmpBack Q) E s) : wpAny (model prog w) A (richCompare .Eq (.str b u) (.ref x)) Q E s := by
  have hT := typeIs_str s b u
  unfold richCompare
  simp only [hT.oneThing_none]
  refine wpAny_holding (wpAny_bind (wpAny_cRoomFor hu ?_))
  refine wpAny_bind (wpAny_typeOf hT (wpAny_bind (I.type.here ?_)))
  have hne : (Value.type "str" != Value.ref C) = true := rfl
  simp only [hne, if_true]
  refine wpAny_bind ((W.looks_subIn X hb).here ?_)
  simp only [Bool.false_eq_true, if_false, Bool.not_false, if_true]
  refine wpAny_bind (m := tryCompare (.str b u) _ (.ref x)) (wpAny_tryCompare_declines hT F.slot_str_eq (call_meets F.slot_str_eq hT F.entry_str_eq (F.args_str_eq_2 _ _) (str_no_own b u x C dx) ⟨ho, rfl, ?_⟩))
  refine wpAny_bind (m := tryCompare (.ref x) _ (.str b u)) ?_
  unfold tryCompare
  refine wpAny_bind (W.ifBound_K X I hs hf (wpAny_mono h (fun v s' hv => ?_) fun _ _ e => e))
  cases v <;> first | exact hv.elim | exact wpAny_pure (wpAny_pure hv)
/-- == of an item and an own instance within a tuple's own search -/
theorem eqBool_str_own {K : W.Frag} {b : Str} {u : Tok} {x C dx f : Addr} {Q : Bool → Shared → Prop} (hu : A.units < cLine) (X : K.In s.heap) (ho : s.heap.get? x = some (W.instObj C dx)) {od : Option Obj} (I : W.InstAt s.heap x (W.instObj C dx) C od)
    (hb : W.subIn K (.ref C) (.type "str") = some false) (hs : W.findIn K (.ref C) "__eq__" = some (some (.ref f))) (hf : W.isFn K (.ref f) = true)
    (h : wpAny (model prog w) A (call (.ref f) [.ref x, .str b u]) (fun v s' => ∃ r, v = .bool r ∧ Q r s') E s) : wpAny (model prog w) A (eqBool (.str b u) (.ref x)) Q E s := by
  unfold eqBool
  refine wpAny_holding ?_
  refine wpAny_ite_split (fun hab => absurd hab (by intro z; exact nomatch eq_of_beq z)) (fun _ => ?_)
  refine wpAny_bind (wpAny_mono (rc_str_own (Q := fun v s' => ∃ r, v = .bool r ∧ Q r s') hu X ho I hb hs hf (wpAny_mono h (fun v s' hv => ?_) fun _ _ z => z)) (fun v s' hv => ?_) fun _ _ z => z)
  · obtain ⟨r, rfl, q⟩ := hv
    exact ⟨r, rfl, q⟩
  · obtain ⟨r, rfl, q⟩ := hv
    exact wpAny_truthy_bool q
/-- a tuple is searched for x; I is kept by each comparison, none finds it -/
theorem tup_has_no {l : Addr} {items : Array Value} {n : Nat} {dd : Option Addr} {sl : Array (Option Value)} {x : Value} (J : Shared → Prop) (R : Result → Shared → Prop)
    (turn : ∀ y ∈ items, ∀ s, J s → wpAny (model prog w) A.in1 (eqBool y x) (fun r s' => r = false ∧ J s') (fun e s' => R (.error e) s') s)
    (fin : ∀ s, J s → R (.ok (.ret (.bool false))) s) (hl : s.heap.get? l = some { cls := .type "tuple", dict := dd, data := .seq items n, slots := sl }) (h : J s) :
    wpAny (model prog w) A.in1 (Builtin.«tuple.__contains__» ⟨[.ref l, x], []⟩) (GQ.FinOf prog w A R) (fun e s' => R (.error e) s') s := by
  have h0 := h
  obtain ⟨hp, g, d, tk, os⟩ := s
  wp_walk using AutoSeq1.wpAny_loadPart' hl, MeetsSeq2.wpAny_forIn_array _ (fun rest b s' => b.1 = none ∧ (∀ y, y ∈ rest → y ∈ items) ∧ J s') _
  case turn =>
    rintro y rest b s' ⟨hb, hmem, hJ⟩
    refine wpAny_bind (wpAny_mono (turn y (hmem y (List.mem_cons_self ..)) s' hJ) (fun r s2 hr => ?_) fun _ _ z => z)
    obtain ⟨rfl, hJ2⟩ := hr
    wp_walk
    exact ⟨rfl, fun z hz => hmem z (List.mem_cons_of_mem _ hz), hJ2⟩
  case fin =>
    rintro ⟨b1, b2⟩ s' ⟨hb, -, hJ⟩
    simp only at hb
    subst hb
    have hR : R (.ok (.ret (.bool false))) s' := fin s' hJ
    wp_walk
    exact hR
  case h =>
    exact ⟨rfl, fun y hy => by simpa using hy, h0⟩
theorem notIn_tup_no {l : Addr} {items : Array Value} {x : Value} {Q : Value → Shared → Prop} (J : Shared → Prop) (hl : s.heap.IsTuple l items)
    (turn : ∀ y ∈ items, ∀ s, J s → wpAny (model prog w) A.in1 (eqBool y x) (fun r s' => r = false ∧ J s') E s)
    (fin : ∀ s, J s → Q (.bool true) s) (h : J s) : wpAny (model prog w) A (compareOp .NotIn x (.ref l)) Q E s := by
  obtain ⟨⟨cls, dd, data, sl⟩, ho, hc, n, hd⟩ := id hl
  simp only at hc hd
  subst hc hd
  show wpAny _ A (do return .bool (!(← contains (.ref l) x))) Q E s
  have hT : s.TypeIs (.ref l) "tuple" := ⟨_, ho, rfl⟩
  refine wpAny_bind (wpAny_contains_slot hT F.slot_tuple_contains (wpAny_mono (GQ.call_here (Q := fun v s' => v = .bool false ∧ Q (.bool true) s') F.slot_tuple_contains hT F.entry_tuple_contains (F.args_tuple_contains_2 _ _)
    (tup_has_no J _ turn (fun s' hJ => ⟨rfl, fin s' hJ⟩) ho h)) (fun v s' hv => ?_) fun _ _ z => z))
  obtain ⟨rfl, q⟩ := hv
  exact wpAny_truthy_bool (wpAny_pure q)
end
end LT
namespace L2
open PySem PySem.Spec PyProof.Rows
section
variable {X : Cx}
/-- x not in a tuple of texts, x an instance of the class at C whose == says False of every text (and only makes objects) -/
def spEqT (C : Addr) : Sp := fun vs H Q _ => ∃ (a dx : Addr) (fs : List (Str × V)) (z : Str), vs = [.ref a, .str z] ∧ H a = some (.ins C dx fs) ∧ Q (.bl false) H
theorem op_notIn_own {CX : CXT} {C f : Addr} {fd : FuncData} {ps : List Str} {E : XK} {k : Nat} (F : FnOk X.prog X.w X.K X.mg X.base CX k f fd ps (spEqT C)) (hr : Room (k + 1) X.A)
    (hb : PySem.W.subIn X.K (.ref C) (.type "str") = some false) (hs : PySem.W.findIn X.K (.ref C) "__eq__" = some (some (.ref f))) (hf : PySem.W.isFn X.K (.ref f) = true) (bn : Binds X.K fd ps []) (hx : Passes CX X E) :
    OpR X (compareOp .NotIn) (fun x y H Q => ∃ (a dx p : Addr) (fs : List (Str × V)) (xs : List Str), x = .ref a ∧ H a = some (.ins C dx fs) ∧ y = .ref p ∧ SqT X.K H p (xs.map V.str) ∧ Q (.bl true) H) := by
  intro pins s σ H x y v u Q I rx ry h
  obtain ⟨a, dx, p, fs, xs, rfl, ha, rfl, hp, q⟩ := h
  cases rx
  cases ry
  obtain ⟨its, r, pl, hz⟩ := I.tuple hp
  refine LT.notIn_tup_no (fun s' => Inv X pins σ H s') pl (fun y hy s' J => ?_) (fun s' J => ⟨.bl true, H, J, rfl, q⟩) I
  obtain ⟨z, hzm⟩ : ∃ (z : Str), RelV (.str z) y := by
    have hy' : y ∈ its := by simpa using hy
    obtain ⟨i, hi⟩ := List.getElem?_of_mem hy'
    cases e : (xs.map V.str)[i]? with
    | none =>
      rw [r.none_of e] at hi
      cases hi
    | some v =>
      obtain ⟨w, ew, rw'⟩ := r.get e
      rw [hi] at ew
      cases ew
      rw [List.getElem?_map] at e
      cases e2 : xs[i]? with
      | none =>
        rw [e2] at e
        cases e
      | some z =>
        rw [e2] at e
        cases e
        exact ⟨z, rw'⟩
  obtain ⟨t, rfl⟩ := hzm
  obtain ⟨mA, O, _⟩ := ins_get J.hok ha
  obtain ⟨od, K1, _⟩ := O.look
  obtain ⟨_, _, _, hobj, _⟩ := (show ObjOk X.prog X.w H s'.heap a (.ins C dx fs) from J.hok a _ ha)
  refine LT.eqBool_str_own hr.in1.units0 J.kIn hobj K1 hb hs hf ?_
  have sp : spEqT C [.ref a, .str z] H (fun v H' => v = .bl false ∧ H' = H) E := ⟨a, dx, fs, z, rfl, ha, rfl, rfl⟩
  have e0 : Env0 X.prog X.w X.K X.mg X.base X.A.in1 X.stack s' H := J.env0.in1
  have hl := F.len _ _ _ _ sp
  have r2 : Vals [V.ref a, V.str z] [Value.ref a, Value.str z t] := .cons rfl (.cons ⟨t, rfl⟩ .nil)
  refine wpAny_call (codeAny_mono (F.run X.A.in1 X.stack s' H ⟨[.ref a, .str z t], []⟩ [.ref a, .str z t] [.ref a, .str z] _ E hr.in1 e0 (by
    have := bn s' [.ref a, .str z t] J.kIn (by simpa using hl)
    simpa using this) r2 sp) fun rr s2 hq => ?_)
  cases rr with
  | error e => exact hx pins σ H s' e s2 J hq
  | ok fl =>
    cases fl with
    | ret w =>
      obtain ⟨z2, H', J', rz, ez, eH⟩ := J.after hq
      subst ez eH
      cases rz
      exact ⟨false, rfl, rfl, J'⟩
    | next => exact False.elim hq
    | brk => exact False.elim hq
    | cont => exact False.elim hq
end
end L2
namespace LT
open PySem PySem.SeqAt PySem.Calls
section
variable {prog : Program} {w : World} {A : Around} {E : Value → Shared → Prop} {s : Shared}
/-- a value of a built-in class == an instance with an own ==: the first declines, the own one is asked -/
theorem rc_decl_own {T id : String} {B : Builtin} {v : Value} {K : W.Frag} {x C f : Addr} {ox : Obj} {Q : Value → Shared → Prop} (hu : A.units < cLine) (X : K.In s.heap) (hT : s.TypeIs v T) (slot : Slot T (cmpInfo .Eq).2.1 id)
    (entry : entryFor table id = some B) (args : argsOk id ⟨[v, .ref x], []⟩) {od : Option Obj} (I : W.InstAt s.heap x ox C od)
    (hb : W.subIn K (.ref C) (.type T) = some false) (hs : W.findIn K (.ref C) "__eq__" = some (some (.ref f))) (hf : W.isFn K (.ref f) = true)
    (dc : ∀ {A' : Around} (R : Result → Shared → Prop), R (.ok (.ret .notImplemented)) s → wpAny (model prog w) A' (B ⟨[v, .ref x], []⟩) (GQ.FinOf prog w A R) (fun e s' => R (.error e) s') s)
    (h : wpAny (model prog w) A (call (.ref f) [.ref x, v]) (W.CmpBack Q) E s) : wpAny (model prog w) A (richCompare .Eq v (.ref x)) Q E s := by
  unfold richCompare
  simp only [hT.oneThing_none]
  refine wpAny_holding (wpAny_bind (wpAny_cRoomFor hu ?_))
  refine wpAny_bind (wpAny_typeOf hT (wpAny_bind (I.type.here ?_)))
  have hne : (Value.type T != Value.ref C) = true := rfl
  simp only [hne, if_true]
  refine wpAny_bind ((W.looks_subIn X hb).here ?_)
  simp only [Bool.false_eq_true, if_false, Bool.not_false, if_true]
  refine wpAny_bind (m := tryCompare v _ (.ref x)) (wpAny_tryCompare_declines hT slot (GQ.call_here slot hT entry args (dc _ ⟨rfl, ?_⟩)))
  refine wpAny_bind (m := tryCompare (.ref x) _ v) ?_
  unfold tryCompare
  refine wpAny_bind (W.ifBound_K X I hs hf (wpAny_mono h (fun v s' hv => ?_) fun _ _ e => e))
  cases v <;> first | exact hv.elim | exact wpAny_pure (wpAny_pure hv)
theorem none_declines {x : Addr} {A' : Around} (R : Result → Shared → Prop) (h : R (.ok (.ret .notImplemented)) s) :
    wpAny (model prog w) A' (Builtin.«NoneType.__eq__» ⟨[.none, .ref x], []⟩) (GQ.FinOf prog w A R) (fun e s' => R (.error e) s') s := by
  obtain ⟨hp, g, d, tk, os⟩ := s
  wp_walk
  exact h
theorem inst_no {K : W.Frag} {x C : Addr} {ox : Obj} {od : Option Obj} {T : String} (X : K.In s.heap) (I : W.InstAt s.heap x ox C od) (hb : W.subIn K (.ref C) (.type T) = some false) :
    W.Looks (model prog w) s.heap (isInstance (.ref x) (.type T)) false := I.type.andThen (W.looks_subIn X hb)
theorem tuple_declines {K : W.Frag} {l x C : Addr} {ox : Obj} {od : Option Obj} {A' : Around} (X : K.In s.heap) (I : W.InstAt s.heap x ox C od) (hb : W.subIn K (.ref C) (.type "tuple") = some false)
    (R : Result → Shared → Prop) (h : R (.ok (.ret .notImplemented)) s) :
    wpAny (model prog w) A' (Builtin.«tuple.__eq__» ⟨[.ref l, .ref x], []⟩) (GQ.FinOf prog w A R) (fun e s' => R (.error e) s') s := by
  refine wpAny_bind (m := slotArgs "__eq__" 1 _) (wpAny_pure ?_)
  refine wpAny_bind ((inst_no X I hb).here ?_)
  exact wpAny_pure h
theorem list_declines {K : W.Frag} {l x C : Addr} {ox : Obj} {od : Option Obj} {A' : Around} (X : K.In s.heap) (I : W.InstAt s.heap x ox C od) (hb : W.subIn K (.ref C) (.type "list") = some false)
    (R : Result → Shared → Prop) (h : R (.ok (.ret .notImplemented)) s) :
    wpAny (model prog w) A' (Builtin.«list.__eq__» ⟨[.ref l, .ref x], []⟩) (GQ.FinOf prog w A R) (fun e s' => R (.error e) s') s := by
  refine wpAny_bind (m := slotArgs "__eq__" 1 _) (wpAny_pure ?_)
  refine wpAny_bind ((inst_no X I hb).here ?_)
  exact wpAny_pure h
/-- x != y, both of a class with an own == and the != of object -/
theorem rc_ne_own {K : W.Frag} {x y C f : Addr} {ox oy : Obj} {od oe : Option Obj} {Q : Value → Shared → Prop} (hu : A.units + 1 < cLine) (X : K.In s.heap) (I : W.InstAt s.heap x ox C od) (J : W.InstAt s.heap y oy C oe)
    (hn : W.findIn K (.ref C) "__ne__" = some (some (.builtin "object.__ne__"))) (hm : W.mroIn K C (.type "object") = some true)
    (hs : W.findIn K (.ref C) "__eq__" = some (some (.ref f))) (hf : W.isFn K (.ref f) = true)
    (h : wpAny (model prog w) A.in1 (call (.ref f) [.ref x, .ref y]) (fun v s' => ∃ b, v = .bool b ∧ Q (.bool (!b)) s') E s) : wpAny (model prog w) A (richCompare .NotEq (.ref x) (.ref y)) Q E s := by
  unfold richCompare
  simp only [oneThing_ref]
  refine wpAny_holding (wpAny_bind (wpAny_cRoomFor (Nat.lt_of_succ_lt hu) ?_))
  rw [cmpInfo_NotEq]
  dsimp only
  refine wpAny_bind (I.type.here (wpAny_bind (J.type.here ?_)))
  rw [show (Value.ref C != Value.ref C) = false from by simp]
  simp only [Bool.false_eq_true, if_false]
  refine wpAny_bind (wpAny_pure ?_)
  simp only [Bool.false_eq_true, if_false]
  refine wpAny_bind (m := tryCompare _ _ _) ?_
  unfold tryCompare
  have one : wpAny (model prog w) A (callSpecialIfBound? (.ref x) "__ne__" [.ref y]) (fun r s' => ∃ b, r = some (.bool (!b)) ∧ Q (.bool (!b)) s') E s := by
    simp only [callSpecialIfBound?, bindSpecialIfBound?]
    refine wpAny_holding (wpAny_bind (wpAny_bind (wpAny_bind (I.type.here ((W.looks_findIn X hn).here ?_)))))
    refine wpAny_bind (wpAny_askSetting (wpAny_ite ?_))
    have fin : wpAny (model prog w) A (call (.builtin "object.__ne__") ([.ref x] ++ [.ref y]) >>= fun v => pure (some v)) (fun r s' => ∃ b, r = some (.bool (!b)) ∧ Q (.bool (!b)) s') E s := by
      refine wpAny_bind (wpAny_call (codeAny_call_builtin (by decide +kernel) F.cmpEntry_ne (W.check_slot (owner := "object") (n := "__ne__") F.cmpKind_ne F.cmpSplit_ne (I.type.andThen (W.looks_mroIn X hm)) (F.cmpArgs_ne _ _) ?_)))
      unfold Builtin.«object.__ne__»
      refine wpAny_bind (m := slotArgs "__ne__" 1 _) (wpAny_pure ?_)
      refine wpAny_bind (m := cRoomFor _ _) (wpAny_cRoomFor (by show A.units + 1 < cLine; exact hu) ?_)
      refine wpAny_bind (m := callSpecialIfBound? (.ref x) (Str.ofString "__eq__") _) (W.ifBound_K X I hs hf (wpAny_mono h (fun v s' hv => ?_) fun _ _ e => e))
      obtain ⟨b, rfl, q⟩ := hv
      exact wpAny_bind (wpAny_truthy_bool (wpAny_pure (wpAny_pure ⟨b, rfl, q⟩)))
    split
    · exact wpAny_bind ((W.Looks.of_pure (F.slot_tuple_iterator_ne.bind _)).here (wpAny_pure (by exact fin)))
    · exact wpAny_tryCatch (wpAny_bind ((W.Looks.of_pure (F.slot_tuple_iterator_ne.bind _)).here (wpAny_pure (by exact fin))))
  refine wpAny_bind (wpAny_mono one (fun r s' hv => ?_) fun _ _ e => e)
  obtain ⟨b, rfl, q⟩ := hv
  exact wpAny_pure (wpAny_pure q)
end
end LT
namespace LT
open PySem PySem.SeqAt PySem.Calls
section
variable {prog : Program} {w : World} {A : Around} {E : Value → Shared → Prop} {s : Shared}
theorem in_tup_no {l : Addr} {items : Array Value} {x : Value} {Q : Value → Shared → Prop} (J : Shared → Prop) (hl : s.heap.IsTuple l items)
    (turn : ∀ y ∈ items, ∀ s, J s → wpAny (model prog w) A.in1 (eqBool y x) (fun r s' => r = false ∧ J s') E s)
    (fin : ∀ s, J s → Q (.bool false) s) (h : J s) : wpAny (model prog w) A (compareOp .In x (.ref l)) Q E s := by
  obtain ⟨⟨cls, dd, data, sl⟩, ho, hc, n, hd⟩ := id hl
  simp only at hc hd
  subst hc hd
  show wpAny _ A (do return .bool (← contains (.ref l) x)) Q E s
  have hT : s.TypeIs (.ref l) "tuple" := ⟨_, ho, rfl⟩
  refine wpAny_bind (wpAny_contains_slot hT F.slot_tuple_contains (wpAny_mono (GQ.call_here (Q := fun v s' => v = .bool false ∧ Q (.bool false) s') F.slot_tuple_contains hT F.entry_tuple_contains (F.args_tuple_contains_2 _ _)
    (tup_has_no J _ turn (fun s' hJ => ⟨rfl, fin s' hJ⟩) ho h)) (fun v s' hv => ?_) fun _ _ z => z))
  obtain ⟨rfl, q⟩ := hv
  exact wpAny_truthy_bool (wpAny_pure q)
/-- from a rich comparison to == inside a builtin, where the two are no one thing -/
theorem eqBool_rc {u : Value} {x : Addr} {Q : Bool → Shared → Prop} (hne : (u == .ref x) = false) (h : wpAny (model prog w) A (richCompare .Eq u (.ref x)) (fun r s' => ∃ b, r = .bool b ∧ Q b s') E s) : wpAny (model prog w) A (eqBool u (.ref x)) Q E s := by
  unfold eqBool
  refine wpAny_holding ?_
  refine wpAny_ite_split (fun hab => absurd hab (by simp [hne])) (fun _ => ?_)
  have one : wpAny (model prog w) A (richCompare .Eq u (.ref x) >>= fun r => truthOfDropped r) Q E s := by
    refine wpAny_bind (wpAny_mono h (fun r s' hv => ?_) fun _ _ x => x)
    obtain ⟨r, rfl, q⟩ := hv
    exact wpAny_truthy_bool q
  cases u <;> exact one
end
end LT
namespace L2
open PySem PySem.Spec PyProof.Rows
section
variable {X : Cx} {CX : CXT} {C f : Addr} {fd : FuncData} {ps : List Str} {E : XK} {k : Nat} {sp : Sp}
/-- an own function called with the values xs below the running body -/
theorem run_own {A : Around} {pins : List (Addr × Obj)} {s : Shared} {σ : St} {H : Hp} {us : List Value} {vs : List V} {Q : VK} {Q' : Value → Shared → Prop} (F : FnOk X.prog X.w X.K X.mg X.base CX k f fd ps sp) (sb : Sub X k A) (bn : Binds X.K fd ps []) (hx : Passes CX X E)
    (I : Inv X pins σ H s) (r : Vals vs us) (h : sp vs H Q E) (hq : ∀ u s' v J, RelV v u → Inv X pins σ J s' → Q v J → Q' u s') : wpAny (model X.prog X.w) A (call (.ref f) us) Q' X.xe s := by
  have e0 : Env0 X.prog X.w X.K X.mg X.base A X.stack s H := by
    have e := I.env0
    exact ⟨by rw [sb.fr]; exact e.frames, e.mod, e.bs, e.bsz, e.funs, e.frf, e.hok, e.bare⟩
  have hl := F.len _ _ _ _ h
  refine wpAny_call (codeAny_mono (F.run A X.stack s H ⟨us, []⟩ us vs Q E sb.room e0 (by
    have := bn s us I.kIn (by rw [← hl, r.length]; simp)
    simpa using this) r h) fun rr s2 z => ?_)
  cases rr with
  | error e => exact hx pins σ H s e s2 I z
  | ok fl =>
    cases fl with
    | ret u =>
      obtain ⟨v, H', J', rz, q⟩ := I.after z
      exact hq u s2 v H' rz J' q
    | next => exact False.elim z
    | brk => exact False.elim z
    | cont => exact False.elim z
theorem ins_look {pins : List (Addr × Obj)} {s : Shared} {σ : St} {H : Hp} {a C dx : Addr} {fs : List (Str × V)} (I : Inv X pins σ H s) (ha : H a = some (.ins C dx fs)) :
    ∃ od, PySem.W.InstAt s.heap a (PySem.W.instObj C dx) C (some od) := by
  obtain ⟨mA, O, _⟩ := ins_get I.hok ha
  obtain ⟨od, K1, _⟩ := O.look
  exact ⟨od, K1⟩
/-- str(x), x an instance of the class at C with an own __str__ -/
def rStrOwn (C : Addr) (sp : Sp) (E : XK) : List V → Hp → VK → Prop := fun xs H Q => ∃ (a dx : Addr) (fs : List (Str × V)), xs = [.ref a] ∧ H a = some (.ins C dx fs) ∧ sp [.ref a] H (fun v J => ∃ z, v = .str z ∧ Q v J) E
theorem call_strOwn (F : FnOk X.prog X.w X.K X.mg X.base CX k f fd ps sp) (hr : Room (k + 2) X.A) (hs : PySem.W.findIn X.K (.ref C) "__str__" = some (some (.ref f))) (hf : PySem.W.isFn X.K (.ref f) = true)
    (bn : Binds X.K fd ps []) (hx : Passes CX X E) : CallR X (.type "str") (rStrOwn C sp E) := by
  intro pins s σ H xs us Q I r h
  obtain ⟨a, dx, fs, rfl, ha, q⟩ := h
  obtain ⟨u, rfl, ru⟩ := vals1 r
  cases ru
  obtain ⟨od, K1⟩ := ins_look I ha
  refine PySem.W.kso_call hr.in1.in1.units0 I.kIn K1 hs hf (run_own F ⟨hr.in1.in1, rfl⟩ bn hx I (show Vals [V.ref a] [Value.ref a] from .cons rfl .nil) q fun u s' v J rv I' z => ?_)
  obtain ⟨z, rfl, q⟩ := z
  obtain ⟨t, rfl⟩ := rv
  exact ⟨.str z, J, I', ⟨t, rfl⟩, q⟩
/-- x == y, both of the class at C with an own __eq__ -/
def rEqOwn (C : Addr) (sp : Sp) (E : XK) : R2 := fun x y H Q => ∃ (a b dx dy : Addr) (fs gs : List (Str × V)), x = .ref a ∧ y = .ref b ∧ H a = some (.ins C dx fs) ∧ H b = some (.ins C dy gs) ∧ sp [x, y] H (fun v J => ∃ r, v = .bl r ∧ Q v J) E
def rNeOwn (C : Addr) (sp : Sp) (E : XK) : R2 := fun x y H Q => ∃ (a b dx dy : Addr) (fs gs : List (Str × V)), x = .ref a ∧ y = .ref b ∧ H a = some (.ins C dx fs) ∧ H b = some (.ins C dy gs) ∧ sp [x, y] H (fun v J => ∃ r, v = .bl r ∧ Q (.bl (!r)) J) E
theorem op_eqOwn (F : FnOk X.prog X.w X.K X.mg X.base CX k f fd ps sp) (hr : Room k X.A) (hs : PySem.W.findIn X.K (.ref C) "__eq__" = some (some (.ref f))) (hf : PySem.W.isFn X.K (.ref f) = true)
    (bn : Binds X.K fd ps []) (hx : Passes CX X E) : OpR X (compareOp .Eq) (rEqOwn C sp E) := by
  intro pins s σ H x y v u Q I rx ry h
  obtain ⟨a, b, dx, dy, fs, gs, rfl, rfl, ha, hb, q⟩ := h
  cases rx
  cases ry
  obtain ⟨od, K1⟩ := ins_look I ha
  obtain ⟨oe, K2⟩ := ins_look I hb
  obtain ⟨m, hF⟩ := I.fr
  show wpAny (model X.prog X.w) X.A (richCompare .Eq _ _) (EP X pins σ Q) X.xe s
  refine PySem.W.cmp_K (op := .Eq) (tb := .ref C) hr.units0 hF I.ok.mod.kin K1 K2.type (by simp [PySem.W.notFirst]) hs hf (run_own F ⟨hr, rfl⟩ bn hx I (show Vals [V.ref a, V.ref b] [Value.ref a, Value.ref b] from .cons rfl (.cons rfl .nil)) q fun u s' v J rv I' z => ?_)
  obtain ⟨z, rfl, q⟩ := z
  cases rv
  exact ⟨.bl z, J, I', rfl, q⟩
theorem op_neOwn (F : FnOk X.prog X.w X.K X.mg X.base CX k f fd ps sp) (hr : Room (k + 1) X.A) (hs : PySem.W.findIn X.K (.ref C) "__eq__" = some (some (.ref f))) (hf : PySem.W.isFn X.K (.ref f) = true)
    (hn : PySem.W.findIn X.K (.ref C) "__ne__" = some (some (.builtin "object.__ne__"))) (hm : PySem.W.mroIn X.K C (.type "object") = some true)
    (bn : Binds X.K fd ps []) (hx : Passes CX X E) : OpR X (compareOp .NotEq) (rNeOwn C sp E) := by
  intro pins s σ H x y v u Q I rx ry h
  obtain ⟨a, b, dx, dy, fs, gs, rfl, rfl, ha, hb, q⟩ := h
  cases rx
  cases ry
  obtain ⟨od, K1⟩ := ins_look I ha
  obtain ⟨oe, K2⟩ := ins_look I hb
  show wpAny (model X.prog X.w) X.A (richCompare .NotEq _ _) (EP X pins σ Q) X.xe s
  refine LT.rc_ne_own hr.in1.units0 I.kIn K1 K2 hn hm hs hf (run_own F ⟨hr.in1, rfl⟩ bn hx I (show Vals [V.ref a, V.ref b] [Value.ref a, Value.ref b] from .cons rfl (.cons rfl .nil)) q fun u s' v J rv I' z => ?_)
  obtain ⟨z, rfl, q⟩ := z
  cases rv
  exact ⟨_, rfl, .bl (!z), J, I', rfl, q⟩
/-- what is no instance of a written class: a text, None, a tuple, a list -/
def Oth (K : PySem.W.Frag) (H : Hp) (y : V) : Prop := (∃ z, y = .str z) ∨ y = .non ∨ (∃ a xs, y = .ref a ∧ SqT K H a xs) ∨ ∃ a xs, y = .ref a ∧ SqL K H a xs
structure NoSub (K : PySem.W.Frag) (C : Addr) : Prop where
  s : PySem.W.subIn K (.ref C) (.type "str") = some false
  n : PySem.W.subIn K (.ref C) (.type "NoneType") = some false
  t : PySem.W.subIn K (.ref C) (.type "tuple") = some false
  l : PySem.W.subIn K (.ref C) (.type "list") = some false
/-- x in a tuple, x an instance of the class at C, its own == says False of each thing there -/
def rInOwn (K : PySem.W.Frag) (C : Addr) (sp : Sp) (E : XK) : R2 := fun x y H Q => ∃ (a dx p : Addr) (fs : List (Str × V)) (xs : List V), x = .ref a ∧ H a = some (.ins C dx fs) ∧ y = .ref p ∧ SqT K H p xs ∧ (∀ v ∈ xs, Oth K H v ∧ sp [.ref a, v] H (fun r J => r = .bl false ∧ J = H) E) ∧ Q (.bl false) H
theorem op_inOwn (F : FnOk X.prog X.w X.K X.mg X.base CX k f fd ps sp) (hr : Room (k + 1) X.A) (hs : PySem.W.findIn X.K (.ref C) "__eq__" = some (some (.ref f))) (hf : PySem.W.isFn X.K (.ref f) = true)
    (N : NoSub X.K C) (bn : Binds X.K fd ps []) (hx : Passes CX X E) : OpR X (compareOp .In) (rInOwn X.K C sp E) := by
  intro pins s σ H x y v u Q I rx ry h
  obtain ⟨a, dx, p, fs, xs, rfl, ha, rfl, hp, all, q⟩ := h
  cases rx
  cases ry
  obtain ⟨its, r, pl, hz⟩ := I.tuple hp
  refine LT.in_tup_no (fun s' => Inv X pins σ H s') pl (fun y hy s' J => ?_) (fun s' J => ⟨.bl false, H, J, rfl, q⟩) I
  obtain ⟨z, hzm, rz⟩ : ∃ z ∈ xs, RelV z y := by
    have hy' : y ∈ its := by simpa using hy
    obtain ⟨i, hi⟩ := List.getElem?_of_mem hy'
    cases e : xs[i]? with
    | none =>
      rw [r.none_of e] at hi
      cases hi
    | some v =>
      obtain ⟨w, ew, rw'⟩ := r.get e
      rw [hi] at ew
      cases ew
      exact ⟨v, List.mem_of_getElem? e, rw'⟩
  obtain ⟨ot, sp0⟩ := all z hzm
  obtain ⟨od, K1⟩ := ins_look J ha
  obtain ⟨_, _, _, hobj, _⟩ := (show ObjOk X.prog X.w H s'.heap a (.ins C dx fs) from J.hok a _ ha)
  have go : wpAny (model X.prog X.w) X.A.in1 (call (.ref f) [.ref a, y]) (PySem.W.CmpBack fun v s2 => ∃ b, v = .bool b ∧ b = false ∧ Inv X pins σ H s2) X.xe s' :=
    run_own F ⟨hr.in1, rfl⟩ bn hx J (show Vals [V.ref a, z] [Value.ref a, y] from .cons rfl (.cons rz .nil)) sp0 fun u s2 v H' rv I' z => by
      obtain ⟨rfl, rfl⟩ := z
      cases rv
      exact ⟨_, rfl, rfl, I'⟩
  rcases ot with ⟨t, rfl⟩ | rfl | ⟨b, ys, rfl, hb⟩ | ⟨b, ys, rfl, hb⟩
  · obtain ⟨t, rfl⟩ := rz
    exact LT.eqBool_rc rfl (LT.rc_str_own hr.in1.units0 J.kIn hobj K1 N.s hs hf go)
  · cases rz
    exact LT.eqBool_rc rfl (LT.rc_decl_own hr.in1.units0 J.kIn (typeIs_none _) PySem.F.slot_NoneType_eq PySem.F.entry_NoneType_eq (PySem.F.args_NoneType_eq_2 _ _) K1 N.n hs hf (fun R h => LT.none_declines R h) go)
  · cases rz
    obtain ⟨_, _, ⟨o, ho, hc, n, hd⟩, _⟩ := J.tuple hb
    refine LT.eqBool_rc ?_ (LT.rc_decl_own hr.in1.units0 J.kIn ⟨_, ho, hc⟩ PySem.F.slot_tuple_eq PySem.F.entry_tuple_eq (PySem.F.args_tuple_eq_2 _ _) K1 N.t hs hf (fun R h => LT.tuple_declines J.kIn K1 N.t R h) go)
    refine beq_eq_false_iff_ne.mpr fun e => ?_
    cases e
    rw [hobj] at ho
    cases ho
    cases hc
  · cases rz
    obtain ⟨_, _, ⟨o, n, ho, hc, _, hd⟩, _⟩ := J.list hb
    refine LT.eqBool_rc ?_ (LT.rc_decl_own hr.in1.units0 J.kIn ⟨_, ho, hc⟩ PySem.F.slot_list_eq PySem.F.entry_list_eq (PySem.F.args_list_eq_2 _ _) K1 N.l hs hf (fun R h => LT.list_declines J.kIn K1 N.l R h) go)
    refine beq_eq_false_iff_ne.mpr fun e => ?_
    cases e
    rw [hobj] at ho
    cases ho
    cases hc
end
end L2
namespace L2
open PySem PySem.Spec PyProof.Rows
/-- a def's promise where nothing that repr looks for is under way -/
def FnG (P : Program) (w : World) (K : PySem.W.Frag) (mg : Str → Option Value) (base : Heap) (CX : CXT) (k : Nat) (f : Addr) (fd : FuncData) (ps : List Str) (sp : Sp) : Prop :=
  ∀ (A : Around) (outer : List Env) (s : Shared) (H : Hp) (args : Args) (us : List Value) (vs : List V) (Q : VK) (E : XK), A.guards = some [] → Room k A → Env0 P w K mg base A outer s H →
    BindsTo s fd args (ps.zip us) → Vals vs us → sp vs H Q E → codeAny (model P w) A (.call (.ref f) args) (CR CX outer P w H s Q E) s
section
variable {P : Program} {w : World} {K : PySem.W.Frag} {mg : Str → Option Value} {base : Heap}
theorem Fun.okG {x qual : Str} {st : Stmt} {f : Addr} {fd : FuncData} {N ps : List Str} {k : Nat} {sp : Sp} (F : Fun K x qual st f fd) (S : FnScope N ps (defScope st)) (len : ∀ vs H Q E, sp vs H Q E → vs.length = ps.length)
    (body : ∀ (cdv : Value) (A : Around) (outer : List Env) (s : Shared) (H : Hp) (vs : List V) (Q : VK) (E : XK), (A.deeper (envOfC qual (defScope st) s.heap.objs.size f cdv)).guards = some [] →
      Room k (A.deeper (envOfC qual (defScope st) s.heap.objs.size f cdv)) → sp vs H Q E →
      ∃ t, PSs (cxOf CX0 P w K mg base N qual (defScope st) f cdv A outer s H E).nox (defBody st) t ∧ t { nx := fun _ J => Q .non J, rt := Q } (start N vs) H) : FnG P w K mg base CX0 (k + 1) f fd ps sp := by
  obtain ⟨oc, od, kV, doc, pm, an, cdv, ct, osl, rfl, lk, code⟩ := F.ex
  intro A outer s H args us vs Q E hg hr env bind rel hsp
  have n := len _ _ _ _ hsp
  have inK : K.In s.heap := env.mod.kin.keeps fun b o e => (env.bs b o e).1
  have free : s.heap.NoLimit := env.mod.nolimit.keeps fun b o e => (env.bs b o e).1
  have names : ∀ y ∈ ps.zip us, (defScope st).names.lookup y.1 = some .local ∨
      ((defScope st).names.lookup y.1 = some .cell ∧ ((cellsFrom (s.heap.objs.size + 1) (defScope st).names []).lookup y.1).isSome = true) := by
    rintro ⟨z, v⟩ hz
    rcases S.par z (List.of_mem_zip hz).1 with e | e
    · exact .inl e
    · exact .inr ⟨e, PySem.W.cellsFrom_some _ _ _ (.inl e)⟩
  refine codeAny_call_function hr.depth (inK _ _ lk) rfl S.co S.gen rfl (PySem.W.codeRec_of inK code)
    (bind _ _ _ _ (wpAny_newFunctionEnv_cells S.kind names fun env' he s1 x => ?_))
  subst he
  refine ⟨free.keeps x.toInCall.keep, codeAny_func ?_⟩
  obtain ⟨t, ht, q⟩ := body cdv A outer s H vs Q E hg (hr.deeper _) hsp
  have I0 : Inv (cxOf CX0 P w K mg base N qual (defScope st) f cdv A outer s H E) [] (start N vs) H s1 :=
    inv_start S hr.hd env n rel x
  have done : ∀ {τ : St} {J : Hp} {v : V} {u : Value} {s' : Shared}, Inv (cxOf CX0 P w K mg base N qual (defScope st) f cdv A outer s H E) [] τ J s' → RelV v u → Q v J → CE outer P w H s Q u s' :=
    fun {τ J v u s'} I r z => ⟨v, J, I.os, I.bare, I.base, I.hok, r, z⟩
  refine wpAny_mono (ht.nox.run [] s1 (start N vs) H _ I0 q) (fun fl s' h => ?_) fun e s' h => h
  cases fl with
  | ret u =>
    obtain ⟨v, τ, J, I, r, z⟩ := h
    exact done I r z
  | next =>
    obtain ⟨τ, J, I, z⟩ := h
    exact done (v := V.non) (u := Value.none) I rfl z
  | brk =>
    obtain ⟨_, _, _, z⟩ := h
    exact False.elim z
  | cont =>
    obtain ⟨_, _, _, z⟩ := h
    exact False.elim z
end
/-- the law's own call, nothing being under way -/
theorem law_runG {P : Program} {w : World} {K : PySem.W.Frag} {mg mb : Str → Option Value} {k : Nat} {fa a : Addr} {fd : FuncData} {x : Str} {sp : Sp} {s0 : Shared} {us : List Value} {ns : List Int}
    (inK : K.In s0.heap) (hmg : s0.heap.Ns mainGlobals mg) (hmb : s0.heap.Ns builtinsNs mb) (boot : ∀ x : Str, x ≠ "__name__" → mb x = bootBuiltins x) (free : s0.heap.NoLimit) (hgens : s0.gens = #[])
    (obj : s0.heap.get? a = some { cls := .type "list", data := .seq us.toArray }) (isI : IntsAre us ns) (short : ns.length ≤ sizeLine) (room : Room k callerA)
    (F : ∀ base : Heap, K.In base → base.Ns mainGlobals mg → FnG P w K mg base CX0 k fa fd [x] sp) (bind : ∀ (s : Shared) (u : Value), BindsTo s fd ⟨[u], []⟩ [(x, u)])
    (hsp : ∀ H : Hp, SqL K H a (ns.map V.int) → sp [.ref a] H (fun v _ => v = .bl true) E0) :
    codeAny (model P w) callerA (.call (.ref fa) ⟨[.ref a], []⟩) (fun r s' => r = .ok (.ret (.bool true)) ∧ OldK s0.heap s'.heap ∧ s'.os = s0.os ∧ AllBare s'.gens) s0 := by
  have rel := vals_ints isI
  have nlen := isI.length
  have main : ∀ H : Hp, (∀ b, H b = none ∨ ∃ o xs, H b = some (.frz o (.lst xs))) → SqL K H a (ns.map V.int) → HOk P w H s0.heap → (∀ b u, H b = some u → b = a) → (∀ u, H a = some u → K.lookup a = none) →
      codeAny (model P w) callerA (.call (.ref fa) ⟨[.ref a], []⟩) (fun r s' => r = .ok (.ret (.bool true)) ∧ OldK s0.heap s'.heap ∧ s'.os = s0.os ∧ AllBare s'.gens) s0 := by
    intro H only hS ok atA notK
    have dictNo : ∀ {b : Addr} {o : Obj} {es : Array DictEntry} {ep : Nat}, s0.heap.get? b = some o → o.data = .dict es ep → H b = none := by
      intro b o es ep e d
      cases q : H b with
      | none => rfl
      | some u =>
        cases atA b u q
        rw [obj] at e
        cases e
        exact nomatch d
    have nsAt : ∀ {b : Addr} {m : Str → Option Value}, s0.heap.Ns b m → (hidT s0.heap H).Ns b m := by
      rintro b m ⟨o, es, ep, e, d, rest⟩
      exact ⟨o, es, ep, hidT_get e (dictNo e d), d, rest⟩
    have inB : K.In (hidT s0.heap H) := fun b o e => by
      refine hidT_get (inK b o e) ?_
      cases q : H b with
      | none => rfl
      | some u =>
        cases atA b u q
        rw [notK u q] at e
        cases e
    obtain ⟨mc, lim1, lim2⟩ := free
    have modB : Mod K mg (hidT s0.heap H) := ⟨inB, nsAt hmg, ⟨mb, nsAt hmb, boot⟩, mc, nsAt lim1, lim2⟩
    have env : Env0 P w K mg (hidT s0.heap H) callerA [] s0 H :=
      ⟨rfl, modB, fun b o => of_hidT, Nat.le_of_eq (hidT_size _ _), trivial, (fun b hb => by cases hb), ok, .of_eq hgens⟩
    refine codeAny_mono (F _ inB (nsAt hmg) callerA [] s0 H ⟨[.ref a], []⟩ [.ref a] [.ref a] _ _ rfl room env (bind s0 (.ref a)) (.cons rfl .nil) (hsp H hS)) fun r s' h => ?_
    cases r with
    | error e => exact h.elim
    | ok fl =>
      cases fl with
      | next => exact h.elim
      | brk => exact h.elim
      | cont => exact h.elim
      | ret u =>
        obtain ⟨v, J, os, bare, un, ok', rv, ev⟩ := h
        have ev' : v = .bl true := ev
        subst ev'
        obtain rfl : u = Value.bool true := rv
        refine ⟨rfl, OldK.of_keep fun b o e => ?_, os, bare⟩
        rcases only b with z | ⟨ob, xs, z⟩
        · exact un.keep b o e z (fun m => by cases m) (fun m => by cases m)
        · obtain ⟨e1, _⟩ := ok b _ z
          obtain ⟨e2, _⟩ := ok' b _ (un.frzs b ob _ z)
          rw [e] at e1
          cases e1
          exact e2
  cases inMod : K.lookup a with
  | some o =>
    have e := inK a o inMod
    rw [obj] at e
    cases e
    have sz : us.toArray.size ≤ sizeLine := by
      rw [List.size_toArray, nlen]
      exact short
    have no : ∀ (b : Addr) (u : HO), (fun _ : Addr => (none : Option HO)) b = some u → False := fun b u z => nomatch z
    exact main (fun _ => none) (fun _ => .inl rfl) (.inr ⟨_, us.toArray, _, inMod, rfl, rfl, rfl, sz, by simpa using rel⟩) (fun b u z => (no b u z).elim) (fun b u z => (no b u z).elim) fun u z => (no a u z).elim
  | none =>
    have hit : ∀ (b : Addr) (u : HO), (fun c : Addr => if c = a then some (HO.frz { cls := .type "list", data := .seq us.toArray } (.lst (ns.map V.int))) else none) b = some u →
        b = a ∧ u = .frz { cls := .type "list", data := .seq us.toArray } (.lst (ns.map V.int)) := by
      intro b u z
      by_cases hb : b = a
      · exact ⟨hb, (Option.some.inj ((if_pos hb).symm.trans z)).symm⟩
      · exact nomatch ((if_neg hb).symm.trans z)
    refine main (fun c => if c = a then some (.frz { cls := .type "list", data := .seq us.toArray } (.lst (ns.map V.int))) else none) (fun b => ?_) (.inl (.inr ⟨_, if_pos rfl⟩)) (fun b u z => ?_) (fun b u z => (hit b u z).1) fun _ _ => inMod
    · by_cases hb : b = a
      · exact .inr ⟨_, _, if_pos hb⟩
      · exact .inl (if_neg hb)
    · obtain ⟨rfl, rfl⟩ := hit b u z
      exact ⟨obj, by rw [List.length_map]; exact short, us, _, rel, obj⟩
theorem walk_ofG {l : PySem.W.OpenLaw} {n k : Nat} {q : Program} {loose : List Str} {XP : (Str → Option Value) → Heap → Prop} {YP : World → Heap → Prop} {d : DefRec} {K : Params → PySem.W.Frag} {sp : World → Sp} {x : Str}
    (hn : l.most = some n) (hn2 : n ≤ sizeLine) (hdf : d.params.defaults = []) (hr : Room k callerA) (hY : ∀ (w : World) (h : Heap), YP w h → (K w.params).In h)
    (F : ∀ (w : World) (mg : Str → Option Value) (fa : Addr) (h : Heap), (K w.params).In h → h.Ns mainGlobals mg → mg d.name = some (.ref fa) →
      ∃ fd : FuncData, (∀ (s : Shared) (u : Value), BindsTo s fd ⟨[u], []⟩ [(x, u)]) ∧
        ∀ base : Heap, (K w.params).In base → base.Ns mainGlobals mg → FnG l.prog w (K w.params) mg base CX0 k fa fd [x] (sp w))
    (hsp : ∀ (w : World) (H : Hp) (a : Addr) (ns : List Int), ns.length ≤ n → SqL (K w.params) H a (ns.map V.int) → sp w [.ref a] H (fun v _ => v = .bl true) E0) :
    PySem.W.WalkO q loose XP YP l.row.toRowW d [] (fun f vs => PySem.call f vs) := by
  refine Att.attach_call hn hdf fun w s₀ s₁ mg mb fa o pm cd doc a vs ns G Y ho hd hcd hmg hobj hints hlen hg => ?_
  obtain ⟨fd, hb, hF⟩ := F w mg fa _ (hY w _ Y) G.T.g hmg
  exact law_runG (hY w _ Y) G.T.g G.T.b G.T.builtins G.T.nolimit hg hobj hints (Nat.le_trans hlen hn2) hr hF hb fun H hS => hsp w H a ns hlen hS
/-! ### repr of data, nothing being under way -/
def rRepr (K : PySem.W.Frag) : List V → Hp → VK → Prop := fun xs H Q => ∃ (v : V) (d : PyData), xs = [v] ∧ Dp K H v d ∧ d.showable = true ∧ d.hasDict = false ∧ d.depth ≤ 50 ∧ d.shown.length ≤ sizeLine ∧ Q (.str d.shown) H
theorem call_reprD {X : Cx} {k : Nat} (hg : X.A.guards = some []) (hr : Room k X.A) : CallR X (.builtin "repr") (rRepr X.K) := by
  intro pins s σ H xs us Q I r h
  obtain ⟨v, d, rfl, hd, hs, hn, hdep, hsz, q⟩ := h
  obtain ⟨u, rfl, rv⟩ := vals1 r
  obtain ⟨as, rd⟩ := Dp.reads I d v u hd rv
  have hun := hr.un
  have key : ∀ a, u = .ref a → wpAny (model X.prog X.w) X.A (call (.builtin "repr") [u]) (EP X pins σ Q) X.xe s := by
    intro a e
    subst e
    exact PySem.repr_of_reads' rd hs (PyData.noDict_hsm hn) hg (by omega) (fun _ _ e => e) (fun h' t tk hk => ⟨.str _, H, I.kept hk, ⟨t, rfl⟩, q⟩) hsz
  cases hd with
  | non =>
    cases rv
    exact PySem.P.repr_of_none ⟨.str _, H, I.tok _, ⟨_, rfl⟩, q⟩
  | bl b =>
    cases rv
    exact PySem.P.repr_of_bool ⟨.str _, H, I.tok _, ⟨_, rfl⟩, q⟩
  | int i =>
    obtain ⟨t, rfl⟩ := rv
    exact PySem.P.repr_of_int (by simpa [PyData.showable] using hs) ⟨.str _, H, I.tok _, ⟨_, rfl⟩, q⟩
  | str x =>
    obtain ⟨t, rfl⟩ := rv
    exact PySem.P.repr_of_str ⟨.str _, H, I.tok _, ⟨_, rfl⟩, q⟩ hsz
  | lst _ _ =>
    cases rv
    exact key _ rfl
  | tup _ _ =>
    cases rv
    exact key _ rfl
end L2
namespace LT
open PySem L2
abbrev sIsName : Stmt := top 1
abbrev sErrInit : Stmt := inClass (top 4) 0
abbrev sRowInit : Stmt := inClass (top 8) 0
abbrev sRowEq : Stmt := inClass (top 8) 1
abbrev sRowStr : Stmt := inClass (top 8) 2
abbrev sAnyRow : Stmt := top 14
abbrev sRowText : Stmt := top 15
abbrev sName : Stmt := top 16
abbrev sLaw : Stmt := top 17
/-! ### the mathematics of names -/
def nameP (z : Str) : Bool := !decide ((4 : Int) < (z.length : Int)) && !decide (V.str z = V.str "also") && (Txt.isascii z && (Txt.isalpha z && Txt.islower z))
def isStr : V → Bool
  | .str _ => true
  | _ => false
def isBl : V → Bool
  | .bl _ => true
  | _ => false
def nameV (f : Str → Bool) : V → Bool
  | .str z => f z
  | _ => false
/-- what isinstance tells of a value, and how long a text is -/
structure Kind (K : PySem.W.Frag) (H : Hp) (v : V) : Prop where
  ty : ∃ t, TyX K H v t ∧ PySem.W.kitOne K t (.type "str") = some (isStr v) ∧ PySem.W.kitOne K t (.type "bool") = some (isBl v)
  sz : ∀ z, v = .str z → z.length ≤ 100
def spIsName (K : PySem.W.Frag) : Sp := fun vs H Q _ => ∃ v, vs = [v] ∧ Kind K H v ∧ Q (.bl (nameV nameP v)) H
structure Blt2 (mg : Str → Option Value) : Prop where
  isin : mg "isinstance" = none
  str : mg "str" = none
  bool : mg "bool" = none
section
variable {P : Program} {w : World} {K : PySem.W.Frag} {mg : Str → Option Value} {base : Heap}
theorem boot_isin : bootBuiltins "isinstance" = some (.builtin "isinstance") := by decide +kernel
theorem boot_strT : bootBuiltins "str" = some (.type "str") := by decide +kernel
theorem boot_boolT : bootBuiltins "bool" = some (.type "bool") := by decide +kernel
theorem scIsName : FnScope ["value"] ["value"] (defScope sIsName) := ⟨rfl, rfl, rfl, by decide +kernel, rfl, by decide +kernel, by decide +kernel⟩
theorem ok_isname {f : Addr} {fd : FuncData} (F : Fun K "is_name" "is_name" sIsName f fd) (T : Blt mg) (U : Blt2 mg) : FnOk P w K mg base CX0 1 f fd ["value"] (spIsName K) := by
  refine F.ok scIsName (fun vs H Q E h => ?_) (fun cdv A outer s H vs Q E hr h => ?_)
  · obtain ⟨v, rfl, _⟩ := h
    rfl
  obtain ⟨v, rfl, ⟨⟨t, ty, e1, _⟩, hz⟩, q⟩ := h
  refine ⟨_, pss_cons (ps_if (PW.pt (pw_or (pt_not (pt_val (pe_callB call_isi (by rfl) U.isin boot_isin (pa_cons (pv 0) (pa_cons (pe_bltn (v := .ty "str") (by rfl) U.str boot_strT rfl) pa_nil)))))
      (pw_or (pt_cmpR op_gt (pe_callB call_len_str (by rfl) T.len PySem.boot_len (pa_cons (pv 0) pa_nil)) pe_int (nomark _)) (pw_or1 (pt_cmpR op_eq (pv 0) pe_str (nomark _))))))
      (pss_one (ps_ret pe_bl)) pss_nil)
    (pss_one (ps_ret (pe_and (pe_bm0 PySem.F.plainAttrs_str PySem.F.slot_str_isascii PySem.F.type_str_isascii mt_isascii (pv 0))
      (pe_and (pe_bm0 PySem.F.plainAttrs_str PySem.F.slot_str_isalpha PySem.F.type_str_isalpha mt_isalpha (pv 0)) (pe_one (pe_bm0 PySem.F.plainAttrs_str PySem.F.slot_str_islower PySem.F.type_str_islower mt_islower (pv 0))))))), ?_⟩
  refine ⟨_, rfl, v, _, t, _, isStr v, rfl, .ty "str", ty, e1, _, rfl, ?_⟩
  cases v with
  | str z =>
    have hz' : z.length ≤ sizeLine := Nat.le_of_lt (small1000 (Nat.le_trans (hz z rfl) (by decide)))
    refine iteF ⟨_, rfl, z, rfl, hz', _, _, rfl, rfl, _, rfl, ?_⟩
    refine ite2 (fun c => iteT ?_) (fun c => ⟨_, rfl, rfl, _, rfl, ?_⟩)
    · have e : nameV nameP (.str z) = false := by
        show (!decide ((4 : Int) < (z.length : Int)) && _ && _) = false
        rw [c]
        rfl
      rw [e] at q
      exact q
    · refine ite2 (fun d => ?_) (fun d => ?_)
      · have e : nameV nameP (.str z) = false := by
          show (!decide ((4 : Int) < (z.length : Int)) && !decide (V.str z = V.str "also") && _) = false
          rw [d, Bool.not_true, Bool.and_false, Bool.false_and]
        rw [e] at q
        exact q
      · have c' : decide ((4 : Int) < (z.length : Int)) = false := Bool.eq_false_iff.mpr c
        have d' : decide (V.str z = V.str "also") = false := Bool.eq_false_iff.mpr d
        have e : nameV nameP (.str z) = (Txt.isascii z && (Txt.isalpha z && Txt.islower z)) := by
          show (!decide ((4 : Int) < (z.length : Int)) && !decide (V.str z = V.str "also") && _) = _
          rw [c', d', Bool.not_false, Bool.and_true, Bool.true_and]
        rw [e] at q
        refine ⟨_, rfl, rfl, z, rfl, rfl, trivial, _, rfl, ?_⟩
        cases h1 : Txt.isascii z with
        | false =>
          rw [h1, Bool.false_and] at q
          exact iteF q
        | true =>
          rw [h1, Bool.true_and] at q
          refine iteT ⟨_, rfl, rfl, z, rfl, rfl, trivial, _, rfl, ?_⟩
          cases h2 : Txt.isalpha z with
          | false =>
            rw [h2, Bool.false_and] at q
            exact iteF q
          | true =>
            rw [h2, Bool.true_and] at q
            exact iteT ⟨_, rfl, rfl, z, rfl, rfl, trivial, q⟩
  | _ => exact iteT (iteT q)
end
end LT
namespace LT
open PySem L2
def spErr (C : Addr) : Sp := fun vs H Q _ => ∃ (a : Addr) (v : V), vs = [.ref a, v] ∧ H a = some (exo a C none) ∧
  ∀ dx, H dx = none → dx ≠ a → Q .non (upd (upd H dx (exd dx [("word", v)])) a (exo a C (some dx)))
section
variable {P : Program} {w : World} {K : PySem.W.Frag} {mg : Str → Option Value} {base : Heap}
theorem scErr : FnScope ["self", "word"] ["self", "word"] (defScope sErrInit) := ⟨rfl, rfl, rfl, by decide +kernel, rfl, by decide +kernel, by decide +kernel⟩
theorem ok_err {C f : Addr} {fd : FuncData} {q : Str} (F : Fun K "__init__" q sErrInit f fd) (T : OexC K C) (no : PySem.W.findIn K (.ref C) "word" = some none) : FnOk P w K mg base CX0 1 f fd ["self", "word"] (spErr C) := by
  refine F.ok scErr (fun vs H Q E h => ?_) (fun cdv A outer s H vs Q E hr h => ?_)
  · obtain ⟨a, v, rfl, _⟩ := h
    rfl
  obtain ⟨a, v, rfl, ha, q⟩ := h
  refine ⟨_, pss_one (ps_ost (pv 0) (pv 1)), ?_⟩
  exact ⟨_, rfl, _, rfl, a, C, rfl, T, no, .inl ⟨ha, q⟩⟩
end
/-! ### rows -/
def picks : List Str := ["keep", "at", "past", "under", "all"]
def moves : List Str := ["stay", "on", "home"]
def pickV (l : List Str) : V → Bool
  | .str z => l.any fun y => y == z
  | _ => false
def rowDue (m p mv t a : V) : Option Str :=
  if nameV nameP m = false then some "mode" else if pickV picks p = false then some "pick" else if pickV moves mv = false then some "move" else if nameV nameP t = false then some "then" else if isBl a = false then some "also" else none
def rowFs (m p mv t a : V) : List (Str × V) := [("mode", m), ("pick", p), ("move", mv), ("then", t), ("also", a)]
theorem rowFs_put (m p mv t a : V) : putF "also" a (putF "then" t (putF "move" mv (putF "pick" p (putF "mode" m [])))) = rowFs m p mv t a := by
  kernel_rfl
/-- what the law hands to a row: data, or a row -/
def Arg (K : PySem.W.Frag) (C : Addr) (H : Hp) (v : V) : Prop :=
  (∃ d, Dp K H v d ∧ SeqAt.shaped d = true ∧ ∀ z, v = .str z → z.length ≤ 100) ∨ ∃ a dx fs, v = .ref a ∧ H a = some (.ins C dx fs)
theorem Arg.mono {K : PySem.W.Frag} {C : Addr} {H J : Hp} {v : V} (s : Same H J) (h : Arg K C H v) : Arg K C J v := by
  rcases h with ⟨d, h1, h2, h3⟩ | ⟨a, dx, fs, h1, h2⟩
  · exact .inl ⟨d, dp_mono s d v h1, h2, h3⟩
  · exact .inr ⟨a, dx, fs, h1, s _ _ h2⟩
/-- what the written part says of the class Row -/
structure RowC (K : PySem.W.Frag) (mg : Str → Option Value) (C : Addr) : Prop where
  cl : Cls K C
  ha : PySem.W.findIn K (.ref C) "__class__" = some (some (.builtin "object.__class__"))
  hn : PySem.W.specialIn K (.builtin "object.__class__") "__get__" = some (some (.builtin "getset_descriptor.__get__"))
  ht : PySem.W.takesIn K (.builtin "object.__class__") = some true
  hm : PySem.W.mroIn K C (.type "object") = some true
  ks : PySem.W.kitOne K (.ref C) (.type "str") = some false
  kb : PySem.W.kitOne K (.ref C) (.type "bool") = some false
  n1 : NoAttr K C "mode"
  n2 : NoAttr K C "pick"
  n3 : NoAttr K C "move"
  n4 : NoAttr K C "then"
  n5 : NoAttr K C "also"
  mgC : mg "Row" = some (.ref C)
theorem tyx_seqL {K : PySem.W.Frag} {H : Hp} {a : Addr} {xs : List V} (h : SqL K H a xs) : TyX K H (.ref a) (.type "list") := by
  rcases h with (h | ⟨o, h⟩) | ⟨o, its, n, h, c, _⟩
  · exact .base (.lst h)
  · exact .base (.frz h)
  · exact .kList h c
theorem tyx_seqT {K : PySem.W.Frag} {H : Hp} {a : Addr} {xs : List V} (h : SqT K H a xs) : TyX K H (.ref a) (.type "tuple") := by
  rcases h with (h | ⟨o, h⟩) | ⟨o, its, n, h, c, _⟩
  · exact .base (.tup h)
  · exact .fTuple h
  · exact .kTuple h c
theorem kit_NoneType_str {K : PySem.W.Frag} : PySem.W.kitOne K (.type "NoneType") (.type "str") = some false := kit_ty (by decide +kernel)
theorem kit_NoneType_bool {K : PySem.W.Frag} : PySem.W.kitOne K (.type "NoneType") (.type "bool") = some false := kit_ty (by decide +kernel)
theorem kit_bool_str {K : PySem.W.Frag} : PySem.W.kitOne K (.type "bool") (.type "str") = some false := kit_ty (by decide +kernel)
theorem kit_bool_bool {K : PySem.W.Frag} : PySem.W.kitOne K (.type "bool") (.type "bool") = some true := kit_ty (by decide +kernel)
theorem kit_int_str {K : PySem.W.Frag} : PySem.W.kitOne K (.type "int") (.type "str") = some false := kit_ty (by decide +kernel)
theorem kit_int_bool {K : PySem.W.Frag} : PySem.W.kitOne K (.type "int") (.type "bool") = some false := kit_ty (by decide +kernel)
theorem kit_str_str {K : PySem.W.Frag} : PySem.W.kitOne K (.type "str") (.type "str") = some true := kit_ty (by decide +kernel)
theorem kit_str_bool {K : PySem.W.Frag} : PySem.W.kitOne K (.type "str") (.type "bool") = some false := kit_ty (by decide +kernel)
theorem kit_list_str {K : PySem.W.Frag} : PySem.W.kitOne K (.type "list") (.type "str") = some false := kit_ty (by decide +kernel)
theorem kit_list_bool {K : PySem.W.Frag} : PySem.W.kitOne K (.type "list") (.type "bool") = some false := kit_ty (by decide +kernel)
theorem kit_tuple_str {K : PySem.W.Frag} : PySem.W.kitOne K (.type "tuple") (.type "str") = some false := kit_ty (by decide +kernel)
theorem kit_tuple_bool {K : PySem.W.Frag} : PySem.W.kitOne K (.type "tuple") (.type "bool") = some false := kit_ty (by decide +kernel)
theorem Arg.kind {K : PySem.W.Frag} {mg : Str → Option Value} {C : Addr} {H : Hp} {v : V} (T : RowC K mg C) (h : Arg K C H v) : Kind K H v := by
  rcases h with ⟨d, h1, _, h3⟩ | ⟨a, dx, fs, rfl, h2⟩
  · refine ⟨?_, fun z e => h3 z e⟩
    cases h1 with
    | non => exact ⟨_, .base .non, kit_NoneType_str, kit_NoneType_bool⟩
    | bl b => exact ⟨_, .base (.bl b), kit_bool_str, kit_bool_bool⟩
    | int i => exact ⟨_, .base (.int i), kit_int_str, kit_int_bool⟩
    | str x => exact ⟨_, .base (.str x), kit_str_str, kit_str_bool⟩
    | lst hs _ => exact ⟨_, tyx_seqL hs, kit_list_str, kit_list_bool⟩
    | tup hs _ => exact ⟨_, tyx_seqT hs, kit_tuple_str, kit_tuple_bool⟩
  · exact ⟨⟨_, .base (.ins h2 T.cl T.ha T.hn T.ht T.hm), T.ks, T.kb⟩, fun z e => nomatch e⟩
/-! ### x not in a tuple of texts -/
def strD (xs : List Str) : List PyData := xs.map PyData.str
theorem dp_strs {K : PySem.W.Frag} {H : Hp} : ∀ xs : List Str, DpAll K H (xs.map V.str) (strD xs)
  | [] => .nil
  | x :: xs => .cons (.str x) (dp_strs xs)
theorem eqv_strs {K : PySem.W.Frag} {H : Hp} {v : V} {d : PyData} (h : Dp K H v d) : ∀ xs : List Str, (strD xs).any (fun y => PyData.eqv y d) = pickV xs v := by
  intro xs
  cases h with
  | str z =>
    show (xs.map PyData.str).any (fun y => PyData.eqv y (.str z)) = xs.any fun y => y == z
    rw [List.any_map]
    rfl
  | _ =>
    show (xs.map PyData.str).any _ = false
    rw [List.any_map]
    exact List.any_eq_false.mpr fun y _ => by simp [PyData.eqv]
theorem op_notInArg {X : Cx} {CX : CXT} {C f : Addr} {fd : FuncData} {ps : List Str} {E : XK} {k : Nat} (F : FnOk X.prog X.w X.K X.mg X.base CX k f fd ps (spEqT C)) (hr : Room (k + 1) X.A)
    (hb : PySem.W.subIn X.K (.ref C) (.type "str") = some false) (hs : PySem.W.findIn X.K (.ref C) "__eq__" = some (some (.ref f))) (hf : PySem.W.isFn X.K (.ref f) = true) (bn : Binds X.K fd ps []) (hx : Passes CX X E) :
    OpR X (compareOp .NotIn) (fun x y H Q => ∃ (p : Addr) (xs : List Str), Arg X.K C H x ∧ y = .ref p ∧ SqT X.K H p (xs.map V.str) ∧ PyData.canLayAll0 (strD xs) = true ∧ Q (.bl (!pickV xs x)) H) := by
  intro pins s σ H x y v u Q I rx ry h
  obtain ⟨p, xs, ha, rfl, hp, hlay, q⟩ := h
  rcases ha with ⟨d, h1, h2, _⟩ | ⟨a, dx, fs, rfl, h2⟩
  · obtain ⟨as, r1⟩ := Dp.reads I d x v h1 rx
    obtain ⟨bs, r2⟩ := Dp.reads I (.tuple (strD xs)) (.ref p) u (.tup hp (dp_strs xs)) ry
    have hdep : PyData.depthAll (strD xs) ≤ 1 := by
      have go : ∀ l : List Str, PyData.depthAll (strD l) ≤ 1 := fun l => by
        induction l with
        | nil => decide
        | cons a l ih =>
          show max (PyData.depth (.str a)) (PyData.depthAll (strD l)) ≤ 1
          exact Nat.max_le.mpr ⟨by simp [PyData.depth], ih⟩
      exact go xs
    have hun := hr.units
    refine SeqAt.notIn_tuple_reads r2 r1 hlay (SeqAt.canLay_of_shaped h2) (by have := Nat.min_le_left (PyData.depthAll (strD xs)) d.depth; omega) ⟨.bl _, H, I, rfl, ?_⟩
    rw [eqv_strs h1 xs]
    exact q
  · exact op_notIn_own F hr hb hs hf bn hx pins s σ H _ _ v u Q I rx ry ⟨a, dx, p, fs, xs, rfl, h2, rfl, hp, q⟩
/-! ### Row's own == (asked by a text) and Row's making -/
section
variable {P : Program} {w : World} {K : PySem.W.Frag} {mg : Str → Option Value} {base : Heap}
theorem pe_nev {X : Cx} {e : Expr} : PE X e (fun _ _ _ => False) := ⟨fun _ _ _ _ _ _ h => h.elim⟩
theorem scEq : FnScope ["self", "other"] ["self", "other"] (defScope sRowEq) := ⟨rfl, rfl, rfl, by decide +kernel, rfl, by decide +kernel, by decide +kernel⟩
theorem ok_eqT {C f : Addr} {fd : FuncData} (F : Fun K "__eq__" "Row.__eq__" sRowEq f fd) (T : RowC K mg C) (U : Blt2 mg) (ks : PySem.W.kitOne K (.type "str") (.ref C) = some false) : FnOk P w K mg base CX0 1 f fd ["self", "other"] (spEqT C) := by
  refine F.ok scEq (fun vs H Q E h => ?_) (fun cdv A outer s H vs Q E hr h => ?_)
  · obtain ⟨a, dx, fs, z, rfl, _⟩ := h
    rfl
  obtain ⟨a, dx, fs, z, rfl, ha, q⟩ := h
  refine ⟨_, pss_one (ps_ret (pe_and (pe_callB call_isi (by rfl) U.isin boot_isin (pa_cons (pv 1) (pa_cons (pe_glob (by rfl) T.mgC (v := .ref C) rfl) pa_nil))) pe_nev)), ?_⟩
  exact ⟨_, rfl, .str z, .ref C, _, _, false, rfl, .own C, .base (.str z), ks, false, rfl, iteF q⟩
end
end LT
namespace L2
open PySem PySem.Spec PyProof.Rows
section
variable {X : Cx} {CX : CXT} {k : Nat} {f C : Addr} {fd : FuncData} {ps : List Str} {sp : Sp} {E : St → XK} {x : Str} {p pos : Pos} {e : Expr} {es : List Expr} {t : TA} {ds : List Value} {dvs : List V}
/-- C(e, ..) where what is raised is wished for at the slots -/
def tMakeS (C : Addr) (sp : Sp) (dvs : List V) (E : St → XK) (t : TA) : TE := fun σ H Q => t σ H fun vs H1 => ∀ x dx, H1 x = none → H1 dx = none → dx ≠ x →
  sp (.ref x :: (vs ++ dvs)) (upd (upd H1 dx (.own x)) x (.ins C dx [])) (fun v H2 => v = .non ∧ Q (.ref x) H2) (E σ)
theorem run_makeS {pins : List (Addr × Obj)} {σ : St} {H : Hp} {s : Shared} {Q : VK} {us : List Value} {vs : List V} (M : Mk X.K C f) (F : FnOk X.prog X.w X.K X.mg X.base CX k f fd ps sp) (hr : Room (k + 1) X.A)
    (hb : Binds X.K fd ps ds) (hd : Vals dvs ds) (hx : PassesAt CX X σ (E σ)) (I : Inv X pins σ H s) (r : Vals vs us)
    (h : ∀ y dy, H y = none → H dy = none → dy ≠ y → sp (.ref y :: (vs ++ dvs)) (upd (upd H dy (.own y)) y (.ins C dy [])) (fun v H2 => v = .non ∧ Q (.ref y) H2) (E σ)) :
    wpAny (model X.prog X.w) X.A (call (.ref C) us) (EP X pins σ Q) X.xe s := by
  have here := h (s.heap.objs.size + 1) s.heap.objs.size (I.hok.fresh (Nat.le_succ _)) (I.hok.fresh (Nat.le_refl _))
    (Nat.ne_of_lt (Nat.lt_succ_self _))
  have J := Inv.made (C := C) I
  have rr : Vals (V.ref (s.heap.objs.size + 1) :: (vs ++ dvs)) (Value.ref (s.heap.objs.size + 1) :: (us ++ ds)) :=
    .cons rfl (r.append hd)
  have len : (Value.ref (s.heap.objs.size + 1) :: us ++ ds).length = ps.length := by
    have z := rr.length
    rw [F.len _ _ _ _ here] at z
    exact z.symm
  have run := F.run _ X.stack _ _ ⟨Value.ref (s.heap.objs.size + 1) :: us, []⟩ (Value.ref (s.heap.objs.size + 1) :: (us ++ ds)) _ _ (E σ)
    (hr.make C us []) (J.env0.make C us []) (hb _ (Value.ref (s.heap.objs.size + 1) :: us) J.kIn len) rr here
  refine wpAny_call (make_map (f := f) I.kIn M.makes M.init (beq_iff_eq.mp M.fn) (codeAny_mono run fun q s' hq => ?_))
  cases q with
  | error e => exact hx pins _ _ e s' J hq
  | ok fl =>
    cases fl with
    | ret u =>
      obtain ⟨v, H', J', rv, ev, fin⟩ := J.after hq
      subst ev
      exact ⟨rv, V.ref (s.heap.objs.size + 1), H', J', rfl, fin⟩
    | next => exact False.elim hq
    | brk => exact False.elim hq
    | cont => exact False.elim hq
theorem pe_makeS (M : Mk X.K C f) (F : FnOk X.prog X.w X.K X.mg X.base CX k f fd ps sp) (hr : Room (k + 1) X.A) (hg : Gl X x) (hm : X.mg x = some (.ref C)) (hb : Binds X.K fd ps ds) (hd : Vals dvs ds)
    (hx : ∀ σ, PassesAt CX X σ (E σ)) (ha : PA X (e :: es) t) (hdb : (x == ("__debug__" : Str)) = false := by decide)
    (he : starEach (e :: es) X.env = (false, eval e X.env) :: starEach es X.env := by rfl) (hpl : (backTo pos (starEach es X.env)).any (·.1) = false := by rfl) :
    PE X (.Call (.Name x p) (e :: es) [] pos) (tMakeS C sp dvs E t) := by
  refine ⟨fun pins s σ H Q I h => wpAny_Call_Name_kw (ld_glob I hg hm ?_ hdb)⟩
  refine PySem.W.callWith_K (h₀ := X.base) I.ok.mod.kin M.kp (thn (ha.run pos pins s σ H _ I h) fun us s1 hh => ?_) he hpl
  obtain ⟨vs, H1, I1, r, q⟩ := hh
  exact ⟨I1.kIn, run_makeS M F hr hb hd (hx σ) I1 r q⟩
end
end L2
namespace LT
open PySem L2
/-- the heap behind a made error: its own dict stands at d -/
theorem del_word {H : Hp} {a d C : Addr} {fs : List (Str × V)} (ha : H a = none) : upd (del (upd (upd (upd H a (exo a C none)) d (exd d fs)) a (exo a C (some d))) a) d (.xd fs) = upd H d (.xd fs) := by
  funext b
  by_cases hb : b = d
  · rw [hb, upd_same, upd_same]
  · rw [upd_ne hb, upd_ne hb]
    by_cases hc : b = a
    · rw [hc, del_same, ha]
    · rw [del_ne hc, upd_ne hc, upd_ne hb, upd_ne hc]
theorem raise_ok {CE : Addr} {H : Hp} {E : XK} {wd : Str} {σ : St} (kE : ∀ d, H d = none → E (.ref CE) (some d) (upd H d (.xd [("word", .str wd)]))) :
    tMkO CE (spErr CE) [] (tCons (tC (.str wd)) tNil) σ H (fun cls d H' => E cls d H') := by
  refine ⟨(by show 1 ≤ 1000; decide), fun a ha => ⟨a, .str wd, rfl, upd_same, fun dx n ne => ?_⟩⟩
  have hd : H dx = none := by
    rw [upd_ne ne] at n
    exact n
  refine ⟨rfl, dx, [("word", .str wd)], upd_same, by rw [upd_ne ne]; exact upd_same, hd, ?_⟩
  rw [del_word ha]
  exact kE dx hd
def spRow (K : PySem.W.Frag) (C CE : Addr) : Sp := fun vs H Q E => ∃ (x dx : Addr) (m p mv t a : V), vs = [.ref x, m, p, mv, t, a] ∧ H x = some (.ins C dx []) ∧ Arg K C H m ∧ Arg K C H p ∧ Arg K C H mv ∧ Arg K C H t ∧ Arg K C H a ∧
  (∀ wd, rowDue m p mv t a = some wd → ∀ d, H d = none → E (.ref CE) (some d) (upd H d (.xd [("word", .str wd)]))) ∧
  (rowDue m p mv t a = none → Q .non (upd H x (.ins C dx (rowFs m p mv t a))))
section
variable {P : Program} {w : World} {K : PySem.W.Frag} {mg : Str → Option Value} {base : Heap}
theorem scRow : FnScope ["self", "mode", "pick", "move", "then", "also"] ["self", "mode", "pick", "move", "then", "also"] (defScope sRowInit) := ⟨rfl, rfl, rfl, by decide +kernel, rfl, by decide +kernel, by decide +kernel⟩
/-- what Row.__init__ leans on -/
structure RowG (P : Program) (w : World) (K : PySem.W.Frag) (mg : Str → Option Value) (base : Heap) (C CE : Addr) : Prop where
  row : RowC K mg C
  nm : ∃ (f : Addr) (fd : FuncData), FnOk P w K mg base CX0 1 f fd ["value"] (spIsName K) ∧ Binds K fd ["value"] [] ∧ PySem.W.keepIn K (.ref f) = true ∧ mg "is_name" = some (.ref f)
  err : ∃ (f : Addr) (fd : FuncData), FnOk P w K mg base CX0 1 f fd ["self", "word"] (spErr CE) ∧ Binds K fd ["self", "word"] [] ∧ PySem.W.findIn K (.ref CE) "__init__" = some (some (.ref f)) ∧ PySem.W.typeIn K (.ref f) = some (.type "function")
  oex : OexC K CE
  mE : mg "InvalidRow" = some (.ref CE)
  eq : ∃ (f : Addr) (fd : FuncData), FnOk P w K mg base CX0 1 f fd ["self", "other"] (spEqT C) ∧ Binds K fd ["self", "other"] [] ∧ PySem.W.findIn K (.ref C) "__eq__" = some (some (.ref f)) ∧ PySem.W.isFn K (.ref f) = true
  sub : PySem.W.subIn K (.ref C) (.type "str") = some false
  pk : ∃ p, mg "PICKS" = some (.ref p) ∧ ∀ H, SqT K H p (picks.map V.str)
  mv : ∃ p, mg "MOVES" = some (.ref p) ∧ ∀ H, SqT K H p (moves.map V.str)
theorem ok_row {C CE f : Addr} {fd : FuncData} {dvs : List V} {kws : List (Str × V)} (F : FunD K "__init__" "Row.__init__" (defArgs sRowInit) (defBody sRowInit) (defScope sRowInit) dvs kws f fd) (G : RowG P w K mg base C CE) (U : Blt2 mg) :
    FnOk P w K mg base (L2.CX P w) 3 f fd ["self", "mode", "pick", "move", "then", "also"] (spRow K C CE) := by
  obtain ⟨fN, fdN, GN, bN, kN, mN⟩ := G.nm
  obtain ⟨fE, fdE, GE, bE, iE, tE⟩ := G.err
  obtain ⟨fQ, fdQ, GQ, bQ, iQ, tQ⟩ := G.eq
  obtain ⟨pP, mP, sP⟩ := G.pk
  obtain ⟨pM, mM, sM⟩ := G.mv
  refine F.ok scRow (fun vs H Q E h => ?_) (fun cdv A outer s H vs Q E hr h => ?_)
  · obtain ⟨x, dx, m, p, mv, t, a, rfl, _⟩ := h
    rfl
  obtain ⟨x, dx, m, p, mv, t, a, rfl, hx, a1, a2, a3, a4, a5, kE, kQ⟩ := h
  have hr1 : Room 1 _ := hr.mono (by decide)
  refine ⟨_, pss_cons (ps_if (pt_not (pt_val (pe_call GN hr1 rfl mN kN bN .nil pass0 (pa_cons (pv 1) pa_nil))))
      (pss_one (ps_raise rfl (takes_of rfl rfl rfl rfl) (pmk_oex G.oex iE tE GE hr bE .nil pass0 rfl G.mE (pa_cons pe_str pa_nil)))) pss_nil)
    (pss_cons (ps_if (pt_cmpR (op_notInArg GQ hr G.sub iQ tQ bQ pass0) (pv 2) (pe_glob (by rfl) mP (v := .ref pP) rfl) (by rfl))
      (pss_one (ps_raise rfl (takes_of rfl rfl rfl rfl) (pmk_oex G.oex iE tE GE hr bE .nil pass0 rfl G.mE (pa_cons pe_str pa_nil)))) pss_nil)
    (pss_cons (ps_if (pt_cmpR (op_notInArg GQ hr G.sub iQ tQ bQ pass0) (pv 3) (pe_glob (by rfl) mM (v := .ref pM) rfl) (by rfl))
      (pss_one (ps_raise rfl (takes_of rfl rfl rfl rfl) (pmk_oex G.oex iE tE GE hr bE .nil pass0 rfl G.mE (pa_cons pe_str pa_nil)))) pss_nil)
    (pss_cons (ps_if (pt_not (pt_val (pe_call GN hr1 rfl mN kN bN .nil pass0 (pa_cons (pv 4) pa_nil))))
      (pss_one (ps_raise rfl (takes_of rfl rfl rfl rfl) (pmk_oex G.oex iE tE GE hr bE .nil pass0 rfl G.mE (pa_cons pe_str pa_nil)))) pss_nil)
    (pss_cons (ps_if (pt_not (pt_val (pe_callB call_isi (by rfl) U.isin boot_isin (pa_cons (pv 5) (pa_cons (pe_bltn (v := .ty "bool") (by rfl) U.bool boot_boolT rfl) pa_nil)))))
      (pss_one (ps_raise rfl (takes_of rfl rfl rfl rfl) (pmk_oex G.oex iE tE GE hr bE .nil pass0 rfl G.mE (pa_cons pe_str pa_nil)))) pss_nil)
    (pss_cons (ps_fld (pv 0) (pv 1) rfl) (pss_cons (ps_fld (pv 0) (pv 2) rfl) (pss_cons (ps_fld (pv 0) (pv 3) rfl) (pss_cons (ps_fld (pv 0) (pv 4) rfl) (pss_one (ps_fld (pv 0) (pv 5) rfl)))))))))), ?_⟩
  refine ⟨_, rfl, m, rfl, a1.kind G.row, _, rfl, ?_⟩
  have no : ∀ wd, rowDue m p mv t a = some wd → tMkO CE (spErr CE) [] (tCons (tC (.str wd)) tNil) (start ["self", "mode", "pick", "move", "then", "also"] [.ref x, m, p, mv, t, a]) H (fun cls d H' => E cls d H') :=
    fun wd e => raise_ok (kE wd e)
  refine ite2 (fun c => ?_) (fun c => ?_)
  · exact no "mode" (if_pos (by simpa using c))
  have c1 : ¬ nameV nameP m = false := by simpa using c
  refine ⟨_, rfl, pP, picks, a2, rfl, sP _, (by decide +kernel), _, rfl, ?_⟩
  refine ite2 (fun c => ?_) (fun c => ?_)
  · exact no "pick" ((if_neg c1).trans (if_pos (by simpa using c)))
  have c2 : ¬ pickV picks p = false := by simpa using c
  refine ⟨_, rfl, pM, moves, a3, rfl, sM _, (by decide +kernel), _, rfl, ?_⟩
  refine ite2 (fun c => ?_) (fun c => ?_)
  · exact no "move" ((if_neg c1).trans ((if_neg c2).trans (if_pos (by simpa using c))))
  have c3 : ¬ pickV moves mv = false := by simpa using c
  refine ⟨_, rfl, t, rfl, a4.kind G.row, _, rfl, ?_⟩
  refine ite2 (fun c => ?_) (fun c => ?_)
  · exact no "then" ((if_neg c1).trans ((if_neg c2).trans ((if_neg c3).trans (if_pos (by simpa using c)))))
  have c4 : ¬ nameV nameP t = false := by simpa using c
  obtain ⟨⟨ty, h1, _, h3⟩, _⟩ := a5.kind G.row
  refine ⟨_, rfl, a, .ty "bool", ty, _, isBl a, rfl, .ty "bool", h1, h3, _, rfl, ?_⟩
  refine ite2 (fun c => ?_) (fun c => ?_)
  · exact no "also" ((if_neg c1).trans ((if_neg c2).trans ((if_neg c3).trans ((if_neg c4).trans (if_pos (by simpa using c))))))
  have c5 : ¬ isBl a = false := by simpa using c
  have q := kQ ((if_neg c1).trans ((if_neg c2).trans ((if_neg c3).trans ((if_neg c4).trans (if_neg c5)))))
  have R := G.row
  refine ⟨_, rfl, _, rfl, x, C, dx, [], rfl, hx, R.cl, R.n1, (by show 0 < 1000; decide), ?_⟩
  have l1 : putF "mode" m [] = ([("mode", m)] : List (Str × V)) := by kernel_rfl
  have l2 : putF "pick" p [("mode", m)] = ([("mode", m), ("pick", p)] : List (Str × V)) := by kernel_rfl
  have l3 : putF "move" mv [("mode", m), ("pick", p)] = ([("mode", m), ("pick", p), ("move", mv)] : List (Str × V)) := by kernel_rfl
  have l4 : putF "then" t [("mode", m), ("pick", p), ("move", mv)] = ([("mode", m), ("pick", p), ("move", mv), ("then", t)] : List (Str × V)) := by kernel_rfl
  have l5 : putF "also" a [("mode", m), ("pick", p), ("move", mv), ("then", t)] = rowFs m p mv t a := by kernel_rfl
  rw [l1]
  refine ⟨_, rfl, _, rfl, x, C, dx, _, rfl, upd_same, R.cl, R.n2, (by show 1 < 1000; decide), ?_⟩
  rw [l2, upd_upd]
  refine ⟨_, rfl, _, rfl, x, C, dx, _, rfl, upd_same, R.cl, R.n3, (by show 2 < 1000; decide), ?_⟩
  rw [l3, upd_upd]
  refine ⟨_, rfl, _, rfl, x, C, dx, _, rfl, upd_same, R.cl, R.n4, (by show 3 < 1000; decide), ?_⟩
  rw [l4, upd_upd]
  refine ⟨_, rfl, _, rfl, x, C, dx, _, rfl, upd_same, R.cl, R.n5, (by show 4 < 1000; decide), ?_⟩
  rw [l5, upd_upd]
  exact q
end
end LT
namespace LT
open PySem L2
/-! ### the text of a row -/
def base4 (m p mv t : Str) : Str := Str.empty ++ m ++ " " ++ p ++ " " ++ mv ++ " " ++ t
def rowText (m p mv t : Str) (al : Bool) : Str := if al then base4 m p mv t ++ " also" else base4 m p mv t
theorem len_app (a b : Str) : (a ++ b).length = a.length + b.length := by
  show (a.cps ++ b.cps).size = _
  exact Array.size_append
theorem tl_app (a b : Str) : (a ++ b).cps.toList = a.cps.toList ++ b.cps.toList := by
  show (a.cps ++ b.cps).toList = _
  exact Array.toList_append
theorem len_base4 (m p mv t : Str) : (base4 m p mv t).length = m.length + p.length + mv.length + t.length + 3 := by
  unfold base4
  simp only [len_app]
  have h1 : (" " : Str).length = 1 := rfl
  have h0 : Str.empty.length = 0 := rfl
  omega
/-- a row made of words -/
structure Row5 where
  m : Str
  p : Str
  mv : Str
  t : Str
  al : Bool
def Row5.text (r : Row5) : Str := rowText r.m r.p r.mv r.t r.al
def Row5.fs (r : Row5) : List (Str × V) := rowFs (.str r.m) (.str r.p) (.str r.mv) (.str r.t) (.bl r.al)
def Row5.vs (r : Row5) : List V := [.str r.m, .str r.p, .str r.mv, .str r.t, .bl r.al]
structure Row5.Ok (r : Row5) : Prop where
  m : r.m.length ≤ 10
  p : r.p.length ≤ 10
  mv : r.mv.length ≤ 10
  t : r.t.length ≤ 10
/-- a made row stands at a -/
def RowAt (C : Addr) (H : Hp) (a : Addr) (r : Row5) : Prop := (∃ dx, H a = some (.ins C dx r.fs)) ∧ r.Ok
def spStr (C : Addr) : Sp := fun vs H Q _ => ∃ (a : Addr) (r : Row5), vs = [.ref a] ∧ RowAt C H a r ∧ Q (.str r.text) H
section
variable {P : Program} {w : World} {K : PySem.W.Frag} {mg : Str → Option Value} {base : Heap}
theorem scStr : FnScope ["self"] ["self"] (defScope sRowStr) := ⟨rfl, rfl, rfl, by decide +kernel, rfl, by decide +kernel, by decide +kernel⟩
theorem ok_str {C f : Addr} {fd : FuncData} (F : Fun K "__str__" "Row.__str__" sRowStr f fd) (R : RowC K mg C) : FnOk P w K mg base CX0 1 f fd ["self"] (spStr C) := by
  refine F.ok scStr (fun vs H Q E h => ?_) (fun cdv A outer s H vs Q E hr h => ?_)
  · obtain ⟨a, r, rfl, _⟩ := h
    rfl
  obtain ⟨a, r, rfl, ⟨⟨dx, ha⟩, ok⟩, q⟩ := h
  refine ⟨_, pss_cons (ps_if (pt_val (pe_fld (pv 0) rfl)) (pss_one (ps_ret (pe_joined (.cons (pe_fmt (pe_fld (pv 0) rfl)) (.cons pe_str (.cons (pe_fmt (pe_fld (pv 0) rfl)) (.cons pe_str (.cons (pe_fmt (pe_fld (pv 0) rfl)) (.cons pe_str (.cons (pe_fmt (pe_fld (pv 0) rfl)) (.cons pe_str .nil))))))))))) pss_nil)
    (pss_one (ps_ret (pe_joined (.cons (pe_fmt (pe_fld (pv 0) rfl)) (.cons pe_str (.cons (pe_fmt (pe_fld (pv 0) rfl)) (.cons pe_str (.cons (pe_fmt (pe_fld (pv 0) rfl)) (.cons pe_str (.cons (pe_fmt (pe_fld (pv 0) rfl)) .nil)))))))))), ?_⟩
  have l1 : r.fs.lookup ("mode" : Str) = some (V.str r.m) := by kernel_rfl
  have l2 : r.fs.lookup ("pick" : Str) = some (V.str r.p) := by kernel_rfl
  have l3 : r.fs.lookup ("move" : Str) = some (V.str r.mv) := by kernel_rfl
  have l4 : r.fs.lookup ("then" : Str) = some (V.str r.t) := by kernel_rfl
  have l5 : r.fs.lookup ("also" : Str) = some (V.bl r.al) := by kernel_rfl
  have o1 := ok.m
  have o2 := ok.p
  have o3 := ok.mv
  have o4 := ok.t
  have e1 : (" " : Str).length = 1 := rfl
  have e5 : (" also" : Str).length = 5 := rfl
  have e0 : Str.empty.length = 0 := rfl
  have sz : ∀ n, n ≤ 1000 → n ≤ sizeLine := fun n h => Nat.le_of_lt (small1000 h)
  refine ⟨_, rfl, a, C, dx, _, _, rfl, ha, R.cl, R.n5, l5, _, rfl, ?_⟩
  have four : ∀ W : Str → Prop, W (base4 r.m r.p r.mv r.t) → W (base4 r.m r.p r.mv r.t) := fun _ h => h
  cases hal : r.al with
  | true =>
    have et : r.text = base4 r.m r.p r.mv r.t ++ " also" := by
      unfold Row5.text rowText
      rw [hal]
      rfl
    rw [et] at q
    refine iteT ?_
    refine ⟨_, rfl, a, C, dx, _, _, rfl, ha, R.cl, R.n1, l1, .inl ⟨_, rfl, sz _ (by omega), _, rfl, sz _ (by simp only [len_app]; omega), ?_⟩⟩
    refine ⟨_, rfl, sz _ (by simp only [len_app]; omega), _, rfl, a, C, dx, _, _, rfl, ha, R.cl, R.n2, l2, .inl ⟨_, rfl, sz _ (by omega), _, rfl, sz _ (by simp only [len_app]; omega), ?_⟩⟩
    refine ⟨_, rfl, sz _ (by simp only [len_app]; omega), _, rfl, a, C, dx, _, _, rfl, ha, R.cl, R.n3, l3, .inl ⟨_, rfl, sz _ (by omega), _, rfl, sz _ (by simp only [len_app]; omega), ?_⟩⟩
    refine ⟨_, rfl, sz _ (by simp only [len_app]; omega), _, rfl, a, C, dx, _, _, rfl, ha, R.cl, R.n4, l4, .inl ⟨_, rfl, sz _ (by omega), _, rfl, sz _ (by simp only [len_app]; omega), ?_⟩⟩
    exact ⟨_, rfl, sz _ (by simp only [len_app]; omega), q⟩
  | false =>
    have et : r.text = base4 r.m r.p r.mv r.t := by
      unfold Row5.text rowText
      rw [hal]
      rfl
    rw [et] at q
    refine iteF ?_
    refine ⟨_, rfl, a, C, dx, _, _, rfl, ha, R.cl, R.n1, l1, .inl ⟨_, rfl, sz _ (by omega), _, rfl, sz _ (by simp only [len_app]; omega), ?_⟩⟩
    refine ⟨_, rfl, sz _ (by simp only [len_app]; omega), _, rfl, a, C, dx, _, _, rfl, ha, R.cl, R.n2, l2, .inl ⟨_, rfl, sz _ (by omega), _, rfl, sz _ (by simp only [len_app]; omega), ?_⟩⟩
    refine ⟨_, rfl, sz _ (by simp only [len_app]; omega), _, rfl, a, C, dx, _, _, rfl, ha, R.cl, R.n3, l3, .inl ⟨_, rfl, sz _ (by omega), _, rfl, sz _ (by simp only [len_app]; omega), ?_⟩⟩
    refine ⟨_, rfl, sz _ (by simp only [len_app]; omega), _, rfl, a, C, dx, _, _, rfl, ha, R.cl, R.n4, l4, .inl ⟨_, rfl, sz _ (by omega), _, rfl, sz _ (by simp only [len_app]; omega), ?_⟩⟩
    exact q
/-- Row's ==: asked by a row, or by what is none -/
def spEqR (K : PySem.W.Frag) (C : Addr) : Sp := fun vs H Q _ => ∃ (a : Addr) (r : Row5) (v : V), vs = [.ref a, v] ∧ RowAt C H a r ∧
  ((Oth K H v ∧ Q (.bl false) H) ∨ ∃ (b : Addr) (q : Row5), v = .ref b ∧ RowAt C H b q ∧ Q (.bl (decide (r.text = q.text))) H)
structure KitC (K : PySem.W.Frag) (C : Addr) : Prop where
  s : PySem.W.kitOne K (.type "str") (.ref C) = some false
  n : PySem.W.kitOne K (.type "NoneType") (.ref C) = some false
  t : PySem.W.kitOne K (.type "tuple") (.ref C) = some false
  l : PySem.W.kitOne K (.type "list") (.ref C) = some false
  c : PySem.W.kitOne K (.ref C) (.ref C) = some true
theorem oth_ty {C : Addr} {H : Hp} {v : V} (T : KitC K C) (h : Oth K H v) : ∃ t, TyX K H v t ∧ PySem.W.kitOne K t (.ref C) = some false := by
  rcases h with ⟨z, rfl⟩ | rfl | ⟨a, xs, rfl, h⟩ | ⟨a, xs, rfl, h⟩
  · exact ⟨_, .base (.str z), T.s⟩
  · exact ⟨_, .base .non, T.n⟩
  · exact ⟨_, tyx_seqT h, T.t⟩
  · exact ⟨_, tyx_seqL h, T.l⟩
theorem ok_eqR {C f g : Addr} {fd gd : FuncData} (F : Fun K "__eq__" "Row.__eq__" sRowEq f fd) (T : RowC K mg C) (U : Blt2 mg) (Kc : KitC K C)
    (G : FnOk P w K mg base CX0 1 g gd ["self"] (spStr C)) (bG : Binds K gd ["self"] []) (iG : PySem.W.findIn K (.ref C) "__str__" = some (some (.ref g))) (tG : PySem.W.isFn K (.ref g) = true) :
    FnOk P w K mg base CX0 4 f fd ["self", "other"] (spEqR K C) := by
  refine F.ok scEq (fun vs H Q E h => ?_) (fun cdv A outer s H vs Q E hr h => ?_)
  · obtain ⟨a, r, v, rfl, _⟩ := h
    rfl
  obtain ⟨a, r, v, rfl, ha, h⟩ := h
  refine ⟨_, pss_one (ps_ret (pe_and (pe_callB call_isi (by rfl) U.isin boot_isin (pa_cons (pv 1) (pa_cons (pe_glob (by rfl) T.mgC (v := .ref C) rfl) pa_nil)))
    (pe_one (pe_cmpR op_eq (pe_callTy (call_strOwn G hr iG tG bG pass0) (by rfl) U.str boot_strT (pa_cons (pv 0) pa_nil)) (pe_callTy (call_strOwn G hr iG tG bG pass0) (by rfl) U.str boot_strT (pa_cons (pv 1) pa_nil)) (nomark _))))), ?_⟩
  rcases h with ⟨ot, q⟩ | ⟨b, r2, rfl, hb, q⟩
  · obtain ⟨t, h1, h2⟩ := oth_ty Kc ot
    exact ⟨_, rfl, v, .ref C, _, _, false, rfl, .own C, h1, h2, false, rfl, iteF q⟩
  · obtain ⟨⟨dx, ea⟩, oa⟩ := ha
    obtain ⟨⟨dy, eb⟩, ob⟩ := hb
    refine ⟨_, rfl, .ref b, .ref C, _, _, true, rfl, .own C, .base (.ins eb T.cl T.ha T.hn T.ht T.hm), Kc.c, true, rfl, iteT ?_⟩
    refine ⟨_, rfl, a, dx, _, rfl, ea, a, r, rfl, ⟨⟨dx, ea⟩, oa⟩, _, rfl, ?_⟩
    refine ⟨_, rfl, b, dy, _, rfl, eb, b, r2, rfl, ⟨⟨dy, eb⟩, ob⟩, _, rfl, rfl, ?_⟩
    show Q (.bl (decide (V.str r.text = V.str r2.text))) H
    have e : decide (V.str r.text = V.str r2.text) = decide (r.text = r2.text) := by
      by_cases c : r.text = r2.text
      · rw [decide_eq_true c, c]
        exact decide_eq_true rfl
      · rw [decide_eq_false c]
        exact decide_eq_false fun z => c (V.str.inj z)
    rw [← e] at q
    exact q
end
end LT
namespace LT
open PySem L2
def az : List Nat := [97, 98, 99, 100, 101, 102, 103, 104, 105, 106, 107, 108, 109, 110, 111, 112, 113, 114, 115, 116, 117, 118, 119, 120, 121, 122]
/-- a word: one to four small letters, not «also» -/
structure Wd (z : Str) : Prop where
  pos : 0 < z.length
  len : z.length ≤ 4
  az : ∀ c ∈ z.cps.toList, c ∈ az
  no : z ≠ "also"
theorem az_ok : ∀ c ∈ az, (decide (c < 128) && Unicode.isAlpha c && Unicode.isLower c && !(Unicode.isUpper c || Unicode.isTitle c)) = true := by decide +kernel
theorem az_no : ∀ c ∈ az, c ≠ 32 ∧ c < 16 ^ 8 := by decide +kernel
theorem Wd.name {z : Str} (h : Wd z) : nameP z = true := by
  have ok : ∀ c ∈ z.cps.toList, c < 128 ∧ Unicode.isAlpha c = true ∧ Unicode.isLower c = true ∧ (Unicode.isUpper c || Unicode.isTitle c) = false := fun c hc => by
    have := az_ok c (h.az c hc)
    simp only [Bool.and_eq_true, decide_eq_true_eq, Bool.not_eq_true'] at this
    exact ⟨this.1.1.1, this.1.1.2, this.1.2, this.2⟩
  have e1 : decide ((4 : Int) < (z.length : Int)) = false := decide_eq_false (by have := h.len; omega)
  have e2 : decide (V.str z = V.str "also") = false := decide_eq_false fun q => h.no (V.str.inj q)
  have e3 : Txt.isascii z = true := Array.all_eq_true'.mpr fun c hc => by
    have := (ok c (Array.mem_toList_iff.mpr hc)).1
    simpa using this
  have e4 : Txt.isalpha z = true := by
    unfold Txt.isalpha
    rw [Bool.and_eq_true]
    exact ⟨by simpa using h.pos, Array.all_eq_true'.mpr fun c hc => (ok c (Array.mem_toList_iff.mpr hc)).2.1⟩
  have e5 : Txt.islower z = true := by
    unfold Txt.islower
    rw [Bool.and_eq_true, Bool.not_eq_true']
    refine ⟨?_, ?_⟩
    · have hp : 0 < z.cps.size := h.pos
      exact Array.any_eq_true'.mpr ⟨z.cps[0], Array.getElem_mem hp, (ok _ (Array.mem_toList_iff.mpr (Array.getElem_mem hp))).2.2.1⟩
    · exact Array.any_eq_false'.mpr fun c hc => by
        rw [(ok c (Array.mem_toList_iff.mpr hc)).2.2.2]
        exact Bool.false_ne_true
  unfold nameP
  rw [e1, e2, e3, e4, e5]
  rfl
structure Good (r : Row5) : Prop where
  m : Wd r.m
  p : r.p ∈ picks
  mv : r.mv ∈ moves
  t : Wd r.t
theorem picks_ok : ∀ z ∈ picks, z.length ≤ 10 ∧ (∀ c ∈ z.cps.toList, c ≠ 32 ∧ c < 16 ^ 8) ∧ pickV picks (.str z) = true := by decide +kernel
theorem moves_ok : ∀ z ∈ moves, z.length ≤ 10 ∧ (∀ c ∈ z.cps.toList, c ≠ 32 ∧ c < 16 ^ 8) ∧ pickV moves (.str z) = true := by decide +kernel
theorem Wd.cs {z : Str} (h : Wd z) : ∀ c ∈ z.cps.toList, c ≠ 32 ∧ c < 16 ^ 8 := fun c hc => az_no c (h.az c hc)
theorem Good.ok {r : Row5} (h : Good r) : r.Ok := ⟨by have := h.m.len; omega, (picks_ok _ h.p).1, (moves_ok _ h.mv).1, by have := h.t.len; omega⟩
theorem Good.due {r : Row5} (h : Good r) : rowDue (.str r.m) (.str r.p) (.str r.mv) (.str r.t) (.bl r.al) = none := by
  have e1 : nameV nameP (.str r.m) = true := h.m.name
  have e4 : nameV nameP (.str r.t) = true := h.t.name
  unfold rowDue
  rw [e1, (picks_ok _ h.p).2.2, (moves_ok _ h.mv).2.2, e4]
  rfl
/-! ### the text tells the row -/
theorem cut_eq : ∀ {a b x y : List Nat}, (∀ c ∈ a, c ≠ 32) → (∀ c ∈ b, c ≠ 32) → a ++ 32 :: x = b ++ 32 :: y → a = b ∧ x = y
  | [], [], x, y, _, _, e => ⟨rfl, by simpa using e⟩
  | [], c :: b, x, y, _, hb, e => by
    have : (32 : Nat) = c := by
      have := congrArg List.head? e
      simpa using this
    exact absurd this.symm (hb c List.mem_cons_self)
  | c :: a, [], x, y, ha, _, e => by
    have : c = (32 : Nat) := by
      have := congrArg List.head? e
      simpa using this
    exact absurd this (ha c List.mem_cons_self)
  | c :: a, d :: b, x, y, ha, hb, e => by
    rw [List.cons_append, List.cons_append] at e
    injection e with e1 e2
    obtain ⟨q1, q2⟩ := cut_eq (fun c h => ha c (List.mem_cons_of_mem _ h)) (fun c h => hb c (List.mem_cons_of_mem _ h)) e2
    exact ⟨by rw [e1, q1], q2⟩
def tailC (al : Bool) : List Nat := if al then 32 :: [97, 108, 115, 111] else []
theorem tail_eq {a b : List Nat} {s t : Bool} (ha : ∀ c ∈ a, c ≠ 32) (hb : ∀ c ∈ b, c ≠ 32) (e : a ++ tailC s = b ++ tailC t) : a = b ∧ s = t := by
  cases s <;> cases t
  · exact ⟨by simpa [tailC] using e, rfl⟩
  · exfalso
    have e' : a = b ++ 32 :: [97, 108, 115, 111] := by simpa [tailC] using e
    exact ha 32 (by rw [e']; simp) rfl
  · exfalso
    have e' : a ++ 32 :: [97, 108, 115, 111] = b := by simpa [tailC] using e
    exact hb 32 (by rw [← e']; simp) rfl
  · exact ⟨(cut_eq (x := [97, 108, 115, 111]) (y := [97, 108, 115, 111]) ha hb e).1, rfl⟩
theorem sp_c : (" " : Str).cps.toList = [32] := by decide +kernel
theorem also_c : (" also" : Str).cps.toList = [32, 97, 108, 115, 111] := by decide +kernel
theorem emp_c : Str.empty.cps.toList = [] := rfl
theorem text_c (r : Row5) : r.text.cps.toList = r.m.cps.toList ++ 32 :: (r.p.cps.toList ++ 32 :: (r.mv.cps.toList ++ 32 :: (r.t.cps.toList ++ tailC r.al))) := by
  unfold Row5.text rowText base4
  cases r.al
  · simp only [Bool.false_eq_true, if_false, tl_app, sp_c, emp_c, tailC, List.nil_append, List.append_assoc, List.cons_append, List.append_nil]
  · simp only [if_true, tl_app, sp_c, also_c, emp_c, tailC, List.nil_append, List.append_assoc, List.cons_append]
theorem str_of {a b : Str} (h : a.cps.toList = b.cps.toList) : a = b := by
  cases a
  cases b
  exact congrArg Str.mk (Array.toList_inj.mp h)
theorem text_inj {r q : Row5} (h : Good r) (g : Good q) (e : r.text = q.text) : r = q := by
  have e' := congrArg (fun z : Str => z.cps.toList) e
  simp only [text_c] at e'
  obtain ⟨e1, e'⟩ := cut_eq (fun c hc => (h.m.cs c hc).1) (fun c hc => (g.m.cs c hc).1) e'
  obtain ⟨e2, e'⟩ := cut_eq (fun c hc => ((picks_ok _ h.p).2.1 c hc).1) (fun c hc => ((picks_ok _ g.p).2.1 c hc).1) e'
  obtain ⟨e3, e'⟩ := cut_eq (fun c hc => ((moves_ok _ h.mv).2.1 c hc).1) (fun c hc => ((moves_ok _ g.mv).2.1 c hc).1) e'
  obtain ⟨e4, e5⟩ := tail_eq (fun c hc => (h.t.cs c hc).1) (fun c hc => (g.t.cs c hc).1) e'
  cases r
  cases q
  simp only at e1 e2 e3 e4 e5
  rw [str_of e1, str_of e2, str_of e3, str_of e4, e5]
def Row5.d (r : Row5) : PyData := .tuple [.str r.m, .str r.p, .str r.mv, .str r.t, .bool r.al]
theorem eqv_row {r q : Row5} (h : Good r) (g : Good q) : PyData.eqv r.d q.d = decide (r.text = q.text) := by
  show PyData.eqvAll [.str r.m, .str r.p, .str r.mv, .str r.t, .bool r.al] [.str q.m, .str q.p, .str q.mv, .str q.t, .bool q.al] = _
  simp only [PyData.eqvAll, PyData.eqv, Bool.and_true]
  by_cases c : r.text = q.text
  · rw [decide_eq_true c, text_inj h g c]
    simp
  · rw [decide_eq_false c]
    refine Bool.eq_false_iff.mpr fun z => c ?_
    simp only [Bool.and_eq_true, beq_iff_eq] at z
    obtain ⟨z1, z2, z3, z4, z5⟩ := z
    cases r
    cases q
    simp only at z1 z2 z3 z4 z5
    subst z1 z2 z3 z4 z5
    rfl
theorem az_top : ∀ c ∈ az, c < 0x110000 := by decide +kernel
theorem Wd.top {z : Str} (h : Wd z) : PyData.strOk z = true := Array.all_eq_true'.mpr fun c hc => by
  have := az_top c (h.az c (Array.mem_toList_iff.mpr hc))
  simpa using this
theorem picks_top : ∀ z ∈ picks, PyData.strOk z = true := by decide +kernel
theorem moves_top : ∀ z ∈ moves, PyData.strOk z = true := by decide +kernel
theorem d_shaped {r : Row5} (h : Good r) : SeqAt.shaped r.d = true := by
  show ((PyData.tuple _).canLay0 && decide ((PyData.tuple _).depth ≤ 64)) = true
  simp [PyData.canLay0, PyData.canLayAll0, PyData.depth, PyData.depthAll, h.m.top, h.t.top, picks_top _ h.p, moves_top _ h.mv]
theorem str_arg {K : PySem.W.Frag} {C : Addr} {H : Hp} {z : Str} (h : PyData.strOk z = true) (hl : z.length ≤ 100) : Arg K C H (.str z) :=
  .inl ⟨.str z, .str z, by
    show ((PyData.str z).canLay0 && decide ((PyData.str z).depth ≤ 64)) = true
    simp [PyData.canLay0, PyData.depth, h], fun y e => by cases e; exact hl⟩
theorem bl_arg {K : PySem.W.Frag} {C : Addr} {H : Hp} {b : Bool} : Arg K C H (.bl b) := .inl ⟨.bool b, .bl b, rfl, fun y e => nomatch e⟩
theorem Good.args {K : PySem.W.Frag} {C : Addr} {H : Hp} {r : Row5} (h : Good r) : Arg K C H (.str r.m) ∧ Arg K C H (.str r.p) ∧ Arg K C H (.str r.mv) ∧ Arg K C H (.str r.t) ∧ Arg K C H (.bl r.al) :=
  ⟨str_arg h.m.top (by have := h.ok.m; omega), str_arg (picks_top _ h.p) (by have := h.ok.p; omega), str_arg (moves_top _ h.mv) (by have := h.ok.mv; omega), str_arg h.t.top (by have := h.ok.t; omega), bl_arg⟩
theorem d_depth (r : Row5) : r.d.depth ≤ 50 := by
  show PyData.depth (.tuple _) ≤ 50
  simp [PyData.depth, PyData.depthAll]
theorem d_showable (r : Row5) : r.d.showable = true := by
  show PyData.showable (.tuple _) = true
  simp [PyData.showable, PyData.showableAll]
theorem d_noDict (r : Row5) : r.d.hasDict = false := by
  show PyData.hasDict (.tuple _) = false
  simp [PyData.hasDict, PyData.hasDictAll]
theorem d_shown {r : Row5} (h : Good r) : r.d.shown.length ≤ sizeLine := by
  have e : r.d.shown = tupleText [reprText r.m, reprText r.p, reprText r.mv, reprText r.t, (PyData.bool r.al).shown] := by
    show PyData.shown (.tuple _) = _
    simp only [PyData.shown, PyData.shownAll]
  rw [e]
  have h1 := StrLaws.reprText_len r.m fun c hc => (h.m.cs c hc).2
  have h2 := StrLaws.reprText_len r.p fun c hc => ((picks_ok _ h.p).2.1 c hc).2
  have h3 := StrLaws.reprText_len r.mv fun c hc => ((moves_ok _ h.mv).2.1 c hc).2
  have h4 := StrLaws.reprText_len r.t fun c hc => (h.t.cs c hc).2
  have h5 : ((PyData.bool r.al).shown).length ≤ 5 := by
    cases r.al <;> decide +kernel
  have o := h.ok
  have o1 := o.m
  have o2 := o.p
  have o3 := o.mv
  have o4 := o.t
  have k := fmt_text [reprText r.m, reprText r.p, reprText r.mv, reprText r.t, (PyData.bool r.al).shown]
  simp only [piled_cons, piled_nil] at k
  exact Nat.le_of_lt (small1000 (by omega))
theorem dp_row {K : PySem.W.Frag} {H : Hp} {a : Addr} {r : Row5} (h : SqT K H a r.vs) : Dp K H (.ref a) r.d := .tup h (.cons (.str _) (.cons (.str _) (.cons (.str _) (.cons (.str _) (.cons (.bl _) .nil)))))
theorem row_join (r : Row5) : Txt.join " " [r.m, r.p, r.mv, r.t] ++ (if r.al then (" also" : Str) else "") = r.text := by
  refine str_of ?_
  rw [text_c, tl_app]
  have e : (Txt.join " " [r.m, r.p, r.mv, r.t]).cps.toList = r.m.cps.toList ++ 32 :: (r.p.cps.toList ++ 32 :: (r.mv.cps.toList ++ 32 :: r.t.cps.toList)) := by
    show (r.m.cps ++ (" " : Str).cps ++ r.p.cps ++ (" " : Str).cps ++ r.mv.cps ++ (" " : Str).cps ++ r.t.cps).toList = _
    simp only [Array.toList_append, sp_c, List.append_assoc, List.cons_append, List.nil_append]
  rw [e]
  cases r.al
  · have z : (("" : Str)).cps.toList = [] := rfl
    simp [tailC, z]
  · simp [tailC, also_c]
end LT
namespace LT
open PySem L2
/-! ### comprehensions that draw -/
def LoopP (Pr : V → Hp → Prop) (b : Addr) (H2 : Hp) (D : Addr) (i : Nat) (J : Hp) : Prop :=
  ∃ vs : List V, J D = some (.lst vs) ∧ vs.length = i ∧ (∀ v ∈ vs, Pr v (frs (upd H2 D (.lst [])) J)) ∧ Box J b ∧ H2 D = none ∧ D ≠ b ∧ ∀ c o, c ≠ b → H2 c = some o → J c = some o
theorem loopP_start {Pr : V → Hp → Prop} {b D : Addr} {H2 : Hp} (hD : H2 D = none) (hb : Box H2 b) : LoopP Pr b H2 D 0 (upd H2 D (.lst [])) := by
  obtain ⟨x, y, e⟩ := hb
  have n : D ≠ b := fun z => by rw [z, e] at hD; cases hD
  exact ⟨[], upd_same, rfl, (fun _ h => nomatch h), ⟨x, y, by rw [upd_ne (Ne.symm n)]; exact e⟩, hD, n, fun c o _ q => by rw [upd_ne (ne_of_none q hD)]; exact q⟩
theorem loopP_turn {Pr : V → Hp → Prop} (mono : ∀ v G L, Same G L → Pr v G → Pr v L) {b D : Addr} {i : Nat} {H2 J L : Hp} {v : V} (h : LoopP Pr b H2 D i J) (hb2 : Box H2 b) (hv : Pr v (frs J L)) (k : Kb b J L) (hb : Box L b) :
    ∃ acc, L D = some (.lst acc) ∧ acc.length = i ∧ LoopP Pr b H2 D (i + 1) (upd L D (.lst (acc ++ [v]))) := by
  obtain ⟨vs, h1, h2, h3, ⟨x0, y0, h5⟩, h6, h7, h8⟩ := h
  obtain ⟨x, y, e⟩ := hb
  obtain ⟨x2, y2, e2⟩ := hb2
  have g : ∀ c, upd H2 D (.lst []) c = none → c ≠ b ∧ c ≠ D := fun c z => ⟨(fun q => by rw [q, upd_ne (Ne.symm h7), e2] at z; cases z), (fun q => by rw [q, upd_same] at z; cases z)⟩
  refine ⟨vs, k D _ h7 h1, h2, vs ++ [v], upd_same, by rw [List.length_append, h2]; rfl, fun u hu => ?_, ⟨x, y, by rw [upd_ne (Ne.symm h7)]; exact e⟩, h6, h7, fun c o n q => ?_⟩
  · rcases List.mem_append.mp hu with q | q
    · refine mono u _ _ (frs_same fun c o n z => ?_) (h3 u q)
      obtain ⟨cb, cD⟩ := g c n
      exact ⟨n, by rw [upd_ne cD]; exact k c o cb z⟩
    · rw [List.mem_singleton.mp q]
      refine mono v _ _ (frs_same fun c o n z => ?_) hv
      have cD : c ≠ D := fun q => by rw [q, h1] at n; cases n
      have cb : c ≠ b := fun q => by rw [q, h5] at n; cases n
      refine ⟨?_, by rw [upd_ne cD]; exact z⟩
      rw [upd_ne cD]
      cases w : H2 c with
      | none => rfl
      | some u =>
        rw [h8 c u cb w] at n
        cases n
  · have cD : c ≠ D := fun z => by rw [z, h6] at q; cases q
    rw [upd_ne cD]
    exact k c o n (h8 c o n q)
/-! ### words -/
def letS : Str := "abcdefghijklmnopqrstuvwxyz"
theorem letS_c : letS.cps.toList = az := by decide +kernel
theorem letS_n : letS.length = 26 := by decide +kernel
def sign (c : Nat) : Str := ⟨#[c]⟩
theorem fold_c : ∀ (r : List Str) (acc : Array Nat), (r.foldl (fun a p => a ++ ("" : Str).cps ++ p.cps) acc).toList = acc.toList ++ r.flatMap fun p => p.cps.toList
  | [], acc => by simp
  | y :: r, acc => by
    rw [List.foldl_cons, fold_c r]
    have z : ("" : Str).cps = #[] := rfl
    simp [z]
theorem join_c (ys : List Str) : (Txt.join "" ys).cps.toList = ys.flatMap fun p => p.cps.toList := by
  cases ys with
  | nil => rfl
  | cons y r => exact fold_c r y.cps
theorem join_word {cs : List Nat} (h0 : 0 < cs.length) (h4 : cs.length ≤ 4) (hc : ∀ c ∈ cs, c ∈ az) : ∀ z, z = Txt.join "" (cs.map sign) → z ≠ "also" → Wd z := by
  intro z e no
  have ec : z.cps.toList = cs := by
    rw [e, join_c, List.flatMap_map]
    exact List.flatMap_singleton' cs
  have el : z.length = cs.length := by
    rw [← ec]
    exact (Array.length_toList).symm
  exact ⟨by omega, by omega, by rw [ec]; exact hc, no⟩
theorem alsa_word : Wd "alsa" := ⟨by decide, by decide, by decide +kernel, by decide +kernel⟩
def isLet (v : V) (_ : Hp) : Prop := ∃ c ∈ az, v = .str (sign c)
theorem lets_of : ∀ {vs : List V}, (∀ v ∈ vs, ∃ c ∈ az, v = .str (sign c)) → ∃ cs : List Nat, vs = (cs.map sign).map V.str ∧ cs.length = vs.length ∧ ∀ c ∈ cs, c ∈ az
  | [], _ => ⟨[], rfl, rfl, fun _ h => nomatch h⟩
  | v :: vs, h => by
    obtain ⟨cs, e, l, a⟩ := lets_of fun u hu => h u (List.mem_cons_of_mem _ hu)
    obtain ⟨c, hc, ev⟩ := h v List.mem_cons_self
    refine ⟨c :: cs, by rw [ev, e]; rfl, by rw [List.length_cons, List.length_cons, l], fun d hd => ?_⟩
    rcases List.mem_cons.mp hd with q | q
    · rw [q]
      exact hc
    · exact a d q
def spName : Sp := fun vs H Q _ => ∃ b : Addr, vs = [.ref b] ∧ Box H b ∧ ∀ (z : Str) (J : Hp), Wd z → Kb b H J → Box J b → Q (.str z) J
def nName : List Str := ["_law_box", "_law_letters", "_law_found", "_law_turn"]
section
variable {P : Program} {w : World} {K : PySem.W.Frag} {mg : Str → Option Value} {base : Heap}
theorem scName : FnScope nName ["_law_box"] (defScope sName) := ⟨rfl, rfl, rfl, by decide +kernel, rfl, by decide +kernel, by decide +kernel⟩
theorem ok_name {f g : Addr} {fd gd : FuncData} (F : Fun K "_law_name" "_law_name" sName f fd) (T : Blt mg)
    (G : FnOk P w K mg base CX0 1 g gd ["_law_box", "_law_many"] spChoose) (bG : Binds K gd ["_law_box", "_law_many"] []) (kG : PySem.W.keepIn K (.ref g) = true) (mG : mg "_law_choose" = some (.ref g)) :
    FnOk P w K mg base CX0 2 f fd ["_law_box"] spName := by
  refine F.ok scName (fun vs H Q E h => ?_) (fun cdv A outer s H vs Q E hr h => ?_)
  · obtain ⟨b, rfl, _⟩ := h
    rfl
  obtain ⟨b, rfl, hb, q⟩ := h
  refine ⟨_, (pss_cons (ps_set (i := 1) scName.nd rfl (Or.inr rfl) pe_str)
    (pss_cons (ps_set (i := 2) scName.nd rfl (Or.inl rfl) (pe_join pe_str (pe_lc (own := [("_law_turn", 3)]) (g := gName 3) (tt := tYes) (by rfl) scName.nd (pi_range1 (by rfl) T.range (pa_cons (pe_op op_add pe_int (pe_call G hr (by rfl) mG kG bG .nil pass0 (pa_cons (pv 0) (pa_cons pe_int pa_nil)))) pa_nil)) (blkOk_by (N := nName) (sc := defScope sName) (own := [("_law_turn", 3)]) (by decide +kernel)) (fun _ _ _ _ _ => pg_name (i := 3) scName.nd rfl (Or.inl rfl)) (fun _ _ _ _ _ => pts_nil) (fun _ _ _ _ _ => (pe_ix ix_str (pv 1) (pe_call G hr (by rfl) mG kG bG .nil pass0 (pa_cons (pv 0) (pa_cons pe_int pa_nil))) (fun _ _ => rfl))))))
    (pss_one (ps_ret (pe_ifExp (pt_cmpR op_eq (pv 2) pe_str (nomark _)) pe_str (pv 2)))))), ?_⟩
  refine ⟨⟨_, rfl⟩, _, rfl, b, 4, rfl, hb, by decide, by decide, fun many x2 y2 g0 g1 => ?_⟩
  have b2 : Box (upd H b (.lst [.int x2, .int y2])) b := ⟨x2, y2, upd_same⟩
  have k2 : Kb b H (upd H b (.lst [.int x2, .int y2])) := Kb.box
  generalize upd H b (.lst [.int x2, .int y2]) = H2 at b2 k2 ⊢
  refine ⟨_, _, rfl, rfl, _, rfl, by omega, by omega, fun D hD => lc_range (lo := 0) (n := (1 + many).toNat) (LoopP isLet b H2 D) (loopP_start hD b2) (fun i J hi L => ?_) (fun J L => ?_)⟩
  · have bJ : Box J b := by
      obtain ⟨_, _, _, _, z, _⟩ := L
      exact z
    refine ⟨rfl, _, rfl, _, rfl, b, 26, rfl, bJ, by decide, by decide, fun d x y d0 d1 => ?_⟩
    obtain ⟨j, rfl⟩ : ∃ j : Nat, d = (j : Int) := ⟨d.toNat, by omega⟩
    have hj : j < az.length := by
      have : az.length = 26 := rfl
      omega
    have ej : az[j]? = some az[j] := List.getElem?_eq_getElem hj
    refine ⟨letS, (j : Int), az[j], rfl, rfl, (by rw [letS_n]; decide), (by rw [letS_c]; exact atI_nat ej), ?_⟩
    obtain ⟨acc, e1, e2, e3⟩ := loopP_turn (Pr := isLet) (v := .str (sign az[j])) (fun _ _ _ _ h => h) L b2 ⟨_, List.getElem_mem hj, rfl⟩ (Kb.box (o := .lst [.int x, .int y])) ⟨x, y, upd_same⟩
    exact ⟨acc, e1, by rw [e2]; exact small1000 (by omega), e3⟩
  · obtain ⟨vs, h1, h2, h3, h4, h5, h6, h7⟩ := L
    obtain ⟨cs, rfl, hl, hc⟩ := lets_of h3
    have hcs : cs.length ≤ 4 ∧ 0 < cs.length := by omega
    have hsum : ((cs.map sign).map (·.length)).sum + (cs.map sign).length * ("" : Str).length ≤ 16777216 := by
      have e0 : ("" : Str).length = 0 := rfl
      have e1 : ∀ l : List Nat, ((l.map sign).map (·.length)).sum = l.length := fun l => by
        induction l with
        | nil => rfl
        | cons a l ih =>
          rw [List.map_cons, List.map_cons, List.sum_cons, ih, List.length_cons]
          have : (sign a).length = 1 := rfl
          omega
      rw [e0, e1]
      omega
    refine ⟨"", D, cs.map sign, rfl, rfl, .inl (SqL.of h1), hsum, ?_⟩
    refine ⟨_, rfl, rfl, _, rfl, ?_⟩
    refine ite2 (fun c => q _ _ alsa_word (k2.trans fun c o n e => h7 c o n e) h4) (fun c => ⟨_, rfl, q _ _ (join_word hcs.2 hcs.1 hc _ rfl fun z => c ?_) (k2.trans fun c o n e => h7 c o n e) h4⟩)
    rw [z]
    rfl
end
end LT
namespace LT
open PySem L2
theorem one_pre {J : Hp} {b l : Addr} {us : List V} (hb : Box J b) (hl : J l = none) : Box (upd J l (.lst us)) b ∧ l ≠ b := by
  obtain ⟨x, y, e⟩ := hb
  exact ⟨⟨x, y, new_same hl _ _ _ e⟩, fun z => by rw [z, e] at hl; cases hl⟩
theorem one_post {J : Hp} {b l : Addr} {us : List V} (hl : J l = none) (x y : Int) : Kb b J (upd (upd J l (.lst us)) b (.lst [.int x, .int y])) ∧ Box (upd (upd J l (.lst us)) b (.lst [.int x, .int y])) b :=
  ⟨(Kb.of (new_same hl _)).trans Kb.box, ⟨x, y, upd_same⟩⟩
theorem box_new {J : Hp} {b p : Addr} {o : HO} (hb : Box J b) (hp : J p = none) : Box (upd J p o) b := by
  obtain ⟨x, y, e⟩ := hb
  exact ⟨x, y, new_same hp _ _ _ e⟩
theorem ne_box {J : Hp} {b p : Addr} (hb : Box J b) (hp : J p = none) : p ≠ b := by
  obtain ⟨x, y, e⟩ := hb
  exact fun z => by rw [z, e] at hp; cases hp
theorem str_of_ix {L : List Str} {i : Nat} {v : V} (h : (L.map V.str)[i]? = some v) : ∃ z, z ∈ L ∧ v = .str z := by
  rw [List.getElem?_map] at h
  cases e : L[i]? with
  | none =>
    rw [e] at h
    cases h
  | some z =>
    rw [e] at h
    exact ⟨z, List.mem_of_getElem? e, (Option.some.inj h).symm⟩
theorem kb_free {b p : Addr} {H J : Hp} (hb : Box J b) (k : Kb b H J) (h : J p = none) : H p = none := by
  cases w : H p with
  | none => rfl
  | some u =>
    rw [k p u (ne_box hb h) w] at h
    cases h
def picks7 : List Str := ["keep", "at", "past", "under", "all", "past", "all"]
def moves5 : List Str := ["stay", "on", "home", "on", "on"]
theorem picks7_ok : ∀ z ∈ picks7, z ∈ picks := by decide +kernel
theorem moves5_ok : ∀ z ∈ moves5, z ∈ moves := by decide +kernel
def spAnyRow (K : PySem.W.Frag) : Sp := fun vs H Q _ => ∃ (b l : Addr) (ws : List Str), vs = [.ref b, .ref l] ∧ Box H b ∧ l ≠ b ∧ SqL K H l (ws.map V.str) ∧ 0 < ws.length ∧ ws.length ≤ 1000 ∧ (∀ z ∈ ws, Wd z) ∧
  ∀ (p : Addr) (r : Row5) (J : Hp), Good r → H p = none → J p = some (.tup r.vs) → Kb b H J → Box J b → Q (.ref p) J
def nAnyRow : List Str := ["_law_box", "_law_names_here", "_law_pick", "_law_move"]
def spText (K : PySem.W.Frag) : Sp := fun vs H Q _ => ∃ (a : Addr) (r : Row5), vs = [.ref a] ∧ SqT K H a r.vs ∧ Good r ∧ ∀ J, Same H J → Q (.str r.text) J
section
variable {P : Program} {w : World} {K : PySem.W.Frag} {mg : Str → Option Value} {base : Heap}
theorem scAnyRow : FnScope nAnyRow ["_law_box", "_law_names_here"] (defScope sAnyRow) := ⟨rfl, rfl, rfl, by decide +kernel, rfl, by decide +kernel, by decide +kernel⟩
theorem ok_anyrow {f g o : Addr} {fd gd od : FuncData} (F : Fun K "_law_any_row" "_law_any_row" sAnyRow f fd)
    (G : FnOk P w K mg base CX0 1 g gd ["_law_box", "_law_many"] spChoose) (bG : Binds K gd ["_law_box", "_law_many"] []) (kG : PySem.W.keepIn K (.ref g) = true) (mG : mg "_law_choose" = some (.ref g))
    (O : FnOk P w K mg base CX0 2 o od ["_law_box", "_law_some"] (spOneOf K)) (bO : Binds K od ["_law_box", "_law_some"] []) (kO : PySem.W.keepIn K (.ref o) = true) (mO : mg "_law_one_of" = some (.ref o)) :
    FnOk P w K mg base CX0 3 f fd ["_law_box", "_law_names_here"] (spAnyRow K) := by
  refine F.ok scAnyRow (fun vs H Q E h => ?_) (fun cdv A outer s H vs Q E hr h => ?_)
  · obtain ⟨b, l, ws, rfl, _⟩ := h
    rfl
  obtain ⟨b, l, ws, rfl, hb, hlb, hL, w0, w1, hw, q⟩ := h
  have hr1 : Room 1 _ := hr.mono (by decide)
  refine ⟨_, (pss_cons (ps_set (i := 2) scAnyRow.nd rfl (Or.inl rfl) (pe_call O hr (by rfl) mO kO bO .nil pass0 (pa_cons (pv 0) (pa_cons (pe_lst (pa_cons pe_str (pa_cons pe_str (pa_cons pe_str (pa_cons pe_str (pa_cons pe_str (pa_cons pe_str (pa_cons pe_str pa_nil)))))))) pa_nil))))
    (pss_cons (ps_set (i := 3) scAnyRow.nd rfl (Or.inl rfl) (pe_call O hr (by rfl) mO kO bO .nil pass0 (pa_cons (pv 0) (pa_cons (pe_lst (pa_cons pe_str (pa_cons pe_str (pa_cons pe_str (pa_cons pe_str (pa_cons pe_str pa_nil)))))) pa_nil))))
    (pss_one (ps_ret (pe_tup (pa_cons (pe_call O hr (by rfl) mO kO bO .nil pass0 (pa_cons (pv 0) (pa_cons (pv 1) pa_nil))) (pa_cons (pv 2) (pa_cons (pv 3) (pa_cons (pe_call O hr (by rfl) mO kO bO .nil pass0 (pa_cons (pv 0) (pa_cons (pv 1) pa_nil))) (pa_cons (pe_cmpR op_eq (pe_call G hr1 (by rfl) mG kG bG .nil pass0 (pa_cons (pv 0) (pa_cons pe_int pa_nil))) pe_int (nomark _)) pa_nil)))))))))), ?_⟩
  refine ⟨_, rfl, (by show 7 ≤ sizeLine; decide), fun l1 n1 => ⟨b, l1, picks7.map V.str, rfl, box_new hb n1, ne_box hb n1, SqL.of upd_same, by decide, by decide, fun i1 p x1 y1 e1 => ?_⟩⟩
  obtain ⟨p, hp, rfl⟩ := str_of_ix e1
  obtain ⟨k1, bx1⟩ := one_post (b := b) (us := [.str "keep", .str "at", .str "past", .str "under", .str "all", .str "past", .str "all"]) n1 x1 y1
  generalize upd (upd H l1 _) b _ = J1 at k1 bx1 ⊢
  refine ⟨_, rfl, (by show 5 ≤ sizeLine; decide), fun l2 n2 => ⟨b, l2, moves5.map V.str, rfl, box_new bx1 n2, ne_box bx1 n2, SqL.of upd_same, by decide, by decide, fun i2 mv x2 y2 e2 => ?_⟩⟩
  obtain ⟨mv, hv, rfl⟩ := str_of_ix e2
  obtain ⟨k2, bx2⟩ := one_post (b := b) (us := [.str "stay", .str "on", .str "home", .str "on", .str "on"]) n2 x2 y2
  have k2 := k1.trans k2
  generalize upd (upd J1 l2 _) b _ = J2 at k2 bx2 ⊢
  have hwl : 0 < (ws.map V.str).length ∧ (ws.map V.str).length ≤ 1000 := by
    rw [List.length_map]
    exact ⟨w0, w1⟩
  refine ⟨_, rfl, _, rfl, b, l, ws.map V.str, rfl, bx2, hlb, k2.seq hlb hL, hwl.1, hwl.2, fun i3 m x3 y3 e3 => ?_⟩
  obtain ⟨m, hm, rfl⟩ := str_of_ix e3
  have bx3 : Box (upd J2 b (.lst [.int x3, .int y3])) b := ⟨x3, y3, upd_same⟩
  have k3 : Kb b H (upd J2 b (.lst [.int x3, .int y3])) := k2.trans Kb.box
  generalize upd J2 b _ = J3 at k3 bx3 ⊢
  refine ⟨_, rfl, _, rfl, _, rfl, _, rfl, b, l, ws.map V.str, rfl, bx3, hlb, k3.seq hlb hL, hwl.1, hwl.2, fun i4 t x4 y4 e4 => ?_⟩
  obtain ⟨t, ht, rfl⟩ := str_of_ix e4
  have bx4 : Box (upd J3 b (.lst [.int x4, .int y4])) b := ⟨x4, y4, upd_same⟩
  have k4 : Kb b H (upd J3 b (.lst [.int x4, .int y4])) := k3.trans Kb.box
  generalize upd J3 b _ = J4 at k4 bx4 ⊢
  refine ⟨_, rfl, b, 7, rfl, bx4, by decide, by decide, fun d x5 y5 d0 d1 => ⟨rfl, ⟨(by show 5 ≤ sizeLine; decide), fun a na => ?_⟩⟩⟩
  have bx5 : Box (upd J4 b (.lst [.int x5, .int y5])) b := ⟨x5, y5, upd_same⟩
  have k5 : Kb b H (upd J4 b (.lst [.int x5, .int y5])) := k4.trans Kb.box
  obtain ⟨k, hk⟩ : ∃ k : Bool, k = decide (V.int d = V.int 0) := ⟨_, rfl⟩
  rw [← hk]
  generalize upd J4 b _ = J5 at k5 bx5 na ⊢
  refine q a ⟨m, p, mv, t, k⟩ _ ⟨hw m hm, picks7_ok p hp, moves5_ok mv hv, hw t ht⟩ (kb_free bx5 k5 na) upd_same (k5.trans (Kb.of (new_same na _))) (box_new bx5 na)
theorem scRowText : FnScope ["_law_row"] ["_law_row"] (defScope sRowText) := ⟨rfl, rfl, rfl, by decide +kernel, rfl, by decide +kernel, by decide +kernel⟩
theorem ok_rowtext {f : Addr} {fd : FuncData} (F : Fun K "_law_row_text" "_law_row_text" sRowText f fd) : FnOk P w K mg base CX0 1 f fd ["_law_row"] (spText K) := by
  refine F.ok scRowText (fun vs H Q E h => ?_) (fun cdv A outer s H vs Q E hr h => ?_)
  · obtain ⟨a, r, rfl, _⟩ := h
    rfl
  obtain ⟨a, r, rfl, ha, g, q⟩ := h
  refine ⟨_, (pss_one (ps_ret (pe_op op_add_str (pe_join pe_str (pe_slice sl_tup (pv 0) po_none (po_some pe_int))) (pe_ifExp (pt_val (pe_ix ix_tup (pv 0) pe_int (fun _ _ => rfl))) pe_str pe_str)))), ?_⟩
  have o := g.ok
  have o1 := o.m
  have o2 := o.p
  have o3 := o.mv
  have o4 := o.t
  refine ⟨⟨_, rfl⟩, _, rfl, _, rfl, ⟨a, r.vs, rfl, ha, (by show ¬ (HT.sIx 5 0 none = 0 ∧ HT.sIx 5 5 (some 4) = 5); decide), fun p np => ?_⟩⟩
  have s1 := new_same np (.tup (cutV r.vs none (some 4)))
  have e4 : cutV r.vs none (some 4) = ([r.m, r.p, r.mv, r.t] : List Str).map V.str := rfl
  refine ⟨" ", p, [r.m, r.p, r.mv, r.t], rfl, rfl, .inr (SqT.of (by rw [e4]; exact upd_same)), ?_, ?_⟩
  · have e1 : (" " : Str).length = 1 := rfl
    simp only [List.map_cons, List.map_nil, List.sum_cons, List.sum_nil, List.length_cons, List.length_nil, e1]
    omega
  have hJ : (Txt.join " " [r.m, r.p, r.mv, r.t]).length ≤ 100 := by
    have e := row_join r
    have h1 : (Txt.join " " [r.m, r.p, r.mv, r.t] ++ (if r.al then (" also" : Str) else "")).length = r.text.length := congrArg _ e
    have h2 : r.text.length ≤ 100 := by
      have k := len_base4 r.m r.p r.mv r.t
      unfold Row5.text rowText
      have e5 : (" also" : Str).length = 5 := rfl
      split
      · rw [len_app, e5, k]
        omega
      · rw [k]
        omega
    rw [len_app] at h1
    omega
  have ej := row_join r
  refine ⟨_, rfl, a, r.vs, 4, .bl r.al, rfl, rfl, SqT.ext ha s1, rfl, _, rfl, ?_⟩
  cases hal : r.al with
  | true =>
    rw [hal] at ej
    refine iteT ⟨_, _, rfl, rfl, Nat.le_of_lt (small1000 ?_), ?_⟩
    · have e5 : (" also" : Str).length = 5 := rfl
      omega
    · have z := q _ s1
      rw [← ej] at z
      exact z
  | false =>
    rw [hal] at ej
    refine iteF ⟨_, _, rfl, rfl, Nat.le_of_lt (small1000 ?_), ?_⟩
    · have e5 : ("" : Str).length = 0 := rfl
      omega
    · have z := q _ s1
      rw [← ej] at z
      exact z
end
end LT
namespace LT
open PySem L2
def spLaw (K : PySem.W.Frag) : Sp := fun vs H Q _ => ∃ (a : Addr) (ns : List Int), vs = [.ref a] ∧ SqL K H a (ns.map V.int) ∧ ns.length ≤ 63 ∧ ∀ J, Q (.bl true) J
structure Blt3 (mg : Str → Option Value) : Prop where
  max : mg "max" = none
  min : mg "min" = none
  zip : mg "zip" = none
  repr : mg "repr" = none
  list : mg "list" = none
theorem boot_repr : bootBuiltins "repr" = some (.builtin "repr") := by decide +kernel
abbrev nLaw : List Str := ["_law_script", "_law_k", "_law_box", "_law_names_here", "_law_rows", "_law_made", "_law_row", "_law_one", "_law_kept", "_law_other", "_law_two", "_law_turn"]
def isWd (v : V) (_ : Hp) : Prop := ∃ z, v = .str z ∧ Wd z
def isRow (v : V) (G : Hp) : Prop := ∃ (p : Addr) (r : Row5), v = .ref p ∧ G p = some (.tup r.vs) ∧ Good r
theorem isRow_mono : ∀ v G L, Same G L → isRow v G → isRow v L := fun v G L s ⟨p, r, e, h, g⟩ => ⟨p, r, e, s _ _ h, g⟩
theorem wds_of : ∀ {vs : List V}, (∀ v ∈ vs, ∃ z, v = .str z ∧ Wd z) → ∃ ws : List Str, vs = ws.map V.str ∧ ws.length = vs.length ∧ ∀ z ∈ ws, Wd z
  | [], _ => ⟨[], rfl, rfl, fun _ h => nomatch h⟩
  | v :: vs, h => by
    obtain ⟨ws, e, l, a⟩ := wds_of fun u hu => h u (List.mem_cons_of_mem _ hu)
    obtain ⟨z, ev, hz⟩ := h v List.mem_cons_self
    refine ⟨z :: ws, by rw [ev, e]; rfl, by rw [List.length_cons, List.length_cons, l], fun d hd => ?_⟩
    rcases List.mem_cons.mp hd with q | q
    · rw [q]
      exact hz
    · exact a d q
def four : List Str := ["all", "home", "then", "alsa"]
theorem four_wd : ∀ z ∈ four, Wd z := by
  have all : ∀ z ∈ four, 0 < z.length ∧ z.length ≤ 4 ∧ (∀ c ∈ z.cps.toList, c ∈ az) ∧ z ≠ "also" := by decide +kernel
  exact fun z hz => ⟨(all z hz).1, (all z hz).2.1, (all z hz).2.2.1, (all z hz).2.2.2⟩
/-- a drawn row and the row that is made of it -/
def Pair (C : Addr) (J : Hp) (v u : V) : Prop := ∃ (p a : Addr) (r : Row5), v = .ref p ∧ u = .ref a ∧ J p = some (.tup r.vs) ∧ RowAt C J a r ∧ Good r
theorem Pair.mono {C : Addr} {J L : Hp} {v u : V} (h : Pair C J v u) (s : ∀ c o, (∀ ys, o ≠ HO.lst ys) → J c = some o → L c = some o) : Pair C L v u := by
  obtain ⟨p, a, r, e1, e2, h1, ⟨⟨dx, h2⟩, ok⟩, g⟩ := h
  exact ⟨p, a, r, e1, e2, s _ _ (fun _ z => nomatch z) h1, ⟨⟨dx, s _ _ (fun _ z => nomatch z) h2⟩, ok⟩, g⟩
structure St2 (C LR LM : Addr) (ps us : List V) (J : Hp) : Prop where
  r : J LR = some (.lst ps)
  m : J LM = some (.lst us)
  l : ps.length = us.length
  e : ps.length = 8
  pr : ∀ (j : Nat) (v u : V), ps[j]? = some v → us[j]? = some u → Pair C J v u
theorem St2.mono {C LR LM : Addr} {ps us : List V} {J L : Hp} (s : Same J L) (h : St2 C LR LM ps us J) : St2 C LR LM ps us L :=
  ⟨s _ _ h.r, s _ _ h.m, h.l, h.e, fun j v u e1 e2 => (h.pr j v u e1 e2).mono fun c o _ q => s c o q⟩
theorem ite_nb {dd : Bool} {A B : Prop} (h : B) : if decide (V.bl (!dd) = V.bl dd) = true then A else B := by
  have e : decide (V.bl (!dd) = V.bl dd) = false := decide_eq_false fun z => by
    have := V.bl.inj z
    cases dd <;> cases this
  rw [e]
  exact iteF h
theorem seq_both {tt : TT} {a1 a2 b : TS} {D : Ends} {σ : L2.St} {H : Hp} (r : ∀ L, Same H L → b D σ L) (m : (∀ L, Same H L → b D σ L) → tSeq (tIfS tt a1 a2) b D σ H) : tSeq (tIfS tt a1 a2) b D σ H := m r
theorem made_same {M : Hp} {x dx C : Addr} {fs : List (Str × V)} (nx : M x = none) (ndx : M dx = none) : Same M (upd (upd (upd M dx (.own x)) x (.ins C dx [])) x (.ins C dx fs)) := fun c o e => by
  have n1 := ne_of_none e nx
  have n2 := ne_of_none e ndx
  rw [upd_ne n1, upd_ne n1, upd_ne n2]
  exact e
theorem get_snoc {us : List V} {z u : V} {j : Nat} (h : (us ++ [z])[j]? = some u) : us[j]? = some u ∨ (j = us.length ∧ u = z) := by
  by_cases c : j < us.length
  · rw [List.getElem?_append_left c] at h
    exact .inl h
  · rw [List.getElem?_append_right (by omega)] at h
    have e : j - us.length = 0 := by
      cases w : j - us.length with
      | zero => rfl
      | succ n =>
        rw [w] at h
        simp at h
    rw [e] at h
    simp at h
    exact .inr ⟨by omega, h.symm⟩
section
variable {P : Program} {w : World} {K : PySem.W.Frag} {mg : Str → Option Value} {base : Heap}
theorem scLaw : FnScope nLaw ["_law_script"] (defScope sLaw) := ⟨rfl, rfl, rfl, by decide +kernel, rfl, by decide +kernel, by decide +kernel⟩
structure LawG (P : Program) (w : World) (K : PySem.W.Frag) (mg : Str → Option Value) (base : Heap) (C CE : Addr) : Prop where
  seed : ∃ (f : Addr) (fd : FuncData), FnOk P w K mg base CX0 1 f fd ["_law_script", "_law_k"] (spSeed K) ∧ Binds K fd ["_law_script", "_law_k"] [] ∧ PySem.W.keepIn K (.ref f) = true ∧ mg "_law_seed" = some (.ref f)
  name : ∃ (f : Addr) (fd : FuncData), FnOk P w K mg base CX0 2 f fd ["_law_box"] spName ∧ Binds K fd ["_law_box"] [] ∧ PySem.W.keepIn K (.ref f) = true ∧ mg "_law_name" = some (.ref f)
  any : ∃ (f : Addr) (fd : FuncData), FnOk P w K mg base CX0 3 f fd ["_law_box", "_law_names_here"] (spAnyRow K) ∧ Binds K fd ["_law_box", "_law_names_here"] [] ∧ PySem.W.keepIn K (.ref f) = true ∧ mg "_law_any_row" = some (.ref f)
  text : ∃ (f : Addr) (fd : FuncData), FnOk P w K mg base CX0 1 f fd ["_law_row"] (spText K) ∧ Binds K fd ["_law_row"] [] ∧ PySem.W.keepIn K (.ref f) = true ∧ mg "_law_row_text" = some (.ref f)
  make : ∃ (g : Addr) (gd : FuncData), Mk K C g ∧ FnOk P w K mg base (L2.CX P w) 3 g gd ["self", "mode", "pick", "move", "then", "also"] (spRow K C CE) ∧ Binds K gd ["self", "mode", "pick", "move", "then", "also"] [] ∧ ∃ ds, Vals [.bl false] ds ∧ Binds K gd ["self", "mode", "pick", "move", "then", "also"] ds
  str : ∃ (g : Addr) (gd : FuncData), FnOk P w K mg base CX0 1 g gd ["self"] (spStr C) ∧ Binds K gd ["self"] [] ∧ PySem.W.findIn K (.ref C) "__str__" = some (some (.ref g)) ∧ PySem.W.isFn K (.ref g) = true
  eq : ∃ (g : Addr) (gd : FuncData), FnOk P w K mg base CX0 4 g gd ["self", "other"] (spEqR K C) ∧ Binds K gd ["self", "other"] [] ∧ PySem.W.findIn K (.ref C) "__eq__" = some (some (.ref g)) ∧ PySem.W.isFn K (.ref g) = true
  ne : PySem.W.findIn K (.ref C) "__ne__" = some (some (.builtin "object.__ne__"))
  ob : PySem.W.mroIn K C (.type "object") = some true
  ns : NoSub K C
theorem ok_law {C CE f : Addr} {fd : FuncData} (F : Fun K "law" "law" sLaw f fd) (T : Blt mg) (U : Blt2 mg) (Z : Blt3 mg) (R : RowC K mg C) (G : LawG P w K mg base C CE) : FnG P w K mg base CX0 6 f fd ["_law_script"] (spLaw K) := by
  obtain ⟨fS, dS, GS, bS, kS, mS⟩ := G.seed
  obtain ⟨fN, dN, GN, bN, kN, mN⟩ := G.name
  obtain ⟨fA, dA, GA, bA, kA, mA⟩ := G.any
  obtain ⟨fT, dT, GT, bT, kT, mT⟩ := G.text
  obtain ⟨fM, dM, M, GM, b6, ds, v5, b5⟩ := G.make
  obtain ⟨fZ, dZ, GZ, bZ, iZ, tZ⟩ := G.str
  obtain ⟨fE, dE, GE, bE, iE, tE⟩ := G.eq
  have nE := G.ne
  have hmE := G.ob
  have NS := G.ns
  refine F.okG scLaw (fun vs H Q E h => ?_) (fun cdv A outer s H vs Q E hg hr h => ?_)
  · obtain ⟨a, ns, rfl, _⟩ := h
    rfl
  obtain ⟨a, ns, rfl, hS, h63, q⟩ := h
  have hr1 : Room 1 _ := hr.mono (by decide)
  have hr2 : Room 2 _ := hr.mono (by decide)
  have hr3 : Room 3 _ := hr.mono (by decide)
  have hr4 : Room 4 _ := hr.mono (by decide)
  refine ⟨_, (pss_cons (ps_for PassesOwn.never rfl (pi_range1 (by rfl) T.range (pa_cons (pe_callB (call_max2 rfl) (by rfl) Z.max (by decide +kernel) (pa_cons pe_int (pa_cons (pe_callB (call_min2 rfl) (by rfl) Z.min (by decide +kernel) (pa_cons pe_int (pa_cons (pe_callB call_len_seq (by rfl) T.len PySem.boot_len (pa_cons (pv 0) pa_nil)) pa_nil))) pa_nil))) pa_nil)) (pg_name (i := 1) scLaw.nd rfl (Or.inl rfl))
    (pss_cons (ps_set (i := 2) scLaw.nd rfl (Or.inr rfl) (pe_call GS hr1 (by rfl) mS kS bS .nil pass0 (pa_cons (pv 0) (pa_cons (pv 1) pa_nil))))
      (pss_cons (ps_set (i := 3) scLaw.nd rfl (Or.inr rfl) (pe_op op_cat (pe_lc (own := [("_law_turn", 11)]) (g := gName 11) (tt := tYes) (by rfl) scLaw.nd (pi_range1 (by rfl) T.range (pa_cons pe_int pa_nil)) (blkOk_by (N := nLaw) (sc := defScope sLaw) (own := [("_law_turn", 11)]) (by decide +kernel)) (fun _ _ _ _ _ => pg_name (i := 11) scLaw.nd rfl (Or.inl rfl)) (fun _ _ _ _ _ => pts_nil) (fun _ _ _ _ _ => (pe_call GN hr2 (by rfl) mN kN bN .nil pass0 (pa_cons (pv 2) pa_nil)))) (pe_lst (pa_cons pe_str (pa_cons pe_str (pa_cons pe_str (pa_cons pe_str pa_nil)))))))
      (pss_cons (ps_setLc (i := 4) (own := [("_law_turn", 11)]) (g := gName 11) (tt := tYes) rfl scLaw.nd rfl rfl (sw_true rfl rfl rfl (by decide +kernel)) (pi_range1 (by rfl) T.range (pa_cons pe_int pa_nil)) (blkOk_by (N := nLaw) (sc := defScope sLaw) (own := [("_law_turn", 11)]) (by decide +kernel)) (fun _ _ _ _ _ => pg_name (i := 11) scLaw.nd rfl (Or.inl rfl)) (fun _ _ _ _ _ => pts_nil) (fun _ _ _ _ _ => (pe_call GA hr3 (by rfl) mA kA bA .nil pass0 (pa_cons (pv 2) (pa_cons (pv 3) pa_nil)))))
      (pss_cons (ps_setLc (i := 5) (own := [("_law_row", 6)]) (g := gName 6) (tt := tYes) rfl scLaw.nd rfl rfl (sw_true rfl rfl rfl (by decide +kernel)) (pi_list (pv 4)) (blkOk_by (N := nLaw) (sc := defScope sLaw) (own := [("_law_row", 6)]) (by decide +kernel)) (fun _ _ _ _ _ => pg_name (i := 6) scLaw.nd rfl (Or.inl rfl)) (fun _ _ _ _ _ => pts_nil) (fun _ _ _ _ _ => (pe_make M GM hr4 (by rfl) R.mgC b6 .nil passL (pa_cons (pe_ix (r := rIxT K) ix_tup (pv 6) pe_int (fun _ _ => rfl)) (pa_cons (pe_ix (r := rIxT K) ix_tup (pv 6) pe_int (fun _ _ => rfl)) (pa_cons (pe_ix (r := rIxT K) ix_tup (pv 6) pe_int (fun _ _ => rfl)) (pa_cons (pe_ix (r := rIxT K) ix_tup (pv 6) pe_int (fun _ _ => rfl)) (pa_cons (pe_ix (r := rIxT K) ix_tup (pv 6) pe_int (fun _ _ => rfl)) pa_nil))))))))
      (pss_one (ps_for PassesOwn.never rfl (RZ.pi_zipA (by rfl) Z.zip (pa_cons (pv 4) (pa_cons (pv 5) pa_nil))) (pg_tup rfl (pgs_cons (pg_name (i := 6) scLaw.nd rfl (Or.inl rfl)) (pgs_cons (pg_name (i := 7) scLaw.nd rfl (Or.inl rfl)) pgs_nil)))
      (pss_cons (ps_set (i := 8) scLaw.nd rfl (Or.inl rfl) (pe_tup (pa_cons (pe_fld (pv 7) rfl) (pa_cons (pe_fld (pv 7) rfl) (pa_cons (pe_fld (pv 7) rfl) (pa_cons (pe_fld (pv 7) rfl) (pa_cons (pe_fld (pv 7) rfl) pa_nil)))))))
        (pss_cons (ps_if (PW.pt (pw_or (pt_cmpR op_ne (pe_callB (call_reprD hg hr) (by rfl) Z.repr boot_repr (pa_cons (pv 8) pa_nil)) (pe_callB (call_reprD hg hr) (by rfl) Z.repr boot_repr (pa_cons (pv 6) pa_nil)) (nomark _)) (pw_or1 (pt_cmpR op_ne (pe_callTy (call_strOwn GZ hr3 iZ tZ bZ pass0) (by rfl) U.str boot_strT (pa_cons (pv 7) pa_nil)) (pe_call GT hr1 (by rfl) mT kT bT .nil pass0 (pa_cons (pv 6) pa_nil)) (nomark _))))) (pss_one (ps_ret pe_bl)) pss_nil)
        (pss_cons (ps_if (PW.pt (pw_and (pt_not (pt_val (pe_ix ix_tup (pv 6) pe_int (fun _ _ => rfl)))) (pw_and1 (pt_cmpR (op_neOwn GE hr iE tE nE hmE bE pass0) (pe_make M GM hr4 (by rfl) R.mgC b5 v5 passL (pa_cons (pe_ix ix_tup (pv 6) pe_int (fun _ _ => rfl)) (pa_cons (pe_ix ix_tup (pv 6) pe_int (fun _ _ => rfl)) (pa_cons (pe_ix ix_tup (pv 6) pe_int (fun _ _ => rfl)) (pa_cons (pe_ix ix_tup (pv 6) pe_int (fun _ _ => rfl)) pa_nil))))) (pv 7) (nomark _))))) (pss_one (ps_ret pe_bl)) pss_nil)
        (pss_cons (ps_for PassesOwn.never rfl (RZ.pi_zipA (by rfl) Z.zip (pa_cons (pv 4) (pa_cons (pv 5) pa_nil))) (pg_tup rfl (pgs_cons (pg_name (i := 9) scLaw.nd rfl (Or.inl rfl)) (pgs_cons (pg_name (i := 10) scLaw.nd rfl (Or.inl rfl)) pgs_nil)))
        (pss_cons (ps_if (pt_cmpR op_ne (pe_cmpR (op_eqOwn GE hr4 iE tE bE pass0) (pv 7) (pv 10) (nomark _)) (pe_cmpR (op_eqD hr.units) (pv 6) (pv 9) (nomark _)) (nomark _)) (pss_one (ps_ret pe_bl)) pss_nil)
          (pss_one (ps_if (pt_cmpR op_eq (pe_cmpR (op_neOwn GE hr iE tE nE hmE bE pass0) (pv 7) (pv 10) (nomark _)) (pe_cmpR (op_eqD hr.units) (pv 6) (pv 9) (nomark _)) (nomark _)) (pss_one (ps_ret pe_bl)) pss_nil))))
        (pss_one (ps_if (pt_cmpR (op_inOwn GE hr iE tE NS bE pass0) (pv 7) (pe_tup (pa_cons (pe_callTy (call_strOwn GZ hr3 iZ tZ bZ pass0) (by rfl) U.str boot_strT (pa_cons (pv 7) pa_nil)) (pa_cons (pv 6) (pa_cons pe_non (pa_cons (pe_callTy call_list_of (by rfl) Z.list (by decide +kernel) (pa_cons (pv 6) pa_nil)) pa_nil))))) (by rfl)) (pss_one (ps_ret pe_bl)) pss_nil)))))))))))))
    (pss_one (ps_ret pe_bl))), ?_⟩
  refine ⟨_, rfl, a, _, rfl, .inl hS, _, _, rfl, _, _, rfl, ?_⟩
  have hl : (ns.map V.int).length = ns.length := List.length_map _
  obtain ⟨j, hj⟩ : ∃ j : Int, j = (if (if (((ns.map V.int).length : Nat) : Int) < 4 then (((ns.map V.int).length : Nat) : Int) else 4) > 2 then (if (((ns.map V.int).length : Nat) : Int) < 4 then (((ns.map V.int).length : Nat) : Int) else 4) else 2) := ⟨_, rfl⟩
  have bj : 0 ≤ j ∧ j ≤ 4 := by
    rw [hj]
    split <;> split <;> omega
  refine ⟨j, by rw [hj], by omega, by omega, for_range (lo := 0) (n := j.toNat) (fun _ σ J => ∃ v1 v2 v3 v4 v5 v6 v7 v8 v9 va vb, σ = [some (.ref a), v1, v2, v3, v4, v5, v6, v7, v8, v9, va, vb] ∧ Same H J) ⟨_, _, _, _, _, _, _, _, _, _, _, rfl, Same.refl _⟩ ?_ (fun σ J _ => q J)⟩
  rintro i σ J hi ⟨v1, v2, v3, v4, v5, v6, v7, v8, v9, va, vb, rfl, s⟩
  refine ⟨_, rfl, _, rfl, a, ns, 0 + (i : Int), rfl, s.seq hS, by omega, by omega, fun b x y nb => ?_⟩
  have h0 : H b = none := s.free nb
  have bx : Box (upd J b (.lst [.int x, .int y])) b := ⟨x, y, upd_same⟩
  have s1 : Same H (upd J b (.lst [.int x, .int y])) := s.trans (new_same nb _)
  generalize upd J b (.lst [.int x, .int y]) = J1 at bx s1 ⊢
  -- the names
  refine ⟨3, rfl, by decide, by decide, fun D hD => lc_range (lo := 0) (n := 3) (LoopP isWd b J1 D) (loopP_start hD bx) (fun i J hi L => ?_) (fun J L => ?_)⟩
  · have bJ : Box J b := by
      obtain ⟨_, _, _, _, z, _⟩ := L
      exact z
    refine ⟨rfl, _, rfl, b, rfl, bJ, fun z M wd kk bb => ?_⟩
    obtain ⟨acc, e1, e2, e3⟩ := loopP_turn (Pr := isWd) (v := .str z) (fun _ _ _ _ h => h) L bx ⟨z, rfl, wd⟩ kk bb
    exact ⟨acc, e1, by rw [e2]; exact small1000 (by omega), e3⟩
  obtain ⟨vs, l1, l2, l3, bx2, hD1, nD, l7⟩ := L
  obtain ⟨ws, rfl, hwl, hww⟩ := wds_of l3
  have k2 : Kb b J1 J := fun c o n e => l7 c o n e
  have s2 : Same H J := fun c o e => l7 c o (ne_of_none e h0) (s1 c o e)
  clear l3 l7 s1 k2
  refine ⟨(by show 4 ≤ sizeLine; decide), fun l nl => ⟨D, l, ws.map V.str, four.map V.str, rfl, rfl, new_same nl _ _ _ l1, upd_same, ?_, fun n nn => ?_⟩⟩
  · rw [List.length_map, List.length_map]
    exact Nat.le_of_lt (small1000 (by have : four.length = 4 := rfl; omega))
  rw [← List.map_append]
  have hws : ∀ z ∈ ws ++ four, Wd z := fun z hz => (List.mem_append.mp hz).elim (hww z) (four_wd z)
  have hwn : 0 < ((ws ++ four).map V.str).length ∧ ((ws ++ four).map V.str).length ≤ 1000 := by
    rw [List.length_map, List.length_append]
    have : four.length = 4 := rfl
    omega
  generalize ws ++ four = names at hws hwn ⊢
  have bx3 : Box (upd (upd J l (.lst [V.str "all", V.str "home", V.str "then", V.str "alsa"])) n (.lst (names.map V.str))) b := box_new (box_new bx2 nl) nn
  have nnb : n ≠ b := ne_box (box_new bx2 nl) nn
  have s3 : Same H (upd (upd J l (.lst [V.str "all", V.str "home", V.str "then", V.str "alsa"])) n (.lst (names.map V.str))) := s2.trans ((new_same nl _).trans (new_same nn _))
  have h3 : (upd (upd J l (.lst [V.str "all", V.str "home", V.str "then", V.str "alsa"])) n (.lst (names.map V.str))) n = some (.lst (names.map V.str)) := upd_same
  clear nn
  generalize upd (upd J l _) n _ = J3 at bx3 s3 h3 ⊢
  clear nl l1 l2 hwl hww bx2 hD hD1 nD bx
  -- the rows
  refine ⟨8, rfl, by decide, by decide, fun LR hLR => lc_range (lo := 0) (n := 8) (LoopP isRow b J3 LR) (loopP_start hLR bx3) (fun i J hi L => ?_) (fun J L => ?_)⟩
  · obtain ⟨_, _, _, _, bJ, _, _, kJ⟩ := id L
    refine ⟨rfl, _, rfl, _, rfl, b, n, names, rfl, bJ, nnb, SqL.of (kJ _ _ nnb h3), ?_, ?_, hws, fun p r M g np mp kk bb => ?_⟩
    · rw [← List.length_map (f := V.str)]
      exact hwn.1
    · rw [← List.length_map (f := V.str)]
      exact hwn.2
    obtain ⟨acc, e1, e2, e3⟩ := loopP_turn (Pr := isRow) (v := .ref p) isRow_mono L bx3 ⟨p, r, rfl, by rw [frs_of np]; exact mp, g⟩ kk bb
    exact ⟨acc, e1, by rw [e2]; exact small1000 (by omega), e3⟩
  obtain ⟨ps, r1, r2, r3, bx4, _, nLR, r7⟩ := L
  have s4 : Same H J := fun c o e => r7 c o (ne_of_none e h0) (s3 c o e)
  have hps : ∀ v ∈ ps, isRow v J := fun v hv => isRow_mono v _ _ frs_sub (r3 v hv)
  clear r3 r7 s3 h3 hLR bx3 nLR bx4 hws hwn nnb
  -- the rows made
  refine ⟨_, rfl, LR, rfl, ⟨ps, SqL.of r1⟩, fun LM hLM => lc_list (K := K) (a := LR) (xs := ps) (fun i M => ∃ us : List V, M LM = some (.lst us) ∧ us.length = i ∧ Same J M ∧ ∀ (j : Nat) (v u : V), ps[j]? = some v → us[j]? = some u → Pair C M v u) ⟨[], upd_same, rfl, new_same hLM _, fun j v u _ e => nomatch e⟩ (fun i M _ ⟨us, _, _, sm, _⟩ => SqL.of (sm _ _ r1)) (fun i v M hv ⟨us, m1, m2, sm, mp⟩ => ?_) (fun M ⟨us, m1, m2, sm, mp⟩ => ?_)⟩
  · obtain ⟨p, r, rfl, hp, g⟩ := hps v (List.mem_of_getElem? hv)
    have hp' := SqT.of (K := K) (sm _ _ hp)
    refine ⟨rfl, ?_⟩
    refine ⟨_, rfl, p, r.vs, 0, _, rfl, rfl, hp', rfl, _, rfl, p, r.vs, 1, _, rfl, rfl, hp', rfl, _, rfl, p, r.vs, 2, _, rfl, rfl, hp', rfl, _, rfl, p, r.vs, 3, _, rfl, rfl, hp', rfl, _, rfl, p, r.vs, 4, _, rfl, rfl, hp', rfl, fun x dx nx ndx ne => ?_⟩
    obtain ⟨a1, a2, a3, a4, a5⟩ := g.args (K := K) (C := C) (H := upd (upd M dx (.own x)) x (.ins C dx []))
    refine ⟨x, dx, .str r.m, .str r.p, .str r.mv, .str r.t, .bl r.al, rfl, upd_same, a1, a2, a3, a4, a5, fun wd e => ?_, fun _ => ⟨rfl, us, ?_, ?_, ?_⟩⟩
    · rw [g.due] at e
      cases e
    · exact made_same nx ndx _ _ m1
    · rw [m2]
      have hi := (List.getElem?_eq_some_iff.mp hv).1
      have e8 : ps.length = 8 := r2
      exact small1000 (by omega)
    · have sL := made_same (C := C) (fs := rowFs (.str r.m) (.str r.p) (.str r.mv) (.str r.t) (.bl r.al)) nx ndx
      have hx : (upd (upd (upd M dx (.own x)) x (.ins C dx [])) x (.ins C dx (rowFs (.str r.m) (.str r.p) (.str r.mv) (.str r.t) (.bl r.al)))) x = some (.ins C dx r.fs) := upd_same
      have nxL : x ≠ LM := fun z => by rw [z, m1] at nx; cases nx
      generalize (upd (upd (upd M dx (.own x)) x (.ins C dx [])) x (.ins C dx (rowFs (.str r.m) (.str r.p) (.str r.mv) (.str r.t) (.bl r.al)))) = L at sL hx ⊢
      refine ⟨us ++ [.ref x], upd_same, by rw [List.length_append, m2]; rfl, fun c o e => ?_, fun j v u e1 e2 => ?_⟩
      · rw [upd_ne (ne_of_none e hLM)]
        exact sL _ _ (sm _ _ e)
      · have keep : ∀ c o, (∀ ys, o ≠ HO.lst ys) → M c = some o → (upd L LM (.lst (us ++ [.ref x]))) c = some o := fun c o no e => by
          have n : c ≠ LM := fun z => by
            rw [z, m1] at e
            exact no _ (Option.some.inj e).symm
          rw [upd_ne n]
          exact sL _ _ e
        rcases get_snoc e2 with e | ⟨e, rfl⟩
        · exact (mp j v u e1 e).mono keep
        · rw [e, m2, hv] at e1
          cases e1
          exact ⟨p, x, r, rfl, rfl, keep _ _ (fun _ z => nomatch z) (sm _ _ hp), ⟨⟨dx, by rw [upd_ne nxL]; exact hx⟩, g.ok⟩, g⟩
  have e8 : ps.length = 8 := r2
  have st : St2 C LR LM ps us M := ⟨sm _ _ r1, m1, by omega, e8, mp⟩
  have s5 : Same H M := s4.trans sm
  clear hps r1 r2 hLM m1 m2 sm mp s4 s2 J1
  refine ⟨_, rfl, _, rfl, LR, LM, ps, us, rfl, .inl ⟨SqL.of st.r, SqL.of st.m, RZ.for_zipL (K := K) (xs := ps) (ys := us) st.l (fun _ σ J => ∃ w1 w6 w7 w8 w9 wa wb, σ = [some (.ref a), w1, some (.ref b), some (.ref n), some (.ref LR), some (.ref LM), w6, w7, w8, w9, wa, wb] ∧ Same H J ∧ St2 C LR LM ps us J) ⟨_, _, _, _, _, _, _, rfl, s5, st⟩ (fun _ σ J ⟨_, _, _, _, _, _, _, _, _, z⟩ => ⟨SqL.of z.r, SqL.of z.m⟩) ?_ ?_⟩⟩
  · rintro i v u W σ J hv hu ⟨w1, w6, w7, w8, w9, wa, wb, rfl, s6, st6⟩ nW
    obtain ⟨p, q1, r, rfl, rfl, hp0, hq0, g⟩ := st6.pr i v u hv hu
    have sW := new_same nW (.tup [V.ref p, V.ref q1])
    refine ⟨W, [.ref p, .ref q1], rfl, SqT.of upd_same, rfl, _, _, rfl, _, _, rfl, rfl, ?_⟩
    have hp := sW _ _ hp0
    have hq : RowAt C (upd J W (.tup [V.ref p, V.ref q1])) q1 r := ⟨⟨_, sW _ _ hq0.1.choose_spec⟩, hq0.2⟩
    have st7 := st6.mono sW
    have s7 := s6.trans sW
    clear hp0 hq0 st6 s6
    generalize upd J W _ = J2 at hp hq st7 s7 ⊢
    obtain ⟨⟨dx, hx⟩, ok⟩ := hq
    have l1 : r.fs.lookup ("mode" : Str) = some (V.str r.m) := by kernel_rfl
    have l2 : r.fs.lookup ("pick" : Str) = some (V.str r.p) := by kernel_rfl
    have l3 : r.fs.lookup ("move" : Str) = some (V.str r.mv) := by kernel_rfl
    have l4 : r.fs.lookup ("then" : Str) = some (V.str r.t) := by kernel_rfl
    have l5 : r.fs.lookup ("also" : Str) = some (V.bl r.al) := by kernel_rfl
    -- what the row keeps
    refine ⟨_, rfl, q1, C, dx, _, _, rfl, hx, R.cl, R.n1, l1, _, rfl, q1, C, dx, _, _, rfl, hx, R.cl, R.n2, l2, _, rfl, q1, C, dx, _, _, rfl, hx, R.cl, R.n3, l3, _, rfl, q1, C, dx, _, _, rfl, hx, R.cl, R.n4, l4, _, rfl, q1, C, dx, _, _, rfl, hx, R.cl, R.n5, l5, (by show 5 ≤ sizeLine; decide), fun kp nk => ?_⟩
    have sk := new_same nk (.tup r.vs)
    have hk : upd J2 kp (.tup r.vs) kp = some (.tup r.vs) := upd_same
    refine ⟨_, rfl, .ref kp, r.d, rfl, dp_row (SqT.of hk), d_showable r, d_noDict r, d_depth r, d_shown g, ?_⟩
    refine ⟨_, rfl, .ref p, r.d, rfl, dp_row (SqT.of (sk _ _ hp)), d_showable r, d_noDict r, d_depth r, d_shown g, ?_⟩
    generalize r.d.shown = sh
    refine ⟨rfl, _, rfl, iteNS rfl ?_⟩
    refine ⟨_, rfl, q1, dx, _, rfl, sk _ _ hx, q1, r, rfl, ⟨⟨dx, sk _ _ hx⟩, ok⟩, _, rfl, ?_⟩
    refine ⟨_, rfl, p, r, rfl, SqT.of (sk _ _ hp), g, fun J3 s3 => ?_⟩
    generalize r.text = tx
    refine ⟨rfl, _, rfl, iteNS rfl ?_⟩
    have s3 := sk.trans s3
    have hp := s3 _ _ hp
    have hx := s3 _ _ hx
    have st7 := st7.mono s3
    have s7 := s7.trans s3
    clear s3 sk hk nk sW
    -- also left out
    unfold tNext
    dsimp only
    refine seq_both (fun J4 s4 => ?rest) (fun k => ?main)
    case main =>
      refine ⟨_, rfl, p, r.vs, 4, .bl r.al, rfl, rfl, SqT.of hp, rfl, _, rfl, ?_⟩
      refine ite2 (fun c => ?_) (fun c => k J3 (Same.refl _))
      have hal : r.al = false := by simpa using c
      refine ⟨_, rfl, p, r.vs, 0, _, rfl, rfl, SqT.of hp, rfl, _, rfl, p, r.vs, 1, _, rfl, rfl, SqT.of hp, rfl, _, rfl, p, r.vs, 2, _, rfl, rfl, SqT.of hp, rfl, _, rfl, p, r.vs, 3, _, rfl, rfl, SqT.of hp, rfl, fun x dy nx ndx ne => ?_⟩
      obtain ⟨a1, a2, a3, a4, a5⟩ := g.args (K := K) (C := C) (H := upd (upd J3 dy (.own x)) x (.ins C dy []))
      refine ⟨x, dy, .str r.m, .str r.p, .str r.mv, .str r.t, .bl false, rfl, upd_same, a1, a2, a3, a4, bl_arg, fun wd e => ?_, fun _ => ⟨rfl, _, rfl, ?_⟩⟩
      · have gd := g.due
        rw [hal] at gd
        rw [gd] at e
        cases e
      have sL := made_same (C := C) (fs := rowFs (.str r.m) (.str r.p) (.str r.mv) (.str r.t) (.bl false)) nx ndx
      have hxx : (upd (upd (upd J3 dy (.own x)) x (.ins C dy [])) x (.ins C dy (rowFs (.str r.m) (.str r.p) (.str r.mv) (.str r.t) (.bl false)))) x = some (.ins C dy r.fs) := by
        rw [upd_same]
        unfold Row5.fs
        rw [hal]
      generalize (upd (upd (upd J3 dy (.own x)) x (.ins C dy [])) x (.ins C dy (rowFs (.str r.m) (.str r.p) (.str r.mv) (.str r.t) (.bl false)))) = L at sL hxx ⊢
      refine ⟨x, q1, dy, dx, _, _, rfl, rfl, hxx, sL _ _ hx, x, r, .ref q1, rfl, ⟨⟨dy, hxx⟩, ok⟩, .inr ⟨q1, r, rfl, ⟨⟨dx, sL _ _ hx⟩, ok⟩, ?_⟩⟩
      generalize r.text = tx
      exact ⟨_, rfl, _, rfl, iteNS rfl (k L sL)⟩
    have hp := s4 _ _ hp
    have hx := s4 _ _ hx
    have st8 := st7.mono s4
    have s8 := s7.trans s4
    clear st7 s7 s4
    -- each with each
    refine ⟨_, rfl, _, rfl, LR, LM, ps, us, rfl, .inl ⟨SqL.of st8.r, SqL.of st8.m, RZ.for_zipL (K := K) (xs := ps) (ys := us) st8.l (fun _ σ J => ∃ u1 u8 u9 ua ub, σ = [some (.ref a), u1, some (.ref b), some (.ref n), some (.ref LR), some (.ref LM), some (.ref p), some (.ref q1), u8, u9, ua, ub] ∧ Same J4 J) ⟨_, _, _, _, _, rfl, Same.refl _⟩ (fun _ σ J ⟨_, _, _, _, _, _, z⟩ => ⟨SqL.of (z _ _ st8.r), SqL.of (z _ _ st8.m)⟩) ?_ ?_⟩⟩
    · rintro i2 v2 u2 W2 σ J hv2 hu2 ⟨u1, u8, u9, ua, ub, rfl, sJ⟩ nW2
      obtain ⟨p2, q2, r2, rfl, rfl, hp2, ⟨⟨dy, hx2⟩, ok2⟩, g2⟩ := st8.pr i2 v2 u2 hv2 hu2
      have sV := sJ.trans (new_same nW2 (.tup [V.ref p2, V.ref q2]))
      refine ⟨W2, [.ref p2, .ref q2], rfl, SqT.of upd_same, rfl, _, _, rfl, _, _, rfl, rfl, ?_⟩
      generalize upd J W2 _ = J5 at sV ⊢
      have ra : RowAt C J5 q1 r := ⟨⟨dx, sV _ _ hx⟩, ok⟩
      have rb : RowAt C J5 q2 r2 := ⟨⟨dy, sV _ _ hx2⟩, ok2⟩
      have da := dp_row (K := K) (SqT.of (sV _ _ hp))
      have db := dp_row (K := K) (SqT.of (sV _ _ hp2))
      have ev := eqv_row g g2
      refine ⟨_, rfl, _, rfl, q1, q2, dx, dy, _, _, rfl, rfl, sV _ _ hx, sV _ _ hx2, q1, r, .ref q2, rfl, ra, .inr ⟨q2, r2, rfl, rb, _, rfl, ?_⟩⟩
      refine ⟨_, rfl, _, rfl, r.d, r2.d, da, db, d_shaped g, d_shaped g2, ?_⟩
      rw [ev]
      generalize hdd : decide (r.text = r2.text) = dd at ev
      refine ⟨rfl, _, rfl, iteNS rfl ?_⟩
      refine ⟨_, rfl, _, rfl, q1, q2, dx, dy, _, _, rfl, rfl, sV _ _ hx, sV _ _ hx2, q1, r, .ref q2, rfl, ra, .inr ⟨q2, r2, rfl, rb, _, rfl, ?_⟩⟩
      refine ⟨_, rfl, _, rfl, r.d, r2.d, da, db, d_shaped g, d_shaped g2, ?_⟩
      rw [ev, hdd]
      refine ⟨rfl, _, rfl, ite_nb ?_⟩
      exact ⟨_, _, _, _, _, rfl, sV⟩
    · rintro σ J ⟨u1, u8, u9, ua, ub, rfl, sJ⟩
      have hp := sJ _ _ hp
      have hx := sJ _ _ hx
      have st9 := st8.mono sJ
      have s9 := s8.trans sJ
      have ra : RowAt C J q1 r := ⟨⟨dx, hx⟩, ok⟩
      -- to nothing else
      refine ⟨_, rfl, _, rfl, q1, dx, _, rfl, hx, q1, r, rfl, ra, _, rfl, ?_⟩
      generalize r.text = tx
      refine ⟨_, rfl, _, rfl, p, r.vs, rfl, .inr (SqT.of hp), fun l nl => ⟨(by show 4 ≤ sizeLine; decide), fun tp nt => ?_⟩⟩
      have sl := (new_same nl (.lst r.vs)).trans (new_same nt (.tup [V.str tx, V.ref p, V.non, V.ref l]))
      have hlist : upd (upd J l (.lst r.vs)) tp (.tup [V.str tx, V.ref p, V.non, V.ref l]) l = some (.lst r.vs) := new_same nt _ _ _ upd_same
      have htup : upd (upd J l (.lst r.vs)) tp (.tup [V.str tx, V.ref p, V.non, V.ref l]) tp = some (.tup [V.str tx, V.ref p, V.non, V.ref l]) := upd_same
      clear nt
      generalize upd (upd J l _) tp _ = J6 at sl hlist htup ⊢
      refine ⟨q1, dx, tp, _, [V.str tx, V.ref p, V.non, V.ref l], rfl, sl _ _ hx, rfl, SqT.of htup, fun v hv => ?_, _, rfl, iteF ?_⟩
      · have ot : Oth K J6 v := by
          simp only [List.mem_cons, List.not_mem_nil, or_false] at hv
          rcases hv with rfl | rfl | rfl | rfl
          · exact .inl ⟨_, rfl⟩
          · exact .inr (.inr (.inl ⟨_, _, rfl, SqT.of (sl _ _ hp)⟩))
          · exact .inr (.inl rfl)
          · exact .inr (.inr (.inr ⟨_, _, rfl, SqL.of hlist⟩))
        exact ⟨ot, q1, r, v, rfl, ⟨⟨dx, sl _ _ hx⟩, ok⟩, .inl ⟨ot, rfl, rfl⟩⟩
      · exact ⟨_, _, _, _, _, _, _, rfl, s9.trans sl, st9.mono sl⟩
  · rintro σ J ⟨w1, w6, w7, w8, w9, wa, wb, rfl, s6, st6⟩
    exact ⟨_, _, _, _, _, _, _, _, _, _, _, rfl, s6⟩
end
end LT
namespace LT
open PySem L2
theorem row_b6 {K : PySem.W.Frag} {f : Addr} {fd : FuncData} (F : FunD K "__init__" "Row.__init__" (defArgs sRowInit) (defBody sRowInit) (defScope sRowInit) [.bl false] [] f fd) :
    ∃ ds, Vals ([] : List V) ds ∧ Binds K fd ["self", "mode", "pick", "move", "then", "also"] ds :=
  F.binds1 6 1 (by decide) (by decide) fun T kV doc pm an cdv ct us its h1 h2 => match us, its, h1, h2 with
    | [_, _, _, _, _, _], [_], _, _ => ⟨_, rfl, rfl⟩
theorem row_b5 {K : PySem.W.Frag} {f : Addr} {fd : FuncData} (F : FunD K "__init__" "Row.__init__" (defArgs sRowInit) (defBody sRowInit) (defScope sRowInit) [.bl false] [] f fd) :
    ∃ ds, Vals ([.bl false] : List V) ds ∧ Binds K fd ["self", "mode", "pick", "move", "then", "also"] ds :=
  F.binds1 5 0 (by decide) (by decide) fun T kV doc pm an cdv ct us its h1 h2 => match us, its, h1, h2 with
    | [_, _, _, _, _], [_], _, _ => ⟨_, rfl, rfl⟩
theorem all_mk {l : PySem.W.OpenLaw} {w : World} {K : PySem.W.Frag} {h : Heap} {mg : Str → Option Value} {fa : Addr} (X : K.In h) (G : h.Ns mainGlobals mg) (hfa : mg "law" = some (.ref fa))
    {f_nm : Addr} {od_nm an_nm : Option Addr} {sl_nm : Array (Option Value)} {oc_nm kV_nm dc_nm pm_nm cd_nm ct_nm : Value}
    {f_se : Addr} {od_se an_se : Option Addr} {sl_se : Array (Option Value)} {oc_se kV_se dc_se pm_se cd_se ct_se : Value}
    {f_ch : Addr} {od_ch an_ch : Option Addr} {sl_ch : Array (Option Value)} {oc_ch kV_ch dc_ch pm_ch cd_ch ct_ch : Value}
    {f_on : Addr} {od_on an_on : Option Addr} {sl_on : Array (Option Value)} {oc_on kV_on dc_on pm_on cd_on ct_on : Value}
    {f_ar : Addr} {od_ar an_ar : Option Addr} {sl_ar : Array (Option Value)} {oc_ar kV_ar dc_ar pm_ar cd_ar ct_ar : Value}
    {f_rt : Addr} {od_rt an_rt : Option Addr} {sl_rt : Array (Option Value)} {oc_rt kV_rt dc_rt pm_rt cd_rt ct_rt : Value}
    {f_na : Addr} {od_na an_na : Option Addr} {sl_na : Array (Option Value)} {oc_na kV_na dc_na pm_na cd_na ct_na : Value}
    {f_la : Addr} {od_la an_la : Option Addr} {sl_la : Array (Option Value)} {oc_la kV_la dc_la pm_la cd_la ct_la : Value}
    {f_ei : Addr} {od_ei an_ei : Option Addr} {sl_ei : Array (Option Value)} {oc_ei kV_ei dc_ei pm_ei cd_ei ct_ei : Value}
    {f_eq : Addr} {od_eq an_eq : Option Addr} {sl_eq : Array (Option Value)} {oc_eq kV_eq dc_eq pm_eq cd_eq ct_eq : Value}
    {f_st : Addr} {od_st an_st : Option Addr} {sl_st : Array (Option Value)} {oc_st kV_st dc_st pm_st cd_st ct_st : Value}
    {f_ri dT pP pM C CE CL : Addr} {od_ri an_ri : Option Addr} {sl_ri : Array (Option Value)} {oc_ri kV_ri dc_ri pm_ri cd_ri ct_ri ocD : Value} {ddP ddM ddD : Option Addr} {nP nM nD : Nat} {slP slM slD : Array (Option Value)} {t1 t2 t3 t4 t5 t6 t7 t8 : Tok}
    {xn xq : Str} {xN : Addr} {xb : List Value} {xs : List Str} {xu : List Value} {xa : Bool} {xc : Option Bool} {xd : Option Addr} {m0 m1 m2 m3 m5 : Option Value}
    (a_nm : PySem.W.nsIn K mainGlobals "is_name" = some (some (.ref f_nm)))
    (l_nm : K.lookup f_nm = some ⟨oc_nm, od_nm, .func (PySem.W.fnOf "is_name" "is_name" (defArgs sIsName) (defBody sIsName) (defScope sIsName) .none kV_nm dc_nm pm_nm an_nm cd_nm ct_nm), sl_nm⟩)
    (c_nm : PySem.W.codeIn K cd_nm "is_name" = true)
    (k_nm : PySem.W.keepIn K (.ref f_nm) = true)
    (a_se : PySem.W.nsIn K mainGlobals "_law_seed" = some (some (.ref f_se)))
    (l_se : K.lookup f_se = some ⟨oc_se, od_se, .func (PySem.W.fnOf "_law_seed" "_law_seed" (defArgs sSeed) (defBody sSeed) (defScope sSeed) .none kV_se dc_se pm_se an_se cd_se ct_se), sl_se⟩)
    (c_se : PySem.W.codeIn K cd_se "_law_seed" = true)
    (k_se : PySem.W.keepIn K (.ref f_se) = true)
    (a_ch : PySem.W.nsIn K mainGlobals "_law_choose" = some (some (.ref f_ch)))
    (l_ch : K.lookup f_ch = some ⟨oc_ch, od_ch, .func (PySem.W.fnOf "_law_choose" "_law_choose" (defArgs sChoose) (defBody sChoose) (defScope sChoose) .none kV_ch dc_ch pm_ch an_ch cd_ch ct_ch), sl_ch⟩)
    (c_ch : PySem.W.codeIn K cd_ch "_law_choose" = true)
    (k_ch : PySem.W.keepIn K (.ref f_ch) = true)
    (a_on : PySem.W.nsIn K mainGlobals "_law_one_of" = some (some (.ref f_on)))
    (l_on : K.lookup f_on = some ⟨oc_on, od_on, .func (PySem.W.fnOf "_law_one_of" "_law_one_of" (defArgs sOneOf) (defBody sOneOf) (defScope sOneOf) .none kV_on dc_on pm_on an_on cd_on ct_on), sl_on⟩)
    (c_on : PySem.W.codeIn K cd_on "_law_one_of" = true)
    (k_on : PySem.W.keepIn K (.ref f_on) = true)
    (a_ar : PySem.W.nsIn K mainGlobals "_law_any_row" = some (some (.ref f_ar)))
    (l_ar : K.lookup f_ar = some ⟨oc_ar, od_ar, .func (PySem.W.fnOf "_law_any_row" "_law_any_row" (defArgs sAnyRow) (defBody sAnyRow) (defScope sAnyRow) .none kV_ar dc_ar pm_ar an_ar cd_ar ct_ar), sl_ar⟩)
    (c_ar : PySem.W.codeIn K cd_ar "_law_any_row" = true)
    (k_ar : PySem.W.keepIn K (.ref f_ar) = true)
    (a_rt : PySem.W.nsIn K mainGlobals "_law_row_text" = some (some (.ref f_rt)))
    (l_rt : K.lookup f_rt = some ⟨oc_rt, od_rt, .func (PySem.W.fnOf "_law_row_text" "_law_row_text" (defArgs sRowText) (defBody sRowText) (defScope sRowText) .none kV_rt dc_rt pm_rt an_rt cd_rt ct_rt), sl_rt⟩)
    (c_rt : PySem.W.codeIn K cd_rt "_law_row_text" = true)
    (k_rt : PySem.W.keepIn K (.ref f_rt) = true)
    (a_na : PySem.W.nsIn K mainGlobals "_law_name" = some (some (.ref f_na)))
    (l_na : K.lookup f_na = some ⟨oc_na, od_na, .func (PySem.W.fnOf "_law_name" "_law_name" (defArgs sName) (defBody sName) (defScope sName) .none kV_na dc_na pm_na an_na cd_na ct_na), sl_na⟩)
    (c_na : PySem.W.codeIn K cd_na "_law_name" = true)
    (k_na : PySem.W.keepIn K (.ref f_na) = true)
    (a_la : PySem.W.nsIn K mainGlobals "law" = some (some (.ref f_la)))
    (l_la : K.lookup f_la = some ⟨oc_la, od_la, .func (PySem.W.fnOf "law" "law" (defArgs sLaw) (defBody sLaw) (defScope sLaw) .none kV_la dc_la pm_la an_la cd_la ct_la), sl_la⟩)
    (c_la : PySem.W.codeIn K cd_la "law" = true)
    (k_la : PySem.W.keepIn K (.ref f_la) = true)
    (a_ei : PySem.W.findIn K (.ref CE) "__init__" = some (some (.ref f_ei)))
    (l_ei : K.lookup f_ei = some ⟨oc_ei, od_ei, .func (PySem.W.fnOf "__init__" "InvalidRow.__init__" (defArgs sErrInit) (defBody sErrInit) (defScope sErrInit) .none kV_ei dc_ei pm_ei an_ei cd_ei ct_ei), sl_ei⟩)
    (c_ei : PySem.W.codeIn K cd_ei "InvalidRow.__init__" = true)
    (k_ei : PySem.W.keepIn K (.ref f_ei) = true)
    (a_eq : PySem.W.findIn K (.ref C) "__eq__" = some (some (.ref f_eq)))
    (l_eq : K.lookup f_eq = some ⟨oc_eq, od_eq, .func (PySem.W.fnOf "__eq__" "Row.__eq__" (defArgs sRowEq) (defBody sRowEq) (defScope sRowEq) .none kV_eq dc_eq pm_eq an_eq cd_eq ct_eq), sl_eq⟩)
    (c_eq : PySem.W.codeIn K cd_eq "Row.__eq__" = true)
    (k_eq : PySem.W.keepIn K (.ref f_eq) = true)
    (a_st : PySem.W.findIn K (.ref C) "__str__" = some (some (.ref f_st)))
    (l_st : K.lookup f_st = some ⟨oc_st, od_st, .func (PySem.W.fnOf "__str__" "Row.__str__" (defArgs sRowStr) (defBody sRowStr) (defScope sRowStr) .none kV_st dc_st pm_st an_st cd_st ct_st), sl_st⟩)
    (c_st : PySem.W.codeIn K cd_st "Row.__str__" = true)
    (k_st : PySem.W.keepIn K (.ref f_st) = true)
    (aC : PySem.W.nsIn K mainGlobals "Row" = some (some (.ref C)))
    (aE : PySem.W.nsIn K mainGlobals "InvalidRow" = some (some (.ref CE)))
    (aL : PySem.W.nsIn K mainGlobals "LineError" = some (some (.ref CL)))
    (aP : PySem.W.nsIn K mainGlobals "PICKS" = some (some (.ref pP)))
    (lP : K.lookup pP = some ⟨.type "tuple", ddP, .seq #[.str "keep" t1, .str "at" t2, .str "past" t3, .str "under" t4, .str "all" t5] nP, slP⟩)
    (aM : PySem.W.nsIn K mainGlobals "MOVES" = some (some (.ref pM)))
    (lM : K.lookup pM = some ⟨.type "tuple", ddM, .seq #[.str "stay" t6, .str "on" t7, .str "home" t8] nM, slM⟩)
    (a_ri : PySem.W.findIn K (.ref C) "__init__" = some (some (.ref f_ri)))
    (l_ri : K.lookup f_ri = some ⟨oc_ri, od_ri, .func (PySem.W.fnOf "__init__" "Row.__init__" (defArgs sRowInit) (defBody sRowInit) (defScope sRowInit) (.ref dT) kV_ri dc_ri pm_ri an_ri cd_ri ct_ri), sl_ri⟩)
    (c_ri : PySem.W.codeIn K cd_ri "Row.__init__" = true)
    (k_ri : PySem.W.keepIn K (.ref f_ri) = true)
    (i_ri : PySem.W.isFn K (.ref f_ri) = true)
    (lD : K.lookup dT = some ⟨ocD, ddD, .seq #[.bool false] nD, slD⟩)
    (pg : PySem.W.plainGet K C Str.empty = true)
    (hd : PySem.W.hasDictIn K C = true)
    (po : PySem.W.plainOver K C = true)
    (sa : PySem.W.findIn K (.ref C) "__setattr__" = some (some (.builtin "object.__setattr__")))
    (mk : PySem.W.makesIn K C = true)
    (kc : PySem.W.keepIn K (.ref C) = true)
    (n1 : PySem.W.findIn K (.ref C) "mode" = some none)
    (n2 : PySem.W.findIn K (.ref C) "pick" = some none)
    (n3 : PySem.W.findIn K (.ref C) "move" = some none)
    (n4 : PySem.W.findIn K (.ref C) "then" = some none)
    (n5 : PySem.W.findIn K (.ref C) "also" = some none)
    (ha : PySem.W.findIn K (.ref C) "__class__" = some (some (.builtin "object.__class__")))
    (hn : PySem.W.specialIn K (.builtin "object.__class__") "__get__" = some (some (.builtin "getset_descriptor.__get__")))
    (ht : PySem.W.takesIn K (.builtin "object.__class__") = some true)
    (hm : PySem.W.mroIn K C (.type "object") = some true)
    (ks : PySem.W.kitOne K (.ref C) (.type "str") = some false)
    (kb : PySem.W.kitOne K (.ref C) (.type "bool") = some false)
    (sub : PySem.W.subIn K (.ref C) (.type "str") = some false)
    (i_eq : PySem.W.isFn K (.ref f_eq) = true)
    (kT : PySem.W.kitOne K (.type "str") (.ref C) = some false)
    (xL : K.lookup CE = some (excClassObj xn xq CE xN xb [.ref CL, .type "ValueError", .type "Exception", .type "BaseException", .type "object"] true xs xu xa xc xd m0 m1 m2 m3 m5 "ValueError.__new__"))
    (saE : PySem.W.findIn K (.ref CE) "__setattr__" = some (some (.builtin "object.__setattr__")))
    (exE : PySem.W.subIn K (.ref CE) (.type "BaseException") = some true)
    (tyE : PySem.W.typeIn K (.ref CE) = some (.type "type"))
    (kE : PySem.W.keepIn K (.ref CE) = true)
    (noE : PySem.W.findIn K (.ref CE) "word" = some none)
    (t_ei : PySem.W.typeIn K (.ref f_ei) = some (.type "function"))
    (z_len : PySem.W.nsIn K mainGlobals "len" = some none)
    (z_abs : PySem.W.nsIn K mainGlobals "abs" = some none)
    (z_int : PySem.W.nsIn K mainGlobals "int" = some none)
    (z_range : PySem.W.nsIn K mainGlobals "range" = some none)
    (z_tuple : PySem.W.nsIn K mainGlobals "tuple" = some none)
    (z_isin : PySem.W.nsIn K mainGlobals "isinstance" = some none)
    (z_str : PySem.W.nsIn K mainGlobals "str" = some none)
    (z_bool : PySem.W.nsIn K mainGlobals "bool" = some none)
    (z_max : PySem.W.nsIn K mainGlobals "max" = some none)
    (z_min : PySem.W.nsIn K mainGlobals "min" = some none)
    (i_st : PySem.W.isFn K (.ref f_st) = true)
    (ne : PySem.W.findIn K (.ref C) "__ne__" = some (some (.builtin "object.__ne__")))
    (sN : PySem.W.subIn K (.ref C) (.type "NoneType") = some false)
    (sT : PySem.W.subIn K (.ref C) (.type "tuple") = some false)
    (sL : PySem.W.subIn K (.ref C) (.type "list") = some false)
    (kN : PySem.W.kitOne K (.type "NoneType") (.ref C) = some false)
    (kTu : PySem.W.kitOne K (.type "tuple") (.ref C) = some false)
    (kL : PySem.W.kitOne K (.type "list") (.ref C) = some false)
    (kC : PySem.W.kitOne K (.ref C) (.ref C) = some true)
    (z_zip : PySem.W.nsIn K mainGlobals "zip" = some none)
    (z_repr : PySem.W.nsIn K mainGlobals "repr" = some none)
    (z_list : PySem.W.nsIn K mainGlobals "list" = some none) :
    ∃ fd : FuncData, (∀ (s : Shared) (v : Value), BindsTo s fd ⟨[v], []⟩ [("_law_script", v)]) ∧ ∀ base : Heap, K.In base → base.Ns mainGlobals mg → FnG l.prog w K mg base CX0 6 fa fd ["_law_script"] (spLaw K) := by
  have e := hfa.symm.trans (PySem.W.mg_of X G a_la)
  cases e
  have T : Blt mg := ⟨PySem.W.mg_none_of X G z_len, PySem.W.mg_none_of X G z_abs, PySem.W.mg_none_of X G z_int, PySem.W.mg_none_of X G z_range, PySem.W.mg_none_of X G z_tuple⟩
  have U : Blt2 mg := ⟨PySem.W.mg_none_of X G z_isin, PySem.W.mg_none_of X G z_str, PySem.W.mg_none_of X G z_bool⟩
  have Z : Blt3 mg := ⟨PySem.W.mg_none_of X G z_max, PySem.W.mg_none_of X G z_min, PySem.W.mg_none_of X G z_zip, PySem.W.mg_none_of X G z_repr, PySem.W.mg_none_of X G z_list⟩
  have F_nm := fun_mk (st := sIsName) l_nm c_nm k_nm
  have F_se := fun_mk (st := sSeed) l_se c_se k_se
  have F_ch := fun_mk (st := sChoose) l_ch c_ch k_ch
  have F_on := fun_mk (st := sOneOf) l_on c_on k_on
  have F_ar := fun_mk (st := sAnyRow) l_ar c_ar k_ar
  have F_rt := fun_mk (st := sRowText) l_rt c_rt k_rt
  have F_na := fun_mk (st := sName) l_na c_na k_na
  have F_la := fun_mk (st := sLaw) l_la c_la k_la
  have F_ei := fun_mk (st := sErrInit) l_ei c_ei k_ei
  have F_eq := fun_mk (st := sRowEq) l_eq c_eq k_eq
  have F_st := fun_mk (st := sRowStr) l_st c_st k_st
  have b_nm := F_nm.binds (ps := ["value"]) fun _ _ _ _ _ _ us hl => match us, hl with | [_], _ => rfl
  have b_se := F_se.binds (ps := ["_law_script", "_law_k"]) fun _ _ _ _ _ _ us hl => match us, hl with | [_, _], _ => rfl
  have b_ch := F_ch.binds (ps := ["_law_box", "_law_many"]) fun _ _ _ _ _ _ us hl => match us, hl with | [_, _], _ => rfl
  have b_on := F_on.binds (ps := ["_law_box", "_law_some"]) fun _ _ _ _ _ _ us hl => match us, hl with | [_, _], _ => rfl
  have b_ar := F_ar.binds (ps := ["_law_box", "_law_names_here"]) fun _ _ _ _ _ _ us hl => match us, hl with | [_, _], _ => rfl
  have b_rt := F_rt.binds (ps := ["_law_row"]) fun _ _ _ _ _ _ us hl => match us, hl with | [_], _ => rfl
  have b_na := F_na.binds (ps := ["_law_box"]) fun _ _ _ _ _ _ us hl => match us, hl with | [_], _ => rfl
  have b_ei := F_ei.binds (ps := ["self", "word"]) fun _ _ _ _ _ _ us hl => match us, hl with | [_, _], _ => rfl
  have b_eq := F_eq.binds (ps := ["self", "other"]) fun _ _ _ _ _ _ us hl => match us, hl with | [_, _], _ => rfl
  have b_st := F_st.binds (ps := ["self"]) fun _ _ _ _ _ _ us hl => match us, hl with | [_], _ => rfl
  have FR : FunD K "__init__" "Row.__init__" (defArgs sRowInit) (defBody sRowInit) (defScope sRowInit) [.bl false] [] f_ri (PySem.W.fnOf "__init__" "Row.__init__" (defArgs sRowInit) (defBody sRowInit) (defScope sRowInit) (.ref dT) kV_ri dc_ri pm_ri an_ri cd_ri ct_ri) :=
    ⟨⟨oc_ri, od_ri, _, _, _, _, _, _, _, sl_ri, rfl, l_ri, c_ri, .inr ⟨by decide, dT, _, [.bool false], nD, rfl, lD, rfl, .cons rfl .nil⟩, .inl rfl⟩, k_ri⟩
  obtain ⟨d6, v6, b6⟩ := row_b6 FR
  cases v6
  obtain ⟨d5, v5, b5⟩ := row_b5 FR
  have RC : RowC K mg C := ⟨⟨pg, hd, po, sa⟩, ha, hn, ht, hm, ks, kb, n1, n2, n3, n4, n5, PySem.W.mg_of X G aC⟩
  have OX : OexC K CE := ⟨⟨xn, xq, xN, xb, _, xs, xu, xa, xc, xd, m0, m1, m2, m3, m5, xL, rfl⟩, saE, exE, tyE, kE⟩
  have M : Mk K C f_ri := ⟨mk, a_ri, i_ri, kc⟩
  have five : (5 : Nat) ≤ sizeLine := by decide
  have three : (3 : Nat) ≤ sizeLine := by decide
  have KC : KitC K C := ⟨kT, kN, kTu, kL, kC⟩
  refine ⟨PySem.W.fnOf "law" "law" (defArgs sLaw) (defBody sLaw) (defScope sLaw) .none kV_la dc_la pm_la an_la cd_la ct_la, fun s v => .of_eq rfl, fun base _ _ => ?_⟩
  have g_nm : FnOk l.prog w K mg base CX0 1 f_nm _ ["value"] (spIsName K) := ok_isname F_nm T U
  have g_ei : FnOk l.prog w K mg base CX0 1 f_ei _ ["self", "word"] (spErr CE) := ok_err F_ei OX noE
  have g_eq : FnOk l.prog w K mg base CX0 1 f_eq _ ["self", "other"] (spEqT C) := ok_eqT F_eq RC U kT
  have RG : RowG l.prog w K mg base C CE := ⟨RC, ⟨f_nm, _, g_nm, b_nm, k_nm, PySem.W.mg_of X G a_nm⟩, ⟨f_ei, _, g_ei, b_ei, a_ei, t_ei⟩, OX, PySem.W.mg_of X G aE, ⟨f_eq, _, g_eq, b_eq, a_eq, i_eq⟩, sub,
    ⟨pP, PySem.W.mg_of X G aP, fun H => .inr ⟨_, _, _, lP, rfl, rfl, five, .cons ⟨_, rfl⟩ (.cons ⟨_, rfl⟩ (.cons ⟨_, rfl⟩ (.cons ⟨_, rfl⟩ (.cons ⟨_, rfl⟩ .nil))))⟩⟩,
    ⟨pM, PySem.W.mg_of X G aM, fun H => .inr ⟨_, _, _, lM, rfl, rfl, three, .cons ⟨_, rfl⟩ (.cons ⟨_, rfl⟩ (.cons ⟨_, rfl⟩ .nil))⟩⟩⟩
  have g_ri : FnOk l.prog w K mg base (L2.CX l.prog w) 3 f_ri _ ["self", "mode", "pick", "move", "then", "also"] (spRow K C CE) := ok_row FR RG U
  have g_se : FnOk l.prog w K mg base CX0 1 f_se _ ["_law_script", "_law_k"] (spSeed K) := ok_seed F_se T
  have g_ch : FnOk l.prog w K mg base CX0 1 f_ch _ ["_law_box", "_law_many"] spChoose := ok_choose F_ch T
  have mCh := PySem.W.mg_of X G a_ch
  have mOn := PySem.W.mg_of X G a_on
  have g_on : FnOk l.prog w K mg base CX0 2 f_on _ ["_law_box", "_law_some"] (spOneOf K) := ok_oneof F_on T g_ch b_ch k_ch mCh
  have g_ar : FnOk l.prog w K mg base CX0 3 f_ar _ ["_law_box", "_law_names_here"] (spAnyRow K) := ok_anyrow F_ar g_ch b_ch k_ch mCh g_on b_on k_on mOn
  have g_na : FnOk l.prog w K mg base CX0 2 f_na _ ["_law_box"] spName := ok_name F_na T g_ch b_ch k_ch mCh
  have g_rt : FnOk l.prog w K mg base CX0 1 f_rt _ ["_law_row"] (spText K) := ok_rowtext F_rt
  have g_st : FnOk l.prog w K mg base CX0 1 f_st _ ["self"] (spStr C) := ok_str F_st RC
  have g_er : FnOk l.prog w K mg base CX0 4 f_eq _ ["self", "other"] (spEqR K C) := ok_eqR F_eq RC U KC g_st b_st a_st i_st
  exact ok_law F_la T U Z RC ⟨⟨f_se, _, g_se, b_se, k_se, PySem.W.mg_of X G a_se⟩, ⟨f_na, _, g_na, b_na, k_na, PySem.W.mg_of X G a_na⟩, ⟨f_ar, _, g_ar, b_ar, k_ar, PySem.W.mg_of X G a_ar⟩, ⟨f_rt, _, g_rt, b_rt, k_rt, PySem.W.mg_of X G a_rt⟩,
    ⟨f_ri, _, M, g_ri, b6, d5, v5, b5⟩, ⟨f_st, _, g_st, b_st, a_st, i_st⟩, ⟨f_eq, _, g_er, b_eq, a_eq, i_eq⟩, ne, hm, ⟨sub, sN, sT, sL⟩⟩
theorem walk {l : PySem.W.OpenLaw} {q : Program} {loose : List Str} {XP : (Str → Option Value) → Heap → Prop} {YP : World → Heap → Prop} {d : DefRec} {K : Params → PySem.W.Frag} (hn : l.most = some 63) (hdf : d.params.defaults = [])
    (hY : ∀ (w : World) (h : Heap), YP w h → (K w.params).In h)
    (F : ∀ (w : World) (mg : Str → Option Value) (fa : Addr) (h : Heap), (K w.params).In h → h.Ns mainGlobals mg → mg d.name = some (.ref fa) →
      ∃ fd : FuncData, (∀ (s : Shared) (u : Value), BindsTo s fd ⟨[u], []⟩ [("_law_script", u)]) ∧ ∀ base : Heap, (K w.params).In base → base.Ns mainGlobals mg → FnG l.prog w (K w.params) mg base CX0 6 fa fd ["_law_script"] (spLaw (K w.params))) :
    PySem.W.WalkO q loose XP YP l.row.toRowW d [] (fun f vs => PySem.call f vs) :=
  walk_ofG (n := 63) (k := 6) (x := "_law_script") (sp := fun w => spLaw (K w.params)) hn (by decide) hdf ⟨rfl, by decide, by decide⟩ hY F (fun _ _ a ns hl hS => ⟨a, ns, rfl, hS, hl, fun _ => rfl⟩)
end LT
open PySem PySem.W PyProof.Rows
set_option maxRecDepth 100000 in
set_option maxHeartbeats 0 in
theorem PySem.Challenge.cw_lineturns_k02_rows_made_holds : PySem.Challenge.rw_lineturns_k02_rows_made.Holds := by
  w_on; o_law; k_head; (case hw => w_witness2)
  k_fill
  refine LT.walk (l := PySem.Challenge.rw_lineturns_k02_rows_made) rfl rfl (fun w h Y => PySem.W.kIn_of Y) ?F
  case F =>
    intro w mg fa h KX G hmg
    refine' LT.all_mk KX G hmg ?a_nm ?l_nm ?c_nm ?k_nm ?a_se ?l_se ?c_se ?k_se ?a_ch ?l_ch ?c_ch ?k_ch ?a_on ?l_on ?c_on ?k_on ?a_ar ?l_ar ?c_ar ?k_ar ?a_rt ?l_rt ?c_rt ?k_rt ?a_na ?l_na ?c_na ?k_na ?a_la ?l_la ?c_la ?k_la ?a_ei ?l_ei ?c_ei ?k_ei ?a_eq ?l_eq ?c_eq ?k_eq ?a_st ?l_st ?c_st ?k_st ?aC ?aE ?aL ?aP ?lP ?aM ?lM ?a_ri ?l_ri ?c_ri ?k_ri ?i_ri ?lD ?pg ?hd ?po ?sa ?mk ?kc ?n1 ?n2 ?n3 ?n4 ?n5 ?ha ?hn ?ht ?hm ?ks ?kb ?sub ?i_eq ?kT ?xL ?saE ?exE ?tyE ?kE ?noE ?t_ei ?z_len ?z_abs ?z_int ?z_range ?z_tuple ?z_isin ?z_str ?z_bool ?z_max ?z_min ?i_st ?ne ?sN ?sT ?sL ?kN ?kTu ?kL ?kC ?z_zip ?z_repr ?z_list
    (case aC => k_is)
    (case aE => k_is)
    (case aL => k_is)
    (case aP => k_is)
    (case aM => k_is)
    (case a_nm => k_is)
    (case l_nm => k_is)
    (case c_nm => k_is)
    (case k_nm => k_is)
    (case a_se => k_is)
    (case l_se => k_is)
    (case c_se => k_is)
    (case k_se => k_is)
    (case a_ch => k_is)
    (case l_ch => k_is)
    (case c_ch => k_is)
    (case k_ch => k_is)
    (case a_on => k_is)
    (case l_on => k_is)
    (case c_on => k_is)
    (case k_on => k_is)
    (case a_ar => k_is)
    (case l_ar => k_is)
    (case c_ar => k_is)
    (case k_ar => k_is)
    (case a_rt => k_is)
    (case l_rt => k_is)
    (case c_rt => k_is)
    (case k_rt => k_is)
    (case a_na => k_is)
    (case l_na => k_is)
    (case c_na => k_is)
    (case k_na => k_is)
    (case a_la => k_is)
    (case l_la => k_is)
    (case c_la => k_is)
    (case k_la => k_is)
    (case a_ei => k_is)
    (case l_ei => k_is)
    (case c_ei => k_is)
    (case k_ei => k_is)
    (case a_eq => k_is)
    (case l_eq => k_is)
    (case c_eq => k_is)
    (case k_eq => k_is)
    (case a_st => k_is)
    (case l_st => k_is)
    (case c_st => k_is)
    (case k_st => k_is)
    (case lP => k_is)
    (case lM => k_is)
    (case a_ri => k_is)
    (case l_ri => k_is)
    (case c_ri => k_is)
    (case k_ri => k_is)
    (case i_ri => k_is)
    (case lD => k_is)
    (case pg => k_is)
    (case hd => k_is)
    (case po => k_is)
    (case sa => k_is)
    (case mk => k_is)
    (case kc => k_is)
    (case n1 => k_is)
    (case n2 => k_is)
    (case n3 => k_is)
    (case n4 => k_is)
    (case n5 => k_is)
    (case ha => k_is)
    (case hn => k_is)
    (case ht => k_is)
    (case hm => k_is)
    (case ks => kit_is)
    (case kb => kit_is)
    (case sub => k_is)
    (case i_eq => k_is)
    (case kT => kit_is)
    (case xL => k_is)
    (case saE => k_is)
    (case exE => k_is)
    (case tyE => k_is)
    (case kE => k_is)
    (case noE => k_is)
    (case t_ei => k_is)
    (case z_len => k_is)
    (case z_abs => k_is)
    (case z_int => k_is)
    (case z_range => k_is)
    (case z_tuple => k_is)
    (case z_isin => k_is)
    (case z_str => k_is)
    (case z_bool => k_is)
    (case z_max => k_is)
    (case z_min => k_is)
    (case i_st => k_is)
    (case ne => k_is)
    (case sN => k_is)
    (case sT => k_is)
    (case sL => k_is)
    (case kN => kit_is)
    (case kTu => kit_is)
    (case kL => kit_is)
    (case kC => kit_is)
    (case z_zip => k_is)
    (case z_repr => k_is)
    (case z_list => k_is)
#print axioms PySem.Challenge.cw_lineturns_k02_rows_made_holds
