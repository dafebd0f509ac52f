import PyProof.Rows.All
import Wide.All
import OpenK.AllK
import Wide.FinOn
import HandS.Base
import HandS.Call
import HandS.List
import HandS.Comp
import HandS.Ends
import HandS.Iter
import HandS.Words
import PyProof.EqAt
import PyProof.EqKinds
import HandS.OwnEq
import KE.KIsAll
import KE.KTryMore
import HandS.Exc
import HandS.ExcIs
import HandS.ExcInit
import HandS.ExcField
import HandS.IsInst
import HandS.Text
import HandS.StrMore
import HandS.ExcOwn
import HandS.TryOnly
import HandS.Walk
import PyProof.P3In
import HandS.WordsExc
import HandS.Defaults
import KE.RegKIsAll
import PySem.Challenge.RW_lineturns_k03_rows_refused
set_option Elab.async false
set_option linter.all false
set_option maxRecDepth 100000
set_option maxHeartbeats 4000000
namespace LT
open PySem L2
def top (i : Nat) : Stmt := PySem.Challenge.pw_lineturns_k03_rows_refused.main.body.getD i (.Pass ⟨0, 0, 0, 0⟩)
abbrev sSeed : Stmt := top 12
abbrev sChoose : Stmt := top 13
abbrev sOneOf : Stmt := top 14
abbrev sAny : Stmt := top 15

/-- the heap without the box -/
def offB (H : Hp) (b : Addr) : Hp := fun c => if c = b then none else H c
theorem offB_ne {H : Hp} {b c : Addr} (h : c ≠ b) : offB H b c = H c := if_neg h
theorem offB_some {H : Hp} {b c : Addr} {o : HO} (h : offB H b c = some o) : c ≠ b ∧ H c = some o := by
  unfold offB at h
  by_cases e : c = b
  · rw [if_pos e] at h
    cases h
  · rw [if_neg e] at h
    exact ⟨e, h⟩
theorem offB_sub {H : Hp} {b : Addr} : Same (offB H b) H := fun _ _ h => (offB_some h).2
/-- from H to J all but the box at b is kept -/
def Kb (b : Addr) (H J : Hp) : Prop := ∀ c o, c ≠ b → H c = some o → J c = some o
theorem Kb.refl {b : Addr} {H : Hp} : Kb b H H := fun _ _ _ h => h
theorem Kb.trans {b : Addr} {H J L : Hp} (x : Kb b H J) (y : Kb b J L) : Kb b H L := fun c o n h => y c o n (x c o n h)
theorem Kb.of {b : Addr} {H J : Hp} (x : Same H J) : Kb b H J := fun c o _ h => x c o h
theorem Kb.box {b : Addr} {H : Hp} {o : HO} : Kb b H (upd H b o) := fun c u n h => by rw [upd_ne n]; exact h
theorem Kb.new {b p : Addr} {H : Hp} {o : HO} (h : H p = none) : Kb b H (upd H p o) := fun c u _ e => by rw [upd_ne (ne_of_none e h)]; exact e
theorem Kb.seq {K : PySem.W.Frag} {b : Addr} {H J : Hp} {a : Addr} {xs : List V} (x : Kb b H J) (n : a ≠ b) (h : SqL K H a xs) : SqL K J a xs := by
  rcases h with (h | ⟨o, h⟩) | h
  · exact .inl (.inl (x _ _ n h))
  · exact .inl (.inr ⟨o, x _ _ n h⟩)
  · exact .inr h
theorem new_same {H : Hp} {p : Addr} (h : H p = none) (o : HO) : Same H (upd H p o) := fun c u e => by rw [upd_ne (ne_of_none e h)]; exact e
/-- a box: a list of two ints -/
def Box (H : Hp) (b : Addr) : Prop := ∃ x y : Int, H b = some (.lst [.int x, .int y])

/-! ### promises -/
def spSeed (K : PySem.W.Frag) : Sp := fun vs H Q _ => ∃ (a : Addr) (ns : List Int) (k : Int), vs = [.ref a, .int k] ∧ SqL K H a (ns.map V.int) ∧ 0 ≤ k ∧ k ≤ 1000 ∧
  ∀ (p : Addr) (x y : Int), H p = none → Q (.ref p) (upd H p (.lst [.int x, .int y]))
def spChoose : Sp := fun vs H Q _ => ∃ (b : Addr) (m : Int), vs = [.ref b, .int m] ∧ Box H b ∧ 0 < m ∧ m ≤ 1000000 ∧
  ∀ (d x y : Int), 0 ≤ d → d < m → Q (.int d) (upd H b (.lst [.int x, .int y]))
def spOneOf (K : PySem.W.Frag) : Sp := fun vs H Q _ => ∃ (b s : Addr) (xs : List V), vs = [.ref b, .ref s] ∧ Box H b ∧ s ≠ b ∧ SqL K H s xs ∧ 0 < xs.length ∧ xs.length ≤ 1000 ∧
  ∀ (i : Nat) (v : V) (x y : Int), xs[i]? = some v → Q v (upd H b (.lst [.int x, .int y]))
structure Blt (mg : Str → Option Value) : Prop where
  len : mg "len" = none
  abs : mg "abs" = none
  int : mg "int" = none
  range : mg "range" = none
  tuple : mg "tuple" = none
section
variable {P : Program} {w : World} {K : PySem.W.Frag} {mg : Str → Option Value} {base : Heap}
theorem mod_ix {k n : Int} (hn : 0 < n) : 0 ≤ k % n ∧ k % n < n := ⟨Int.emod_nonneg _ (by omega), Int.emod_lt_of_pos _ hn⟩
theorem at_in {ns : List Int} {i : Int} (h0 : 0 ≤ i) (h1 : i < (ns.length : Int)) : ∃ z, atI (ns.map V.int) i = some (.int z) := by
  obtain ⟨j, rfl⟩ : ∃ j : Nat, i = (j : Int) := ⟨i.toNat, by omega⟩
  have hj : j < ns.length := by omega
  exact ⟨ns[j], atI_nat (by rw [List.getElem?_map, List.getElem?_eq_getElem hj] <;> rfl)⟩
theorem scSeed : FnScope ["_law_script", "_law_k", "_law_cell"] ["_law_script", "_law_k"] (defScope sSeed) := ⟨rfl, rfl, rfl, by decide +kernel, rfl, by decide +kernel, by decide +kernel⟩
theorem ok_seed {f : Addr} {fd : FuncData} (F : Fun K "_law_seed" "_law_seed" sSeed f fd) (T : Blt mg) : FnOk P w K mg base CX0 1 f fd ["_law_script", "_law_k"] (spSeed K) := by
  refine F.ok scSeed (fun vs H Q E h => ?_) (fun cdv A outer s H vs Q E hr h => ?_)
  · obtain ⟨a, ns, k, rfl, _⟩ := h
    rfl
  obtain ⟨a, ns, k, rfl, hS, h0, h1, q⟩ := h
  refine ⟨_, pss_cons (ps_set (i := 2) scSeed.nd rfl (Or.inl rfl) (pe_op op_add (pe_op op_mul pe_int (pv 1)) pe_int))
    (pss_cons (ps_if (pt_cmpR op_lt (pv 1) (pe_callB call_len_seq (by rfl) T.len PySem.boot_len (pa_cons (pv 0) pa_nil)) (nomark _))
        (pss_one (ps_set (i := 2) scSeed.nd rfl (Or.inl rfl) (pe_callB call_abs (by rfl) T.abs (by decide +kernel) (pa_cons (pe_ix ix_list (pv 0) (pv 1) (fun _ _ => rfl)) pa_nil))))
        (pss_one (ps_if (pt_cmpR op_gt (pe_callB call_len_seq (by rfl) T.len PySem.boot_len (pa_cons (pv 0) pa_nil)) pe_int (nomark _))
          (pss_one (ps_set (i := 2) scSeed.nd rfl (Or.inl rfl) (pe_op op_add (pv 2) (pe_op op_mul (pe_op op_mod (pe_callTy call_int1 (by rfl) T.int (by decide +kernel) (pa_cons (pe_callB call_abs (by rfl) T.abs (by decide +kernel)
            (pa_cons (pe_ix ix_list (pv 0) (pe_op op_mod (pe_callTy call_int1 (by rfl) T.int (by decide +kernel) (pa_cons (pv 1) pa_nil)) (pe_callB call_len_seq (by rfl) T.len PySem.boot_len (pa_cons (pv 0) pa_nil))) (fun _ _ => rfl)) pa_nil)) pa_nil)) pe_int) pe_int))))
          pss_nil)))
    (pss_one (ps_ret (pe_lst (pa_cons (pe_ifExp (pt_cmpR op_ge (pv 2) (pe_op op_pow pe_int pe_int) (nomark _)) (pv 2) pe_int)
      (pa_cons (pe_op op_add (pe_op op_mod (pe_callTy call_int1 (by rfl) T.int (by decide +kernel) (pa_cons (pe_op op_add (pe_op op_mul (pe_op op_mod (pe_callTy call_int1 (by rfl) T.int (by decide +kernel) (pa_cons (pv 2) pa_nil)) pe_int) pe_int) (pe_op op_mul pe_int (pv 1))) pa_nil)) pe_int) pe_int) pa_nil)))))), ?_⟩
  have hl : (ns.map V.int).length = ns.length := List.length_map _
  refine ⟨_, rfl, _, _, rfl, rfl, .inl (by decide), _, _, rfl, rfl, ?_⟩
  refine ⟨_, rfl, _, rfl, a, _, rfl, .inl hS, _, _, rfl, rfl, _, rfl, ?_⟩
  refine ite2 (fun c => ?_) (fun c => ?_)
  · have c' : k < (((ns.map V.int).length : Nat) : Int) := of_decide_eq_true c
    rw [hl] at c'
    obtain ⟨z, hz⟩ := at_in h0 c'
    refine ⟨_, rfl, _, rfl, a, _, _, _, rfl, rfl, hS, hz, _, rfl, ?_⟩
    generalize hc : (if z < 0 then -z else z) = cell
    refine ⟨_, rfl, _, _, rfl, rfl, ⟨by decide, by decide, by decide⟩, _, _, rfl, rfl, _, rfl, ?_⟩
    refine ite2 (fun _ => ⟨_, rfl, ?_⟩) (fun _ => ?_)
    all_goals
      refine ⟨_, rfl, .inl ⟨_, rfl, _, _, rfl, rfl, (by show (0 : Int) < 2147483629; decide), _, _, rfl, rfl, .inr (by decide), _, rfl, _, _, rfl, rfl, .inl (by decide), _, _, rfl, rfl, ?_⟩⟩
      refine .inl ⟨_, rfl, _, _, rfl, rfl, (by show (0 : Int) < 2147483629; decide), _, _, rfl, rfl, (by show 2 ≤ sizeLine; decide), fun p hp => q p _ _ hp⟩
  · refine ⟨_, rfl, a, _, rfl, .inl hS, _, _, rfl, rfl, _, rfl, ?_⟩
    refine ite2 (fun d => ?_) (fun d => ?_)
    · have d' : (0 : Int) < (((ns.map V.int).length : Nat) : Int) := of_decide_eq_true d
      obtain ⟨m0, m1⟩ := mod_ix (k := k) d'
      obtain ⟨z, hz⟩ := at_in (ns := ns) m0 (by rw [hl] at m1 ⊢; exact m1)
      refine ⟨_, rfl, _, rfl, _, rfl, .inl ⟨_, rfl, _, rfl, a, _, rfl, .inl hS, _, _, rfl, rfl, d', a, _, _, _, rfl, rfl, hS, hz, _, rfl, ?_⟩⟩
      refine .inl ⟨_, rfl, _, _, rfl, rfl, (by show (0 : Int) < 2147483629; decide), _, _, rfl, rfl, .inr (by decide), _, _, rfl, rfl, ?_⟩
      generalize hc : (6481 * k + 37 + (if z < 0 then -z else z) % 2147483629 * 40093) = cell
      refine ⟨_, rfl, _, _, rfl, rfl, ⟨by decide, by decide, by decide⟩, _, _, rfl, rfl, _, rfl, ?_⟩
      refine ite2 (fun _ => ⟨_, rfl, ?_⟩) (fun _ => ?_)
      all_goals
        refine ⟨_, rfl, .inl ⟨_, rfl, _, _, rfl, rfl, (by show (0 : Int) < 2147483629; decide), _, _, rfl, rfl, .inr (by decide), _, rfl, _, _, rfl, rfl, .inl (by decide), _, _, rfl, rfl, ?_⟩⟩
        refine .inl ⟨_, rfl, _, _, rfl, rfl, (by show (0 : Int) < 2147483629; decide), _, _, rfl, rfl, (by show 2 ≤ sizeLine; decide), fun p hp => q p _ _ hp⟩
    · generalize hc : (6481 * k + 37) = cell
      refine ⟨_, rfl, _, _, rfl, rfl, ⟨by decide, by decide, by decide⟩, _, _, rfl, rfl, _, rfl, ?_⟩
      refine ite2 (fun _ => ⟨_, rfl, ?_⟩) (fun _ => ?_)
      all_goals
        refine ⟨_, rfl, .inl ⟨_, rfl, _, _, rfl, rfl, (by show (0 : Int) < 2147483629; decide), _, _, rfl, rfl, .inr (by decide), _, rfl, _, _, rfl, rfl, .inl (by decide), _, _, rfl, rfl, ?_⟩⟩
        refine .inl ⟨_, rfl, _, _, rfl, rfl, (by show (0 : Int) < 2147483629; decide), _, _, rfl, rfl, (by show 2 ≤ sizeLine; decide), fun p hp => q p _ _ hp⟩
theorem scChoose : FnScope ["_law_box", "_law_many", "_law_digit", "_law_first"] ["_law_box", "_law_many"] (defScope sChoose) := ⟨rfl, rfl, rfl, by decide +kernel, rfl, by decide +kernel, by decide +kernel⟩
theorem ok_choose {f : Addr} {fd : FuncData} (F : Fun K "_law_choose" "_law_choose" sChoose f fd) (T : Blt mg) : FnOk P w K mg base CX0 1 f fd ["_law_box", "_law_many"] spChoose := by
  refine F.ok scChoose (fun vs H Q E h => ?_) (fun cdv A outer s H vs Q E hr h => ?_)
  · obtain ⟨b, m, rfl, _⟩ := h
    rfl
  obtain ⟨b, m, rfl, ⟨x, y, hb⟩, h0, h1, q⟩ := h
  have hS : SqL K H b [.int x, .int y] := SqL.of hb
  refine ⟨_, pss_cons (ps_if (pt_cmpR op_gt (pe_ix ix_list (pv 0) pe_int (fun _ _ => rfl)) pe_int (nomark _))
      (pss_cons (ps_set (i := 2) scChoose.nd rfl (Or.inl rfl) (pe_op op_mod (pe_callTy call_int1 (by rfl) T.int (by decide +kernel) (pa_cons (pe_ix ix_list (pv 0) pe_int (fun _ _ => rfl)) pa_nil)) (pv 1)))
      (pss_cons (ps_asg (pe_op op_fdiv (pe_ix ix_list (pv 0) pe_int (fun _ _ => rfl)) (pv 1)) (pg_sub (pv 0) pe_int set_list))
      (pss_one (ps_ret (pv 2))))) pss_nil)
    (pss_cons (ps_set (i := 3) scChoose.nd rfl (Or.inl rfl) (pe_op op_mod (pe_callTy call_int1 (by rfl) T.int (by decide +kernel) (pa_cons (pe_op op_add (pe_op op_mul (pe_ix ix_list (pv 0) pe_int (fun _ _ => rfl)) pe_int) pe_int) pa_nil)) pe_int))
    (pss_cons (ps_asg (pe_op op_add (pe_op op_mod (pe_callTy call_int1 (by rfl) T.int (by decide +kernel) (pa_cons (pe_op op_add (pe_op op_mul (pv 3) pe_int) pe_int) pa_nil)) pe_int) pe_int) (pg_sub (pv 0) pe_int set_list))
    (pss_one (ps_ret (pe_op op_mod (pe_callTy call_int1 (by rfl) T.int (by decide +kernel) (pa_cons (pe_op op_fdiv (pe_op op_add (pe_op op_mul (pv 3) pe_int) (pe_ix ix_list (pv 0) pe_int (fun _ _ => rfl))) pe_int) pa_nil)) (pv 1)))))), ?_⟩
  have a0 : atI ([.int x, .int y] : List V) 0 = some (.int x) := rfl
  have a1 : atI ([.int x, .int y] : List V) 1 = some (.int y) := rfl
  refine ⟨_, rfl, b, _, _, _, rfl, rfl, hS, a0, _, _, rfl, rfl, _, rfl, ?_⟩
  refine ite2 (fun c => ?_) (fun c => ?_)
  · refine ⟨_, rfl, b, _, _, _, rfl, rfl, hS, a0, .inl ⟨_, rfl, _, rfl, _, _, rfl, rfl, h0, ?_⟩⟩
    refine ⟨_, rfl, b, _, _, _, rfl, rfl, hS, a0, _, rfl, _, _, rfl, rfl, ⟨h0, by omega⟩, ?_⟩
    refine ⟨_, rfl, b, _, _, 0, rfl, rfl, hb, rfl, ?_⟩
    exact ⟨_, rfl, q (x % m) (x / m) y (mod_ix h0).1 (mod_ix h0).2⟩
  · refine ⟨_, rfl, b, _, _, _, rfl, rfl, hS, a1, _, _, rfl, rfl, .inr (by decide), _, _, rfl, rfl, .inl ⟨_, rfl, _, _, rfl, rfl, (by show (0 : Int) < 2147483563; decide), ?_⟩⟩
    refine ⟨_, rfl, _, _, rfl, rfl, .inr (by decide), _, _, rfl, rfl, .inl ⟨_, rfl, _, _, rfl, rfl, (by show (0 : Int) < 2147483629; decide), _, _, rfl, rfl, ?_⟩⟩
    refine ⟨_, rfl, b, _, _, 1, rfl, rfl, hb, rfl, ?_⟩
    refine ⟨_, rfl, _, _, rfl, rfl, .inr (by decide), _, rfl, b, _, _, _, rfl, rfl, SqL.of upd_same, rfl, _, _, rfl, rfl, _, _, rfl, rfl, ⟨by decide, by decide⟩, .inl ⟨_, rfl, _, rfl, _, _, rfl, rfl, h0, ?_⟩⟩
    exact q _ x ((((y * 40014 + 17) % 2147483563) * 40692 + 3067) % 2147483629 + 1) (mod_ix h0).1 (mod_ix h0).2
theorem scOneOf : FnScope ["_law_box", "_law_some"] ["_law_box", "_law_some"] (defScope sOneOf) := ⟨rfl, rfl, rfl, by decide +kernel, rfl, by decide +kernel, by decide +kernel⟩
theorem ok_oneof {f g : Addr} {fd gd : FuncData} (F : Fun K "_law_one_of" "_law_one_of" sOneOf f fd) (T : Blt mg) (G : FnOk P w K mg base CX0 1 g gd ["_law_box", "_law_many"] spChoose) (bG : Binds K gd ["_law_box", "_law_many"] []) (kG : PySem.W.keepIn K (.ref g) = true) (mG : mg "_law_choose" = some (.ref g)) :
    FnOk P w K mg base CX0 2 f fd ["_law_box", "_law_some"] (spOneOf K) := by
  refine F.ok scOneOf (fun vs H Q E h => ?_) (fun cdv A outer s H vs Q E hr h => ?_)
  · obtain ⟨b, s, xs, rfl, _⟩ := h
    rfl
  obtain ⟨b, a, xs, rfl, hb, hn, hS, h0, h1, q⟩ := h
  refine ⟨_, pss_one (ps_ret (pe_ix ix_list (pv 1) (pe_call G hr rfl mG kG bG .nil pass0 (pa_cons (pv 0) (pa_cons (pe_callB call_len_seq (by rfl) T.len PySem.boot_len (pa_cons (pv 1) pa_nil)) pa_nil))) (fun _ _ => rfl))), ?_⟩
  refine ⟨_, rfl, _, rfl, _, rfl, a, xs, rfl, .inl hS, b, _, rfl, hb, by omega, by omega, fun d x y d0 d1 => ?_⟩
  obtain ⟨j, rfl⟩ : ∃ j : Nat, d = (j : Int) := ⟨d.toNat, by omega⟩
  have hj : j < xs.length := by omega
  have e : xs[j]? = some xs[j] := List.getElem?_eq_getElem hj
  exact ⟨a, xs, _, _, rfl, rfl, Kb.box.seq hn hS, atI_nat e, q j _ x y e⟩
end
end LT
namespace LT
open PySem L2
/-! ### data -/
mutual
theorem dp_mono {K : PySem.W.Frag} {H J : Hp} (s : Same H J) : ∀ (d : PyData) (v : V), Dp K H v d → Dp K J v d
  | .none, _, h => by cases h; exact .non
  | .bool b, _, h => by cases h; exact .bl b
  | .int i, _, h => by cases h; exact .int i
  | .str x, _, h => by cases h; exact .str x
  | .list ds, _, h => by
    cases h with
    | lst hs ha => exact .lst (s.seq hs) (dpAll_mono s ds _ ha)
  | .tuple ds, _, h => by
    cases h with
    | tup hs ha => exact .tup (same_tup s hs) (dpAll_mono s ds _ ha)
  | .dict _, _, h => by cases h
where
  same_tup {K : PySem.W.Frag} {H J : Hp} {a : Addr} {xs : List V} (e : Same H J) (h : SqT K H a xs) : SqT K J a xs := by
    rcases h with (h | ⟨o, h⟩) | h
    · exact .inl (.inl (e _ _ h))
    · exact .inl (.inr ⟨o, e _ _ h⟩)
    · exact .inr h
theorem dpAll_mono {K : PySem.W.Frag} {H J : Hp} (s : Same H J) : ∀ (ds : List PyData) (vs : List V), DpAll K H vs ds → DpAll K J vs ds
  | [], _, h => by cases h; exact .nil
  | d :: ds, _, h => by
    cases h with
    | cons h1 h2 => exact .cons (dp_mono s d _ h1) (dpAll_mono s ds _ h2)
end
theorem dpAll_get {K : PySem.W.Frag} {H : Hp} : ∀ {ds : List PyData} {vs : List V} {i : Nat} {v : V}, DpAll K H vs ds → vs[i]? = some v → ∃ d, d ∈ ds ∧ Dp K H v d
  | [], _, _, _, h, e => by
    cases h
    cases e
  | d :: ds, _, 0, _, h, e => by
    cases h with
    | cons h1 h2 =>
      cases e
      exact ⟨d, List.mem_cons_self, h1⟩
  | d :: ds, _, i + 1, _, h, e => by
    cases h with
    | cons h1 h2 =>
      obtain ⟨d', m, q⟩ := dpAll_get h2 (i := i) e
      exact ⟨d', List.mem_cons_of_mem _ m, q⟩
theorem dpAll_add {K : PySem.W.Frag} {H : Hp} {v : V} {d : PyData} (hd : Dp K H v d) : ∀ {ds : List PyData} {vs : List V}, DpAll K H vs ds → DpAll K H (vs ++ [v]) (ds ++ [d])
  | [], _, h => by
    cases h
    exact .cons hd .nil
  | _ :: _, _, h => by
    cases h with
    | cons h1 h2 => exact .cons h1 (dpAll_add hd h2)
theorem dpAll_len {K : PySem.W.Frag} {H : Hp} : ∀ {ds : List PyData} {vs : List V}, DpAll K H vs ds → vs.length = ds.length
  | [], _, h => by
    cases h
    rfl
  | _ :: _, _, h => by
    cases h with
    | cons h1 h2 => exact congrArg (· + 1) (dpAll_len h2)
/-- what is new from H to J -/
def frs (H J : Hp) : Hp := fun c => match H c with
  | some _ => none
  | none => J c
theorem frs_of {H J : Hp} {c : Addr} (h : H c = none) : frs H J c = J c := by
  unfold frs
  rw [h]
theorem frs_some {H J : Hp} {c : Addr} {o : HO} (h : frs H J c = some o) : H c = none ∧ J c = some o := by
  unfold frs at h
  split at h
  · cases h
  · rename_i e
    exact ⟨e, h⟩
/-- where what is new from H to J stands also in L, seen from G -/
theorem frs_same {G H J L : Hp} (h : ∀ c o, H c = none → J c = some o → G c = none ∧ L c = some o) : Same (frs H J) (frs G L) := fun c o e => by
  obtain ⟨e1, e2⟩ := frs_some e
  obtain ⟨q1, q2⟩ := h c o e1 e2
  rw [frs_of q1]
  exact q2
theorem frs_sub {H J : Hp} : Same (frs H J) J := fun _ _ e => (frs_some e).2
def menu : List PyData := [.none, .bool true, .bool false, .int 0, .int 1, .int 7, .int (-1), .int (10 ^ 20), .str "", .str "run", .str "also", .str "keep", .tuple [], .list [], .str "abcde", .str "A", .tuple [.str "run"]]
/-- the data that the law draws: n levels -/
inductive An : Nat → PyData → Prop
  | one {n : Nat} {d : PyData} : d ∈ menu → An n d
  | lst {n : Nat} {ds : List PyData} : ds.length ≤ 3 → (∀ d ∈ ds, An n d) → An (n + 1) (.list ds)
  | tup {n : Nat} {ds : List PyData} : ds.length ≤ 3 → (∀ d ∈ ds, An n d) → An (n + 1) (.tuple ds)
def spAny (K : PySem.W.Frag) (n : Nat) : Sp := fun vs H Q _ => ∃ b : Addr, vs = [.ref b, .int (n : Int)] ∧ Box H b ∧
  ∀ (v : V) (d : PyData) (J : Hp), An n d → Dp K (frs H J) v d → Kb b H J → Box J b → Q v J
section
variable {P : Program} {w : World} {K : PySem.W.Frag} {mg : Str → Option Value} {base : Heap}
theorem no_ok {CX : CXT} {f : Addr} {fd : FuncData} {ps : List Str} {k : Nat} : FnOk P w K mg base CX k f fd ps (fun _ _ _ _ => False) :=
  ⟨fun _ _ _ _ h => h.elim, fun _ _ _ _ _ _ _ _ _ _ _ _ _ h => h.elim⟩
/-- the displayed list -/
theorem odd_dp {H : Hp} {p q r : Addr} (hp : H p = some (.tup [])) (hq : H q = some (.lst [])) (hr : H r = some (.tup [.str "run"])) :
    DpAll K H [.non, .bl true, .bl false, .int 0, .int 1, .int 7, .int (-1), .int (10 ^ (20 : Int).toNat), .str "", .str "run", .str "also", .str "keep", .ref p, .ref q, .str "abcde", .str "A", .ref r] menu :=
  .cons .non (.cons (.bl _) (.cons (.bl _) (.cons (.int _) (.cons (.int _) (.cons (.int _) (.cons (.int _) (.cons (.int _) (.cons (.str _) (.cons (.str _) (.cons (.str _) (.cons (.str _)
    (.cons (.tup (SqT.of hp) .nil) (.cons (.lst (SqL.of hq) .nil) (.cons (.str _) (.cons (.str _) (.cons (.tup (SqT.of hr) (.cons (.str _) .nil)) .nil))))))))))))))))
theorem menu_heap {H1 : Hp} {b p t r l : Addr} {us : List V} (hp : H1 p = none) (ht : upd H1 p (.tup []) t = none) (hr : upd (upd H1 p (.tup [])) t (.lst []) r = none)
    (hl : upd (upd (upd H1 p (.tup [])) t (.lst [])) r (.tup [.str "run"]) l = none) (hb : Box H1 b) :
    Kb b H1 (upd (upd (upd (upd H1 p (.tup [])) t (.lst [])) r (.tup [.str "run"])) l (.lst us)) ∧
    frs H1 (upd (upd (upd (upd H1 p (.tup [])) t (.lst [])) r (.tup [.str "run"])) l (.lst us)) p = some (.tup []) ∧
    frs H1 (upd (upd (upd (upd H1 p (.tup [])) t (.lst [])) r (.tup [.str "run"])) l (.lst us)) t = some (.lst []) ∧
    frs H1 (upd (upd (upd (upd H1 p (.tup [])) t (.lst [])) r (.tup [.str "run"])) l (.lst us)) r = some (.tup [.str "run"]) ∧
    Box (upd (upd (upd (upd H1 p (.tup [])) t (.lst [])) r (.tup [.str "run"])) l (.lst us)) b ∧ l ≠ b := by
  have s1 := new_same hp (.tup [])
  have s2 := new_same ht (.lst [])
  have s3 := new_same hr (.tup [.str "run"])
  have s4 := new_same hl (.lst us)
  have f1 : H1 t = none := s1.free ht
  have f2 : H1 r = none := s1.free (s2.free hr)
  have f3 : H1 l = none := s1.free (s2.free (s3.free hl))
  obtain ⟨x, y, eb⟩ := hb
  refine ⟨fun c o _ e => s4 _ _ (s3 _ _ (s2 _ _ (s1 _ _ e))), ?_, ?_, ?_, ⟨x, y, s4 _ _ (s3 _ _ (s2 _ _ (s1 _ _ eb)))⟩, fun z => by rw [z, eb] at f3; cases f3⟩
  · rw [frs_of hp]
    exact s4 _ _ (s3 _ _ (s2 _ _ upd_same))
  · rw [frs_of f1]
    exact s4 _ _ (s3 _ _ upd_same)
  · rw [frs_of f2]
    exact s4 _ _ upd_same
/-- the comprehension's turns: what stands behind i of them -/
def Loop (K : PySem.W.Frag) (b : Addr) (m : Nat) (H2 : Hp) (D : Addr) (i : Nat) (J : Hp) : Prop :=
  ∃ (vs : List V) (ds : List PyData), J D = some (.lst vs) ∧ vs.length = i ∧ DpAll K (frs (upd H2 D (.lst [])) J) vs ds ∧ (∀ d ∈ ds, An m d) ∧ Box J b ∧ H2 D = none ∧ D ≠ b ∧ ∀ c o, c ≠ b → H2 c = some o → J c = some o
theorem loop_start {K : PySem.W.Frag} {b D : Addr} {m : Nat} {H2 : Hp} (hD : H2 D = none) (hb : Box H2 b) : Loop K b m H2 D 0 (upd H2 D (.lst [])) := by
  obtain ⟨x, y, e⟩ := hb
  have n : D ≠ b := fun z => by rw [z, e] at hD; cases hD
  exact ⟨[], [], upd_same, rfl, .nil, (fun _ h => nomatch h), ⟨x, y, by rw [upd_ne (Ne.symm n)]; exact e⟩, hD, n, fun c o _ q => by rw [upd_ne (ne_of_none q hD)]; exact q⟩
theorem loop_turn {K : PySem.W.Frag} {b D : Addr} {m i : Nat} {H2 J L : Hp} {v : V} {d : PyData} (h : Loop K b m H2 D i J) (hb2 : Box H2 b) (hd : An m d) (hv : Dp K (frs J L) v d) (k : Kb b J L) (hb : Box L b) :
    ∃ acc, L D = some (.lst acc) ∧ acc.length = i ∧ Loop K b m H2 D (i + 1) (upd L D (.lst (acc ++ [v]))) := by
  obtain ⟨vs, ds, h1, h2, h3, h4, ⟨x0, y0, h5⟩, h6, h7, h8⟩ := h
  obtain ⟨x, y, e⟩ := hb
  obtain ⟨x2, y2, e2⟩ := hb2
  have g : ∀ c, upd H2 D (.lst []) c = none → c ≠ b ∧ c ≠ D := fun c z => ⟨(fun q => by rw [q, upd_ne (Ne.symm h7), e2] at z; cases z), (fun q => by rw [q, upd_same] at z; cases z)⟩
  refine ⟨vs, k D _ h7 h1, h2, vs ++ [v], ds ++ [d], upd_same, by rw [List.length_append, h2]; rfl, dpAll_add (dp_mono (frs_same fun c o n z => ?_) d v hv) (dpAll_mono (frs_same fun c o n z => ?_) ds vs h3), fun d' hm => ?_, ⟨x, y, by rw [upd_ne (Ne.symm h7)]; exact e⟩, h6, h7, fun c o n q => ?_⟩
  · have cD : c ≠ D := fun q => by rw [q, h1] at n; cases n
    have cb : c ≠ b := fun q => by rw [q, h5] at n; cases n
    refine ⟨?_, by rw [upd_ne cD]; exact z⟩
    rw [upd_ne cD]
    cases w : H2 c with
    | none => rfl
    | some u =>
      rw [h8 c u cb w] at n
      cases n
  · obtain ⟨cb, cD⟩ := g c n
    exact ⟨n, by rw [upd_ne cD]; exact k c o cb z⟩
  · rcases List.mem_append.mp hm with q | q
    · exact h4 d' q
    · rw [List.mem_singleton.mp q]
      exact hd
  · have cD : c ≠ D := fun z => by rw [z, h6] at q; cases q
    rw [upd_ne cD]
    exact k c o n (h8 c o n q)
theorem scAny : FnScope ["_law_box", "_law_deep", "_law_form", "_law_odd", "_law_some", "_law_turn"] ["_law_box", "_law_deep"] (defScope sAny) := ⟨rfl, rfl, rfl, by decide +kernel, rfl, by decide +kernel, by decide +kernel⟩
structure DefG (P : Program) (w : World) (K : PySem.W.Frag) (mg : Str → Option Value) (base : Heap) (x : Str) (k : Nat) (ps : List Str) (sp : Sp) : Prop where
  ex : ∃ (g : Addr) (gd : FuncData), FnOk P w K mg base CX0 k g gd ps sp ∧ Binds K gd ps [] ∧ PySem.W.keepIn K (.ref g) = true ∧ mg x = some (.ref g)
theorem ok_any {n : Nat} {f g o : Addr} {fd gd od : FuncData} {spR : Sp} (F : Fun K "_law_anything" "_law_anything" sAny f fd) (T : Blt mg)
    (G : FnOk P w K mg base CX0 1 g gd ["_law_box", "_law_many"] spChoose) (bG : Binds K gd ["_law_box", "_law_many"] []) (kG : PySem.W.keepIn K (.ref g) = true) (mG : mg "_law_choose" = some (.ref g))
    (O : FnOk P w K mg base CX0 2 o od ["_law_box", "_law_some"] (spOneOf K)) (bO : Binds K od ["_law_box", "_law_some"] []) (kO : PySem.W.keepIn K (.ref o) = true) (mO : mg "_law_one_of" = some (.ref o))
    (R : FnOk P w K mg base CX0 (n + 2) f fd ["_law_box", "_law_deep"] spR) (bR : Binds K fd ["_law_box", "_law_deep"] []) (mR : mg "_law_anything" = some (.ref f))
    (hR : ∀ m, n = m + 1 → spR = spAny K m) :
    FnOk P w K mg base CX0 (n + 3) f fd ["_law_box", "_law_deep"] (spAny K n) := by
  refine F.ok scAny (fun vs H Q E h => ?_) (fun cdv A outer s H vs Q E hr h => ?_)
  · obtain ⟨b, rfl, _⟩ := h
    rfl
  obtain ⟨b, rfl, hb, q⟩ := h
  have hr1 : Room 1 _ := hr.mono (by omega)
  have hr2 : Room 2 _ := hr.mono (by omega)
  refine ⟨_, pss_cons (ps_set (i := 2) scAny.nd rfl (Or.inl rfl) (pe_call G hr1 rfl mG kG bG .nil pass0 (pa_cons (pv 0) (pa_cons pe_int pa_nil))))
    (pss_cons (ps_if (PW.pt (pw_or (pt_cmpR op_lt (pv 1) pe_int (nomark _)) (pw_or1 (pt_cmpR op_lt (pv 2) pe_int (nomark _)))))
      (pss_cons (ps_set (i := 3) scAny.nd rfl (Or.inl rfl) (pe_lst (pa_cons pe_non (pa_cons pe_bl (pa_cons pe_bl (pa_cons pe_int (pa_cons pe_int (pa_cons pe_int (pa_cons (pe_un un_neg pe_int) (pa_cons (pe_op op_pow pe_int pe_int)
        (pa_cons pe_str (pa_cons pe_str (pa_cons pe_str (pa_cons pe_str (pa_cons (pe_tup pa_nil) (pa_cons (pe_lst pa_nil) (pa_cons pe_str (pa_cons pe_str (pa_cons (pe_tup (pa_cons pe_str pa_nil)) pa_nil)))))))))))))))))))
      (pss_one (ps_ret (pe_call O hr2 rfl mO kO bO .nil pass0 (pa_cons (pv 0) (pa_cons (pv 3) pa_nil))))))
      pss_nil)
    (pss_cons (ps_setLc (i := 4) (own := [("_law_turn", 5)]) (g := gName 5) (tt := tYes) rfl scAny.nd rfl rfl (sw_true rfl rfl rfl (by decide +kernel)) (pi_range1 rfl T.range (pa_cons (pe_call G hr1 rfl mG kG bG .nil pass0 (pa_cons (pv 0) (pa_cons pe_int pa_nil))) pa_nil))
        (blkOk_by (N := ["_law_box", "_law_deep", "_law_form", "_law_odd", "_law_some", "_law_turn"]) (sc := defScope sAny) (own := [("_law_turn", 5)]) (by decide +kernel)) (fun _ _ _ _ _ => pg_name (i := 5) scAny.nd rfl (Or.inl rfl)) (fun _ _ _ _ _ => pts_nil)
        (fun _ _ _ _ _ => pe_call R hr rfl mR F.kp bR .nil pass0 (pa_cons (pv 0) (pa_cons (pe_op op_sub (pv 1) pe_int) pa_nil))))
    (pss_one (ps_ret (pe_ifExp (pt_cmpR op_lt (pv 2) pe_int (nomark _)) (pe_callTy call_tuple_of (by rfl) T.tuple (by decide +kernel) (pa_cons (pv 4) pa_nil)) (pv 4)))))), ?_⟩
  refine ⟨_, rfl, b, _, rfl, hb, by decide, by decide, fun form x y f0 f1 => ?_⟩
  have b1 : Box (upd H b (.lst [.int x, .int y])) b := ⟨x, y, upd_same⟩
  generalize hH1 : upd H b (.lst [.int x, .int y]) = H1 at b1 ⊢
  have k1 : Kb b H H1 := by rw [← hH1]; exact Kb.box
  have fr1 : ∀ c, H1 c = none → H c = none := fun c e => by
    cases z : H c with
    | none => rfl
    | some u =>
      by_cases hc : c = b
      · obtain ⟨x', y', b2⟩ := b1
        rw [hc, b2] at e
        cases e
      · rw [k1 c u hc z] at e
        cases e
  have base : ∀ v J, (∃ d, An n d ∧ Dp K (frs H1 J) v d) → Kb b H1 J → Box J b → Q v J := fun v J ⟨d, hd, hp⟩ kk bb =>
    q v d J hd (dp_mono (frs_same fun c o e1 e2 => ⟨fr1 c e1, e2⟩) d v hp) (k1.trans kk) bb
  refine ⟨_, rfl, _, _, rfl, rfl, _, rfl, ?_⟩
  refine ite2 (fun c1 => iteT ?_) (fun c1 => ?_)
  · refine ⟨_, rfl, _, _, rfl, rfl, ⟨by decide, by decide, by decide⟩, (by show 0 ≤ sizeLine; decide), fun p hp => ⟨(by show 0 ≤ sizeLine; decide), fun t ht => ⟨(by show 1 ≤ sizeLine; decide), fun r hr => ⟨(by show 17 ≤ sizeLine; decide), fun l hl => ?_⟩⟩⟩⟩
    obtain ⟨kk, e1, e2, e3, e4, e5⟩ := menu_heap hp ht hr hl b1
    refine ⟨_, rfl, _, rfl, b, l, _, rfl, e4, e5, SqL.of upd_same, (by show 0 < 17; decide), (by show 17 ≤ 1000; decide), fun i v x y e => ?_⟩
    refine base v _ ?_ (kk.trans Kb.box) ⟨x, y, upd_same⟩
    obtain ⟨d, md, hd⟩ := dpAll_get (odd_dp e1 e2 e3) e
    refine ⟨d, .one md, dp_mono (frs_same fun c o n z => ⟨n, ?_⟩) d v hd⟩
    have nb : c ≠ b := fun zb => by
      obtain ⟨x', y', b2⟩ := b1
      rw [zb, b2] at n
      cases n
    rw [upd_ne nb]
    exact z
  · refine ⟨_, rfl, _, _, rfl, rfl, _, rfl, ?_⟩
    refine ite2 (fun c2 => ?_) (fun c2 => ?_)
    · refine ⟨_, rfl, _, _, rfl, rfl, ⟨by decide, by decide, by decide⟩, (by show 0 ≤ sizeLine; decide), fun p hp => ⟨(by show 0 ≤ sizeLine; decide), fun t ht => ⟨(by show 1 ≤ sizeLine; decide), fun r hr => ⟨(by show 17 ≤ sizeLine; decide), fun l hl => ?_⟩⟩⟩⟩
      obtain ⟨kk, e1, e2, e3, e4, e5⟩ := menu_heap hp ht hr hl b1
      refine ⟨_, rfl, _, rfl, b, l, _, rfl, e4, e5, SqL.of upd_same, (by show 0 < 17; decide), (by show 17 ≤ 1000; decide), fun i v x y e => ?_⟩
      refine base v _ ?_ (kk.trans Kb.box) ⟨x, y, upd_same⟩
      obtain ⟨d, md, hd⟩ := dpAll_get (odd_dp e1 e2 e3) e
      refine ⟨d, .one md, dp_mono (frs_same fun c o n z => ⟨n, ?_⟩) d v hd⟩
      have nb : c ≠ b := fun zb => by
        obtain ⟨x', y', b2⟩ := b1
        rw [zb, b2] at n
        cases n
      rw [upd_ne nb]
      exact z
    · have hn : ¬ ((n : Int) < 1) := fun z => c1 (decide_eq_true z)
      obtain ⟨m, rfl⟩ : ∃ m, n = m + 1 := ⟨n - 1, by omega⟩
      cases hR m rfl
      refine ⟨_, rfl, b, _, rfl, b1, by decide, by decide, fun many x2 y2 g0 g1 => ?_⟩
      have b2 : Box (upd H1 b (.lst [.int x2, .int y2])) b := ⟨x2, y2, upd_same⟩
      have k2 : Kb b H1 (upd H1 b (.lst [.int x2, .int y2])) := Kb.box
      generalize hH2 : upd H1 b (.lst [.int x2, .int y2]) = H2 at b2 k2 ⊢
      refine ⟨many, rfl, by omega, by omega, fun D hD => lc_range (lo := 0) (n := many.toNat) (Loop K b m H2 D) (loop_start hD b2) (fun i J hi L => ?_) (fun J L => ?_)⟩
      · have bJ : Box J b := by
          obtain ⟨_, _, _, _, _, _, z, _⟩ := L
          exact z
        have em : ((m + 1 : Nat) : Int) - 1 = (m : Int) := by omega
        refine ⟨rfl, _, rfl, _, rfl, _, _, rfl, rfl, b, by rw [← em]; rfl, bJ, fun v d M hd hv kk bb => ?_⟩
        obtain ⟨acc, e1, e2, e3⟩ := loop_turn L b2 hd hv kk bb
        exact ⟨acc, e1, by rw [e2]; exact small1000 (by omega), e3⟩
      · obtain ⟨vs, ds, h1, h2, h3, h4, h5, h6, h7, h8⟩ := L
        have hlen : ds.length ≤ 3 := by
          have z := dpAll_len h3
          omega
        have fD : H1 D = none := by
          cases w : H1 D with
          | none => rfl
          | some u =>
            rw [k2 D u h7 w] at h6
            cases h6
        have kJ : Kb b H1 J := fun c o n e => h8 c o n (k2 c o n e)
        have fr2 : ∀ c, upd H2 D (.lst []) c = none → H1 c = none := fun c e => by
          cases w : H1 c with
          | none => rfl
          | some u =>
            have cD : c ≠ D := fun z => by rw [z, upd_same] at e; cases e
            rw [upd_ne cD] at e
            by_cases cb : c = b
            · obtain ⟨x', y', z⟩ := b2
              rw [cb, z] at e
              cases e
            · rw [k2 c u cb w] at e
              cases e
        refine ⟨_, rfl, _, _, rfl, rfl, _, rfl, ?_⟩
        refine ite2 (fun c3 => ?_) (fun c3 => ?_)
        · refine ⟨_, rfl, D, vs, rfl, .inl ⟨SqL.of h1, fun l hl => ?_⟩⟩
          have fl : H1 l = none := by
            cases w : H1 l with
            | none => rfl
            | some u =>
              by_cases lb : l = b
              · obtain ⟨x', y', z⟩ := h5
                rw [lb, z] at hl
                cases hl
              · rw [kJ l u lb w] at hl
                cases hl
          refine base _ _ ⟨.tuple ds, .tup hlen h4, .tup (SqT.of (by rw [frs_of fl]; exact upd_same)) (dpAll_mono (frs_same fun c o n z => ⟨fr2 c n, new_same hl _ c o z⟩) ds vs h3)⟩ (kJ.trans (Kb.of (new_same hl _))) ?_
          obtain ⟨x', y', z⟩ := h5
          exact ⟨x', y', new_same hl _ _ _ z⟩
        · refine ⟨_, rfl, base _ _ ⟨.list ds, .lst hlen h4, .lst (SqL.of (by rw [frs_of fD]; exact h1)) (dpAll_mono (frs_same fun c o n z => ⟨fr2 c n, z⟩) ds vs h3)⟩ kJ h5⟩
theorem any_all {f g o : Addr} {fd gd od : FuncData} (F : Fun K "_law_anything" "_law_anything" sAny f fd) (T : Blt mg)
    (G : FnOk P w K mg base CX0 1 g gd ["_law_box", "_law_many"] spChoose) (bG : Binds K gd ["_law_box", "_law_many"] []) (kG : PySem.W.keepIn K (.ref g) = true) (mG : mg "_law_choose" = some (.ref g))
    (O : FnOk P w K mg base CX0 2 o od ["_law_box", "_law_some"] (spOneOf K)) (bO : Binds K od ["_law_box", "_law_some"] []) (kO : PySem.W.keepIn K (.ref o) = true) (mO : mg "_law_one_of" = some (.ref o))
    (bR : Binds K fd ["_law_box", "_law_deep"] []) (mR : mg "_law_anything" = some (.ref f)) : ∀ n : Nat, FnOk P w K mg base CX0 (n + 3) f fd ["_law_box", "_law_deep"] (spAny K n)
  | 0 => ok_any F T G bG kG mG O bO kO mO no_ok bR mR (fun m e => nomatch e)
  | n + 1 => ok_any F T G bG kG mG O bO kO mO (any_all F T G bG kG mG O bO kO mO bR mR n) bR mR (fun m e => by cases e; rfl)
end
end LT
namespace LT
open PySem PySem.SeqAt
section
variable {prog : Program} {w : World} {A : Around} {E : Value → Shared → Prop} {s : Shared}
theorem str_no_own (b : Str) (u : Tok) (l C dx : Addr) :
    Meets (Builtin.«str.__eq__» ⟨[.str b u, .ref l], []⟩) (fun _ R s => s.heap.get? l = some (W.instObj C dx) ∧ R (.ok (.ret .notImplemented)) s) :=
  .of_wp fun prog w A R s h => by
    obtain ⟨hp, g, d, tk, os⟩ := s
    obtain ⟨hl, h⟩ := h
    wp_walk using AutoSeq1.wpAny_loadPart' hl, wpAny_load hl
    exact ⟨_, rfl, h⟩
/-- a text == an instance with an own ==: the text declines, the own one is asked -/
theorem rc_str_own {K : W.Frag} {b : Str} {u : Tok} {x C dx f : Addr} {Q : Value → Shared → Prop} (hu : A.units < cLine) (X : K.In s.heap) (ho : s.heap.get? x = some (W.instObj C dx)) {od : Option Obj} (I : W.InstAt s.heap x (W.instObj C dx) C od)
    (hb : W.subIn K (.ref C) (.type "str") = some false) (hs : W.findIn K (.ref C) "__eq__" = some (some (.ref f))) (hf : W.isFn K (.ref f) = true)
    (h : wpAny (model prog w) A (call (.ref f) [.ref x, .str b u]) (W.CmpBack Q) E s) : wpAny (model prog w) A (richCompare .Eq (.str b u) (.ref x)) Q E s := by
  have hT := typeIs_str s b u
  unfold richCompare
  simp only [hT.oneThing_none]
  refine wpAny_holding (wpAny_bind (wpAny_cRoomFor hu ?_))
  refine wpAny_bind (wpAny_typeOf hT (wpAny_bind (I.type.here ?_)))
  have hne : (Value.type "str" != Value.ref C) = true := rfl
  simp only [hne, if_true]
  refine wpAny_bind ((W.looks_subIn X hb).here ?_)
  simp only [Bool.false_eq_true, if_false, Bool.not_false, if_true]
  refine wpAny_bind (m := tryCompare (.str b u) _ (.ref x)) (wpAny_tryCompare_declines hT F.slot_str_eq (call_meets F.slot_str_eq hT F.entry_str_eq (F.args_str_eq_2 _ _) (str_no_own b u x C dx) ⟨ho, rfl, ?_⟩))
  refine wpAny_bind (m := tryCompare (.ref x) _ (.str b u)) ?_
  unfold tryCompare
  refine wpAny_bind (W.ifBound_K X I hs hf (wpAny_mono h (fun v s' hv => ?_) fun _ _ e => e))
  cases v <;> first | exact hv.elim | exact wpAny_pure (wpAny_pure hv)
/-- == of an item and an own instance within a tuple's own search -/
theorem eqBool_str_own {K : W.Frag} {b : Str} {u : Tok} {x C dx f : Addr} {Q : Bool → Shared → Prop} (hu : A.units < cLine) (X : K.In s.heap) (ho : s.heap.get? x = some (W.instObj C dx)) {od : Option Obj} (I : W.InstAt s.heap x (W.instObj C dx) C od)
    (hb : W.subIn K (.ref C) (.type "str") = some false) (hs : W.findIn K (.ref C) "__eq__" = some (some (.ref f))) (hf : W.isFn K (.ref f) = true)
    (h : wpAny (model prog w) A (call (.ref f) [.ref x, .str b u]) (fun v s' => ∃ r, v = .bool r ∧ Q r s') E s) : wpAny (model prog w) A (eqBool (.str b u) (.ref x)) Q E s := by
  unfold eqBool
  refine wpAny_holding ?_
  refine wpAny_ite_split (fun hab => absurd hab (by intro z; exact nomatch eq_of_beq z)) (fun _ => ?_)
  refine wpAny_bind (wpAny_mono (rc_str_own (Q := fun v s' => ∃ r, v = .bool r ∧ Q r s') hu X ho I hb hs hf (wpAny_mono h (fun v s' hv => ?_) fun _ _ z => z)) (fun v s' hv => ?_) fun _ _ z => z)
  · obtain ⟨r, rfl, q⟩ := hv
    exact ⟨r, rfl, q⟩
  · obtain ⟨r, rfl, q⟩ := hv
    exact wpAny_truthy_bool q
/-- a tuple is searched for x; I is kept by each comparison, none finds it -/
theorem tup_has_no {l : Addr} {items : Array Value} {n : Nat} {dd : Option Addr} {sl : Array (Option Value)} {x : Value} (J : Shared → Prop) (R : Result → Shared → Prop)
    (turn : ∀ y ∈ items, ∀ s, J s → wpAny (model prog w) A.in1 (eqBool y x) (fun r s' => r = false ∧ J s') (fun e s' => R (.error e) s') s)
    (fin : ∀ s, J s → R (.ok (.ret (.bool false))) s) (hl : s.heap.get? l = some { cls := .type "tuple", dict := dd, data := .seq items n, slots := sl }) (h : J s) :
    wpAny (model prog w) A.in1 (Builtin.«tuple.__contains__» ⟨[.ref l, x], []⟩) (GQ.FinOf prog w A R) (fun e s' => R (.error e) s') s := by
  have h0 := h
  obtain ⟨hp, g, d, tk, os⟩ := s
  wp_walk using AutoSeq1.wpAny_loadPart' hl, MeetsSeq2.wpAny_forIn_array _ (fun rest b s' => b.1 = none ∧ (∀ y, y ∈ rest → y ∈ items) ∧ J s') _
  case turn =>
    rintro y rest b s' ⟨hb, hmem, hJ⟩
    refine wpAny_bind (wpAny_mono (turn y (hmem y (List.mem_cons_self ..)) s' hJ) (fun r s2 hr => ?_) fun _ _ z => z)
    obtain ⟨rfl, hJ2⟩ := hr
    wp_walk
    exact ⟨rfl, fun z hz => hmem z (List.mem_cons_of_mem _ hz), hJ2⟩
  case fin =>
    rintro ⟨b1, b2⟩ s' ⟨hb, -, hJ⟩
    simp only at hb
    subst hb
    have hR : R (.ok (.ret (.bool false))) s' := fin s' hJ
    wp_walk
    exact hR
  case h =>
    exact ⟨rfl, fun y hy => by simpa using hy, h0⟩
theorem notIn_tup_no {l : Addr} {items : Array Value} {x : Value} {Q : Value → Shared → Prop} (J : Shared → Prop) (hl : s.heap.IsTuple l items)
    (turn : ∀ y ∈ items, ∀ s, J s → wpAny (model prog w) A.in1 (eqBool y x) (fun r s' => r = false ∧ J s') E s)
    (fin : ∀ s, J s → Q (.bool true) s) (h : J s) : wpAny (model prog w) A (compareOp .NotIn x (.ref l)) Q E s := by
  obtain ⟨⟨cls, dd, data, sl⟩, ho, hc, n, hd⟩ := id hl
  simp only at hc hd
  subst hc hd
  show wpAny _ A (do return .bool (!(← contains (.ref l) x))) Q E s
  have hT : s.TypeIs (.ref l) "tuple" := ⟨_, ho, rfl⟩
  refine wpAny_bind (wpAny_contains_slot hT F.slot_tuple_contains (wpAny_mono (GQ.call_here (Q := fun v s' => v = .bool false ∧ Q (.bool true) s') F.slot_tuple_contains hT F.entry_tuple_contains (F.args_tuple_contains_2 _ _)
    (tup_has_no J _ turn (fun s' hJ => ⟨rfl, fin s' hJ⟩) ho h)) (fun v s' hv => ?_) fun _ _ z => z))
  obtain ⟨rfl, q⟩ := hv
  exact wpAny_truthy_bool (wpAny_pure q)
end
end LT
namespace L2
open PySem PySem.Spec PyProof.Rows
section
variable {X : Cx}
/-- x not in a tuple of texts, x an instance of the class at C whose == says False of every text (and only makes objects) -/
def spEqT (C : Addr) : Sp := fun vs H Q _ => ∃ (a dx : Addr) (fs : List (Str × V)) (z : Str), vs = [.ref a, .str z] ∧ H a = some (.ins C dx fs) ∧ Q (.bl false) H
theorem op_notIn_own {CX : CXT} {C f : Addr} {fd : FuncData} {ps : List Str} {E : XK} {k : Nat} (F : FnOk X.prog X.w X.K X.mg X.base CX k f fd ps (spEqT C)) (hr : Room (k + 1) X.A)
    (hb : PySem.W.subIn X.K (.ref C) (.type "str") = some false) (hs : PySem.W.findIn X.K (.ref C) "__eq__" = some (some (.ref f))) (hf : PySem.W.isFn X.K (.ref f) = true) (bn : Binds X.K fd ps []) (hx : Passes CX X E) :
    OpR X (compareOp .NotIn) (fun x y H Q => ∃ (a dx p : Addr) (fs : List (Str × V)) (xs : List Str), x = .ref a ∧ H a = some (.ins C dx fs) ∧ y = .ref p ∧ SqT X.K H p (xs.map V.str) ∧ Q (.bl true) H) := by
  intro pins s σ H x y v u Q I rx ry h
  obtain ⟨a, dx, p, fs, xs, rfl, ha, rfl, hp, q⟩ := h
  cases rx
  cases ry
  obtain ⟨its, r, pl, hz⟩ := I.tuple hp
  refine LT.notIn_tup_no (fun s' => Inv X pins σ H s') pl (fun y hy s' J => ?_) (fun s' J => ⟨.bl true, H, J, rfl, q⟩) I
  obtain ⟨z, hzm⟩ : ∃ (z : Str), RelV (.str z) y := by
    have hy' : y ∈ its := by simpa using hy
    obtain ⟨i, hi⟩ := List.getElem?_of_mem hy'
    cases e : (xs.map V.str)[i]? with
    | none =>
      rw [r.none_of e] at hi
      cases hi
    | some v =>
      obtain ⟨w, ew, rw'⟩ := r.get e
      rw [hi] at ew
      cases ew
      rw [List.getElem?_map] at e
      cases e2 : xs[i]? with
      | none =>
        rw [e2] at e
        cases e
      | some z =>
        rw [e2] at e
        cases e
        exact ⟨z, rw'⟩
  obtain ⟨t, rfl⟩ := hzm
  obtain ⟨mA, O, _⟩ := ins_get J.hok ha
  obtain ⟨od, K1, _⟩ := O.look
  obtain ⟨_, _, _, hobj, _⟩ := (show ObjOk X.prog X.w H s'.heap a (.ins C dx fs) from J.hok a _ ha)
  refine LT.eqBool_str_own hr.in1.units0 J.kIn hobj K1 hb hs hf ?_
  have sp : spEqT C [.ref a, .str z] H (fun v H' => v = .bl false ∧ H' = H) E := ⟨a, dx, fs, z, rfl, ha, rfl, rfl⟩
  have e0 : Env0 X.prog X.w X.K X.mg X.base X.A.in1 X.stack s' H := J.env0.in1
  have hl := F.len _ _ _ _ sp
  have r2 : Vals [V.ref a, V.str z] [Value.ref a, Value.str z t] := .cons rfl (.cons ⟨t, rfl⟩ .nil)
  refine wpAny_call (codeAny_mono (F.run X.A.in1 X.stack s' H ⟨[.ref a, .str z t], []⟩ [.ref a, .str z t] [.ref a, .str z] _ E hr.in1 e0 (by
    have := bn s' [.ref a, .str z t] J.kIn (by simpa using hl)
    simpa using this) r2 sp) fun rr s2 hq => ?_)
  cases rr with
  | error e => exact hx pins σ H s' e s2 J hq
  | ok fl =>
    cases fl with
    | ret w =>
      obtain ⟨z2, H', J', rz, ez, eH⟩ := J.after hq
      subst ez eH
      cases rz
      exact ⟨false, rfl, rfl, J'⟩
    | next => exact False.elim hq
    | brk => exact False.elim hq
    | cont => exact False.elim hq
end
end L2
namespace LT
open PySem PySem.W PySem.Spec PySem.Calls PyProof.Rows
section
variable {prog : Program} {w : World} {A : Around} {E : Value → Shared → Prop} {s : Shared} {K : Frag} {x D : Addr} {ox : Obj}
theorem class_of_exc {od : Option Obj} {Q : Option Value → Shared → Prop} (T : L2.ExcC K D) (X : K.In s.heap) (I : InstAt s.heap x ox D od) (h : Q (some (.ref D)) { s with toks := s.toks + 1 }) :
    wpAny (model prog w) A (getAttr? (.ref x) "__class__") Q E s := by
  have found : findObj K D od "__class__" = some (.bind (.builtin "getset_descriptor.__get__") (.builtin "object.__class__")) := by
    cases od with
    | none => exact findObj_dataN (by obtain ⟨cd, e, _⟩ := any_some T.hd; rw [e]; rfl) T.ha T.hn T.ht
    | some o => exact findObj_data (by obtain ⟨cd, e, _⟩ := any_some T.hd; rw [e]; rfl) T.ha T.hn T.ht
  obtain ⟨hh, gg, dd, tt, oo⟩ := s
  have l0 := I.type (M := model prog w)
  have l1 := looks_findIn (M := model prog w) X T.hg
  have l2 := looks_findIn (M := model prog w) X T.hk
  have l3 := looks_find (M := model prog w) X I found
  have isB : Looks (model prog w) hh (isInstance (.ref x) (.type "BaseException")) true :=
    l0.andThen (looks_subIn X T.hs)
  have n2 : (Value.builtin "BaseException.__getattribute__" == Value.builtin "object.__getattribute__") = false :=
    by decide +kernel
  have n1 : (onTheHeap (Value.ref D) && Value.builtin "BaseException.__getattribute__" == Value.builtin "object.__getattribute__") = false :=
    (congrArg (onTheHeap (Value.ref D) && ·) n2).trans (Bool.and_false _)
  unfold getAttr? getAttrBy? getAttrBy
  refine wpAny_bind (wpAny_mkText (wpAny_bind (wpAny_attempt (wpAny_holding
    (wpAny_bind (l0.at (wpAny_bind (l1.at ?_))))))))
  show wpAny _ _ (if (onTheHeap (Value.ref D) &&
    Value.builtin "BaseException.__getattribute__" == Value.builtin "object.__getattribute__") = true then _ else _) _ _ _
  rw [n1, if_neg Bool.false_ne_true]
  unfold getAttrByItsOwn hookBefore
  refine wpAny_bind ?_
  have onH : onTheHeap (Value.ref D) = true := rfl
  rw [if_pos onH]
  refine l2.at (wpAny_bind (wpAny_attempt (wpAny_holding ?_)))
  unfold callGetattribute
  have n0 : (false && onTheHeap (Value.builtin "BaseException.__getattribute__")) = false := rfl
  rw [n0, if_neg Bool.false_ne_true]
  unfold boundAndCalled
  rw [PySem.F.excAttr_ValueError.ga.bind (.ref x)]
  refine wpAny_bind (wpAny_pure ?_)
  show wpAny _ _ (call (.builtin "BaseException.__getattribute__") [.ref x, .str "__class__" tt]) _ _ _
  refine wpAny_call (codeAny_call_builtin PySem.F.excAttr_ValueError.ga.plain
    PySem.F.entry_bexc_ga ?_)
  refine @check_slot (model prog w) _ _ ⟨hh, gg, dd, tt + 1, oo⟩ "BaseException.__getattribute__" "BaseException" "__getattribute__"
    (.ref x) [.str "__class__" tt] [] _ (by decide +kernel) (by decide +kernel) isB
    (PySem.F.args_bexc_ga (.ref x) (.str "__class__" tt)) ?_
  unfold Builtin.«object.__getattribute__»
  refine wpAny_bind (wpAny_of_eq (a := ((Value.ref x : Value), [Value.str "__class__" tt]))
    (by first | rfl | (simp only [slotArgs]; rfl)) ?_)
  refine wpAny_bind (wpAny_pure (wpAny_bind (l0.at (wpAny_bind (l3.at ?_)))))
  show wpAny _ _ (holding [Value.builtin "object.__class__"]
    (call (.builtin "getset_descriptor.__get__") [.builtin "object.__class__", .ref x, .ref D]) >>= ret) _ _ _
  refine wpAny_bind (wpAny_holding (wpAny_call
    (class_get (s := ⟨hh, gg, dd, tt + 1, oo⟩) (ox := ox) (od := od) X I T.hm ?_)))
  refine wpAny_pure ?_
  show wpAny _ _ (handedOut (.ref D)) _ _ _
  rw [handedOut_of (v := .ref D) rfl]
  first
    | exact wpAny_pure (wpAny_pure h)
    | exact wpAny_pure h
    | exact wpAny_pure (wpAny_bind (wpAny_pure (wpAny_pure h)))
theorem kit_exc (T : L2.ExcC K D) : KitX K (.ref x) (.ref D) (fun h => ∃ ox od, InstAt h x ox D od) where
  ty := fun _ _ _ ⟨_, _, I⟩ => I.type
  it := fun _ _ X _ => by
    obtain ⟨cdD, hcD, _⟩ := any_some T.hd
    unfold clsIn at hcD
    split at hcD
    · rename_i c' d' cd' sl' ho
      intro A' Q' E' s' k q
      unfold isType loadHead
      exact wpAny_bind (wpAny_loadPart (k _ _ (X _ _ ho)) (wpAny_pure q))
    · cases hcD
  ne := fun h tp dd its n sl X htp => by
    obtain ⟨cdD, hcD, _⟩ := any_some T.hd
    refine Bool.eq_false_iff.mpr fun q => ?_
    have e : D = tp := Value.ref.inj (beq_iff_eq.mp q)
    subst e
    unfold clsIn at hcD
    split at hcD
    · rename_i c' d' cd' sl' ho
      have z := (X _ _ ho).symm.trans htp
      cases z
    · cases hcD
  ca := fun X ⟨_, _, I⟩ k => class_of_exc T X I k
end
end LT
namespace LT
open PySem L2
abbrev sIsName : Stmt := top 1
abbrev sErrInit : Stmt := inClass (top 4) 0
abbrev sRowInit : Stmt := inClass (top 10) 0
abbrev sRowEq : Stmt := inClass (top 10) 1
abbrev sLIsName : Stmt := top 16
abbrev sDue : Stmt := top 17
abbrev sTried : Stmt := top 18
abbrev sLaw : Stmt := top 19
/-! ### the mathematics of names -/
def nameP (z : Str) : Bool := !decide ((4 : Int) < (z.length : Int)) && !decide (V.str z = V.str "also") && (Txt.isascii z && (Txt.isalpha z && Txt.islower z))
def isStr : V → Bool
  | .str _ => true
  | _ => false
def isBl : V → Bool
  | .bl _ => true
  | _ => false
def nameV (f : Str → Bool) : V → Bool
  | .str z => f z
  | _ => false
/-- what isinstance tells of a value, and how long a text is -/
structure Kind (K : PySem.W.Frag) (H : Hp) (v : V) : Prop where
  ty : ∃ t, TyX K H v t ∧ PySem.W.kitOne K t (.type "str") = some (isStr v) ∧ PySem.W.kitOne K t (.type "bool") = some (isBl v)
  sz : ∀ z, v = .str z → z.length ≤ 100
def spIsName (K : PySem.W.Frag) : Sp := fun vs H Q _ => ∃ v, vs = [v] ∧ Kind K H v ∧ Q (.bl (nameV nameP v)) H
structure Blt2 (mg : Str → Option Value) : Prop where
  isin : mg "isinstance" = none
  str : mg "str" = none
  bool : mg "bool" = none
section
variable {P : Program} {w : World} {K : PySem.W.Frag} {mg : Str → Option Value} {base : Heap}
theorem boot_isin : bootBuiltins "isinstance" = some (.builtin "isinstance") := by decide +kernel
theorem boot_strT : bootBuiltins "str" = some (.type "str") := by decide +kernel
theorem boot_boolT : bootBuiltins "bool" = some (.type "bool") := by decide +kernel
theorem scIsName : FnScope ["value"] ["value"] (defScope sIsName) := ⟨rfl, rfl, rfl, by decide +kernel, rfl, by decide +kernel, by decide +kernel⟩
theorem ok_isname {f : Addr} {fd : FuncData} (F : Fun K "is_name" "is_name" sIsName f fd) (T : Blt mg) (U : Blt2 mg) : FnOk P w K mg base CX0 1 f fd ["value"] (spIsName K) := by
  refine F.ok scIsName (fun vs H Q E h => ?_) (fun cdv A outer s H vs Q E hr h => ?_)
  · obtain ⟨v, rfl, _⟩ := h
    rfl
  obtain ⟨v, rfl, ⟨⟨t, ty, e1, _⟩, hz⟩, q⟩ := h
  refine ⟨_, pss_cons (ps_if (PW.pt (pw_or (pt_not (pt_val (pe_callB call_isi (by rfl) U.isin boot_isin (pa_cons (pv 0) (pa_cons (pe_bltn (v := .ty "str") (by rfl) U.str boot_strT rfl) pa_nil)))))
      (pw_or (pt_cmpR op_gt (pe_callB call_len_str (by rfl) T.len PySem.boot_len (pa_cons (pv 0) pa_nil)) pe_int (nomark _)) (pw_or1 (pt_cmpR op_eq (pv 0) pe_str (nomark _))))))
      (pss_one (ps_ret pe_bl)) pss_nil)
    (pss_one (ps_ret (pe_and (pe_bm0 PySem.F.plainAttrs_str PySem.F.slot_str_isascii PySem.F.type_str_isascii mt_isascii (pv 0))
      (pe_and (pe_bm0 PySem.F.plainAttrs_str PySem.F.slot_str_isalpha PySem.F.type_str_isalpha mt_isalpha (pv 0)) (pe_one (pe_bm0 PySem.F.plainAttrs_str PySem.F.slot_str_islower PySem.F.type_str_islower mt_islower (pv 0))))))), ?_⟩
  refine ⟨_, rfl, v, _, t, _, isStr v, rfl, .ty "str", ty, e1, _, rfl, ?_⟩
  cases v with
  | str z =>
    have hz' : z.length ≤ sizeLine := Nat.le_of_lt (small1000 (Nat.le_trans (hz z rfl) (by decide)))
    refine iteF ⟨_, rfl, z, rfl, hz', _, _, rfl, rfl, _, rfl, ?_⟩
    refine ite2 (fun c => iteT ?_) (fun c => ⟨_, rfl, rfl, _, rfl, ?_⟩)
    · have e : nameV nameP (.str z) = false := by
        show (!decide ((4 : Int) < (z.length : Int)) && _ && _) = false
        rw [c]
        rfl
      rw [e] at q
      exact q
    · refine ite2 (fun d => ?_) (fun d => ?_)
      · have e : nameV nameP (.str z) = false := by
          show (!decide ((4 : Int) < (z.length : Int)) && !decide (V.str z = V.str "also") && _) = false
          rw [d, Bool.not_true, Bool.and_false, Bool.false_and]
        rw [e] at q
        exact q
      · have c' : decide ((4 : Int) < (z.length : Int)) = false := Bool.eq_false_iff.mpr c
        have d' : decide (V.str z = V.str "also") = false := Bool.eq_false_iff.mpr d
        have e : nameV nameP (.str z) = (Txt.isascii z && (Txt.isalpha z && Txt.islower z)) := by
          show (!decide ((4 : Int) < (z.length : Int)) && !decide (V.str z = V.str "also") && _) = _
          rw [c', d', Bool.not_false, Bool.and_true, Bool.true_and]
        rw [e] at q
        refine ⟨_, rfl, rfl, z, rfl, rfl, trivial, _, rfl, ?_⟩
        cases h1 : Txt.isascii z with
        | false =>
          rw [h1, Bool.false_and] at q
          exact iteF q
        | true =>
          rw [h1, Bool.true_and] at q
          refine iteT ⟨_, rfl, rfl, z, rfl, rfl, trivial, _, rfl, ?_⟩
          cases h2 : Txt.isalpha z with
          | false =>
            rw [h2, Bool.false_and] at q
            exact iteF q
          | true =>
            rw [h2, Bool.true_and] at q
            exact iteT ⟨_, rfl, rfl, z, rfl, rfl, trivial, q⟩
  | _ => exact iteT (iteT q)
end
end LT
namespace LT
open PySem L2
def spErr (C : Addr) : Sp := fun vs H Q _ => ∃ (a : Addr) (v : V), vs = [.ref a, v] ∧ H a = some (exo a C none) ∧
  ∀ dx, H dx = none → dx ≠ a → Q .non (upd (upd H dx (exd dx [("word", v)])) a (exo a C (some dx)))
section
variable {P : Program} {w : World} {K : PySem.W.Frag} {mg : Str → Option Value} {base : Heap}
theorem scErr : FnScope ["self", "word"] ["self", "word"] (defScope sErrInit) := ⟨rfl, rfl, rfl, by decide +kernel, rfl, by decide +kernel, by decide +kernel⟩
theorem ok_err {C f : Addr} {fd : FuncData} {q : Str} (F : Fun K "__init__" q sErrInit f fd) (T : OexC K C) (no : PySem.W.findIn K (.ref C) "word" = some none) : FnOk P w K mg base CX0 1 f fd ["self", "word"] (spErr C) := by
  refine F.ok scErr (fun vs H Q E h => ?_) (fun cdv A outer s H vs Q E hr h => ?_)
  · obtain ⟨a, v, rfl, _⟩ := h
    rfl
  obtain ⟨a, v, rfl, ha, q⟩ := h
  refine ⟨_, pss_one (ps_ost (pv 0) (pv 1)), ?_⟩
  exact ⟨_, rfl, _, rfl, a, C, rfl, T, no, .inl ⟨ha, q⟩⟩
end
/-! ### rows -/
def picks : List Str := ["keep", "at", "past", "under", "all"]
def moves : List Str := ["stay", "on", "home"]
def pickV (l : List Str) : V → Bool
  | .str z => l.any fun y => y == z
  | _ => false
def rowDue (m p mv t a : V) : Option Str :=
  if nameV nameP m = false then some "mode" else if pickV picks p = false then some "pick" else if pickV moves mv = false then some "move" else if nameV nameP t = false then some "then" else if isBl a = false then some "also" else none
def rowFs (m p mv t a : V) : List (Str × V) := [("mode", m), ("pick", p), ("move", mv), ("then", t), ("also", a)]
theorem rowFs_put (m p mv t a : V) : putF "also" a (putF "then" t (putF "move" mv (putF "pick" p (putF "mode" m [])))) = rowFs m p mv t a := by
  kernel_rfl
/-- what the law hands to a row: data, or a row -/
def menuS : List Str := ["run", "a", "zzzz", "keep", "at", "past", "under", "all", "stay", "on", "home", "Run", "also", "abcde", "", "on ", "A"]
theorem menuS_len : ∀ z ∈ menuS, z.length ≤ 100 := by decide +kernel
def Arg (K : PySem.W.Frag) (C : Addr) (H : Hp) (v : V) : Prop :=
  (∃ d, Dp K H v d ∧ SeqAt.shaped d = true ∧ ∀ z, v = .str z → z ∈ menuS) ∨ ∃ a dx fs, v = .ref a ∧ H a = some (.ins C dx fs)
theorem Arg.mono {K : PySem.W.Frag} {C : Addr} {H J : Hp} {v : V} (s : Same H J) (h : Arg K C H v) : Arg K C J v := by
  rcases h with ⟨d, h1, h2, h3⟩ | ⟨a, dx, fs, h1, h2⟩
  · exact .inl ⟨d, dp_mono s d v h1, h2, h3⟩
  · exact .inr ⟨a, dx, fs, h1, s _ _ h2⟩
/-- what the written part says of the class Row -/
structure RowC (K : PySem.W.Frag) (mg : Str → Option Value) (C : Addr) : Prop where
  cl : Cls K C
  ha : PySem.W.findIn K (.ref C) "__class__" = some (some (.builtin "object.__class__"))
  hn : PySem.W.specialIn K (.builtin "object.__class__") "__get__" = some (some (.builtin "getset_descriptor.__get__"))
  ht : PySem.W.takesIn K (.builtin "object.__class__") = some true
  hm : PySem.W.mroIn K C (.type "object") = some true
  ks : PySem.W.kitOne K (.ref C) (.type "str") = some false
  kb : PySem.W.kitOne K (.ref C) (.type "bool") = some false
  n1 : NoAttr K C "mode"
  n2 : NoAttr K C "pick"
  n3 : NoAttr K C "move"
  n4 : NoAttr K C "then"
  n5 : NoAttr K C "also"
  mgC : mg "Row" = some (.ref C)
theorem tyx_seqL {K : PySem.W.Frag} {H : Hp} {a : Addr} {xs : List V} (h : SqL K H a xs) : TyX K H (.ref a) (.type "list") := by
  rcases h with (h | ⟨o, h⟩) | ⟨o, its, n, h, c, _⟩
  · exact .base (.lst h)
  · exact .base (.frz h)
  · exact .kList h c
theorem tyx_seqT {K : PySem.W.Frag} {H : Hp} {a : Addr} {xs : List V} (h : SqT K H a xs) : TyX K H (.ref a) (.type "tuple") := by
  rcases h with (h | ⟨o, h⟩) | ⟨o, its, n, h, c, _⟩
  · exact .base (.tup h)
  · exact .fTuple h
  · exact .kTuple h c
theorem kit_NoneType_str {K : PySem.W.Frag} : PySem.W.kitOne K (.type "NoneType") (.type "str") = some false := kit_ty (by decide +kernel)
theorem kit_NoneType_bool {K : PySem.W.Frag} : PySem.W.kitOne K (.type "NoneType") (.type "bool") = some false := kit_ty (by decide +kernel)
theorem kit_bool_str {K : PySem.W.Frag} : PySem.W.kitOne K (.type "bool") (.type "str") = some false := kit_ty (by decide +kernel)
theorem kit_bool_bool {K : PySem.W.Frag} : PySem.W.kitOne K (.type "bool") (.type "bool") = some true := kit_ty (by decide +kernel)
theorem kit_int_str {K : PySem.W.Frag} : PySem.W.kitOne K (.type "int") (.type "str") = some false := kit_ty (by decide +kernel)
theorem kit_int_bool {K : PySem.W.Frag} : PySem.W.kitOne K (.type "int") (.type "bool") = some false := kit_ty (by decide +kernel)
theorem kit_str_str {K : PySem.W.Frag} : PySem.W.kitOne K (.type "str") (.type "str") = some true := kit_ty (by decide +kernel)
theorem kit_str_bool {K : PySem.W.Frag} : PySem.W.kitOne K (.type "str") (.type "bool") = some false := kit_ty (by decide +kernel)
theorem kit_list_str {K : PySem.W.Frag} : PySem.W.kitOne K (.type "list") (.type "str") = some false := kit_ty (by decide +kernel)
theorem kit_list_bool {K : PySem.W.Frag} : PySem.W.kitOne K (.type "list") (.type "bool") = some false := kit_ty (by decide +kernel)
theorem kit_tuple_str {K : PySem.W.Frag} : PySem.W.kitOne K (.type "tuple") (.type "str") = some false := kit_ty (by decide +kernel)
theorem kit_tuple_bool {K : PySem.W.Frag} : PySem.W.kitOne K (.type "tuple") (.type "bool") = some false := kit_ty (by decide +kernel)
theorem Arg.kind {K : PySem.W.Frag} {mg : Str → Option Value} {C : Addr} {H : Hp} {v : V} (T : RowC K mg C) (h : Arg K C H v) : Kind K H v := by
  rcases h with ⟨d, h1, _, h3⟩ | ⟨a, dx, fs, rfl, h2⟩
  · refine ⟨?_, fun z e => menuS_len z (h3 z e)⟩
    cases h1 with
    | non => exact ⟨_, .base .non, kit_NoneType_str, kit_NoneType_bool⟩
    | bl b => exact ⟨_, .base (.bl b), kit_bool_str, kit_bool_bool⟩
    | int i => exact ⟨_, .base (.int i), kit_int_str, kit_int_bool⟩
    | str x => exact ⟨_, .base (.str x), kit_str_str, kit_str_bool⟩
    | lst hs _ => exact ⟨_, tyx_seqL hs, kit_list_str, kit_list_bool⟩
    | tup hs _ => exact ⟨_, tyx_seqT hs, kit_tuple_str, kit_tuple_bool⟩
  · exact ⟨⟨_, .base (.ins h2 T.cl T.ha T.hn T.ht T.hm), T.ks, T.kb⟩, fun z e => nomatch e⟩
/-! ### x not in a tuple of texts -/
def strD (xs : List Str) : List PyData := xs.map PyData.str
theorem dp_strs {K : PySem.W.Frag} {H : Hp} : ∀ xs : List Str, DpAll K H (xs.map V.str) (strD xs)
  | [] => .nil
  | x :: xs => .cons (.str x) (dp_strs xs)
theorem eqv_strs {K : PySem.W.Frag} {H : Hp} {v : V} {d : PyData} (h : Dp K H v d) : ∀ xs : List Str, (strD xs).any (fun y => PyData.eqv y d) = pickV xs v := by
  intro xs
  cases h with
  | str z =>
    show (xs.map PyData.str).any (fun y => PyData.eqv y (.str z)) = xs.any fun y => y == z
    rw [List.any_map]
    rfl
  | _ =>
    show (xs.map PyData.str).any _ = false
    rw [List.any_map]
    exact List.any_eq_false.mpr fun y _ => by simp [PyData.eqv]
theorem op_notInArg {X : Cx} {CX : CXT} {C f : Addr} {fd : FuncData} {ps : List Str} {E : XK} {k : Nat} (F : FnOk X.prog X.w X.K X.mg X.base CX k f fd ps (spEqT C)) (hr : Room (k + 1) X.A)
    (hb : PySem.W.subIn X.K (.ref C) (.type "str") = some false) (hs : PySem.W.findIn X.K (.ref C) "__eq__" = some (some (.ref f))) (hf : PySem.W.isFn X.K (.ref f) = true) (bn : Binds X.K fd ps []) (hx : Passes CX X E) :
    OpR X (compareOp .NotIn) (fun x y H Q => ∃ (p : Addr) (xs : List Str), Arg X.K C H x ∧ y = .ref p ∧ SqT X.K H p (xs.map V.str) ∧ PyData.canLayAll0 (strD xs) = true ∧ Q (.bl (!pickV xs x)) H) := by
  intro pins s σ H x y v u Q I rx ry h
  obtain ⟨p, xs, ha, rfl, hp, hlay, q⟩ := h
  rcases ha with ⟨d, h1, h2, _⟩ | ⟨a, dx, fs, rfl, h2⟩
  · obtain ⟨as, r1⟩ := Dp.reads I d x v h1 rx
    obtain ⟨bs, r2⟩ := Dp.reads I (.tuple (strD xs)) (.ref p) u (.tup hp (dp_strs xs)) ry
    have hdep : PyData.depthAll (strD xs) ≤ 1 := by
      have go : ∀ l : List Str, PyData.depthAll (strD l) ≤ 1 := fun l => by
        induction l with
        | nil => decide
        | cons a l ih =>
          show max (PyData.depth (.str a)) (PyData.depthAll (strD l)) ≤ 1
          exact Nat.max_le.mpr ⟨by simp [PyData.depth], ih⟩
      exact go xs
    have hun := hr.units
    refine SeqAt.notIn_tuple_reads r2 r1 hlay (SeqAt.canLay_of_shaped h2) (by have := Nat.min_le_left (PyData.depthAll (strD xs)) d.depth; omega) ⟨.bl _, H, I, rfl, ?_⟩
    rw [eqv_strs h1 xs]
    exact q
  · exact op_notIn_own F hr hb hs hf bn hx pins s σ H _ _ v u Q I rx ry ⟨a, dx, p, fs, xs, rfl, h2, rfl, hp, q⟩
/-! ### Row's own == (asked by a text) and Row's making -/
section
variable {P : Program} {w : World} {K : PySem.W.Frag} {mg : Str → Option Value} {base : Heap}
theorem pe_nev {X : Cx} {e : Expr} : PE X e (fun _ _ _ => False) := ⟨fun _ _ _ _ _ _ h => h.elim⟩
theorem scEq : FnScope ["self", "other"] ["self", "other"] (defScope sRowEq) := ⟨rfl, rfl, rfl, by decide +kernel, rfl, by decide +kernel, by decide +kernel⟩
theorem ok_eqT {C f : Addr} {fd : FuncData} (F : Fun K "__eq__" "Row.__eq__" sRowEq f fd) (T : RowC K mg C) (U : Blt2 mg) (ks : PySem.W.kitOne K (.type "str") (.ref C) = some false) : FnOk P w K mg base CX0 1 f fd ["self", "other"] (spEqT C) := by
  refine F.ok scEq (fun vs H Q E h => ?_) (fun cdv A outer s H vs Q E hr h => ?_)
  · obtain ⟨a, dx, fs, z, rfl, _⟩ := h
    rfl
  obtain ⟨a, dx, fs, z, rfl, ha, q⟩ := h
  refine ⟨_, pss_one (ps_ret (pe_and (pe_callB call_isi (by rfl) U.isin boot_isin (pa_cons (pv 1) (pa_cons (pe_glob (by rfl) T.mgC (v := .ref C) rfl) pa_nil))) pe_nev)), ?_⟩
  exact ⟨_, rfl, .str z, .ref C, _, _, false, rfl, .own C, .base (.str z), ks, false, rfl, iteF q⟩
end
end LT
namespace L2
open PySem PySem.Spec PyProof.Rows
section
variable {X : Cx} {CX : CXT} {k : Nat} {f C : Addr} {fd : FuncData} {ps : List Str} {sp : Sp} {E : St → XK} {x : Str} {p pos : Pos} {e : Expr} {es : List Expr} {t : TA} {ds : List Value} {dvs : List V}
/-- C(e, ..) where what is raised is wished for at the slots -/
def tMakeS (C : Addr) (sp : Sp) (dvs : List V) (E : St → XK) (t : TA) : TE := fun σ H Q => t σ H fun vs H1 => ∀ x dx, H1 x = none → H1 dx = none → dx ≠ x →
  sp (.ref x :: (vs ++ dvs)) (upd (upd H1 dx (.own x)) x (.ins C dx [])) (fun v H2 => v = .non ∧ Q (.ref x) H2) (E σ)
theorem run_makeS {pins : List (Addr × Obj)} {σ : St} {H : Hp} {s : Shared} {Q : VK} {us : List Value} {vs : List V} (M : Mk X.K C f) (F : FnOk X.prog X.w X.K X.mg X.base CX k f fd ps sp) (hr : Room (k + 1) X.A)
    (hb : Binds X.K fd ps ds) (hd : Vals dvs ds) (hx : PassesAt CX X σ (E σ)) (I : Inv X pins σ H s) (r : Vals vs us)
    (h : ∀ y dy, H y = none → H dy = none → dy ≠ y → sp (.ref y :: (vs ++ dvs)) (upd (upd H dy (.own y)) y (.ins C dy [])) (fun v H2 => v = .non ∧ Q (.ref y) H2) (E σ)) :
    wpAny (model X.prog X.w) X.A (call (.ref C) us) (EP X pins σ Q) X.xe s := by
  have here := h (s.heap.objs.size + 1) s.heap.objs.size (I.hok.fresh (Nat.le_succ _)) (I.hok.fresh (Nat.le_refl _))
    (Nat.ne_of_lt (Nat.lt_succ_self _))
  have J := Inv.made (C := C) I
  have rr : Vals (V.ref (s.heap.objs.size + 1) :: (vs ++ dvs)) (Value.ref (s.heap.objs.size + 1) :: (us ++ ds)) :=
    .cons rfl (r.append hd)
  have len : (Value.ref (s.heap.objs.size + 1) :: us ++ ds).length = ps.length := by
    have z := rr.length
    rw [F.len _ _ _ _ here] at z
    exact z.symm
  have run := F.run _ X.stack _ _ ⟨Value.ref (s.heap.objs.size + 1) :: us, []⟩ (Value.ref (s.heap.objs.size + 1) :: (us ++ ds)) _ _ (E σ)
    (hr.make C us []) (J.env0.make C us []) (hb _ (Value.ref (s.heap.objs.size + 1) :: us) J.kIn len) rr here
  refine wpAny_call (make_map (f := f) I.kIn M.makes M.init (beq_iff_eq.mp M.fn) (codeAny_mono run fun q s' hq => ?_))
  cases q with
  | error e => exact hx pins _ _ e s' J hq
  | ok fl =>
    cases fl with
    | ret u =>
      obtain ⟨v, H', J', rv, ev, fin⟩ := J.after hq
      subst ev
      exact ⟨rv, V.ref (s.heap.objs.size + 1), H', J', rfl, fin⟩
    | next => exact False.elim hq
    | brk => exact False.elim hq
    | cont => exact False.elim hq
theorem pe_makeS (M : Mk X.K C f) (F : FnOk X.prog X.w X.K X.mg X.base CX k f fd ps sp) (hr : Room (k + 1) X.A) (hg : Gl X x) (hm : X.mg x = some (.ref C)) (hb : Binds X.K fd ps ds) (hd : Vals dvs ds)
    (hx : ∀ σ, PassesAt CX X σ (E σ)) (ha : PA X (e :: es) t) (hdb : (x == ("__debug__" : Str)) = false := by decide)
    (he : starEach (e :: es) X.env = (false, eval e X.env) :: starEach es X.env := by rfl) (hpl : (backTo pos (starEach es X.env)).any (·.1) = false := by rfl) :
    PE X (.Call (.Name x p) (e :: es) [] pos) (tMakeS C sp dvs E t) := by
  refine ⟨fun pins s σ H Q I h => wpAny_Call_Name_kw (ld_glob I hg hm ?_ hdb)⟩
  refine PySem.W.callWith_K (h₀ := X.base) I.ok.mod.kin M.kp (thn (ha.run pos pins s σ H _ I h) fun us s1 hh => ?_) he hpl
  obtain ⟨vs, H1, I1, r, q⟩ := hh
  exact ⟨I1.kIn, run_makeS M F hr hb hd (hx σ) I1 r q⟩
end
end L2
namespace LT
open PySem L2
/-- the heap behind a made error: its own dict stands at d -/
theorem del_word {H : Hp} {a d C : Addr} {fs : List (Str × V)} (ha : H a = none) : upd (del (upd (upd (upd H a (exo a C none)) d (exd d fs)) a (exo a C (some d))) a) d (.xd fs) = upd H d (.xd fs) := by
  funext b
  by_cases hb : b = d
  · rw [hb, upd_same, upd_same]
  · rw [upd_ne hb, upd_ne hb]
    by_cases hc : b = a
    · rw [hc, del_same, ha]
    · rw [del_ne hc, upd_ne hc, upd_ne hb, upd_ne hc]
theorem raise_ok {CE : Addr} {H : Hp} {E : XK} {wd : Str} {σ : St} (kE : ∀ d, H d = none → E (.ref CE) (some d) (upd H d (.xd [("word", .str wd)]))) :
    tMkO CE (spErr CE) [] (tCons (tC (.str wd)) tNil) σ H (fun cls d H' => E cls d H') := by
  refine ⟨(by show 1 ≤ 1000; decide), fun a ha => ⟨a, .str wd, rfl, upd_same, fun dx n ne => ?_⟩⟩
  have hd : H dx = none := by
    rw [upd_ne ne] at n
    exact n
  refine ⟨rfl, dx, [("word", .str wd)], upd_same, by rw [upd_ne ne]; exact upd_same, hd, ?_⟩
  rw [del_word ha]
  exact kE dx hd
def spRow (K : PySem.W.Frag) (C CE : Addr) : Sp := fun vs H Q E => ∃ (x dx : Addr) (m p mv t a : V), vs = [.ref x, m, p, mv, t, a] ∧ H x = some (.ins C dx []) ∧ Arg K C H m ∧ Arg K C H p ∧ Arg K C H mv ∧ Arg K C H t ∧ Arg K C H a ∧
  (∀ wd, rowDue m p mv t a = some wd → ∀ d, H d = none → E (.ref CE) (some d) (upd H d (.xd [("word", .str wd)]))) ∧
  (rowDue m p mv t a = none → Q .non (upd H x (.ins C dx (rowFs m p mv t a))))
section
variable {P : Program} {w : World} {K : PySem.W.Frag} {mg : Str → Option Value} {base : Heap}
theorem scRow : FnScope ["self", "mode", "pick", "move", "then", "also"] ["self", "mode", "pick", "move", "then", "also"] (defScope sRowInit) := ⟨rfl, rfl, rfl, by decide +kernel, rfl, by decide +kernel, by decide +kernel⟩
/-- what Row.__init__ leans on -/
structure RowG (P : Program) (w : World) (K : PySem.W.Frag) (mg : Str → Option Value) (base : Heap) (C CE : Addr) : Prop where
  row : RowC K mg C
  nm : ∃ (f : Addr) (fd : FuncData), FnOk P w K mg base CX0 1 f fd ["value"] (spIsName K) ∧ Binds K fd ["value"] [] ∧ PySem.W.keepIn K (.ref f) = true ∧ mg "is_name" = some (.ref f)
  err : ∃ (f : Addr) (fd : FuncData), FnOk P w K mg base CX0 1 f fd ["self", "word"] (spErr CE) ∧ Binds K fd ["self", "word"] [] ∧ PySem.W.findIn K (.ref CE) "__init__" = some (some (.ref f)) ∧ PySem.W.typeIn K (.ref f) = some (.type "function")
  oex : OexC K CE
  mE : mg "InvalidRow" = some (.ref CE)
  eq : ∃ (f : Addr) (fd : FuncData), FnOk P w K mg base CX0 1 f fd ["self", "other"] (spEqT C) ∧ Binds K fd ["self", "other"] [] ∧ PySem.W.findIn K (.ref C) "__eq__" = some (some (.ref f)) ∧ PySem.W.isFn K (.ref f) = true
  sub : PySem.W.subIn K (.ref C) (.type "str") = some false
  pk : ∃ p, mg "PICKS" = some (.ref p) ∧ ∀ H, SqT K H p (picks.map V.str)
  mv : ∃ p, mg "MOVES" = some (.ref p) ∧ ∀ H, SqT K H p (moves.map V.str)
theorem ok_row {C CE f : Addr} {fd : FuncData} {dvs : List V} {kws : List (Str × V)} (F : FunD K "__init__" "Row.__init__" (defArgs sRowInit) (defBody sRowInit) (defScope sRowInit) dvs kws f fd) (G : RowG P w K mg base C CE) (U : Blt2 mg) :
    FnOk P w K mg base (L2.CX P w) 3 f fd ["self", "mode", "pick", "move", "then", "also"] (spRow K C CE) := by
  obtain ⟨fN, fdN, GN, bN, kN, mN⟩ := G.nm
  obtain ⟨fE, fdE, GE, bE, iE, tE⟩ := G.err
  obtain ⟨fQ, fdQ, GQ, bQ, iQ, tQ⟩ := G.eq
  obtain ⟨pP, mP, sP⟩ := G.pk
  obtain ⟨pM, mM, sM⟩ := G.mv
  refine F.ok scRow (fun vs H Q E h => ?_) (fun cdv A outer s H vs Q E hr h => ?_)
  · obtain ⟨x, dx, m, p, mv, t, a, rfl, _⟩ := h
    rfl
  obtain ⟨x, dx, m, p, mv, t, a, rfl, hx, a1, a2, a3, a4, a5, kE, kQ⟩ := h
  have hr1 : Room 1 _ := hr.mono (by decide)
  refine ⟨_, pss_cons (ps_if (pt_not (pt_val (pe_call GN hr1 rfl mN kN bN .nil pass0 (pa_cons (pv 1) pa_nil))))
      (pss_one (ps_raise rfl (takes_of rfl rfl rfl rfl) (pmk_oex G.oex iE tE GE hr bE .nil pass0 rfl G.mE (pa_cons pe_str pa_nil)))) pss_nil)
    (pss_cons (ps_if (pt_cmpR (op_notInArg GQ hr G.sub iQ tQ bQ pass0) (pv 2) (pe_glob (by rfl) mP (v := .ref pP) rfl) (by rfl))
      (pss_one (ps_raise rfl (takes_of rfl rfl rfl rfl) (pmk_oex G.oex iE tE GE hr bE .nil pass0 rfl G.mE (pa_cons pe_str pa_nil)))) pss_nil)
    (pss_cons (ps_if (pt_cmpR (op_notInArg GQ hr G.sub iQ tQ bQ pass0) (pv 3) (pe_glob (by rfl) mM (v := .ref pM) rfl) (by rfl))
      (pss_one (ps_raise rfl (takes_of rfl rfl rfl rfl) (pmk_oex G.oex iE tE GE hr bE .nil pass0 rfl G.mE (pa_cons pe_str pa_nil)))) pss_nil)
    (pss_cons (ps_if (pt_not (pt_val (pe_call GN hr1 rfl mN kN bN .nil pass0 (pa_cons (pv 4) pa_nil))))
      (pss_one (ps_raise rfl (takes_of rfl rfl rfl rfl) (pmk_oex G.oex iE tE GE hr bE .nil pass0 rfl G.mE (pa_cons pe_str pa_nil)))) pss_nil)
    (pss_cons (ps_if (pt_not (pt_val (pe_callB call_isi (by rfl) U.isin boot_isin (pa_cons (pv 5) (pa_cons (pe_bltn (v := .ty "bool") (by rfl) U.bool boot_boolT rfl) pa_nil)))))
      (pss_one (ps_raise rfl (takes_of rfl rfl rfl rfl) (pmk_oex G.oex iE tE GE hr bE .nil pass0 rfl G.mE (pa_cons pe_str pa_nil)))) pss_nil)
    (pss_cons (ps_fld (pv 0) (pv 1) rfl) (pss_cons (ps_fld (pv 0) (pv 2) rfl) (pss_cons (ps_fld (pv 0) (pv 3) rfl) (pss_cons (ps_fld (pv 0) (pv 4) rfl) (pss_one (ps_fld (pv 0) (pv 5) rfl)))))))))), ?_⟩
  refine ⟨_, rfl, m, rfl, a1.kind G.row, _, rfl, ?_⟩
  have no : ∀ wd, rowDue m p mv t a = some wd → tMkO CE (spErr CE) [] (tCons (tC (.str wd)) tNil) (start ["self", "mode", "pick", "move", "then", "also"] [.ref x, m, p, mv, t, a]) H (fun cls d H' => E cls d H') :=
    fun wd e => raise_ok (kE wd e)
  refine ite2 (fun c => ?_) (fun c => ?_)
  · exact no "mode" (if_pos (by simpa using c))
  have c1 : ¬ nameV nameP m = false := by simpa using c
  refine ⟨_, rfl, pP, picks, a2, rfl, sP _, (by decide +kernel), _, rfl, ?_⟩
  refine ite2 (fun c => ?_) (fun c => ?_)
  · exact no "pick" ((if_neg c1).trans (if_pos (by simpa using c)))
  have c2 : ¬ pickV picks p = false := by simpa using c
  refine ⟨_, rfl, pM, moves, a3, rfl, sM _, (by decide +kernel), _, rfl, ?_⟩
  refine ite2 (fun c => ?_) (fun c => ?_)
  · exact no "move" ((if_neg c1).trans ((if_neg c2).trans (if_pos (by simpa using c))))
  have c3 : ¬ pickV moves mv = false := by simpa using c
  refine ⟨_, rfl, t, rfl, a4.kind G.row, _, rfl, ?_⟩
  refine ite2 (fun c => ?_) (fun c => ?_)
  · exact no "then" ((if_neg c1).trans ((if_neg c2).trans ((if_neg c3).trans (if_pos (by simpa using c)))))
  have c4 : ¬ nameV nameP t = false := by simpa using c
  obtain ⟨⟨ty, h1, _, h3⟩, _⟩ := a5.kind G.row
  refine ⟨_, rfl, a, .ty "bool", ty, _, isBl a, rfl, .ty "bool", h1, h3, _, rfl, ?_⟩
  refine ite2 (fun c => ?_) (fun c => ?_)
  · exact no "also" ((if_neg c1).trans ((if_neg c2).trans ((if_neg c3).trans ((if_neg c4).trans (if_pos (by simpa using c))))))
  have c5 : ¬ isBl a = false := by simpa using c
  have q := kQ ((if_neg c1).trans ((if_neg c2).trans ((if_neg c3).trans ((if_neg c4).trans (if_neg c5)))))
  have R := G.row
  refine ⟨_, rfl, _, rfl, x, C, dx, [], rfl, hx, R.cl, R.n1, (by show 0 < 1000; decide), ?_⟩
  have l1 : putF "mode" m [] = ([("mode", m)] : List (Str × V)) := by kernel_rfl
  have l2 : putF "pick" p [("mode", m)] = ([("mode", m), ("pick", p)] : List (Str × V)) := by kernel_rfl
  have l3 : putF "move" mv [("mode", m), ("pick", p)] = ([("mode", m), ("pick", p), ("move", mv)] : List (Str × V)) := by kernel_rfl
  have l4 : putF "then" t [("mode", m), ("pick", p), ("move", mv)] = ([("mode", m), ("pick", p), ("move", mv), ("then", t)] : List (Str × V)) := by kernel_rfl
  have l5 : putF "also" a [("mode", m), ("pick", p), ("move", mv), ("then", t)] = rowFs m p mv t a := by kernel_rfl
  rw [l1]
  refine ⟨_, rfl, _, rfl, x, C, dx, _, rfl, upd_same, R.cl, R.n2, (by show 1 < 1000; decide), ?_⟩
  rw [l2, upd_upd]
  refine ⟨_, rfl, _, rfl, x, C, dx, _, rfl, upd_same, R.cl, R.n3, (by show 2 < 1000; decide), ?_⟩
  rw [l3, upd_upd]
  refine ⟨_, rfl, _, rfl, x, C, dx, _, rfl, upd_same, R.cl, R.n4, (by show 3 < 1000; decide), ?_⟩
  rw [l4, upd_upd]
  refine ⟨_, rfl, _, rfl, x, C, dx, _, rfl, upd_same, R.cl, R.n5, (by show 4 < 1000; decide), ?_⟩
  rw [l5, upd_upd]
  exact q
end
end LT
namespace L2
open PySem PySem.Spec PyProof.Rows
section
variable {X : Cx} {a D : Addr} {oe : Obj} {pn : List (Addr × Obj)} {cls : Value} {d : Option Addr}
/-- the caught exception as the library's isinstance sees it -/
theorem exc_inst {pins : List (Addr × Obj)} {σ : St} {H : Hp} {s : Shared} {dd : Addr} {fs : List (Str × V)} (I : Inv (X.suite a ((a, oe) :: pn)) pins σ H s) (hz : Zc (.ref D) (some dd) oe) (hf : ∃ vs, oe.data = .fields vs) (hd : H dd = some (.xd fs)) :
    ∃ ox od, PySem.W.InstAt s.heap a ox D od := by
  obtain ⟨there, _⟩ := I.pin (a, oe) (List.mem_append_left _ List.mem_cons_self)
  obtain ⟨vs, e⟩ := hf
  obtain ⟨mA, hns, _⟩ := (show ObjOk X.prog X.w H s.heap dd (.xd fs) from I.hok dd _ hd)
  obtain ⟨od, ho, _⟩ := lookIn_ns hns
  exact ⟨oe, some od, there, hz.1, by unfold PySem.W.notCls; rw [e] <;> rfl, by rw [hz.2]; exact ho⟩
/-- isinstance(e, c) and isinstance(e, (c1, c2)), e caught, with a dict of its own -/
def rIsX (K : PySem.W.Frag) (D a : Addr) (cls : Value) (d : Option Addr) : List V → Hp → VK → Prop := fun xs H Q => cls = .ref D ∧ ∃ (dd : Addr) (fs : List (Str × V)) (c : V) (b : Bool), d = some dd ∧ H dd = some (.xd fs) ∧ xs = [.ref a, c] ∧
  ((∃ cv, ClsV c cv ∧ PySem.W.kitOne K (.ref D) cv = some b) ∨ ∃ (tp : Addr) (cs : List V) (us : List Value), c = .ref tp ∧ H tp = some (.tup cs) ∧ Paired ClsV cs us ∧ PySem.W.kitAny K (.ref D) us = some b) ∧ Q (.bl b) H
theorem call_isX (C : ExcC X.K D) (hz : Zc cls d oe) (hf : ∃ vs, oe.data = .fields vs) : CallR (X.suite a ((a, oe) :: pn)) (.builtin "isinstance") (rIsX X.K D a cls d) := by
  intro pins s σ H xs us Q I r h
  obtain ⟨ec, dd, fs, c, b, ed, hd, rfl, hk, q⟩ := h
  subst ec ed
  obtain ⟨u1, u2, rfl, r1, r2⟩ := vals2 r
  obtain rfl : u1 = Value.ref a := r1
  have J := exc_inst I hz hf hd
  have Z := LT.kit_exc (K := X.K) (x := a) (D := D) C
  rcases hk with ⟨cv, k, e⟩ | ⟨tp, cs, ws, rfl, hT, k, e⟩
  · have e2 := k.eq r2
    subst e2
    exact PySem.W.kia_one Z I.kIn J e (fun z => nomatch z) fun tk => ⟨.bl b, H, I.tok tk, rfl, q⟩
  · obtain rfl : u2 = Value.ref tp := r2
    obtain ⟨_, its, rv, o, h1, h2, n, h3⟩ := (show ObjOk X.prog X.w H s.heap tp (.tup cs) from I.hok tp _ hT)
    have e3 := ClsV.all k rv
    subst e3
    obtain ⟨oc, od, dt, sl⟩ := o
    simp only at h2 h3
    subst h2 h3
    exact PySem.W.kia_tup Z I.kIn J h1 e (fun z => nomatch z) fun tk => ⟨.bl b, H, I.tok tk, rfl, q⟩
end
end L2
namespace LT
open PySem L2
/-! ### the law's own look at a name -/
def letters : Str := "abcdefghijklmnopqrstuvwxyz"
def bads (z : Str) : List Nat := z.cps.toList.filter fun c => !decide (c ∈ letters.cps.toList)
def nameL (z : Str) : Bool := (decide ((0 : Int) < (z.length : Int)) && decide ((z.length : Int) < 5)) && !decide (V.str z = V.str "also") && (bads z).isEmpty
theorem name_same : ∀ z ∈ menuS, nameP z = nameL z := by decide +kernel
def signD (c : Nat) : PyData := .str ⟨#[c]⟩
theorem signs_lay : ∀ z ∈ menuS, SeqAt.shaped (.list ((bads z).map signD)) = true := by decide +kernel
def spLIsName (K : PySem.W.Frag) (C : Addr) : Sp := fun vs H Q _ => ∃ v, vs = [v] ∧ Kind K H v ∧ (∀ z, v = .str z → z ∈ menuS) ∧ ∀ J, Same H J → Q (.bl (nameV nameL v)) J
section
variable {P : Program} {w : World} {K : PySem.W.Frag} {mg : Str → Option Value} {base : Heap}
theorem scLN : FnScope ["_law_value", "_law_sign"] ["_law_value"] (defScope sLIsName) := ⟨rfl, rfl, rfl, by decide +kernel, rfl, by decide +kernel, by decide +kernel⟩
theorem ok_lisname {C f : Addr} {fd : FuncData} (F : Fun K "_law_is_name" "_law_is_name" sLIsName f fd) (T : Blt mg) (U : Blt2 mg) : FnOk P w K mg base CX0 2 f fd ["_law_value"] (spLIsName K C) := by
  refine F.ok scLN (fun vs H Q E h => ?_) (fun cdv A outer s H vs Q E hr h => ?_)
  · obtain ⟨v, rfl, _⟩ := h
    rfl
  obtain ⟨v, rfl, ⟨⟨t, ty, e1, _⟩, _⟩, hm, q⟩ := h
  refine ⟨_, pss_cons (ps_if (PW.pt (pw_or (pt_not (pt_val (pe_callB call_isi (by rfl) U.isin boot_isin (pa_cons (pv 0) (pa_cons (pe_bltn (v := .ty "str") (by rfl) U.str boot_strT rfl) pa_nil)))))
      (pw_or (pt_not (pt_chain op_lt op_lt pe_int (pe_callB call_len_str (by rfl) T.len PySem.boot_len (pa_cons (pv 0) pa_nil)) pe_int)) (pw_or1 (pt_cmpR op_eq (pv 0) pe_str (nomark _))))))
      (pss_one (ps_ret pe_bl)) pss_nil)
    (pss_one (ps_ret (pe_cmpR (op_eqD hr.units) (pe_lc (own := [("_law_sign", 1)]) (g := gName 1) (by rfl) scLN.nd (pi_str (pv 0)) (blkOk_by (N := ["_law_value", "_law_sign"]) (sc := defScope sLIsName) (own := [("_law_sign", 1)]) (by decide +kernel))
      (fun _ _ _ _ _ => pg_name (i := 1) scLN.nd rfl (Or.inl rfl)) (fun _ _ _ _ _ => pts_one (pt_cmpR op_notIn_sign (pv 1) pe_str (by rfl))) (fun _ _ _ _ _ => pv 1)) (pe_lst pa_nil) (nomark _)))), ?_⟩
  refine ⟨_, rfl, v, _, t, _, isStr v, rfl, .ty "str", ty, e1, _, rfl, ?_⟩
  cases v with
  | str z =>
    have hz' : z.length ≤ sizeLine := Nat.le_of_lt (small1000 (Nat.le_trans (menuS_len z (hm z rfl)) (by decide)))
    refine iteF ⟨_, rfl, z, rfl, hz', _, _, rfl, rfl, _, rfl, ?_⟩
    have nL : nameV nameL (.str z) = nameL z := rfl
    rw [nL] at q
    have out : ∀ J, Same H J → nameL z = false → Q (.bl false) J := fun J s e => by
      have := q J s
      rw [e] at this
      exact this
    refine ite2 (fun c => ⟨_, _, rfl, rfl, _, rfl, ?_⟩) (fun c => ⟨_, rfl, ?_⟩)
    · have c1 : decide ((0 : Int) < (z.length : Int)) = true := c
      refine ite2 (fun d => iteT (out _ (Same.refl _) ?_)) (fun d => ⟨_, rfl, rfl, _, rfl, ?_⟩)
      · have d1 : decide ((z.length : Int) < 5) = false := by simpa using d
        show (_ && _ && _) = false
        rw [d1, Bool.and_false, Bool.false_and, Bool.false_and]
      · have d1 : decide ((z.length : Int) < 5) = true := by simpa using d
        refine ite2 (fun e => out _ (Same.refl _) ?_) (fun e => ?_)
        · have e1 : decide (V.str z = V.str "also") = true := e
          show (_ && _ && _) = false
          rw [e1, Bool.not_true, Bool.and_false, Bool.false_and]
        · have e1 : decide (V.str z = V.str "also") = false := Bool.eq_false_iff.mpr e
          have last : nameL z = (bads z).isEmpty := by
            show ((decide ((0 : Int) < (z.length : Int)) && decide ((z.length : Int) < 5)) && !decide (V.str z = V.str "also") && _) = _
            rw [c1, d1, e1, Bool.and_self, Bool.not_false, Bool.and_self, Bool.true_and]
          refine ⟨_, rfl, z, rfl, fun D hD => lc_it walk_str (fun i J => J D = some (.lst (((z.cps.toList.take i).filter fun c => !decide (c ∈ letters.cps.toList)).map fun c => V.str ⟨#[c]⟩)) ∧ ∀ c o, H c = some o → J c = some o)
            ⟨upd_same, new_same hD _⟩ (fun _ _ _ _ => trivial) ?_ ?_⟩
          · rintro i x J J' hi ⟨hJ, kJ⟩ ⟨rfl, ch, hc, rfl⟩
            have hl : z.cps.toList[i]? = some ch := by
              rw [Array.getElem?_toList]
              exact hc
            have more : z.cps.toList.take (i + 1) = z.cps.toList.take i ++ [ch] := by
              rw [List.take_add_one, hl]
              rfl
            refine ⟨rfl, _, rfl, ch, letters, rfl, rfl, _, rfl, ?_⟩
            refine ite2 (fun n => ?_) (fun n => ?_)
            · refine ⟨_, rfl, _, hJ, ?_, ?_, fun c o q => ?_⟩
              · rw [List.length_map]
                have h1 := List.length_filter_le (fun c => !decide (c ∈ letters.cps.toList)) (z.cps.toList.take i)
                have h2 : (z.cps.toList.take i).length ≤ i := by
                  rw [List.length_take]
                  exact Nat.min_le_left _ _
                have h3 : z.cps.size ≤ 100 := menuS_len z (hm z rfl)
                exact small1000 (by omega)
              · rw [upd_same, more, List.filter_append, List.map_append]
                have f1 : [ch].filter (fun c => !decide (c ∈ letters.cps.toList)) = [ch] := List.filter_cons_of_pos (by simpa using n)
                rw [f1]
                rfl
              · rw [upd_ne (ne_of_none q hD)]
                exact kJ c o q
            · refine ⟨?_, kJ⟩
              rw [more, List.filter_append]
              have f1 : [ch].filter (fun c => !decide (c ∈ letters.cps.toList)) = [] := by
                rw [List.filter_cons_of_neg (by simpa using n)]
                rfl
              rw [f1, List.append_nil]
              exact hJ
          · rintro J ⟨hJ, kJ⟩
            have whole : z.cps.toList.take z.cps.size = z.cps.toList := by
              rw [← Array.length_toList]
              exact List.take_length
            rw [whole] at hJ
            refine ⟨(by show 0 ≤ sizeLine; decide), fun p hp => ?_⟩
            have hDp : (upd J p (.lst [])) D = some (.lst ((bads z).map fun c => V.str ⟨#[c]⟩)) := new_same hp _ _ _ hJ
            have dall : ∀ l : List Nat, DpAll K (upd J p (.lst [])) (l.map fun c => V.str ⟨#[c]⟩) (l.map signD) := fun l => by
              induction l with
              | nil => exact .nil
              | cons a l ih => exact .cons (.str _) ih
            refine ⟨.list ((bads z).map signD), .list [], .lst (SqL.of hDp) (dall _), .lst (SqL.of upd_same) .nil, signs_lay z (hm z rfl), by decide +kernel, ?_⟩
            have fin : PyData.eqv (.list ((bads z).map signD)) (.list []) = (bads z).isEmpty := by
              cases bads z with
              | nil => simp [PyData.eqv, PyData.eqvAll]
              | cons a l => simp [PyData.eqv, PyData.eqvAll]
            rw [fin, ← last]
            exact q _ (Same.trans kJ (new_same hp _))
    · refine iteT (iteT (out _ (Same.refl _) ?_))
      have c1 : decide ((0 : Int) < (z.length : Int)) = false := Bool.eq_false_iff.mpr c
      show (_ && _ && _) = false
      rw [c1, Bool.false_and, Bool.false_and, Bool.false_and]
  | _ => exact iteT (iteT (q _ (Same.refl _)))
end
end LT
namespace LT
open PySem L2
def dueL (f : Str → Bool) (m p mv t a : V) : Str :=
  if nameV f m = false then "mode" else if pickV picks p = false then "pick" else if pickV moves mv = false then "move" else if nameV f t = false then "then" else if isBl a = true then "made" else "also"
theorem due_row (m p mv t a : V) : dueL nameP m p mv t a = (rowDue m p mv t a).getD "made" := by
  unfold dueL rowDue
  by_cases h1 : nameV nameP m = false
  · rw [if_pos h1, if_pos h1]; rfl
  · rw [if_neg h1, if_neg h1]
    by_cases h2 : pickV picks p = false
    · rw [if_pos h2, if_pos h2]; rfl
    · rw [if_neg h2, if_neg h2]
      by_cases h3 : pickV moves mv = false
      · rw [if_pos h3, if_pos h3]; rfl
      · rw [if_neg h3, if_neg h3]
        by_cases h4 : nameV nameP t = false
        · rw [if_pos h4, if_pos h4]; rfl
        · rw [if_neg h4, if_neg h4]
          cases isBl a <;> rfl
theorem Arg.menu {K : PySem.W.Frag} {C : Addr} {H : Hp} {v : V} (h : Arg K C H v) : ∀ z, v = .str z → z ∈ menuS := by
  rcases h with ⟨d, h1, _, h3⟩ | ⟨a, dx, fs, rfl, h2⟩
  · exact h3
  · exact fun z e => nomatch e
theorem name_eq {K : PySem.W.Frag} {C : Addr} {H : Hp} {v : V} (h : Arg K C H v) : nameV nameL v = nameV nameP v := by
  cases v with
  | str z => exact (name_same z (h.menu z rfl)).symm
  | _ => rfl
theorem due_eq {K : PySem.W.Frag} {C : Addr} {H : Hp} {m p mv t a : V} (hm : Arg K C H m) (ht : Arg K C H t) : dueL nameL m p mv t a = dueL nameP m p mv t a := by
  unfold dueL
  rw [name_eq hm, name_eq ht]
structure Args (K : PySem.W.Frag) (C : Addr) (H : Hp) (m p mv t a : V) : Prop where
  m : Arg K C H m
  p : Arg K C H p
  mv : Arg K C H mv
  t : Arg K C H t
  a : Arg K C H a
theorem Args.mono {K : PySem.W.Frag} {C : Addr} {H J : Hp} {m p mv t a : V} (h : Args K C H m p mv t a) (s : Same H J) : Args K C J m p mv t a := ⟨h.m.mono s, h.p.mono s, h.mv.mono s, h.t.mono s, h.a.mono s⟩
def spDue (K : PySem.W.Frag) (C : Addr) : Sp := fun vs H Q _ => ∃ (r : Addr) (m p mv t a : V), vs = [.ref r] ∧ SqL K H r [m, p, mv, t, a] ∧ Args K C H m p mv t a ∧ ∀ J, Same H J → Q (.str (dueL nameL m p mv t a)) J
section
variable {P : Program} {w : World} {K : PySem.W.Frag} {mg : Str → Option Value} {base : Heap}
theorem scDue : FnScope ["_law_row"] ["_law_row"] (defScope sDue) := ⟨rfl, rfl, rfl, by decide +kernel, rfl, by decide +kernel, by decide +kernel⟩
theorem flat_in (z : Str) (xs : List Str) : inV (.str z) (xs.map V.str) = pickV xs (.str z) := by
  unfold inV pickV
  rw [List.any_map]
  rfl
theorem all_flat : ∀ xs : List Str, (xs.map V.str).all flatV = true
  | [] => rfl
  | _ :: xs => by
    show (true && _) = true
    rw [all_flat xs]
    rfl
theorem ok_due {C f g : Addr} {fd gd : FuncData} (F : Fun K "_law_due" "_law_due" sDue f fd) (R : RowC K mg C) (U : Blt2 mg) (G : FnOk P w K mg base CX0 2 g gd ["_law_value"] (spLIsName K C)) (bG : Binds K gd ["_law_value"] []) (kG : PySem.W.keepIn K (.ref g) = true) (mG : mg "_law_is_name" = some (.ref g)) :
    FnOk P w K mg base CX0 3 f fd ["_law_row"] (spDue K C) := by
  refine F.ok scDue (fun vs H Q E h => ?_) (fun cdv A outer s H vs Q E hr h => ?_)
  · obtain ⟨r, m, p, mv, t, a, rfl, _⟩ := h
    rfl
  obtain ⟨r, m, p, mv, t, a, rfl, hS, ar, q⟩ := h
  refine ⟨_, pss_cons (ps_if (pt_not (pt_val (pe_call G hr rfl mG kG bG .nil pass0 (pa_cons (pe_ix ix_list (pv 0) pe_int (fun _ _ => rfl)) pa_nil)))) (pss_one (ps_ret pe_str)) pss_nil)
    (pss_cons (ps_if (PW.pt (pw_or (pt_not (pt_val (pe_callB call_isi (by rfl) U.isin boot_isin (pa_cons (pe_ix ix_list (pv 0) pe_int (fun _ _ => rfl)) (pa_cons (pe_bltn (v := .ty "str") (by rfl) U.str boot_strT rfl) pa_nil)))))
        (pw_or1 (pt_cmpR op_notIn_seq (pe_ix ix_list (pv 0) pe_int (fun _ _ => rfl)) (pe_tup (pa_cons pe_str (pa_cons pe_str (pa_cons pe_str (pa_cons pe_str (pa_cons pe_str pa_nil)))))) (by rfl))))) (pss_one (ps_ret pe_str)) pss_nil)
    (pss_cons (ps_if (PW.pt (pw_or (pt_not (pt_val (pe_callB call_isi (by rfl) U.isin boot_isin (pa_cons (pe_ix ix_list (pv 0) pe_int (fun _ _ => rfl)) (pa_cons (pe_bltn (v := .ty "str") (by rfl) U.str boot_strT rfl) pa_nil)))))
        (pw_or1 (pt_cmpR op_notIn_seq (pe_ix ix_list (pv 0) pe_int (fun _ _ => rfl)) (pe_tup (pa_cons pe_str (pa_cons pe_str (pa_cons pe_str pa_nil)))) (by rfl))))) (pss_one (ps_ret pe_str)) pss_nil)
    (pss_cons (ps_if (pt_not (pt_val (pe_call G hr rfl mG kG bG .nil pass0 (pa_cons (pe_ix ix_list (pv 0) pe_int (fun _ _ => rfl)) pa_nil)))) (pss_one (ps_ret pe_str)) pss_nil)
    (pss_one (ps_ret (pe_ifExp (pt_val (pe_callB call_isi (by rfl) U.isin boot_isin (pa_cons (pe_ix ix_list (pv 0) pe_int (fun _ _ => rfl)) (pa_cons (pe_bltn (v := .ty "bool") (by rfl) U.bool boot_boolT rfl) pa_nil)))) pe_str pe_str)))))), ?_⟩
  refine ⟨_, rfl, r, _, _, _, rfl, rfl, hS, rfl, m, rfl, ar.m.kind R, ar.m.menu, fun J1 s1 => ⟨_, rfl, ?_⟩⟩
  refine ite2 (fun c => ?_) (fun c => ?_)
  · have e : dueL nameL m p mv t a = "mode" := if_pos (by simpa using c)
    rw [e] at q
    exact q _ s1
  have c1 : ¬ nameV nameL m = false := by simpa using c
  -- the pick
  obtain ⟨⟨tp, y1, y2, _⟩, _⟩ := (ar.p.mono s1).kind R
  have end2 : ∀ J, Same H J → pickV picks p = false → Q (.str "pick") J := fun J s e => by
    have e : dueL nameL m p mv t a = "pick" := (if_neg c1).trans (if_pos e)
    rw [e] at q
    exact q _ s
  refine ⟨_, rfl, r, _, _, _, rfl, rfl, s1.seq hS, rfl, p, .ty "str", tp, _, isStr p, rfl, .ty "str", y1, y2, _, rfl, ?_⟩
  refine ite2 (fun c => iteT (end2 _ s1 ?_)) (fun c => ?_)
  · cases p with
    | str z => exact absurd c Bool.false_ne_true
    | _ => rfl
  obtain ⟨zp, rfl⟩ : ∃ z, p = .str z := by
    cases p with
    | str z => exact ⟨z, rfl⟩
    | _ => exact absurd rfl c
  refine ⟨_, rfl, r, _, _, _, rfl, rfl, s1.seq hS, rfl, (by show 5 ≤ sizeLine; decide), fun w2 hw2 => ?_⟩
  have s2 : Same H (upd J1 w2 (.tup (picks.map V.str))) := s1.trans (new_same hw2 _)
  refine ⟨w2, picks.map V.str, rfl, .inr (SqT.of upd_same), rfl, all_flat picks, _, rfl, ?_⟩
  have in2 : (if true then !inV (V.str zp) (picks.map V.str) else inV (V.str zp) (picks.map V.str)) = !pickV picks (.str zp) := congrArg Bool.not (flat_in zp picks)
  rw [in2]
  refine ite2 (fun c => end2 _ s2 (by simpa using c)) (fun c => ?_)
  have c2 : ¬ pickV picks (.str zp) = false := by simpa using c
  -- the move
  obtain ⟨⟨tm, v1, v2, _⟩, _⟩ := (ar.mv.mono s2).kind R
  have end3 : ∀ J, Same H J → pickV moves mv = false → Q (.str "move") J := fun J s e => by
    have e : dueL nameL m (.str zp) mv t a = "move" := (if_neg c1).trans ((if_neg c2).trans (if_pos e))
    rw [e] at q
    exact q _ s
  refine ⟨_, rfl, r, _, _, _, rfl, rfl, s2.seq hS, rfl, mv, .ty "str", tm, _, isStr mv, rfl, .ty "str", v1, v2, _, rfl, ?_⟩
  refine ite2 (fun c => iteT (end3 _ s2 ?_)) (fun c => ?_)
  · cases mv with
    | str z => exact absurd c Bool.false_ne_true
    | _ => rfl
  obtain ⟨zm, rfl⟩ : ∃ z, mv = .str z := by
    cases mv with
    | str z => exact ⟨z, rfl⟩
    | _ => exact absurd rfl c
  refine ⟨_, rfl, r, _, _, _, rfl, rfl, s2.seq hS, rfl, (by show 3 ≤ sizeLine; decide), fun w3 hw3 => ?_⟩
  have s3 : Same H (upd (upd J1 w2 (.tup (picks.map V.str))) w3 (.tup (moves.map V.str))) := s2.trans (new_same hw3 _)
  refine ⟨w3, moves.map V.str, rfl, .inr (SqT.of upd_same), rfl, all_flat moves, _, rfl, ?_⟩
  have in3 : (if true then !inV (V.str zm) (moves.map V.str) else inV (V.str zm) (moves.map V.str)) = !pickV moves (.str zm) := congrArg Bool.not (flat_in zm moves)
  rw [in3]
  refine ite2 (fun c => end3 _ s3 (by simpa using c)) (fun c => ?_)
  have c3 : ¬ pickV moves (.str zm) = false := by simpa using c
  -- the mode behind
  refine ⟨_, rfl, r, _, _, _, rfl, rfl, s3.seq hS, rfl, t, rfl, (ar.t.mono s3).kind R, ar.t.menu, fun J4 s4 => ⟨_, rfl, ?_⟩⟩
  have s4' : Same H J4 := s3.trans s4
  refine ite2 (fun c => ?_) (fun c => ?_)
  · have e : dueL nameL m (.str zp) (.str zm) t a = "then" := (if_neg c1).trans ((if_neg c2).trans ((if_neg c3).trans (if_pos (by simpa using c))))
    rw [e] at q
    exact q _ s4'
  have c4 : ¬ nameV nameL t = false := by simpa using c
  obtain ⟨⟨ta, x1, _, x3⟩, _⟩ := (ar.a.mono s4').kind R
  refine ⟨_, rfl, r, _, _, _, rfl, rfl, s4'.seq hS, rfl, a, .ty "bool", ta, _, isBl a, rfl, .ty "bool", x1, x3, _, rfl, ?_⟩
  have e5 : dueL nameL m (.str zp) (.str zm) t a = if isBl a = true then ("made" : Str) else ("also" : Str) := (if_neg c1).trans ((if_neg c2).trans ((if_neg c3).trans (if_neg c4)))
  rw [e5] at q
  refine ite2 (fun c => ?_) (fun c => ?_)
  · rw [if_pos c] at q
    exact q _ s4'
  · rw [if_neg c] at q
    exact q _ s4'
end
end LT
namespace LT
open PySem L2
def spTried (K : PySem.W.Frag) (C : Addr) : Sp := fun vs H Q _ => ∃ (r : Addr) (m p mv t a : V), vs = [.ref r] ∧ SqL K H r [m, p, mv, t, a] ∧ Args K C H m p mv t a ∧ ∀ J, Same H J → Q (.str (dueL nameP m p mv t a)) J
/-- what the law's try leans on: CE InvalidRow, C2 InvalidRule, C3 InvalidText, CL LineError -/
structure TryG (K : PySem.W.Frag) (mg : Str → Option Value) (CE C2 C3 CL : Addr) : Prop where
  exc : ExcC K CE
  xf : XfC K CE
  no : PySem.W.findIn K (.ref CE) "word" = some none
  mE : mg "InvalidRow" = some (.ref CE)
  m2 : mg "InvalidRule" = some (.ref C2)
  m3 : mg "InvalidText" = some (.ref C3)
  mL : mg "LineError" = some (.ref CL)
  k2 : PySem.W.kitOne K (.ref CE) (.ref C2) = some false
  k3 : PySem.W.kitOne K (.ref CE) (.ref C3) = some false
  kL : PySem.W.kitOne K (.ref CE) (.ref CL) = some true
  te : PySem.W.exmOne K (.ref CE) (.ref CE) = some true
def tAt0 (K : PySem.W.Frag) (i : Int) : TE := tOp (rIxL K) (tVar 0) (tC (.int i))
def t_body (K : PySem.W.Frag) (C CE : Addr) (W : WX) : TS := tAsg (tIf (tTest (tOp rEq (tFld K (tMakeS C (spRow K C CE) [] (WE W) (tCons (tAt0 K 0) (tCons (tAt0 K 1) (tCons (tAt0 K 2) (tCons (tAt0 K 3) (tCons (tAt0 K 4) tNil)))))) "mode") (tAt0 K 0)))
  (tC (.str "made")) (tC (.str "odd"))) (gName 1)
def t_suite (K : PySem.W.Frag) (CE C2 C3 CL : Addr) : Addr → Value → Option Addr → TS := fun a cls d => tSeq (tAsg (tCB (rIsX K CE a cls d) (tCons (tVar 2) (tCons (tTup (tCons (tC (.ref C2)) (tCons (tC (.ref C3)) tNil))) tNil))) (gName 3))
  (tAsg (tIf (tAnd (tB (tCB (rIsX K CE a cls d) (tCons (tVar 2) (tCons (tC (.ref CL)) tNil)))) (tNot (tB (tVar 3)))) (tXf a cls d CE "word" (tVar 2)) (tC (.str "odd"))) (gName 1))
section
variable {P : Program} {w : World} {K : PySem.W.Frag} {mg : Str → Option Value} {base : Heap}
theorem scTried : FnScope ["_law_row", "_law_found", "e", "_law_others"] ["_law_row"] (defScope sTried) := ⟨rfl, rfl, rfl, by decide +kernel, rfl, by decide +kernel, by decide +kernel⟩
theorem ok_tried {C CE C2 C3 CL f g : Addr} {fd gd : FuncData} (F : Fun K "_law_tried" "_law_tried" sTried f fd) (R : RowC K mg C) (U : Blt2 mg) (Y : TryG K mg CE C2 C3 CL) (M : Mk K C g)
    (G : FnOk P w K mg base (L2.CX P w) 3 g gd ["self", "mode", "pick", "move", "then", "also"] (spRow K C CE)) (bG : Binds K gd ["self", "mode", "pick", "move", "then", "also"] []) :
    FnOk P w K mg base CX0 5 f fd ["_law_row"] (spTried K C) := by
  refine F.ok scTried (fun vs H Q E h => ?_) (fun cdv A outer s H vs Q E hr h => ?_)
  · obtain ⟨r, m, p, mv, t, a, rfl, _⟩ := h
    rfl
  obtain ⟨r, m, p, mv, t, a, rfl, hS, ar, q⟩ := h
  refine ⟨_, pss_cons (ps_set (i := 1) scTried.nd rfl (Or.inl rfl) pe_str)
    (pss_cons (ps_try_as (i := 2) (tb := t_body K C CE) (ts := t_suite K CE C2 C3 CL) (Wout := fun _ _ _ _ => False) rfl rfl scTried.nd rfl rfl ⟨rfl, by decide, Or.inl Y.mE⟩ takes0
      (fun W pn xe tk _ => pss_one (ps_set (i := 1) scTried.nd rfl (Or.inl rfl) (by exact (pe_ifExp (pt_cmpR op_eq (pe_fld (pe_makeS M G hr (by rfl) R.mgC bG .nil (fun σ => passAt tk σ)
        (pa_cons (pe_ix ix_list (pv 0) pe_int (fun _ _ => rfl)) (pa_cons (pe_ix ix_list (pv 0) pe_int (fun _ _ => rfl)) (pa_cons (pe_ix ix_list (pv 0) pe_int (fun _ _ => rfl)) (pa_cons (pe_ix ix_list (pv 0) pe_int (fun _ _ => rfl)) (pa_cons (pe_ix ix_list (pv 0) pe_int (fun _ _ => rfl)) pa_nil)))))) rfl)
        (pe_ix ix_list (pv 0) pe_int (fun _ _ => rfl)) (nomark _)) pe_str pe_str))))
      (fun b oe cls d pn hz hf => pss_cons (ps_set (i := 3) scTried.nd rfl (Or.inl rfl) (pe_callB (call_isX Y.exc hz hf) (by rfl) U.isin boot_isin (pa_cons (pv 2) (pa_cons (pe_tup (pa_cons (pe_glob (by rfl) Y.m2 (v := .ref C2) rfl) (pa_cons (pe_glob (by rfl) Y.m3 (v := .ref C3) rfl) pa_nil))) pa_nil))))
        (pss_one (ps_set (i := 1) scTried.nd rfl (Or.inl rfl) (pe_ifExp (PW.pt (pw_and (pt_val (pe_callB (call_isX Y.exc hz hf) (by rfl) U.isin boot_isin (pa_cons (pv 2) (pa_cons (pe_glob (by rfl) Y.mL (v := .ref CL) rfl) pa_nil)))) (pw_and1 (pt_not (pt_val (pv 3))))))
          (pe_xf Y.xf Y.no hz hf (pv 2)) pe_str)))))
    (pss_one (ps_ret (pv 1)))), ?_⟩
  refine ⟨_, rfl, r, _, _, _, rfl, rfl, hS, rfl, _, rfl, r, _, _, _, rfl, rfl, hS, rfl, _, rfl, r, _, _, _, rfl, rfl, hS, rfl, _, rfl, r, _, _, _, rfl, rfl, hS, rfl, _, rfl, r, _, _, _, rfl, rfl, hS, rfl, fun x dx nx ndx ne => ?_⟩
  have s0 : Same H (upd (upd H dx (.own x)) x (.ins C dx [])) := fun b o e => by
    rw [upd_ne (ne_of_none e nx), upd_ne (ne_of_none e ndx)]
    exact e
  have ar0 := ar.mono s0
  refine ⟨x, dx, m, p, mv, t, a, rfl, upd_same, ar0.m, ar0.p, ar0.mv, ar0.t, ar0.a, fun wd e d hd => ?_, fun e => ⟨rfl, ?_⟩⟩
  · -- the error
    have sd := new_same hd (.xd [("word", V.str wd)])
    refine ⟨true, Y.te, fun _ a0 _ => ?_, fun z => Bool.noConfusion z⟩
    refine ⟨_, rfl, (by show 2 ≤ sizeLine; decide), fun w2 hw2 => ?_⟩
    have s2 := new_same hw2 (.tup [.ref C2, .ref C3])
    refine ⟨rfl, d, _, .ref w2, false, rfl, s2 _ _ upd_same, rfl, .inr ⟨w2, [.ref C2, .ref C3], [.ref C2, .ref C3], rfl, upd_same, .cons (.own C2) (.cons (.own C3) .nil), ?_⟩, ?_⟩
    · exact kitAny_cons Y.k2 (fun _ => kitAny_cons Y.k3 (fun _ => kitAny_nil) (fun z => Bool.noConfusion z)) (fun z => Bool.noConfusion z)
    refine ⟨_, rfl, rfl, d, _, .ref CL, true, rfl, s2 _ _ upd_same, rfl, .inl ⟨_, .own CL, Y.kL⟩, _, rfl, ?_⟩
    refine iteT ⟨_, rfl, _, rfl, iteT ⟨_, rfl, rfl, rfl, d, _, .str wd, rfl, s2 _ _ upd_same, ?_, ?_⟩⟩
    · simp [List.lookup]
    · refine ⟨_, rfl, ?_⟩
      have e2 : dueL nameP m p mv t a = wd := by rw [due_row, e]; rfl
      rw [e2] at q
      exact q _ (s0.trans (sd.trans s2))
  · have e2 : dueL nameP m p mv t a = "made" := by rw [due_row, e]; rfl
    rw [e2] at q
    obtain ⟨zm, rfl⟩ : ∃ z, m = .str z := by
      cases m with
      | str z => exact ⟨z, rfl⟩
      | _ => cases e
    have s1 : Same H (upd (upd (upd H dx (.own x)) x (.ins C dx [])) x (.ins C dx (rowFs (.str zm) p mv t a))) := by
      rw [upd_upd]
      intro b o z
      rw [upd_ne (ne_of_none z nx), upd_ne (ne_of_none z ndx)]
      exact z
    refine ⟨x, C, dx, _, .str zm, rfl, upd_same, R.cl, R.n1, ?_, _, rfl, r, _, _, _, rfl, rfl, s1.seq hS, rfl, rfl, _, rfl, ?_⟩
    · simp [rowFs, List.lookup]
    · refine ite2 (fun c => ⟨_, rfl, q _ s1⟩) (fun c => absurd (decide_eq_true rfl) c)
end
end LT
namespace LT
open PySem L2
/-- the heap without the box at b and the list at r -/
def wo (b r : Addr) (H : Hp) : Hp := fun c => if c = b ∨ c = r then none else H c
theorem wo_some {b r c : Addr} {H : Hp} {o : HO} (h : wo b r H c = some o) : c ≠ b ∧ c ≠ r ∧ H c = some o := by
  unfold wo at h
  by_cases e : c = b ∨ c = r
  · rw [if_pos e] at h
    cases h
  · rw [if_neg e] at h
    exact ⟨fun z => e (.inl z), fun z => e (.inr z), h⟩
theorem wo_ne {b r c : Addr} {H : Hp} (h1 : c ≠ b) (h2 : c ≠ r) : wo b r H c = H c := if_neg fun e => e.elim h1 h2
theorem wo_sub {b r : Addr} {H : Hp} : Same (wo b r H) H := fun _ _ h => (wo_some h).2.2
/-- from H to J all is kept but at b and r -/
theorem wo_mono {b r : Addr} {H J : Hp} (h : ∀ c o, c ≠ b → c ≠ r → H c = some o → J c = some o) : Same (wo b r H) (wo b r J) := fun c o e => by
  obtain ⟨h1, h2, h3⟩ := wo_some e
  rw [wo_ne h1 h2]
  exact h c o h1 h2 h3
theorem an_shape : ∀ {n : Nat} {d : PyData}, An n d → d.canLay0 = true ∧ d.depth ≤ n + 2 := by
  intro n d h
  induction h with
  | one hm =>
    have all : ∀ d ∈ menu, d.canLay0 = true ∧ d.depth ≤ 2 := by decide +kernel
    exact ⟨(all _ hm).1, by have := (all _ hm).2; omega⟩
  | lst hl hd ih =>
    rename_i m ds
    have go : ∀ l : List PyData, (∀ d ∈ l, d.canLay0 = true ∧ d.depth ≤ m + 2) → PyData.canLayAll0 l = true ∧ PyData.depthAll l ≤ m + 2 := fun l h => by
      induction l with
      | nil => exact ⟨rfl, Nat.zero_le _⟩
      | cons a l ih2 =>
        obtain ⟨q1, q2⟩ := ih2 fun d hd => h d (List.mem_cons_of_mem _ hd)
        obtain ⟨p1, p2⟩ := h a List.mem_cons_self
        refine ⟨by simp only [PyData.canLayAll0]; rw [p1, q1]; rfl, ?_⟩
        simp only [PyData.depthAll]
        exact Nat.max_le.mpr ⟨p2, q2⟩
    obtain ⟨q1, q2⟩ := go ds ih
    exact ⟨by simp only [PyData.canLay0]; exact q1, by simp only [PyData.depth]; omega⟩
  | tup hl hd ih =>
    rename_i m ds
    have go : ∀ l : List PyData, (∀ d ∈ l, d.canLay0 = true ∧ d.depth ≤ m + 2) → PyData.canLayAll0 l = true ∧ PyData.depthAll l ≤ m + 2 := fun l h => by
      induction l with
      | nil => exact ⟨rfl, Nat.zero_le _⟩
      | cons a l ih2 =>
        obtain ⟨q1, q2⟩ := ih2 fun d hd => h d (List.mem_cons_of_mem _ hd)
        obtain ⟨p1, p2⟩ := h a List.mem_cons_self
        refine ⟨by simp only [PyData.canLayAll0]; rw [p1, q1]; rfl, ?_⟩
        simp only [PyData.depthAll]
        exact Nat.max_le.mpr ⟨p2, q2⟩
    obtain ⟨q1, q2⟩ := go ds ih
    exact ⟨by simp only [PyData.canLay0]; exact q1, by simp only [PyData.depth]; omega⟩
theorem an_shaped {n : Nat} {d : PyData} (h : An n d) (hn : n ≤ 3) : SeqAt.shaped d = true := by
  obtain ⟨h1, h2⟩ := an_shape h
  show (d.canLay0 && decide (d.depth ≤ 64)) = true
  rw [h1, decide_eq_true (by omega)]
  rfl
theorem an_str {n : Nat} {z : Str} (h : An n (.str z)) : z ∈ menuS := by
  cases h with
  | one hm =>
    have all : ∀ d ∈ menu, (match d with | .str z => decide (z ∈ menuS) | _ => true) = true := by decide +kernel
    exact of_decide_eq_true (all _ hm)
theorem menuS_shaped : ∀ z ∈ menuS, SeqAt.shaped (.str z) = true := by decide +kernel
theorem str_arg {K : PySem.W.Frag} {C : Addr} {H : Hp} {z : Str} (h : z ∈ menuS) : Arg K C H (.str z) :=
  .inl ⟨.str z, .str z, menuS_shaped z h, fun y e => by cases e; exact h⟩
theorem int_arg {K : PySem.W.Frag} {C : Addr} {H : Hp} {i : Int} : Arg K C H (.int i) := .inl ⟨.int i, .int i, rfl, fun y e => nomatch e⟩
theorem non_arg {K : PySem.W.Frag} {C : Addr} {H : Hp} : Arg K C H .non := .inl ⟨.none, .non, rfl, fun y e => nomatch e⟩
theorem bl_arg {K : PySem.W.Frag} {C : Addr} {H : Hp} {b : Bool} : Arg K C H (.bl b) := .inl ⟨.bool b, .bl b, rfl, fun y e => nomatch e⟩
theorem str_of_ix {L : List Str} {i : Nat} {v : V} (h : (L.map V.str)[i]? = some v) : ∃ z, z ∈ L ∧ v = .str z := by
  rw [List.getElem?_map] at h
  cases e : L[i]? with
  | none =>
    rw [e] at h
    cases h
  | some z =>
    rw [e] at h
    exact ⟨z, List.mem_of_getElem? e, (Option.some.inj h).symm⟩
theorem good_m : ∀ z ∈ (["run", "a", "zzzz"] : List Str), nameP z = true ∧ z ∈ menuS := by decide +kernel
theorem good_t : ∀ z ∈ (["run", "keep", "on"] : List Str), nameP z = true ∧ z ∈ menuS := by decide +kernel
theorem good_p : ∀ z ∈ picks, pickV picks (.str z) = true ∧ z ∈ menuS := by decide +kernel
theorem good_v : ∀ z ∈ moves, pickV moves (.str z) = true ∧ z ∈ menuS := by decide +kernel
theorem good_due {m p mv t : Str} {a : Bool} (h1 : nameP m = true) (h2 : pickV picks (.str p) = true) (h3 : pickV moves (.str mv) = true) (h4 : nameP t = true) : dueL nameP (.str m) (.str p) (.str mv) (.str t) (.bl a) = "made" := by
  have e1 : ¬ nameV nameP (.str m) = false := by show ¬ nameP m = false; rw [h1]; decide
  have e4 : ¬ nameV nameP (.str t) = false := by show ¬ nameP t = false; rw [h4]; decide
  unfold dueL
  rw [if_neg e1, if_neg (by rw [h2]; decide), if_neg (by rw [h3]; decide), if_neg e4]
  rfl
/-- the state of the law's turn: the box at b, the row at r, five things in it -/
structure At (K : PySem.W.Frag) (C : Addr) (H0 : Hp) (b r : Addr) (H : Hp) : Prop where
  s : Same H0 H
  b0 : H0 b = none
  r0 : H0 r = none
  br : r ≠ b
  bx : Box H b
  row : ∃ vs : List V, vs.length = 5 ∧ H r = some (.lst vs) ∧ ∀ v ∈ vs, Arg K C (wo b r H) v
def spLaw (K : PySem.W.Frag) : Sp := fun vs H Q _ => ∃ (a : Addr) (ns : List Int), vs = [.ref a] ∧ SqL K H a (ns.map V.int) ∧ ns.length ≤ 63 ∧ ∀ J, Q (.bl true) J
structure Blt3 (mg : Str → Option Value) : Prop where
  max : mg "max" = none
  min : mg "min" = none
abbrev nLaw : List Str := ["_law_script", "_law_k", "_law_box", "_law_turn", "_law_row", "_law_more", "_law_odd"]
theorem same_kb {H J L : Hp} {b : Addr} (s : Same H J) (h0 : H b = none) (k : Kb b J L) : Same H L := fun c o e => k c o (fun z => by rw [z, h0] at e; cases e) (s c o e)
theorem At.box {K : PySem.W.Frag} {C : Addr} {H0 H : Hp} {b r : Addr} (h : At K C H0 b r H) (x y : Int) : At K C H0 b r (upd H b (.lst [.int x, .int y])) := by
  obtain ⟨vs, l, e, g⟩ := h.row
  refine ⟨same_kb h.s h.b0 Kb.box, h.b0, h.r0, h.br, ⟨x, y, upd_same⟩, vs, l, by rw [upd_ne h.br]; exact e, fun v m => (g v m).mono (wo_mono fun c o n _ q => by rw [upd_ne n]; exact q)⟩
theorem one_pre {J : Hp} {b l : Addr} {us : List V} (hb : Box J b) (hl : J l = none) : Box (upd J l (.lst us)) b ∧ l ≠ b := by
  obtain ⟨x, y, e⟩ := hb
  exact ⟨⟨x, y, new_same hl _ _ _ e⟩, fun z => by rw [z, e] at hl; cases hl⟩
theorem one_post {J : Hp} {b l : Addr} {us : List V} (hl : J l = none) (x y : Int) : Kb b J (upd (upd J l (.lst us)) b (.lst [.int x, .int y])) ∧ Box (upd (upd J l (.lst us)) b (.lst [.int x, .int y])) b :=
  ⟨(Kb.of (new_same hl _)).trans Kb.box, ⟨x, y, upd_same⟩⟩
theorem box_new {J : Hp} {b p : Addr} {o : HO} (hb : Box J b) (hp : J p = none) : Box (upd J p o) b := by
  obtain ⟨x, y, e⟩ := hb
  exact ⟨x, y, new_same hp _ _ _ e⟩
theorem ne_box {J : Hp} {b p : Addr} (hb : Box J b) (hp : J p = none) : p ≠ b := by
  obtain ⟨x, y, e⟩ := hb
  exact fun z => by rw [z, e] at hp; cases hp
section
variable {P : Program} {w : World} {K : PySem.W.Frag} {mg : Str → Option Value} {base : Heap}
theorem scLaw : FnScope nLaw ["_law_script"] (defScope sLaw) := ⟨rfl, rfl, rfl, by decide +kernel, rfl, by decide +kernel, by decide +kernel⟩
structure LawG (P : Program) (w : World) (K : PySem.W.Frag) (mg : Str → Option Value) (base : Heap) (C CE : Addr) : Prop where
  seed : ∃ (f : Addr) (fd : FuncData), FnOk P w K mg base CX0 1 f fd ["_law_script", "_law_k"] (spSeed K) ∧ Binds K fd ["_law_script", "_law_k"] [] ∧ PySem.W.keepIn K (.ref f) = true ∧ mg "_law_seed" = some (.ref f)
  choose : ∃ (f : Addr) (fd : FuncData), FnOk P w K mg base CX0 1 f fd ["_law_box", "_law_many"] spChoose ∧ Binds K fd ["_law_box", "_law_many"] [] ∧ PySem.W.keepIn K (.ref f) = true ∧ mg "_law_choose" = some (.ref f)
  oneof : ∃ (f : Addr) (fd : FuncData), FnOk P w K mg base CX0 2 f fd ["_law_box", "_law_some"] (spOneOf K) ∧ Binds K fd ["_law_box", "_law_some"] [] ∧ PySem.W.keepIn K (.ref f) = true ∧ mg "_law_one_of" = some (.ref f)
  any : ∃ (f : Addr) (fd : FuncData), FnOk P w K mg base CX0 6 f fd ["_law_box", "_law_deep"] (spAny K 3) ∧ Binds K fd ["_law_box", "_law_deep"] [] ∧ PySem.W.keepIn K (.ref f) = true ∧ mg "_law_anything" = some (.ref f)
  tried : ∃ (f : Addr) (fd : FuncData), FnOk P w K mg base CX0 5 f fd ["_law_row"] (spTried K C) ∧ Binds K fd ["_law_row"] [] ∧ PySem.W.keepIn K (.ref f) = true ∧ mg "_law_tried" = some (.ref f)
  due : ∃ (f : Addr) (fd : FuncData), FnOk P w K mg base CX0 3 f fd ["_law_row"] (spDue K C) ∧ Binds K fd ["_law_row"] [] ∧ PySem.W.keepIn K (.ref f) = true ∧ mg "_law_due" = some (.ref f)
  make : ∃ (g : Addr) (gd : FuncData), Mk K C g ∧ FnOk P w K mg base (L2.CX P w) 3 g gd ["self", "mode", "pick", "move", "then", "also"] (spRow K C CE) ∧ ∃ ds, Vals [.bl false] ds ∧ Binds K gd ["self", "mode", "pick", "move", "then", "also"] ds
theorem ok_law {C CE f : Addr} {fd : FuncData} (F : Fun K "law" "law" sLaw f fd) (T : Blt mg) (Z : Blt3 mg) (R : RowC K mg C) (G : LawG P w K mg base C CE) : FnOk P w K mg base CX0 7 f fd ["_law_script"] (spLaw K) := by
  obtain ⟨fS, dS, GS, bS, kS, mS⟩ := G.seed
  obtain ⟨fC, dC, GC, bC, kC, mC⟩ := G.choose
  obtain ⟨fO, dO, GO, bO, kO, mO⟩ := G.oneof
  obtain ⟨fA, dA, GA, bA, kA, mA⟩ := G.any
  obtain ⟨fT, dT, GT, bT, kT, mT⟩ := G.tried
  obtain ⟨fD, dD, GD, bD, kD, mD⟩ := G.due
  obtain ⟨fM, dM, M, GM, ds, hds, bM⟩ := G.make
  refine F.ok scLaw (fun vs H Q E h => ?_) (fun cdv A outer s H vs Q E hr h => ?_)
  · obtain ⟨a, ns, rfl, _⟩ := h
    rfl
  obtain ⟨a, ns, rfl, hS, h63, q⟩ := h
  have hr1 : Room 1 _ := hr.mono (by decide)
  have hr2 : Room 2 _ := hr.mono (by decide)
  have hr3 : Room 3 _ := hr.mono (by decide)
  have hr4 : Room 4 _ := hr.mono (by decide)
  have hr5 : Room 5 _ := hr.mono (by decide)
  refine ⟨_, (pss_cons (ps_for PassesOwn.never rfl (pi_range1 (by rfl) T.range (pa_cons (pe_callB (call_max2 rfl) (by rfl) Z.max (by decide +kernel) (pa_cons pe_int (pa_cons (pe_callB (call_min2 rfl) (by rfl) Z.min (by decide +kernel) (pa_cons pe_int (pa_cons (pe_callB call_len_seq (by rfl) T.len PySem.boot_len (pa_cons (pv 0) pa_nil)) pa_nil))) pa_nil))) pa_nil)) (pg_name (i := 1) scLaw.nd rfl (Or.inl rfl))
    (pss_cons (ps_set (i := 2) scLaw.nd rfl (Or.inl rfl) (pe_call GS hr1 (by rfl) mS kS bS .nil pass0 (pa_cons (pv 0) (pa_cons (pv 1) pa_nil))))
      (pss_one (ps_for PassesOwn.never rfl (pi_range1 (by rfl) T.range (pa_cons pe_int pa_nil)) (pg_name (i := 3) scLaw.nd rfl (Or.inl rfl))
      (pss_cons (ps_set (i := 4) scLaw.nd rfl (Or.inl rfl) (pe_lst (pa_cons (pe_call GO hr2 (by rfl) mO kO bO .nil pass0 (pa_cons (pv 2) (pa_cons (pe_lst (pa_cons pe_str (pa_cons pe_str (pa_cons pe_str pa_nil)))) pa_nil))) (pa_cons (pe_call GO hr2 (by rfl) mO kO bO .nil pass0 (pa_cons (pv 2) (pa_cons (pe_lst (pa_cons pe_str (pa_cons pe_str (pa_cons pe_str (pa_cons pe_str (pa_cons pe_str pa_nil)))))) pa_nil))) pa_nil))))
        (pss_cons (ps_set (i := 4) scLaw.nd rfl (Or.inl rfl) (pe_op op_cat (pv 4) (pe_lst (pa_cons (pe_call GO hr2 (by rfl) mO kO bO .nil pass0 (pa_cons (pv 2) (pa_cons (pe_lst (pa_cons pe_str (pa_cons pe_str (pa_cons pe_str pa_nil)))) pa_nil))) (pa_cons (pe_call GO hr2 (by rfl) mO kO bO .nil pass0 (pa_cons (pv 2) (pa_cons (pe_lst (pa_cons pe_str (pa_cons pe_str (pa_cons pe_str pa_nil)))) pa_nil))) pa_nil)))))
        (pss_cons (ps_expr (pe_bm PySem.F.plainAttrs_list PySem.F.slot_list_append PySem.F.type_list_append mt_append (pv 4) (pa_cons (pe_cmpR op_eq (pe_call GC hr1 (by rfl) mC kC bC .nil pass0 (pa_cons (pv 2) (pa_cons pe_int pa_nil))) pe_int (nomark _)) pa_nil)))
        (pss_cons (ps_if (pt_cmpR op_ne (pe_call GT hr5 (by rfl) mT kT bT .nil pass0 (pa_cons (pv 4) pa_nil)) pe_str (nomark _)) (pss_one (ps_ret pe_bl)) pss_nil)
        (pss_cons (ps_for PassesOwn.never rfl (pi_range1 (by rfl) T.range (pa_cons (pe_op op_add pe_int (pe_call GC hr1 (by rfl) mC kC bC .nil pass0 (pa_cons (pv 2) (pa_cons pe_int pa_nil)))) pa_nil)) (pg_name (i := 5) scLaw.nd rfl (Or.inl rfl))
        (pss_cons (ps_set (i := 6) scLaw.nd rfl (Or.inl rfl) (pe_lst (pa_cons pe_str (pa_cons pe_str (pa_cons pe_str (pa_cons pe_str (pa_cons pe_str (pa_cons pe_str (pa_cons pe_str (pa_cons pe_int (pa_cons pe_int (pa_cons pe_non (pa_cons (pe_call GA hr (by rfl) mA kA bA .nil pass0 (pa_cons (pv 2) (pa_cons pe_int pa_nil))) pa_nil)))))))))))))
          (pss_cons (ps_expr (pe_bm PySem.F.plainAttrs_list PySem.F.slot_list_append PySem.F.type_list_append mt_append (pv 6) (pa_cons (pe_make M GM hr4 (by rfl) R.mgC bM hds passL (pa_cons pe_str (pa_cons pe_str (pa_cons pe_str (pa_cons pe_str pa_nil))))) pa_nil)))
          (pss_one (ps_asg (pe_call GO hr2 (by rfl) mO kO bO .nil pass0 (pa_cons (pv 2) (pa_cons (pv 6) pa_nil))) (pg_sub (pv 4) (pe_call GC hr1 (by rfl) mC kC bC .nil pass0 (pa_cons (pv 2) (pa_cons pe_int pa_nil))) set_list))))))
        (pss_one (ps_if (pt_cmpR op_ne (pe_call GT hr5 (by rfl) mT kT bT .nil pass0 (pa_cons (pv 4) pa_nil)) (pe_call GD hr3 (by rfl) mD kD bD .nil pass0 (pa_cons (pv 4) pa_nil)) (nomark _)) (pss_one (ps_ret pe_bl)) pss_nil)))))))))))
    (pss_one (ps_ret pe_bl))), ?_⟩
  refine ⟨_, rfl, a, _, rfl, .inl hS, _, _, rfl, _, _, rfl, ?_⟩
  have hl : (ns.map V.int).length = ns.length := List.length_map _
  obtain ⟨j, hj⟩ : ∃ j : Int, j = (if (if (((ns.map V.int).length : Nat) : Int) < 5 then (((ns.map V.int).length : Nat) : Int) else 5) > 2 then (if (((ns.map V.int).length : Nat) : Int) < 5 then (((ns.map V.int).length : Nat) : Int) else 5) else 2) := ⟨_, rfl⟩
  have bj : 0 ≤ j ∧ j ≤ 5 := by
    rw [hj]
    split <;> split <;> omega
  refine ⟨j, by rw [hj], by omega, by omega, for_range (lo := 0) (n := j.toNat) (fun _ σ J => ∃ v1 v2 v3 v4 v5 v6, σ = [some (.ref a), v1, v2, v3, v4, v5, v6] ∧ Same H J) ⟨_, _, _, _, _, _, rfl, Same.refl _⟩ ?_ (fun σ J _ => q J)⟩
  rintro i σ J hi ⟨v1, v2, v3, v4, v5, v6, rfl, s⟩
  refine ⟨_, rfl, _, rfl, a, ns, 0 + (i : Int), rfl, s.seq hS, by omega, by omega, fun b x y nb => ?_⟩
  have h0 : H b = none := s.free nb
  have bx : Box (upd J b (.lst [.int x, .int y])) b := ⟨x, y, upd_same⟩
  have s1 : Same H (upd J b (.lst [.int x, .int y])) := s.trans (new_same nb _)
  generalize upd J b (.lst [.int x, .int y]) = J1 at bx s1 ⊢
  refine ⟨12, rfl, by decide, by decide, for_range (lo := 0) (n := 12) (fun _ σ J => ∃ w1 w3 w4 w5 w6, σ = [some (.ref a), w1, some (.ref b), w3, w4, w5, w6] ∧ Same H J ∧ Box J b) ⟨_, _, _, _, _, rfl, s1, bx⟩ ?_ (fun σ J ⟨w1, w3, w4, w5, w6, e, s, _⟩ => ⟨w1, _, w3, w4, w5, w6, e, s⟩)⟩
  clear bx s1 s nb hi v1 v2 v3 v4 v5 v6
  rintro _ σ J _ ⟨w1, w3, w4, w5, w6, rfl, s, bx⟩
  -- the four drawn words
  refine ⟨_, rfl, (by show 3 ≤ sizeLine; decide), fun l1 n1 => ⟨b, l1, (["run", "a", "zzzz"] : List Str).map V.str, rfl, box_new bx n1, ne_box bx n1, SqL.of upd_same, by decide, by decide, fun i1 m x1 y1 e1 => ?_⟩⟩
  obtain ⟨m, hm, rfl⟩ := str_of_ix e1
  obtain ⟨k1, bx1⟩ := one_post (b := b) (us := [.str "run", .str "a", .str "zzzz"]) n1 x1 y1
  have s1 := same_kb s h0 k1
  generalize upd (upd J l1 _) b _ = J1 at k1 bx1 s1 ⊢
  refine ⟨_, rfl, (by show 5 ≤ sizeLine; decide), fun l2 n2 => ⟨b, l2, picks.map V.str, rfl, box_new bx1 n2, ne_box bx1 n2, SqL.of upd_same, by decide, by decide, fun i2 p x2 y2 e2 => ?_⟩⟩
  obtain ⟨p, hp, rfl⟩ := str_of_ix e2
  obtain ⟨k2, bx2⟩ := one_post (b := b) (us := [.str "keep", .str "at", .str "past", .str "under", .str "all"]) n2 x2 y2
  have s2 := same_kb s1 h0 k2
  generalize upd (upd J1 l2 _) b _ = J2 at k2 bx2 s2 ⊢
  refine ⟨(by show 2 ≤ sizeLine; decide), fun r0 n3 => ?_⟩
  have bx3 := box_new (o := .lst [.str m, .str p]) bx2 n3
  have s3 := s2.trans (new_same n3 (.lst [.str m, .str p]))
  have h3 : upd J2 r0 (.lst [V.str m, V.str p]) r0 = some (.lst [V.str m, V.str p]) := upd_same
  have nb3 := ne_box bx2 n3
  generalize upd J2 r0 _ = J3 at bx3 s3 h3 ⊢
  refine ⟨_, rfl, _, rfl, (by show 3 ≤ sizeLine; decide), fun l4 n4 => ⟨b, l4, moves.map V.str, rfl, box_new bx3 n4, ne_box bx3 n4, SqL.of upd_same, by decide, by decide, fun i4 mv x4 y4 e4 => ?_⟩⟩
  obtain ⟨mv, hv, rfl⟩ := str_of_ix e4
  obtain ⟨k4, bx4⟩ := one_post (b := b) (us := [.str "stay", .str "on", .str "home"]) n4 x4 y4
  have s4 := same_kb s3 h0 k4
  have h4 := k4 _ _ nb3 h3
  generalize upd (upd J3 l4 _) b _ = J4 at k4 bx4 s4 h4 ⊢
  refine ⟨_, rfl, (by show 3 ≤ sizeLine; decide), fun l5 n5 => ⟨b, l5, (["run", "keep", "on"] : List Str).map V.str, rfl, box_new bx4 n5, ne_box bx4 n5, SqL.of upd_same, by decide, by decide, fun i5 t x5 y5 e5 => ?_⟩⟩
  obtain ⟨t, ht, rfl⟩ := str_of_ix e5
  obtain ⟨k5, bx5⟩ := one_post (b := b) (us := [.str "run", .str "keep", .str "on"]) n5 x5 y5
  have s5 := same_kb s4 h0 k5
  have h5 := k5 _ _ nb3 h4
  generalize upd (upd J4 l5 _) b _ = J5 at k5 bx5 s5 h5 ⊢
  refine ⟨(by show 2 ≤ sizeLine; decide), fun l6 n6 => ⟨r0, l6, _, _, rfl, rfl, new_same n6 _ _ _ h5, upd_same, (by show 4 ≤ sizeLine; decide), fun r n7 => ?_⟩⟩
  have s6 : Same H (upd (upd J5 l6 (.lst [.str mv, .str t])) r (.lst [.str m, .str p, .str mv, .str t])) := s5.trans ((new_same n6 _).trans (new_same n7 _))
  have bx6 : Box (upd (upd J5 l6 (.lst [.str mv, .str t])) r (.lst [.str m, .str p, .str mv, .str t])) b := box_new (box_new bx5 n6) n7
  have nr : r ≠ b := ne_box (box_new bx5 n6) n7
  have hr0 : H r = none := (s5.trans (new_same n6 _)).free n7
  have h6 : upd (upd J5 l6 (.lst [.str mv, .str t])) r (.lst [.str m, .str p, .str mv, .str t]) r = some (.lst [.str m, .str p, .str mv, .str t]) := upd_same
  have e6 : upd (upd J5 l6 (.lst [.str mv, .str t])) r (.lst ([.str m, .str p] ++ [.str mv, .str t])) = upd (upd J5 l6 (.lst [.str mv, .str t])) r (.lst [.str m, .str p, .str mv, .str t]) := rfl
  rw [e6]
  generalize upd (upd J5 l6 _) r _ = J6 at s6 bx6 h6 ⊢
  -- row.append(choose(box, 2) == 0)
  refine ⟨_, rfl, .inl ⟨rfl, _, SqL.of h6⟩, _, rfl, b, 2, rfl, bx6, by decide, by decide, fun d x7 y7 d0 d1 => ⟨rfl, r, _, _, rfl, rfl, Kb.box _ _ nr h6, (by show 4 < sizeLine; decide), ?_⟩⟩
  obtain ⟨k, hk⟩ : ∃ k : Bool, k = decide (V.int d = V.int 0) := ⟨_, rfl⟩
  rw [← hk]
  have s7 : Same H (upd (upd J6 b (.lst [.int x7, .int y7])) r (.lst ([V.str m, V.str p, V.str mv, V.str t] ++ [V.bl k]))) := fun c o e => by
    rw [upd_ne (ne_of_none e hr0), upd_ne (ne_of_none e h0)]
    exact s6 c o e
  have bx7 : Box (upd (upd J6 b (.lst [.int x7, .int y7])) r (.lst ([V.str m, V.str p, V.str mv, V.str t] ++ [V.bl k]))) b := ⟨x7, y7, by rw [upd_ne (Ne.symm nr)]; exact upd_same⟩
  have h7 : (upd (upd J6 b (.lst [.int x7, .int y7])) r (.lst ([V.str m, V.str p, V.str mv, V.str t] ++ [V.bl k]))) r = some (.lst [V.str m, V.str p, V.str mv, V.str t, V.bl k]) := upd_same
  generalize upd (upd J6 b _) r _ = J7 at s7 bx7 h7 ⊢
  have mM : m ∈ menuS := (good_m m hm).2
  have mP : p ∈ menuS := (good_p p hp).2
  have mV : mv ∈ menuS := (good_v mv hv).2
  have mT' : t ∈ menuS := (good_t t ht).2
  refine ⟨_, rfl, r, .str m, .str p, .str mv, .str t, .bl k, rfl, SqL.of h7, ⟨str_arg mM, str_arg mP, str_arg mV, str_arg mT', bl_arg⟩, fun J8 s8 => ⟨rfl, _, rfl, ?_⟩⟩
  rw [good_due (good_m m hm).1 (good_p p hp).1 (good_v mv hv).1 (good_t t ht).1]
  refine iteNS rfl ?_
  have at8 : At K C H b r J8 := by
    obtain ⟨x', y', z'⟩ := bx7
    refine ⟨s7.trans s8, h0, hr0, nr, ⟨x', y', s8 _ _ z'⟩, [V.str m, V.str p, V.str mv, V.str t, V.bl k], rfl, s8 _ _ h7, fun v hv => ?_⟩
    simp only [List.mem_cons, List.not_mem_nil, or_false] at hv
    rcases hv with rfl | rfl | rfl | rfl | rfl
    · exact str_arg mM
    · exact str_arg mP
    · exact str_arg mV
    · exact str_arg mT'
    · exact bl_arg
  -- the row is spoilt
  refine ⟨_, rfl, b, 2, rfl, at8.bx, by decide, by decide, fun many x9 y9 g0 g1 => ⟨_, _, rfl, rfl, _, rfl, by omega, by omega, for_range (lo := 0) (n := (1 + many).toNat) (fun _ σ J => ∃ u1 u3 u5 u6, σ = [some (.ref a), u1, some (.ref b), u3, some (.ref r), u5, u6] ∧ At K C H b r J)
    ⟨_, _, _, _, rfl, at8.box x9 y9⟩ ?_ ?_⟩⟩
  · clear at8 s8 h7 bx7 s7 J8 J7
    rintro _ σ J _ ⟨u1, u3, u5, u6, rfl, AT⟩
    obtain ⟨vs, lv, hrow, hvs⟩ := AT.row
    refine ⟨_, rfl, b, rfl, AT.bx, fun v d J1 hd hv kb bx1 => ⟨(by show 11 ≤ sizeLine; decide), fun o no => ?_⟩⟩
    have j1r : J1 r = some (.lst vs) := kb _ _ AT.br hrow
    have ob : o ≠ b := ne_box bx1 no
    have orr : o ≠ r := fun z => by rw [z, j1r] at no; cases no
    generalize hL : ([V.str "Run", .str "also", .str "abcde", .str "", .str "on ", .str "past", .str "home", .int 0, .int 1, .non, v] : List V) = L
    have hLlen : L.length = 11 := by rw [← hL]; rfl
    refine ⟨_, rfl, .inl ⟨rfl, L, SqL.of upd_same⟩, fun x dx nx ndx ne => ?_⟩
    have s2 := new_same no (.lst L)
    have x1 : J1 x = none := s2.free nx
    have d1 : J1 dx = none := s2.free ndx
    have xo : x ≠ o := fun z => by rw [z, upd_same] at nx; cases nx
    have dxo : dx ≠ o := fun z => by rw [z, upd_same] at ndx; cases ndx
    have xb : x ≠ b := ne_box bx1 x1
    have dxb : dx ≠ b := ne_box bx1 d1
    have xr : x ≠ r := fun z => by rw [z, j1r] at x1; cases x1
    have dxr : dx ≠ r := fun z => by rw [z, j1r] at d1; cases d1
    have due0 : rowDue (.str "run") (.str "all") (.str "on") (.str "run") (.bl false) = none := by decide +kernel
    refine ⟨x, dx, .str "run", .str "all", .str "on", .str "run", .bl false, rfl, upd_same, str_arg (by decide), str_arg (by decide), str_arg (by decide), str_arg (by decide), bl_arg, (fun wd e => by rw [due0] at e; cases e), fun _ => ⟨rfl, ?_⟩⟩
    refine ⟨o, L, .ref x, rfl, rfl, ?_, (by rw [hLlen]; decide), ?_⟩
    · rw [upd_ne (Ne.symm xo), upd_ne (Ne.symm xo), upd_ne (Ne.symm dxo)]
      exact upd_same
    obtain ⟨J4, hJ4⟩ : ∃ J4, J4 = upd (upd (upd (upd (upd J1 o (.lst L)) dx (.own x)) x (.ins C dx [])) x (.ins C dx (rowFs (.str "run") (.str "all") (.str "on") (.str "run") (.bl false)))) o (.lst (L ++ [.ref x])) := ⟨_, rfl⟩
    rw [← hJ4]
    have k14 : Same J1 J4 := fun c u e => by
      rw [hJ4, upd_ne (ne_of_none e no), upd_ne (ne_of_none e x1), upd_ne (ne_of_none e x1), upd_ne (ne_of_none e d1), upd_ne (ne_of_none e no)]
      exact e
    have x4 : J4 x = some (.ins C dx (rowFs (.str "run") (.str "all") (.str "on") (.str "run") (.bl false))) := by
      rw [hJ4, upd_ne xo]
      exact upd_same
    have o4 : J4 o = some (.lst (L ++ [.ref x])) := by
      rw [hJ4]
      exact upd_same
    have bx4 : Box J4 b := by
      obtain ⟨x', y', z'⟩ := bx1
      exact ⟨x', y', k14 _ _ z'⟩
    have len4 : (L ++ [V.ref x]).length = 12 := by rw [List.length_append, hLlen]; rfl
    refine ⟨_, rfl, _, rfl, b, o, L ++ [.ref x], rfl, bx4, ob, SqL.of o4, by rw [len4]; decide, by rw [len4]; decide, fun i v' x5 y5 ei => ?_⟩
    refine ⟨_, rfl, _, rfl, b, 5, rfl, ⟨x5, y5, upd_same⟩, by decide, by decide, fun at5 x6 y6 q0 q1 => ?_⟩
    rw [upd_upd]
    have row6 : upd J4 b (.lst [.int x6, .int y6]) r = some (.lst vs) := by
      rw [upd_ne AT.br]
      exact k14 _ _ j1r
    refine ⟨r, vs, at5, at5.toNat, rfl, rfl, row6, ?_, ?_⟩
    · unfold ixN
      rw [if_pos q0, if_pos (by rw [lv]; exact q1)]
    refine ⟨_, _, _, _, rfl, ?_⟩
    have k7 : ∀ c u, c ≠ b → c ≠ r → J4 c = some u → upd (upd J4 b (.lst [.int x6, .int y6])) r (.lst (vs.set at5.toNat v')) c = some u := fun c u n1 n2 e => by
      rw [upd_ne n2, upd_ne n1]
      exact e
    have w1 : Same (wo b r J1) (wo b r (upd (upd J4 b (.lst [.int x6, .int y6])) r (.lst (vs.set at5.toNat v')))) := wo_mono fun c u n1 n2 e => k7 c u n1 n2 (k14 c u e)
    have w0 : Same (wo b r J) (wo b r J1) := wo_mono fun c u n1 n2 e => kb c u n1 e
    have argv : Arg K C (wo b r J1) v := by
      refine .inl ⟨d, dp_mono (fun c u e => ?_) d v hv, an_shaped hd (Nat.le_refl _), fun z e => ?_⟩
      · obtain ⟨g1, g2⟩ := frs_some e
        have cb : c ≠ b := fun z => by
          obtain ⟨x', y', z'⟩ := AT.bx
          rw [z, z'] at g1
          cases g1
        have cr : c ≠ r := fun z => by rw [z, hrow] at g1; cases g1
        rw [wo_ne cb cr]
        exact g2
      · subst e
        cases hv
        exact an_str hd
    have argx : Arg K C (wo b r (upd (upd J4 b (.lst [.int x6, .int y6])) r (.lst (vs.set at5.toNat v')))) v' := by
      have mem : v' ∈ L ++ [V.ref x] := List.mem_of_getElem? ei
      rw [← hL] at mem
      simp only [List.mem_append, List.mem_cons, List.not_mem_nil, or_false] at mem
      rcases mem with (rfl | rfl | rfl | rfl | rfl | rfl | rfl | rfl | rfl | rfl | rfl) | rfl
      · exact str_arg (by decide)
      · exact str_arg (by decide)
      · exact str_arg (by decide)
      · exact str_arg (by decide)
      · exact str_arg (by decide)
      · exact str_arg (by decide)
      · exact str_arg (by decide)
      · exact int_arg
      · exact int_arg
      · exact non_arg
      · exact argv.mono w1
      · exact .inr ⟨x, dx, _, rfl, by rw [wo_ne xb xr]; exact k7 x _ xb xr x4⟩
    refine ⟨fun c u e => ?_, AT.b0, AT.r0, AT.br, ⟨x6, y6, by rw [upd_ne (Ne.symm AT.br)]; exact upd_same⟩, vs.set at5.toNat v', by rw [List.length_set]; exact lv, upd_same, fun z hz => ?_⟩
    · exact k7 c u (fun z => by rw [z, AT.b0] at e; cases e) (fun z => by rw [z, AT.r0] at e; cases e) (k14 c u (same_kb AT.s AT.b0 kb c u e))
    · rcases List.mem_or_eq_of_mem_set hz with h | rfl
      · exact (hvs z h).mono (w0.trans w1)
      · exact argx
  · rintro σ J ⟨u1, u3, u5, u6, rfl, AT⟩
    obtain ⟨vs, lv, hrow, hvs⟩ := AT.row
    obtain ⟨m1, p1, q1, t1, a1, rfl⟩ : ∃ m1 p1 q1 t1 a1, vs = [m1, p1, q1, t1, a1] := by
      match vs, lv with
      | [m1, p1, q1, t1, a1], _ => exact ⟨m1, p1, q1, t1, a1, rfl⟩
    have ar : Args K C J m1 p1 q1 t1 a1 := ⟨(hvs m1 (by simp)).mono wo_sub, (hvs p1 (by simp)).mono wo_sub, (hvs q1 (by simp)).mono wo_sub, (hvs t1 (by simp)).mono wo_sub, (hvs a1 (by simp)).mono wo_sub⟩
    refine ⟨_, rfl, r, m1, p1, q1, t1, a1, rfl, SqL.of hrow, ar, fun L1 z1 => ⟨_, rfl, r, m1, p1, q1, t1, a1, rfl, SqL.of (z1 _ _ hrow), ar.mono z1, fun L2 z2 => ⟨rfl, _, rfl, ?_⟩⟩⟩
    refine iteNS (congrArg V.str (due_eq ar.m ar.t).symm) ?_
    obtain ⟨x', y', z'⟩ := AT.bx
    exact ⟨_, _, _, _, _, rfl, AT.s.trans (z1.trans z2), x', y', z2 _ _ (z1 _ _ z')⟩
end
end LT
namespace LT
open PySem L2
theorem row_b6 {K : PySem.W.Frag} {f : Addr} {fd : FuncData} (F : FunD K "__init__" "Row.__init__" (defArgs sRowInit) (defBody sRowInit) (defScope sRowInit) [.bl false] [] f fd) :
    ∃ ds, Vals ([] : List V) ds ∧ Binds K fd ["self", "mode", "pick", "move", "then", "also"] ds :=
  F.binds1 6 1 (by decide) (by decide) fun T kV doc pm an cdv ct us its h1 h2 => match us, its, h1, h2 with
    | [_, _, _, _, _, _], [_], _, _ => ⟨_, rfl, rfl⟩
theorem row_b5 {K : PySem.W.Frag} {f : Addr} {fd : FuncData} (F : FunD K "__init__" "Row.__init__" (defArgs sRowInit) (defBody sRowInit) (defScope sRowInit) [.bl false] [] f fd) :
    ∃ ds, Vals ([.bl false] : List V) ds ∧ Binds K fd ["self", "mode", "pick", "move", "then", "also"] ds :=
  F.binds1 5 0 (by decide) (by decide) fun T kV doc pm an cdv ct us its h1 h2 => match us, its, h1, h2 with
    | [_, _, _, _, _], [_], _, _ => ⟨_, rfl, rfl⟩
theorem all_mk {l : PySem.W.OpenLaw} {w : World} {K : PySem.W.Frag} {h : Heap} {mg : Str → Option Value} {fa : Addr} (X : K.In h) (G : h.Ns mainGlobals mg) (hfa : mg "law" = some (.ref fa))
    {f_nm : Addr} {od_nm an_nm : Option Addr} {sl_nm : Array (Option Value)} {oc_nm kV_nm dc_nm pm_nm cd_nm ct_nm : Value}
    {f_se : Addr} {od_se an_se : Option Addr} {sl_se : Array (Option Value)} {oc_se kV_se dc_se pm_se cd_se ct_se : Value}
    {f_ch : Addr} {od_ch an_ch : Option Addr} {sl_ch : Array (Option Value)} {oc_ch kV_ch dc_ch pm_ch cd_ch ct_ch : Value}
    {f_on : Addr} {od_on an_on : Option Addr} {sl_on : Array (Option Value)} {oc_on kV_on dc_on pm_on cd_on ct_on : Value}
    {f_an : Addr} {od_an an_an : Option Addr} {sl_an : Array (Option Value)} {oc_an kV_an dc_an pm_an cd_an ct_an : Value}
    {f_ln : Addr} {od_ln an_ln : Option Addr} {sl_ln : Array (Option Value)} {oc_ln kV_ln dc_ln pm_ln cd_ln ct_ln : Value}
    {f_du : Addr} {od_du an_du : Option Addr} {sl_du : Array (Option Value)} {oc_du kV_du dc_du pm_du cd_du ct_du : Value}
    {f_tr : Addr} {od_tr an_tr : Option Addr} {sl_tr : Array (Option Value)} {oc_tr kV_tr dc_tr pm_tr cd_tr ct_tr : Value}
    {f_la : Addr} {od_la an_la : Option Addr} {sl_la : Array (Option Value)} {oc_la kV_la dc_la pm_la cd_la ct_la : Value}
    {f_ei : Addr} {od_ei an_ei : Option Addr} {sl_ei : Array (Option Value)} {oc_ei kV_ei dc_ei pm_ei cd_ei ct_ei : Value}
    {f_eq : Addr} {od_eq an_eq : Option Addr} {sl_eq : Array (Option Value)} {oc_eq kV_eq dc_eq pm_eq cd_eq ct_eq : Value}
    {f_ri dT pP pM C CE C2 C3 CL : Addr} {od_ri an_ri : Option Addr} {sl_ri : Array (Option Value)} {oc_ri kV_ri dc_ri pm_ri cd_ri ct_ri ocD : Value} {ddP ddM ddD : Option Addr} {nP nM nD : Nat} {slP slM slD : Array (Option Value)} {t1 t2 t3 t4 t5 t6 t7 t8 : Tok}
    {xn xq : Str} {xN : Addr} {xb : List Value} {xs : List Str} {xu : List Value} {xa : Bool} {xc : Option Bool} {xd : Option Addr} {m0 m1 m2 m3 m5 : Option Value}
    (a_nm : PySem.W.nsIn K mainGlobals "is_name" = some (some (.ref f_nm)))
    (l_nm : K.lookup f_nm = some ⟨oc_nm, od_nm, .func (PySem.W.fnOf "is_name" "is_name" (defArgs sIsName) (defBody sIsName) (defScope sIsName) .none kV_nm dc_nm pm_nm an_nm cd_nm ct_nm), sl_nm⟩)
    (c_nm : PySem.W.codeIn K cd_nm "is_name" = true)
    (k_nm : PySem.W.keepIn K (.ref f_nm) = true)
    (a_se : PySem.W.nsIn K mainGlobals "_law_seed" = some (some (.ref f_se)))
    (l_se : K.lookup f_se = some ⟨oc_se, od_se, .func (PySem.W.fnOf "_law_seed" "_law_seed" (defArgs sSeed) (defBody sSeed) (defScope sSeed) .none kV_se dc_se pm_se an_se cd_se ct_se), sl_se⟩)
    (c_se : PySem.W.codeIn K cd_se "_law_seed" = true)
    (k_se : PySem.W.keepIn K (.ref f_se) = true)
    (a_ch : PySem.W.nsIn K mainGlobals "_law_choose" = some (some (.ref f_ch)))
    (l_ch : K.lookup f_ch = some ⟨oc_ch, od_ch, .func (PySem.W.fnOf "_law_choose" "_law_choose" (defArgs sChoose) (defBody sChoose) (defScope sChoose) .none kV_ch dc_ch pm_ch an_ch cd_ch ct_ch), sl_ch⟩)
    (c_ch : PySem.W.codeIn K cd_ch "_law_choose" = true)
    (k_ch : PySem.W.keepIn K (.ref f_ch) = true)
    (a_on : PySem.W.nsIn K mainGlobals "_law_one_of" = some (some (.ref f_on)))
    (l_on : K.lookup f_on = some ⟨oc_on, od_on, .func (PySem.W.fnOf "_law_one_of" "_law_one_of" (defArgs sOneOf) (defBody sOneOf) (defScope sOneOf) .none kV_on dc_on pm_on an_on cd_on ct_on), sl_on⟩)
    (c_on : PySem.W.codeIn K cd_on "_law_one_of" = true)
    (k_on : PySem.W.keepIn K (.ref f_on) = true)
    (a_an : PySem.W.nsIn K mainGlobals "_law_anything" = some (some (.ref f_an)))
    (l_an : K.lookup f_an = some ⟨oc_an, od_an, .func (PySem.W.fnOf "_law_anything" "_law_anything" (defArgs sAny) (defBody sAny) (defScope sAny) .none kV_an dc_an pm_an an_an cd_an ct_an), sl_an⟩)
    (c_an : PySem.W.codeIn K cd_an "_law_anything" = true)
    (k_an : PySem.W.keepIn K (.ref f_an) = true)
    (a_ln : PySem.W.nsIn K mainGlobals "_law_is_name" = some (some (.ref f_ln)))
    (l_ln : K.lookup f_ln = some ⟨oc_ln, od_ln, .func (PySem.W.fnOf "_law_is_name" "_law_is_name" (defArgs sLIsName) (defBody sLIsName) (defScope sLIsName) .none kV_ln dc_ln pm_ln an_ln cd_ln ct_ln), sl_ln⟩)
    (c_ln : PySem.W.codeIn K cd_ln "_law_is_name" = true)
    (k_ln : PySem.W.keepIn K (.ref f_ln) = true)
    (a_du : PySem.W.nsIn K mainGlobals "_law_due" = some (some (.ref f_du)))
    (l_du : K.lookup f_du = some ⟨oc_du, od_du, .func (PySem.W.fnOf "_law_due" "_law_due" (defArgs sDue) (defBody sDue) (defScope sDue) .none kV_du dc_du pm_du an_du cd_du ct_du), sl_du⟩)
    (c_du : PySem.W.codeIn K cd_du "_law_due" = true)
    (k_du : PySem.W.keepIn K (.ref f_du) = true)
    (a_tr : PySem.W.nsIn K mainGlobals "_law_tried" = some (some (.ref f_tr)))
    (l_tr : K.lookup f_tr = some ⟨oc_tr, od_tr, .func (PySem.W.fnOf "_law_tried" "_law_tried" (defArgs sTried) (defBody sTried) (defScope sTried) .none kV_tr dc_tr pm_tr an_tr cd_tr ct_tr), sl_tr⟩)
    (c_tr : PySem.W.codeIn K cd_tr "_law_tried" = true)
    (k_tr : PySem.W.keepIn K (.ref f_tr) = true)
    (a_la : PySem.W.nsIn K mainGlobals "law" = some (some (.ref f_la)))
    (l_la : K.lookup f_la = some ⟨oc_la, od_la, .func (PySem.W.fnOf "law" "law" (defArgs sLaw) (defBody sLaw) (defScope sLaw) .none kV_la dc_la pm_la an_la cd_la ct_la), sl_la⟩)
    (c_la : PySem.W.codeIn K cd_la "law" = true)
    (k_la : PySem.W.keepIn K (.ref f_la) = true)
    (a_ei : PySem.W.findIn K (.ref CE) "__init__" = some (some (.ref f_ei)))
    (l_ei : K.lookup f_ei = some ⟨oc_ei, od_ei, .func (PySem.W.fnOf "__init__" "InvalidRow.__init__" (defArgs sErrInit) (defBody sErrInit) (defScope sErrInit) .none kV_ei dc_ei pm_ei an_ei cd_ei ct_ei), sl_ei⟩)
    (c_ei : PySem.W.codeIn K cd_ei "InvalidRow.__init__" = true)
    (k_ei : PySem.W.keepIn K (.ref f_ei) = true)
    (a_eq : PySem.W.findIn K (.ref C) "__eq__" = some (some (.ref f_eq)))
    (l_eq : K.lookup f_eq = some ⟨oc_eq, od_eq, .func (PySem.W.fnOf "__eq__" "Row.__eq__" (defArgs sRowEq) (defBody sRowEq) (defScope sRowEq) .none kV_eq dc_eq pm_eq an_eq cd_eq ct_eq), sl_eq⟩)
    (c_eq : PySem.W.codeIn K cd_eq "Row.__eq__" = true)
    (k_eq : PySem.W.keepIn K (.ref f_eq) = true)
    (aC : PySem.W.nsIn K mainGlobals "Row" = some (some (.ref C)))
    (aE : PySem.W.nsIn K mainGlobals "InvalidRow" = some (some (.ref CE)))
    (aE2 : PySem.W.nsIn K mainGlobals "InvalidRule" = some (some (.ref C2)))
    (aE3 : PySem.W.nsIn K mainGlobals "InvalidText" = some (some (.ref C3)))
    (aL : PySem.W.nsIn K mainGlobals "LineError" = some (some (.ref CL)))
    (aP : PySem.W.nsIn K mainGlobals "PICKS" = some (some (.ref pP)))
    (lP : K.lookup pP = some ⟨.type "tuple", ddP, .seq #[.str "keep" t1, .str "at" t2, .str "past" t3, .str "under" t4, .str "all" t5] nP, slP⟩)
    (aM : PySem.W.nsIn K mainGlobals "MOVES" = some (some (.ref pM)))
    (lM : K.lookup pM = some ⟨.type "tuple", ddM, .seq #[.str "stay" t6, .str "on" t7, .str "home" t8] nM, slM⟩)
    (a_ri : PySem.W.findIn K (.ref C) "__init__" = some (some (.ref f_ri)))
    (l_ri : K.lookup f_ri = some ⟨oc_ri, od_ri, .func (PySem.W.fnOf "__init__" "Row.__init__" (defArgs sRowInit) (defBody sRowInit) (defScope sRowInit) (.ref dT) kV_ri dc_ri pm_ri an_ri cd_ri ct_ri), sl_ri⟩)
    (c_ri : PySem.W.codeIn K cd_ri "Row.__init__" = true)
    (k_ri : PySem.W.keepIn K (.ref f_ri) = true)
    (i_ri : PySem.W.isFn K (.ref f_ri) = true)
    (lD : K.lookup dT = some ⟨ocD, ddD, .seq #[.bool false] nD, slD⟩)
    (pg : PySem.W.plainGet K C Str.empty = true)
    (hd : PySem.W.hasDictIn K C = true)
    (po : PySem.W.plainOver K C = true)
    (sa : PySem.W.findIn K (.ref C) "__setattr__" = some (some (.builtin "object.__setattr__")))
    (mk : PySem.W.makesIn K C = true)
    (kc : PySem.W.keepIn K (.ref C) = true)
    (n1 : PySem.W.findIn K (.ref C) "mode" = some none)
    (n2 : PySem.W.findIn K (.ref C) "pick" = some none)
    (n3 : PySem.W.findIn K (.ref C) "move" = some none)
    (n4 : PySem.W.findIn K (.ref C) "then" = some none)
    (n5 : PySem.W.findIn K (.ref C) "also" = some none)
    (ha : PySem.W.findIn K (.ref C) "__class__" = some (some (.builtin "object.__class__")))
    (hn : PySem.W.specialIn K (.builtin "object.__class__") "__get__" = some (some (.builtin "getset_descriptor.__get__")))
    (ht : PySem.W.takesIn K (.builtin "object.__class__") = some true)
    (hm : PySem.W.mroIn K C (.type "object") = some true)
    (ks : PySem.W.kitOne K (.ref C) (.type "str") = some false)
    (kb : PySem.W.kitOne K (.ref C) (.type "bool") = some false)
    (sub : PySem.W.subIn K (.ref C) (.type "str") = some false)
    (i_eq : PySem.W.isFn K (.ref f_eq) = true)
    (kT : PySem.W.kitOne K (.type "str") (.ref C) = some false)
    (xL : K.lookup CE = some (excClassObj xn xq CE xN xb [.ref CL, .type "ValueError", .type "Exception", .type "BaseException", .type "object"] true xs xu xa xc xd m0 m1 m2 m3 m5 "ValueError.__new__"))
    (saE : PySem.W.findIn K (.ref CE) "__setattr__" = some (some (.builtin "object.__setattr__")))
    (exE : PySem.W.subIn K (.ref CE) (.type "BaseException") = some true)
    (tyE : PySem.W.typeIn K (.ref CE) = some (.type "type"))
    (kE : PySem.W.keepIn K (.ref CE) = true)
    (gaE : PySem.W.findIn K (.ref CE) "__getattribute__" = some (some (.builtin "BaseException.__getattribute__")))
    (ggE : PySem.W.findIn K (.ref CE) "__getattr__" = some none)
    (hdE : PySem.W.hasDictIn K CE = true)
    (haE : PySem.W.findIn K (.ref CE) "__class__" = some (some (.builtin "object.__class__")))
    (hmE : PySem.W.mroIn K CE (.type "object") = some true)
    (noE : PySem.W.findIn K (.ref CE) "word" = some none)
    (t_ei : PySem.W.typeIn K (.ref f_ei) = some (.type "function"))
    (k2 : PySem.W.kitOne K (.ref CE) (.ref C2) = some false)
    (k3 : PySem.W.kitOne K (.ref CE) (.ref C3) = some false)
    (kL : PySem.W.kitOne K (.ref CE) (.ref CL) = some true)
    (seE : PySem.W.subIn K (.ref CE) (.ref CE) = some true)
    (z_len : PySem.W.nsIn K mainGlobals "len" = some none)
    (z_abs : PySem.W.nsIn K mainGlobals "abs" = some none)
    (z_int : PySem.W.nsIn K mainGlobals "int" = some none)
    (z_range : PySem.W.nsIn K mainGlobals "range" = some none)
    (z_tuple : PySem.W.nsIn K mainGlobals "tuple" = some none)
    (z_isin : PySem.W.nsIn K mainGlobals "isinstance" = some none)
    (z_str : PySem.W.nsIn K mainGlobals "str" = some none)
    (z_bool : PySem.W.nsIn K mainGlobals "bool" = some none)
    (z_max : PySem.W.nsIn K mainGlobals "max" = some none)
    (z_min : PySem.W.nsIn K mainGlobals "min" = some none) :
    ∃ fd : FuncData, (∀ (s : Shared) (v : Value), BindsTo s fd ⟨[v], []⟩ [("_law_script", v)]) ∧ ∀ base : Heap, K.In base → base.Ns mainGlobals mg → FnOk l.prog w K mg base CX0 7 fa fd ["_law_script"] (spLaw K) := by
  have e := hfa.symm.trans (PySem.W.mg_of X G a_la)
  cases e
  have T : Blt mg := ⟨PySem.W.mg_none_of X G z_len, PySem.W.mg_none_of X G z_abs, PySem.W.mg_none_of X G z_int, PySem.W.mg_none_of X G z_range, PySem.W.mg_none_of X G z_tuple⟩
  have U : Blt2 mg := ⟨PySem.W.mg_none_of X G z_isin, PySem.W.mg_none_of X G z_str, PySem.W.mg_none_of X G z_bool⟩
  have Z : Blt3 mg := ⟨PySem.W.mg_none_of X G z_max, PySem.W.mg_none_of X G z_min⟩
  have F_nm := fun_mk (st := sIsName) l_nm c_nm k_nm
  have F_se := fun_mk (st := sSeed) l_se c_se k_se
  have F_ch := fun_mk (st := sChoose) l_ch c_ch k_ch
  have F_on := fun_mk (st := sOneOf) l_on c_on k_on
  have F_an := fun_mk (st := sAny) l_an c_an k_an
  have F_ln := fun_mk (st := sLIsName) l_ln c_ln k_ln
  have F_du := fun_mk (st := sDue) l_du c_du k_du
  have F_tr := fun_mk (st := sTried) l_tr c_tr k_tr
  have F_la := fun_mk (st := sLaw) l_la c_la k_la
  have F_ei := fun_mk (st := sErrInit) l_ei c_ei k_ei
  have F_eq := fun_mk (st := sRowEq) l_eq c_eq k_eq
  have b_nm := F_nm.binds (ps := ["value"]) fun _ _ _ _ _ _ us hl => match us, hl with | [_], _ => rfl
  have b_se := F_se.binds (ps := ["_law_script", "_law_k"]) fun _ _ _ _ _ _ us hl => match us, hl with | [_, _], _ => rfl
  have b_ch := F_ch.binds (ps := ["_law_box", "_law_many"]) fun _ _ _ _ _ _ us hl => match us, hl with | [_, _], _ => rfl
  have b_on := F_on.binds (ps := ["_law_box", "_law_some"]) fun _ _ _ _ _ _ us hl => match us, hl with | [_, _], _ => rfl
  have b_an := F_an.binds (ps := ["_law_box", "_law_deep"]) fun _ _ _ _ _ _ us hl => match us, hl with | [_, _], _ => rfl
  have b_ln := F_ln.binds (ps := ["_law_value"]) fun _ _ _ _ _ _ us hl => match us, hl with | [_], _ => rfl
  have b_du := F_du.binds (ps := ["_law_row"]) fun _ _ _ _ _ _ us hl => match us, hl with | [_], _ => rfl
  have b_tr := F_tr.binds (ps := ["_law_row"]) fun _ _ _ _ _ _ us hl => match us, hl with | [_], _ => rfl
  have b_ei := F_ei.binds (ps := ["self", "word"]) fun _ _ _ _ _ _ us hl => match us, hl with | [_, _], _ => rfl
  have b_eq := F_eq.binds (ps := ["self", "other"]) fun _ _ _ _ _ _ us hl => match us, hl with | [_, _], _ => rfl
  have FR : FunD K "__init__" "Row.__init__" (defArgs sRowInit) (defBody sRowInit) (defScope sRowInit) [.bl false] [] f_ri (PySem.W.fnOf "__init__" "Row.__init__" (defArgs sRowInit) (defBody sRowInit) (defScope sRowInit) (.ref dT) kV_ri dc_ri pm_ri an_ri cd_ri ct_ri) :=
    ⟨⟨oc_ri, od_ri, _, _, _, _, _, _, _, sl_ri, rfl, l_ri, c_ri, .inr ⟨by decide, dT, _, [.bool false], nD, rfl, lD, rfl, .cons rfl .nil⟩, .inl rfl⟩, k_ri⟩
  obtain ⟨d6, v6, b6⟩ := row_b6 FR
  cases v6
  obtain ⟨d5, v5, b5⟩ := row_b5 FR
  have RC : RowC K mg C := ⟨⟨pg, hd, po, sa⟩, ha, hn, ht, hm, ks, kb, n1, n2, n3, n4, n5, PySem.W.mg_of X G aC⟩
  have OX : OexC K CE := ⟨⟨xn, xq, xN, xb, _, xs, xu, xa, xc, xd, m0, m1, m2, m3, m5, xL, rfl⟩, saE, exE, tyE, kE⟩
  have Y : TryG K mg CE C2 C3 CL := ⟨⟨gaE, ggE, exE, hdE, haE, hn, ht, hmE⟩, ⟨gaE, ggE, exE, hdE⟩, noE, PySem.W.mg_of X G aE, PySem.W.mg_of X G aE2, PySem.W.mg_of X G aE3, PySem.W.mg_of X G aL, k2, k3, kL, PySem.W.exm_ref exE hdE tyE seE⟩
  have M : Mk K C f_ri := ⟨mk, a_ri, i_ri, kc⟩
  have five : (5 : Nat) ≤ sizeLine := by decide
  have three : (3 : Nat) ≤ sizeLine := by decide
  refine ⟨PySem.W.fnOf "law" "law" (defArgs sLaw) (defBody sLaw) (defScope sLaw) .none kV_la dc_la pm_la an_la cd_la ct_la, fun s v => .of_eq rfl, fun base _ _ => ?_⟩
  have g_nm : FnOk l.prog w K mg base CX0 1 f_nm _ ["value"] (spIsName K) := ok_isname F_nm T U
  have g_ei : FnOk l.prog w K mg base CX0 1 f_ei _ ["self", "word"] (spErr CE) := ok_err F_ei OX noE
  have g_eq : FnOk l.prog w K mg base CX0 1 f_eq _ ["self", "other"] (spEqT C) := ok_eqT F_eq RC U kT
  have RG : RowG l.prog w K mg base C CE := ⟨RC, ⟨f_nm, _, g_nm, b_nm, k_nm, PySem.W.mg_of X G a_nm⟩, ⟨f_ei, _, g_ei, b_ei, a_ei, t_ei⟩, OX, PySem.W.mg_of X G aE, ⟨f_eq, _, g_eq, b_eq, a_eq, i_eq⟩, sub,
    ⟨pP, PySem.W.mg_of X G aP, fun H => .inr ⟨_, _, _, lP, rfl, rfl, five, .cons ⟨_, rfl⟩ (.cons ⟨_, rfl⟩ (.cons ⟨_, rfl⟩ (.cons ⟨_, rfl⟩ (.cons ⟨_, rfl⟩ .nil))))⟩⟩,
    ⟨pM, PySem.W.mg_of X G aM, fun H => .inr ⟨_, _, _, lM, rfl, rfl, three, .cons ⟨_, rfl⟩ (.cons ⟨_, rfl⟩ (.cons ⟨_, rfl⟩ .nil))⟩⟩⟩
  have g_ri : FnOk l.prog w K mg base (L2.CX l.prog w) 3 f_ri _ ["self", "mode", "pick", "move", "then", "also"] (spRow K C CE) := ok_row FR RG U
  have g_se : FnOk l.prog w K mg base CX0 1 f_se _ ["_law_script", "_law_k"] (spSeed K) := ok_seed F_se T
  have g_ch : FnOk l.prog w K mg base CX0 1 f_ch _ ["_law_box", "_law_many"] spChoose := ok_choose F_ch T
  have mCh := PySem.W.mg_of X G a_ch
  have mOn := PySem.W.mg_of X G a_on
  have g_on : FnOk l.prog w K mg base CX0 2 f_on _ ["_law_box", "_law_some"] (spOneOf K) := ok_oneof F_on T g_ch b_ch k_ch mCh
  have g_an : FnOk l.prog w K mg base CX0 6 f_an _ ["_law_box", "_law_deep"] (spAny K 3) := any_all F_an T g_ch b_ch k_ch mCh g_on b_on k_on mOn b_an (PySem.W.mg_of X G a_an) 3
  have g_ln : FnOk l.prog w K mg base CX0 2 f_ln _ ["_law_value"] (spLIsName K C) := ok_lisname F_ln T U
  have g_du : FnOk l.prog w K mg base CX0 3 f_du _ ["_law_row"] (spDue K C) := ok_due F_du RC U g_ln b_ln k_ln (PySem.W.mg_of X G a_ln)
  have g_tr : FnOk l.prog w K mg base CX0 5 f_tr _ ["_law_row"] (spTried K C) := ok_tried F_tr RC U Y M g_ri b6
  exact ok_law F_la T Z RC ⟨⟨f_se, _, g_se, b_se, k_se, PySem.W.mg_of X G a_se⟩, ⟨f_ch, _, g_ch, b_ch, k_ch, mCh⟩, ⟨f_on, _, g_on, b_on, k_on, mOn⟩, ⟨f_an, _, g_an, b_an, k_an, PySem.W.mg_of X G a_an⟩,
    ⟨f_tr, _, g_tr, b_tr, k_tr, PySem.W.mg_of X G a_tr⟩, ⟨f_du, _, g_du, b_du, k_du, PySem.W.mg_of X G a_du⟩, ⟨f_ri, _, M, g_ri, d5, v5, b5⟩⟩
theorem walk {l : PySem.W.OpenLaw} {q : Program} {loose : List Str} {XP : (Str → Option Value) → Heap → Prop} {YP : World → Heap → Prop} {d : DefRec} {K : Params → PySem.W.Frag} (hn : l.most = some 63) (hdf : d.params.defaults = [])
    (hY : ∀ (w : World) (h : Heap), YP w h → (K w.params).In h)
    (F : ∀ (w : World) (mg : Str → Option Value) (fa : Addr) (h : Heap), (K w.params).In h → h.Ns mainGlobals mg → mg d.name = some (.ref fa) →
      ∃ fd : FuncData, (∀ (s : Shared) (u : Value), BindsTo s fd ⟨[u], []⟩ [("_law_script", u)]) ∧ ∀ base : Heap, (K w.params).In base → base.Ns mainGlobals mg → FnOk l.prog w (K w.params) mg base CX0 7 fa fd ["_law_script"] (spLaw (K w.params))) :
    PySem.W.WalkO q loose XP YP l.row.toRowW d [] (fun f vs => PySem.call f vs) :=
  L2.walk_of (n := 63) (k := 7) (x := "_law_script") (CX := fun _ => CX0) (sp := fun w => spLaw (K w.params)) hn (by decide) hdf ⟨rfl, by decide, by decide⟩ hY F (fun _ _ a ns hl _ hS => ⟨a, ns, rfl, hS, hl, fun _ => rfl⟩) fun _ _ _ _ _ z => z
end LT
open PySem PySem.W PyProof.Rows
set_option maxRecDepth 100000 in
set_option maxHeartbeats 0 in
theorem PySem.Challenge.cw_lineturns_k03_rows_refused_holds : PySem.Challenge.rw_lineturns_k03_rows_refused.Holds := by
  w_on; o_law; k_head; (case hw => w_witness2)
  k_fill
  refine LT.walk (l := PySem.Challenge.rw_lineturns_k03_rows_refused) rfl rfl (fun w h Y => PySem.W.kIn_of Y) ?F
  case F =>
    intro w mg fa h KX G hmg
    refine' LT.all_mk KX G hmg ?a_nm ?l_nm ?c_nm ?k_nm ?a_se ?l_se ?c_se ?k_se ?a_ch ?l_ch ?c_ch ?k_ch ?a_on ?l_on ?c_on ?k_on ?a_an ?l_an ?c_an ?k_an ?a_ln ?l_ln ?c_ln ?k_ln ?a_du ?l_du ?c_du ?k_du ?a_tr ?l_tr ?c_tr ?k_tr ?a_la ?l_la ?c_la ?k_la ?a_ei ?l_ei ?c_ei ?k_ei ?a_eq ?l_eq ?c_eq ?k_eq ?aC ?aE ?aE2 ?aE3 ?aL ?aP ?lP ?aM ?lM ?a_ri ?l_ri ?c_ri ?k_ri ?i_ri ?lD ?pg ?hd ?po ?sa ?mk ?kc ?n1 ?n2 ?n3 ?n4 ?n5 ?ha ?hn ?ht ?hm ?ks ?kb ?sub ?i_eq ?kT ?xL ?saE ?exE ?tyE ?kE ?gaE ?ggE ?hdE ?haE ?hmE ?noE ?t_ei ?k2 ?k3 ?kL ?seE ?z_len ?z_abs ?z_int ?z_range ?z_tuple ?z_isin ?z_str ?z_bool ?z_max ?z_min
    (case aC => k_is)
    (case aE => k_is)
    (case aE2 => k_is)
    (case aE3 => k_is)
    (case aL => k_is)
    (case aP => k_is)
    (case aM => k_is)
    (case a_nm => k_is)
    (case l_nm => k_is)
    (case c_nm => k_is)
    (case k_nm => k_is)
    (case a_se => k_is)
    (case l_se => k_is)
    (case c_se => k_is)
    (case k_se => k_is)
    (case a_ch => k_is)
    (case l_ch => k_is)
    (case c_ch => k_is)
    (case k_ch => k_is)
    (case a_on => k_is)
    (case l_on => k_is)
    (case c_on => k_is)
    (case k_on => k_is)
    (case a_an => k_is)
    (case l_an => k_is)
    (case c_an => k_is)
    (case k_an => k_is)
    (case a_ln => k_is)
    (case l_ln => k_is)
    (case c_ln => k_is)
    (case k_ln => k_is)
    (case a_du => k_is)
    (case l_du => k_is)
    (case c_du => k_is)
    (case k_du => k_is)
    (case a_tr => k_is)
    (case l_tr => k_is)
    (case c_tr => k_is)
    (case k_tr => k_is)
    (case a_la => k_is)
    (case l_la => k_is)
    (case c_la => k_is)
    (case k_la => k_is)
    (case a_ei => k_is)
    (case l_ei => k_is)
    (case c_ei => k_is)
    (case k_ei => k_is)
    (case a_eq => k_is)
    (case l_eq => k_is)
    (case c_eq => k_is)
    (case k_eq => k_is)
    (case lP => k_is)
    (case lM => k_is)
    (case a_ri => k_is)
    (case l_ri => k_is)
    (case c_ri => k_is)
    (case k_ri => k_is)
    (case i_ri => k_is)
    (case lD => k_is)
    (case pg => k_is)
    (case hd => k_is)
    (case po => k_is)
    (case sa => k_is)
    (case mk => k_is)
    (case kc => k_is)
    (case n1 => k_is)
    (case n2 => k_is)
    (case n3 => k_is)
    (case n4 => k_is)
    (case n5 => k_is)
    (case ha => k_is)
    (case hn => k_is)
    (case ht => k_is)
    (case hm => k_is)
    (case ks => kit_is)
    (case kb => kit_is)
    (case sub => k_is)
    (case i_eq => k_is)
    (case kT => kit_is)
    (case xL => k_is)
    (case saE => k_is)
    (case exE => k_is)
    (case tyE => k_is)
    (case kE => k_is)
    (case gaE => k_is)
    (case ggE => k_is)
    (case hdE => k_is)
    (case haE => k_is)
    (case hmE => k_is)
    (case noE => k_is)
    (case t_ei => k_is)
    (case k2 => kit_is)
    (case k3 => kit_is)
    (case kL => kit_is)
    (case seE => first | rfl | k_is)
    (case z_len => k_is)
    (case z_abs => k_is)
    (case z_int => k_is)
    (case z_range => k_is)
    (case z_tuple => k_is)
    (case z_isin => k_is)
    (case z_str => k_is)
    (case z_bool => k_is)
    (case z_max => k_is)
    (case z_min => k_is)
#print axioms PySem.Challenge.cw_lineturns_k03_rows_refused_holds
