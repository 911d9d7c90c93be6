import PyProof.Rows.All
import Wide.All
import OpenK.AllK
import Wide.FinOn
import HandS.ForMost
import HandS.Exc
import HandS.TryOnly
import HandS.ExcOwn
import HandS.WordsExc
import HandS.Wide
import HandS.Style
import HandS.Star
import HandS.IsInst
import HandS.SetKeys
import HandS.BoundDict
import HandS.WideBits
import HandS.RaiseMore
import HandS.OwnEq
import HandS.Conv
import PySem.Challenge.RW_buzzround_k01_plain_kinds
import HandS.SetBool
import KE.KDictLaws
import HandS.Walk
import HandS.Iter
import HandS.Sort
import HandS.Evl
import OpenK.KMeth
import HandS.Defaults
import HandS.EndBits
set_option Elab.async false
set_option linter.all false
set_option maxRecDepth 100000
set_option maxHeartbeats 4000000
set_option exponentiation.threshold 300
namespace B
open PySem L2
def top (i : Nat) : Stmt := PySem.Challenge.pw_buzzround_k01_plain_kinds.main.body.getD i (.Pass ⟨0, 0, 0, 0⟩)
abbrev s_is_whole : Stmt := top 10
theorem sc_is_whole : FnScope ["value"] ["value"] (defScope s_is_whole) := ⟨rfl, rfl, rfl, by decide +kernel, rfl, by decide +kernel, by decide +kernel⟩
abbrev s_is_between : Stmt := top 11
theorem sc_is_between : FnScope ["value", "low", "high"] ["value", "low", "high"] (defScope s_is_between) := ⟨rfl, rfl, rfl, by decide +kernel, rfl, by decide +kernel, by decide +kernel⟩
abbrev s_check_base : Stmt := top 12
theorem sc_check_base : FnScope ["value"] ["value"] (defScope s_check_base) := ⟨rfl, rfl, rfl, by decide +kernel, rfl, by decide +kernel, by decide +kernel⟩
abbrev s_check_divisor : Stmt := top 13
theorem sc_check_divisor : FnScope ["value"] ["value"] (defScope s_check_divisor) := ⟨rfl, rfl, rfl, by decide +kernel, rfl, by decide +kernel, by decide +kernel⟩
abbrev s_check_rest : Stmt := top 14
theorem sc_check_rest : FnScope ["value", "divisor"] ["value", "divisor"] (defScope s_check_rest) := ⟨rfl, rfl, rfl, by decide +kernel, rfl, by decide +kernel, by decide +kernel⟩
abbrev s_check_figure : Stmt := top 15
theorem sc_check_figure : FnScope ["value", "base"] ["value", "base"] (defScope s_check_figure) := ⟨rfl, rfl, rfl, by decide +kernel, rfl, by decide +kernel, by decide +kernel⟩
abbrev s_figures : Stmt := top 18
theorem sc_figures : FnScope ["number", "base", "found", "figure"] ["number", "base"] (defScope s_figures) := ⟨rfl, rfl, rfl, by decide +kernel, rfl, by decide +kernel, by decide +kernel⟩
abbrev s_state_behind : Stmt := top 19
theorem sc_state_behind : FnScope ["steps", "number", "state", "figure"] ["steps", "number"] (defScope s_state_behind) := ⟨rfl, rfl, rfl, by decide +kernel, rfl, by decide +kernel, by decide +kernel⟩
abbrev s_side_by_side : Stmt := top 20
theorem sc_side_by_side : FnScope ["first", "second", "width", "numbers", "codes", "steps", "one", "other", "row", "x", "y", "code"] ["first", "second"] (defScope s_side_by_side) := ⟨rfl, rfl, rfl, by decide +kernel, rfl, by decide +kernel, by decide +kernel⟩
abbrev s_least_unlike : Stmt := top 21
theorem sc_least_unlike : FnScope ["first", "second", "first_steps", "first_marks", "second_steps", "second_marks", "base", "seen", "waiting", "at", "number", "one", "other", "figure", "pair"] ["first", "second"] (defScope s_least_unlike) := ⟨rfl, rfl, rfl, by decide +kernel, rfl, by decide +kernel, by decide +kernel⟩
abbrev s_least_machine : Stmt := top 22
theorem sc_least_machine : FnScope ["steps", "marks", "most", "lots"] ["steps", "marks", "most"] (defScope s_least_machine) := ⟨rfl, rfl, rfl, by decide +kernel, rfl, by decide +kernel, by decide +kernel⟩
abbrev s_in_order : Stmt := top 23
theorem sc_in_order : FnScope ["steps", "marks", "lots", "numbers", "met", "at", "row", "state", "rows", "one"] ["steps", "marks", "lots"] (defScope s_in_order) := ⟨rfl, rfl, rfl, by decide +kernel, rfl, by decide +kernel, by decide +kernel⟩
abbrev s_lots_of_states : Stmt := top 24
theorem sc_lots_of_states : FnScope ["steps", "marks", "most", "lots", "members", "backs", "figure", "waiting", "targets", "back", "hit", "lot", "state"] ["steps", "marks", "most"] (defScope s_lots_of_states) := ⟨rfl, rfl, rfl, by decide +kernel, rfl, by decide +kernel, by decide +kernel⟩
abbrev s_lots_by_marks : Stmt := top 25
theorem sc_lots_by_marks : FnScope ["marks", "numbers", "lots", "mark"] ["marks"] (defScope s_lots_by_marks) := ⟨rfl, rfl, rfl, by decide +kernel, rfl, by decide +kernel, by decide +kernel⟩
abbrev s_members_of : Stmt := top 26
theorem sc_members_of : FnScope ["lots", "members", "_", "state", "lot"] ["lots"] (defScope s_members_of) := ⟨rfl, rfl, rfl, by decide +kernel, rfl, by decide +kernel, by decide +kernel⟩
abbrev s_all_but_a_widest : Stmt := top 27
theorem sc_all_but_a_widest : FnScope ["members", "ascending", "lot", "_"] ["members"] (defScope s_all_but_a_widest) := ⟨rfl, rfl, rfl, by decide +kernel, rfl, by decide +kernel, by decide +kernel⟩
abbrev s_steps_back : Stmt := top 28
theorem sc_steps_back : FnScope ["steps", "figure", "back", "_", "state", "row"] ["steps", "figure"] (defScope s_steps_back) := ⟨rfl, rfl, rfl, by decide +kernel, rfl, by decide +kernel, by decide +kernel⟩
abbrev s_hit_by_lot : Stmt := top 29
theorem sc_hit_by_lot : FnScope ["targets", "back", "lots", "hit", "target", "state"] ["targets", "back", "lots"] (defScope s_hit_by_lot) := ⟨rfl, rfl, rfl, by decide +kernel, rfl, by decide +kernel, by decide +kernel⟩
abbrev s_multiple : Stmt := top 34
theorem sc_multiple : FnScope ["base", "number"] ["base", "number"] (defScope s_multiple) := ⟨rfl, rfl, rfl, by decide +kernel, rfl, by decide +kernel, by decide +kernel⟩
abbrev s_rest : Stmt := top 35
theorem sc_rest : FnScope ["base", "number", "rest"] ["base", "number", "rest"] (defScope s_rest) := ⟨rfl, rfl, rfl, by decide +kernel, rfl, by decide +kernel, by decide +kernel⟩
abbrev s_bears : Stmt := top 36
theorem sc_bears : FnScope ["base", "figure", "one"] ["base", "figure"] (defScope s_bears) := ⟨rfl, rfl, rfl, by decide +kernel, rfl, by decide +kernel, by decide +kernel⟩
abbrev s_ends : Stmt := top 37
theorem sc_ends : FnScope ["base", "figure", "row", "one"] ["base", "figure"] (defScope s_ends) := ⟨rfl, rfl, rfl, by decide +kernel, rfl, by decide +kernel, by decide +kernel⟩
abbrev s_figure_sum : Stmt := top 38
theorem sc_figure_sum : FnScope ["base", "number", "rest"] ["base", "number", "rest"] (defScope s_figure_sum) := ⟨rfl, rfl, rfl, by decide +kernel, rfl, by decide +kernel, by decide +kernel⟩
abbrev s_every : Stmt := top 39
theorem sc_every : FnScope ["base"] ["base"] (defScope s_every) := ⟨rfl, rfl, rfl, by decide +kernel, rfl, by decide +kernel, by decide +kernel⟩
abbrev s__by_rest : Stmt := top 40
theorem sc__by_rest : FnScope ["base", "number", "rest", "factor", "rows", "figure", "found"] ["base", "number", "rest", "factor"] (defScope s__by_rest) := ⟨rfl, rfl, rfl, by decide +kernel, rfl, by decide +kernel, by decide +kernel⟩
abbrev s__kind_of : Stmt := top 41
theorem sc__kind_of : FnScope ["rows", "marks", "first", "steps", "told"] ["rows", "marks"] (defScope s__kind_of) := ⟨rfl, rfl, rfl, by decide +kernel, rfl, by decide +kernel, by decide +kernel⟩
abbrev s__check_match : Stmt := top 42
theorem sc__check_match : FnScope ["one", "other"] ["one", "other"] (defScope s__check_match) := ⟨rfl, rfl, rfl, by decide +kernel, rfl, by decide +kernel, by decide +kernel⟩
abbrev s__joined : Stmt := top 43
theorem sc__joined : FnScope ["one", "other", "told", "steps", "pairs", "marks", "x", "y", "found"] ["one", "other", "told"] (defScope s__joined) := ⟨rfl, rfl, rfl, by decide +kernel, rfl, by decide +kernel, by decide +kernel⟩
abbrev s_Kind___init__ : Stmt := inClass (top 44) 0
theorem sc_Kind___init__ : FnScope ["self", "steps", "marks", "mark"] ["self", "steps", "marks"] (defScope s_Kind___init__) := ⟨rfl, rfl, rfl, by decide +kernel, rfl, by decide +kernel, by decide +kernel⟩
abbrev s_Kind___and__ : Stmt := inClass (top 44) 1
theorem sc_Kind___and__ : FnScope ["self", "other"] ["self", "other"] (defScope s_Kind___and__) := ⟨rfl, rfl, rfl, by decide +kernel, rfl, by decide +kernel, by decide +kernel⟩
abbrev s_Kind___or__ : Stmt := inClass (top 44) 2
theorem sc_Kind___or__ : FnScope ["self", "other"] ["self", "other"] (defScope s_Kind___or__) := ⟨rfl, rfl, rfl, by decide +kernel, rfl, by decide +kernel, by decide +kernel⟩
abbrev s_Kind___xor__ : Stmt := inClass (top 44) 3
theorem sc_Kind___xor__ : FnScope ["self", "other"] ["self", "other"] (defScope s_Kind___xor__) := ⟨rfl, rfl, rfl, by decide +kernel, rfl, by decide +kernel, by decide +kernel⟩
abbrev s_Kind___invert__ : Stmt := inClass (top 44) 4
theorem sc_Kind___invert__ : FnScope ["self", "mark"] ["self"] (defScope s_Kind___invert__) := ⟨rfl, rfl, rfl, by decide +kernel, rfl, by decide +kernel, by decide +kernel⟩
abbrev s_Kind___eq__ : Stmt := inClass (top 44) 5
theorem sc_Kind___eq__ : FnScope ["self", "other"] ["self", "other"] (defScope s_Kind___eq__) := ⟨rfl, rfl, rfl, by decide +kernel, rfl, by decide +kernel, by decide +kernel⟩
abbrev s_Kind___contains__ : Stmt := inClass (top 44) 6
theorem sc_Kind___contains__ : FnScope ["self", "number"] ["self", "number"] (defScope s_Kind___contains__) := ⟨rfl, rfl, rfl, by decide +kernel, rfl, by decide +kernel, by decide +kernel⟩
abbrev s_Kind_base : Stmt := inClass (top 44) 7
theorem sc_Kind_base : FnScope ["self"] ["self"] (defScope s_Kind_base) := ⟨rfl, rfl, rfl, by decide +kernel, rfl, by decide +kernel, by decide +kernel⟩
abbrev s_Kind_size : Stmt := inClass (top 44) 8
theorem sc_Kind_size : FnScope ["self"] ["self"] (defScope s_Kind_size) := ⟨rfl, rfl, rfl, by decide +kernel, rfl, by decide +kernel, by decide +kernel⟩
abbrev s_Kind_count : Stmt := inClass (top 44) 9
theorem sc_Kind_count : FnScope ["self", "number"] ["self", "number"] (defScope s_Kind_count) := ⟨rfl, rfl, rfl, by decide +kernel, rfl, by decide +kernel, by decide +kernel⟩
abbrev s_Kind_nth : Stmt := inClass (top 44) 10
theorem sc_Kind_nth : FnScope ["self", "place"] ["self", "place"] (defScope s_Kind_nth) := ⟨rfl, rfl, rfl, by decide +kernel, rfl, by decide +kernel, by decide +kernel⟩
abbrev s_Kind_after : Stmt := inClass (top 44) 11
theorem sc_Kind_after : FnScope ["self", "number"] ["self", "number"] (defScope s_Kind_after) := ⟨rfl, rfl, rfl, by decide +kernel, rfl, by decide +kernel, by decide +kernel⟩
abbrev s_Kind_least : Stmt := inClass (top 44) 12
theorem sc_Kind_least : FnScope ["self"] ["self"] (defScope s_Kind_least) := ⟨rfl, rfl, rfl, by decide +kernel, rfl, by decide +kernel, by decide +kernel⟩
abbrev s_Kind_is_finite : Stmt := inClass (top 44) 13
theorem sc_Kind_is_finite : FnScope ["self"] ["self"] (defScope s_Kind_is_finite) := ⟨rfl, rfl, rfl, by decide +kernel, rfl, by decide +kernel, by decide +kernel⟩
abbrev s_Kind_unlike : Stmt := inClass (top 44) 14
theorem sc_Kind_unlike : FnScope ["self", "other"] ["self", "other"] (defScope s_Kind_unlike) := ⟨rfl, rfl, rfl, by decide +kernel, rfl, by decide +kernel, by decide +kernel⟩
abbrev s_Kind__ways_with : Stmt := inClass (top 44) 15
theorem sc_Kind__ways_with : FnScope ["self", "length", "last", "behind", "row"] ["self", "length"] (defScope s_Kind__ways_with) := ⟨rfl, rfl, rfl, by decide +kernel, rfl, by decide +kernel, by decide +kernel⟩
abbrev s_Kind__at_place : Stmt := inClass (top 44) 16
theorem sc_Kind__at_place : FnScope ["self", "place", "length", "number", "state", "left", "at", "ways", "figure"] ["self", "place", "length"] (defScope s_Kind__at_place) := ⟨rfl, rfl, rfl, by decide +kernel, rfl, by decide +kernel, by decide +kernel⟩
abbrev s_Kind__behind : Stmt := inClass (top 44) 17
theorem sc_Kind__behind : FnScope ["self", "place", "length", "more"] ["self", "place", "length"] (defScope s_Kind__behind) := ⟨rfl, rfl, rfl, by decide +kernel, rfl, by decide +kernel, by decide +kernel⟩
abbrev s__law_bag : Stmt := top 46
theorem sc__law_bag : FnScope ["script", "k", "cell"] ["script", "k"] (defScope s__law_bag) := ⟨rfl, rfl, rfl, by decide +kernel, rfl, by decide +kernel, by decide +kernel⟩
abbrev s__law_draw : Stmt := top 47
theorem sc__law_draw : FnScope ["bag", "many", "found", "mixed"] ["bag", "many"] (defScope s__law_draw) := ⟨rfl, rfl, rfl, by decide +kernel, rfl, by decide +kernel, by decide +kernel⟩
abbrev s__law_power : Stmt := top 48
theorem sc__law_power : FnScope ["root", "times", "found", "k"] ["root", "times"] (defScope s__law_power) := ⟨rfl, rfl, rfl, by decide +kernel, rfl, by decide +kernel, by decide +kernel⟩
abbrev s__law_great : Stmt := top 49
theorem sc__law_great : FnScope ["bag", "limit", "far", "way"] ["bag", "limit"] (defScope s__law_great) := ⟨rfl, rfl, rfl, by decide +kernel, rfl, by decide +kernel, by decide +kernel⟩
abbrev s__law_figures : Stmt := top 50
theorem sc__law_figures : FnScope ["n", "root", "found", "k"] ["n", "root"] (defScope s__law_figures) := ⟨rfl, rfl, rfl, by decide +kernel, rfl, by decide +kernel, by decide +kernel⟩
abbrev s__law_in : Stmt := top 51
theorem sc__law_in : FnScope ["root", "test", "n", "head", "one", "two", "figs"] ["root", "test", "n"] (defScope s__law_in) := ⟨rfl, rfl, rfl, by decide +kernel, rfl, by decide +kernel, by decide +kernel⟩
abbrev s__law_any_plain : Stmt := top 52
theorem sc__law_any_plain : FnScope ["bag", "root", "way", "many", "fig", "some"] ["bag", "root"] (defScope s__law_any_plain) := ⟨rfl, rfl, rfl, by decide +kernel, rfl, by decide +kernel, by decide +kernel⟩
abbrev s__law_two : Stmt := top 53
theorem sc__law_two : FnScope ["root", "test", "head"] ["root", "test"] (defScope s__law_two) := ⟨rfl, rfl, rfl, by decide +kernel, rfl, by decide +kernel, by decide +kernel⟩
abbrev s__law_numbers : Stmt := top 54
theorem sc__law_numbers : FnScope ["bag", "root", "found", "k"] ["bag", "root"] (defScope s__law_numbers) := ⟨rfl, rfl, rfl, by decide +kernel, rfl, by decide +kernel, by decide +kernel⟩
abbrev s__law_right : Stmt := top 55
theorem sc__law_right : FnScope ["bag", "root", "test", "one", "two", "numbers", "truths", "n", "far", "value"] ["bag"] (defScope s__law_right) := ⟨rfl, rfl, rfl, by decide +kernel, rfl, by decide +kernel, by decide +kernel⟩
abbrev s_law : Stmt := top 56
theorem sc_law : FnScope ["script", "k"] ["script"] (defScope s_law) := ⟨rfl, rfl, rfl, by decide +kernel, rfl, by decide +kernel, by decide +kernel⟩
end B

namespace L2
open PySem PySem.Spec PyProof.Rows
/-! ### great powers -/
def CPowW (i j : Int) : Prop := 0 ≤ j ∧ (Builtin.Int.intBits i : Int) * j ≤ 2 ^ 27
theorem op_powW {X : Cx} : OpR X (binaryOp .Pow) (rI CPowW fun i j => .int (i ^ j.toNat)) := opI fun _ _ _ _ _ _ _ hc q => pow_int hc.1 hc.2 q
theorem bits_le {i : Int} {n : Nat} (h : i.natAbs < 2 ^ n) : Builtin.Int.intBits i ≤ n := by
  unfold Builtin.Int.intBits
  split
  · exact Nat.zero_le _
  · rename_i h0
    have h1 : i.natAbs ≠ 0 := fun z => h0 (by have : i = 0 := by omega
                                              subst this; rfl)
    have := (Nat.log2_lt h1).mpr h
    omega
theorem powW_of {i j : Int} {n m : Nat} (h : i.natAbs < 2 ^ n) (hj : j = (m : Int)) (hm : n * m ≤ 2 ^ 27) : CPowW i j := by
  subst hj
  refine ⟨Int.natCast_nonneg _, ?_⟩
  have := bits_le h
  have h2 : Builtin.Int.intBits i * m ≤ n * m := Nat.mul_le_mul_right _ this
  have h3 : Builtin.Int.intBits i * m ≤ 2 ^ 27 := Nat.le_trans h2 hm
  exact_mod_cast h3
end L2

namespace B
open PySem L2
/-! ### draws -/
/-- a bag of draws: what is left of the cell, the cell's rest, how many mixed draws there were -/
def BagO (n : Nat) (o : HO) : Prop := ∃ a b c : Int, o = .lst [.int a, .int b, .int c] ∧ 0 ≤ a ∧ a.natAbs < 2 ^ 1048577 ∧ 0 ≤ b ∧ b.natAbs < 2 ^ 128 ∧ 0 ≤ c ∧ c ≤ n
def Bag (H : Hp) (p : Addr) (n : Nat) : Prop := ∃ o, H p = some o ∧ BagO n o
def spBag (K : PySem.W.Frag) : Sp := fun vs H Q _ => ∃ (a : Addr) (ns : List Int) (k : Nat), vs = [.ref a, .int k] ∧ SqL K H a (ns.map V.int) ∧ (∀ z ∈ ns, Builtin.Int.intBits z ≤ 1048576) ∧ k ≤ 100 ∧ ns.length ≤ 1000 ∧
  ∀ p o, H p = none → BagO 0 o → Q (.ref p) (upd H p o)
def spDraw : Sp := fun vs H Q _ => ∃ (p : Addr) (m : Int) (n : Nat), vs = [.ref p, .int m] ∧ 0 < m ∧ m.natAbs < 2 ^ 8000 ∧ Bag H p n ∧ n ≤ 1000000 ∧
  ∀ (r : Int) (o : HO), 0 ≤ r → r < m → BagO (n + 1) o → Q (.int r) (upd H p o)
structure TxtD (mg : Str → Option Value) : Prop where
  len : mg "len" = none
  abs : mg "abs" = none
  max : mg "max" = none
  int : mg "int" = none
section
variable {P : Program} {w : World} {K : PySem.W.Frag} {mg : Str → Option Value} {base : Heap}
theorem ok_bag {f : Addr} {fd : FuncData} (F : Fun K "_law_bag" "_law_bag" s__law_bag f fd) (T : TxtD mg) : FnOk P w K mg base CX0 1 f fd ["script", "k"] (spBag K) := by
  refine F.ok sc__law_bag (fun vs H Q E h => ?_) (fun cdv A outer s H vs Q E hr h => ?_)
  · obtain ⟨a, ns, k, rfl, _⟩ := h
    rfl
  · obtain ⟨a, ns, k, rfl, hS, hb, hk, hl, q⟩ := h
    have nd := sc__law_bag.nd
    refine ⟨_, pss_cons (ps_set (i := 2) nd rfl (Or.inl rfl) pe_int)
      (pss_cons (ps_if (pt_cmpR op_lt (pv 1) (pe_callB call_len (by rfl) T.len PySem.boot_len (pa_cons (pv 0) pa_nil)) (nomark _))
        (pss_one (ps_set (i := 2) nd rfl (Or.inl rfl) (pe_callB call_abs (by rfl) T.abs (by decide +kernel) (pa_cons (pe_callTy call_int1 (by rfl) T.int (by decide +kernel) (pa_cons (pe_ix ix_list (pv 0) (pv 1) (fun _ _ => rfl)) pa_nil)) pa_nil)))) pss_nil)
      (pss_one (ps_ret (pe_lst (pa_cons (pe_callB (call_max2 rfl) (by rfl) T.max (by decide +kernel) (pa_cons pe_int (pa_cons (pe_op op_sub (pv 2) (pe_op op_pow pe_int pe_int)) pa_nil)))
        (pa_cons (pe_op op_add (pe_op op_mod (pe_callTy call_int1 (by rfl) T.int (by decide +kernel) (pa_cons (pv 2) pa_nil)) pe_int) (pe_op op_mul pe_int (pv 1)))
        (pa_cons pe_int pa_nil))))))), ?_⟩
    refine ⟨_, rfl, _, rfl, _, (ns.map V.int).length, rfl, Or.inl ⟨_, hS, rfl⟩, ?_⟩
    refine ⟨_, _, rfl, rfl, _, rfl, ?_⟩
    have p18 : ((10 : Int) ^ (18 : Int).toNat) = 1000000000000000000 := by decide
    have fin : ∀ cell : Int, 0 ≤ cell → cell.natAbs < 2 ^ 1048576 → ∀ p, H p = none →
        Q (.ref p) (upd H p (.lst [.int (if cell - 10 ^ (18 : Int).toNat > 0 then cell - 10 ^ (18 : Int).toNat else 0), .int (cell % 170141183460469231731687303715884105727 + 7919 * (k : Int)), .int 0])) := by
      intro cell h0 h1 p hp
      refine q p _ hp ⟨_, _, _, rfl, ?_, ?_, ?_, ?_, by omega, by omega⟩
      · split <;> omega
      · rw [p18]
        have h2 : (2 : Nat) ^ 1048576 ≤ 2 ^ 1048577 := Nat.pow_le_pow_right (by decide) (by decide)
        generalize (2 : Nat) ^ 1048576 = x at h1 h2
        generalize (2 : Nat) ^ 1048577 = y at h2 ⊢
        split <;> omega
      · have := Int.emod_nonneg cell (show (170141183460469231731687303715884105727 : Int) ≠ 0 by decide)
        omega
      · have h3 := Int.emod_nonneg cell (show (170141183460469231731687303715884105727 : Int) ≠ 0 by decide)
        have h4 := Int.emod_lt_of_pos cell (show (0 : Int) < 170141183460469231731687303715884105727 by decide)
        have e : (2 : Nat) ^ 128 = 340282366920938463463374607431768211456 := by decide
        rw [e]
        omega
    have rest : ∀ cell : Int, 0 ≤ cell → cell.natAbs < 2 ^ 1048576 →
        tRet (tLst
          (tCons
            (tCB (fun xs H Q => ∃ i j, xs = [V.int i, V.int j] ∧ Q (V.int (if j > i then j else i)) H)
              (tCons (tC (V.int 0))
                (tCons
                  (tOp (rI0 fun i j => V.int (i - j)) (tVar 2)
                    (tOp (rI CPow fun i j => V.int (i ^ j.toNat)) (tC (V.int 10)) (tC (V.int 18))))
                  tNil)))
            (tCons
              (tOp (rI0 fun i j => V.int (i + j))
                (tOp (rI (fun x j => 0 < j) fun i j => V.int (i % j))
                  (tCB
                    (fun xs H Q =>
                      (∃ i, xs = [V.int i] ∧ Q (V.int i) H) ∨
                        ∃ k, xs = [V.bl k] ∧ Q (V.int (if k = true then 1 else 0)) H)
                    (tCons (tVar 2) tNil))
                  (tC (V.int 170141183460469231731687303715884105727)))
                (tOp (rI CMul fun i j => V.int (i * j)) (tC (V.int 7919)) (tVar 1)))
              (tCons (tC (V.int 0)) tNil)))) { nx := fun _ H' => Q .non H', rt := Q } [some (.ref a), some (.int k), some (.int cell)] H := by
      intro cell h0 h1
      refine ⟨_, rfl, _, _, rfl, rfl, ⟨by decide, by decide, by decide⟩, _, _, rfl, rfl, _, _, rfl, _, rfl, Or.inl ⟨_, rfl, ?_⟩⟩
      refine ⟨_, _, rfl, rfl, (by show (0 : Int) < 170141183460469231731687303715884105727; decide), _, rfl, _, _, rfl, rfl, Or.inl ⟨by decide, by decide⟩, _, _, rfl, rfl, (by show 3 ≤ sizeLine; decide), ?_⟩
      exact fin cell h0 h1
    by_cases c : ((k : Int) < ((ns.map V.int).length : Nat))
    · rw [decide_eq_true c]
      refine iteT ?_
      have hk2 : k < ns.length := by simpa using c
      have hz : ns[k]? = some ns[k] := List.getElem?_eq_getElem hk2
      have hbz := hb ns[k] (List.getElem_mem hk2)
      refine ⟨_, rfl, _, rfl, a, _, _, V.int ns[k], rfl, rfl, hS, atI_nat (by rw [List.getElem?_map, hz]; rfl), Or.inl ⟨_, rfl, _, rfl, ?_⟩⟩
      refine rest _ (by split <;> omega) ?_
      have h2 : (ns[k]).natAbs < 2 ^ 1048576 := by
        by_cases e : ns[k] = 0
        · rw [e]; exact Nat.two_pow_pos _
        · unfold Builtin.Int.intBits at hbz
          rw [if_neg (by simpa using e)] at hbz
          exact (Nat.log2_lt (by omega)).mp (by omega)
      generalize (2 : Nat) ^ 1048576 = x at h2 ⊢
      split <;> omega
    · rw [decide_eq_false c]
      refine iteF ?_
      exact rest 0 (by omega) (Nat.two_pow_pos _)
end
end B

namespace B
open PySem L2
section
variable {P : Program} {w : World} {K : PySem.W.Frag} {mg : Str → Option Value} {base : Heap}
theorem at3 {a b c : V} : atI [a, b, c] 0 = some a ∧ atI [a, b, c] 1 = some b ∧ atI [a, b, c] 2 = some c := ⟨rfl, rfl, rfl⟩
theorem pow_bound {x : Int} {n m : Nat} (h : x.natAbs < 2 ^ n) : (x ^ m).natAbs ≤ 2 ^ (n * m) := by
  rw [Int.natAbs_pow, Nat.pow_mul]
  exact Nat.pow_le_pow_left (Nat.le_of_lt h) m
theorem ok_draw {f : Addr} {fd : FuncData} (F : Fun K "_law_draw" "_law_draw" s__law_draw f fd) (T : TxtD mg) : FnOk P w K mg base CX0 1 f fd ["bag", "many"] spDraw := by
  refine F.ok sc__law_draw (fun vs H Q E h => ?_) (fun cdv A outer s H vs Q E hr h => ?_)
  · obtain ⟨a, ns, k, rfl, _⟩ := h
    rfl
  · obtain ⟨p, m, n, rfl, hm, hmb, ⟨o, hp, a, b, c, rfl, ha, hab, hb, hbb, hc, hcn⟩, hn, q⟩ := h
    have nd := sc__law_draw.nd
    refine ⟨_, pss_cons (ps_if (pt_cmpR op_gt (pe_ix ix_list (pv 0) pe_int (fun _ _ => rfl)) pe_int (nomark _))
        (pss_cons (ps_set (i := 2) nd rfl (Or.inl rfl) (pe_op op_mod (pe_callTy call_int1 (by rfl) T.int (by decide +kernel) (pa_cons (pe_ix ix_list (pv 0) pe_int (fun _ _ => rfl)) pa_nil)) (pv 1)))
        (pss_cons (ps_asg (pe_op op_fdivW (pe_ix ix_list (pv 0) pe_int (fun _ _ => rfl)) (pv 1)) (pg_sub (pv 0) pe_int set_list))
        (pss_one (ps_ret (pv 2))))) pss_nil)
      (pss_cons (ps_asg (pe_op op_add (pe_ix ix_list (pv 0) pe_int (fun _ _ => rfl)) pe_int) (pg_sub (pv 0) pe_int set_list))
      (pss_cons (ps_set (i := 3) nd rfl (Or.inl rfl) (pe_op op_mod (pe_callTy call_int1 (by rfl) T.int (by decide +kernel) (pa_cons (pe_op op_powW (pe_op op_add (pe_ix ix_list (pv 0) pe_int (fun _ _ => rfl)) (pe_op op_mulW pe_int (pe_ix ix_list (pv 0) pe_int (fun _ _ => rfl)))) pe_int) pa_nil)) pe_int))
      (pss_cons (ps_set (i := 3) nd rfl (Or.inl rfl) (pe_op op_mod (pe_callTy call_int1 (by rfl) T.int (by decide +kernel) (pa_cons (pe_op op_powW (pe_op op_add (pv 3) (pe_op op_mulW pe_int (pe_ix ix_list (pv 0) pe_int (fun _ _ => rfl)))) pe_int) pa_nil)) pe_int))
      (pss_one (ps_ret (pe_op op_mod (pe_callTy call_int1 (by rfl) T.int (by decide +kernel) (pa_cons (pe_op op_fdiv (pv 3) (pe_op op_pow pe_int pe_int)) pa_nil)) (pv 1))))))), ?_⟩
    obtain ⟨i0, i1, i2⟩ := @at3 (V.int a) (V.int b) (V.int c)
    refine ⟨_, rfl, p, _, _, _, rfl, rfl, SqL.of hp, i0, _, _, rfl, rfl, _, rfl, ?_⟩
    by_cases g : (0 : Int) < a
    · rw [decide_eq_true g]
      refine iteT ?_
      refine ⟨_, rfl, p, _, _, _, rfl, rfl, SqL.of hp, i0, Or.inl ⟨_, rfl, _, rfl, _, _, rfl, rfl, hm, ?_⟩⟩
      refine ⟨_, rfl, p, _, _, _, rfl, rfl, SqL.of hp, i0, _, rfl, _, _, rfl, rfl, wide_div hm hmb (by decide) (by decide), _, rfl, ?_⟩
      refine ⟨p, _, _, 0, rfl, rfl, hp, rfl, ?_⟩
      refine ⟨_, rfl, ?_⟩
      refine q _ _ (Int.emod_nonneg _ (by omega)) (Int.emod_lt_of_pos _ hm) ⟨_, _, _, rfl, Int.ediv_nonneg ha (by omega), ?_, hb, hbb, hc, by omega⟩
      refine Nat.lt_of_le_of_lt ?_ hab
      rw [Int.natAbs_ediv_of_nonneg ha]
      exact Nat.div_le_self _ _
    · rw [decide_eq_false g]
      refine iteF ?_
      refine ⟨_, rfl, p, _, _, _, rfl, rfl, SqL.of hp, i2, _, _, rfl, rfl, _, rfl, ?_⟩
      refine ⟨p, _, _, 2, rfl, rfl, hp, rfl, ?_⟩
      have hp2 : (upd H p (.lst [.int a, .int b, .int (c + 1)])) p = some (.lst [.int a, .int b, .int (c + 1)]) := upd_same
      obtain ⟨j0, j1, j2⟩ := @at3 (V.int a) (V.int b) (V.int (c + 1))
      have m1 : CMulW 982451653 (c + 1) := wide_mul (a := 30) (b := 30) (by decide) (by rw [show (2 : Nat) ^ 30 = 1073741824 by decide]; omega) (by decide) (by decide) (by decide)
      have e30 : (2 : Nat) ^ 30 = 1073741824 := by decide
      have e128 : (2 : Nat) ^ 128 = 340282366920938463463374607431768211456 := by decide
      have e129 : (2 : Nat) ^ 129 = 680564733841876926926749214863536422912 := by decide
      have b1 : (b + 982451653 * (c + 1)).natAbs < 2 ^ 129 := by
        rw [e129]; rw [e128] at hbb; omega
      have l1 : CPowW (b + 982451653 * (c + 1)) 5 := powW_of (m := 5) b1 rfl (by decide)
      refine ⟨_, rfl, p, _, _, _, rfl, rfl, SqL.of hp2, j1, _, rfl, p, _, _, _, rfl, rfl, SqL.of hp2, j2, _, _, rfl, rfl, m1, _, _, rfl, rfl, _, _, rfl, rfl, l1, Or.inl ⟨_, rfl, ?_⟩⟩
      refine ⟨_, _, rfl, rfl, (by show (0 : Int) < 170141183460469231731687303715884105727; decide), ?_⟩
      obtain ⟨x, hx⟩ : ∃ x, (b + 982451653 * (c + 1)) ^ (5 : Int).toNat % 170141183460469231731687303715884105727 = x := ⟨_, rfl⟩
      have x0 : 0 ≤ x := by rw [← hx]; exact Int.emod_nonneg _ (by decide)
      have x1 : x < 170141183460469231731687303715884105727 := by rw [← hx]; exact Int.emod_lt_of_pos _ (by decide)
      have b2 : (x + 49979687 * (c + 1)).natAbs < 2 ^ 129 := by
        rw [e129]; omega
      have m2 : CMulW 49979687 (c + 1) := wide_mul (a := 30) (b := 30) (by decide) (by rw [show (2 : Nat) ^ 30 = 1073741824 by decide]; omega) (by decide) (by decide) (by decide)
      have l2 : CPowW (x + 49979687 * (c + 1)) 3 := powW_of (m := 3) b2 rfl (by decide)
      rw [← hx] at l2
      refine ⟨_, rfl, _, rfl, p, _, _, _, rfl, rfl, SqL.of hp2, j2, _, _, rfl, rfl, m2, _, _, rfl, rfl, _, _, rfl, rfl, l2, Or.inl ⟨_, rfl, ?_⟩⟩
      refine ⟨_, _, rfl, rfl, (by show (0 : Int) < 162259276829213363391578010288127; decide), ?_⟩
      refine ⟨_, rfl, _, _, rfl, rfl, ⟨by decide, by decide, by decide⟩, _, _, rfl, rfl, ⟨by decide, by decide⟩, Or.inl ⟨_, rfl, _, rfl, _, _, rfl, rfl, hm, ?_⟩⟩
      exact q _ _ (Int.emod_nonneg _ (by omega)) (Int.emod_lt_of_pos _ hm) ⟨_, _, _, rfl, ha, hab, hb, hbb, by omega, by omega⟩
end
end B

namespace MK
open PySem PySem.Spec PyProof.Rows L2 PpSet
/-! ### dicts whose keys are None, True, False -/
def mIs : Option Bool → Value → Bool
  | none, .none => true
  | some k, .bool b => b == k
  | _, _ => false
theorem mIs_shape {k : Option Bool} {v : Value} (h : mIs k v = true) : (k = none ∧ v = .none) ∨ (∃ b, k = some b ∧ v = .bool b) := by
  cases k with
  | none => cases v <;> first | exact .inl ⟨rfl, rfl⟩ | exact absurd h Bool.false_ne_true
  | some k => cases v <;> first | exact .inr ⟨k, rfl, congrArg Value.bool (eq_of_beq h)⟩ | exact absurd h Bool.false_ne_true
def mHash : Option Bool → Int
  | none => reduceHash 0xFCA86420
  | some b => hB b
theorem pyHash_none {prog : Program} {w : World} {A : Around} {E : Value → Shared → Prop} {s : Shared} {Q : Int → Shared → Prop} (h : Q (mHash none) { s with toks := s.toks + 1 }) :
    wpAny (model prog w) A (pyHash .none) Q E s :=
  W.pyHash_slot (T := "NoneType") rfl F.slot_NoneType_hash F.entry_NoneType_hash (F.args_NoneType_hash_1 _) (beq_builtin_none _) (.inl rfl) (wpAny_bind (wpAny_pure (wpAny_bind (wpAny_mkInt (wpAny_pure ⟨_, _, rfl, h⟩)))))
def markKind (prog : Program) (w : World) : PySem.KeyKind prog w (Option Bool) where
  is := mIs
  hash := mHash
  inj := fun v a b ha hb => by
    rcases mIs_shape ha with ⟨rfl, rfl⟩ | ⟨x, rfl, rfl⟩
    · rcases mIs_shape hb with ⟨rfl, e⟩ | ⟨y, rfl, e⟩
      · rfl
      · exact nomatch e
    · rcases mIs_shape hb with ⟨rfl, e⟩ | ⟨y, rfl, e⟩
      · exact nomatch e
      · injection e with e; rw [e]
  byValue := fun k v h => by
    rcases mIs_shape h with ⟨rfl, rfl⟩ | ⟨x, rfl, rfl⟩ <;> rfl
  pyHash := fun hv h => by
    rcases mIs_shape hv with ⟨rfl, rfl⟩ | ⟨x, rfl, rfl⟩
    · exact pyHash_none h
    · exact pyHash_bool h
  eqBool := fun {A E s a b u v Q} hu hv h => by
    rcases mIs_shape hu with ⟨rfl, rfl⟩ | ⟨x, rfl, rfl⟩
    · rcases mIs_shape hv with ⟨rfl, rfl⟩ | ⟨y, rfl, rfl⟩
      · exact SeqAt.EqAt.same (A := A) (s := s) .none _ _ _ _ h
      · exact SeqAt.EqAt.none_bool y _ _ _ _ h
    · rcases mIs_shape hv with ⟨rfl, rfl⟩ | ⟨y, rfl, rfl⟩
      · exact SeqAt.EqAt.bool_none x _ _ _ _ h
      · refine SeqAt.EqAt.bool_bool x y _ _ _ _ ?_
        rw [beq_dec]
        simpa using h
  «strs» := fun k x t v h => by
    cases k <;> exact absurd h Bool.false_ne_true
def mV : Option Bool → V
  | none => .non
  | some b => .bl b
theorem mV_is {k : Option Bool} {u : Value} (r : RelV (mV k) u) : mIs k u = true := by
  cases k with
  | none => cases r; rfl
  | some b => cases r; exact beq_self_eq_true b
/-- a dict by marks at a -/
def DMk (P : Program) (w : World) (a : Addr) (kvs : List (Option Bool × V)) : HO := .ext fun h => kvs.length ≤ sizeLine ∧ (a == sysModules) = false ∧ ∃ vs, KV kvs vs ∧ h.DictOf (markKind P w) a vs
theorem dmk_ok {P : Program} {w : World} {H : Hp} {h : Heap} {a : Addr} {kvs : List (Option Bool × V)} {vs : List (Option Bool × Value)} (z : kvs.length ≤ sizeLine) (hd : (a == sysModules) = false) (rel : KV kvs vs) (dd : h.DictOf (markKind P w) a vs) :
    ObjOk P w H h a (DMk P w a kvs) :=
  have ⟨o, _, _, ho, _⟩ := dd
  ⟨⟨z, hd, vs, rel, dd⟩, ⟨o, ho⟩, fun h1 h2 ⟨z, hd, vs, rel, dd⟩ k => ⟨z, hd, vs, rel, dd.at k⟩⟩
section
variable {X : Cx} {pins : List (Addr × Obj)} {σ : L2.St} {H : Hp} {s : Shared} {a : Addr}
theorem dmk_get {kvs : List (Option Bool × V)} (I : Inv X pins σ H s) (ha : H a = some (DMk X.prog X.w a kvs)) : kvs.length ≤ sizeLine ∧ (a == sysModules) = false ∧ ∃ vs, KV kvs vs ∧ s.heap.DictOf (markKind X.prog X.w) a vs := (I.hok a _ ha).1
/-- {} -/
theorem pe_dnewM {pos : Pos} : PE X (.Dict [] [] pos) (fun _ H Q => ∀ p, H p = none → Q (.ref p) (upd H p (DMk X.prog X.w p []))) := ⟨fun pins s σ H Q I h =>
  wpAny_Dict_empty ⟨.ref s.heap.objs.size, _, I.laid (a := s.heap.objs.size) (o := DMk X.prog X.w s.heap.objs.size []) (t' := s.toks) (fun _ _ q => Heap.get?_push_of_some _ q) (Nat.le_refl _)
    (dmk_ok (Nat.zero_le _) (beq_eq_false_iff_ne.mpr (Ne.symm (Nat.ne_of_lt I.big))) .nil (Heap.DictOf.new s.heap)), rfl, h _ (I.hok.fresh (Nat.le_refl _))⟩⟩
/-- len(d) -/
theorem call_lenM : CallR X (.builtin "len") (fun xs H Q => ∃ a kvs, xs = [V.ref a] ∧ H a = some (DMk X.prog X.w a kvs) ∧ Q (.int kvs.length) H) := by
  intro pins s σ H xs us Q I r h
  obtain ⟨a, kvs, rfl, ha, q⟩ := h
  obtain ⟨u, rfl, ru⟩ := vals1 r
  cases ru
  obtain ⟨z, hd, vs, rel, dd⟩ := dmk_get I ha
  refine call_len_dict hd dd (by rw [← rel.length]; rw [sizeLine_eq] at z; omega) ?_
  rw [← rel.length]
  exact ⟨.int kvs.length, H, I.tok _, ⟨_, rfl⟩, q⟩
theorem d_setM {kvs : List (Option Bool × V)} {k : Option Bool} {u r : Value} {d : V} {A : Around} {E : Value → Shared → Prop} {Q : Value → Shared → Prop} (I : Inv X pins σ H s) (e : H a = some (DMk X.prog X.w a kvs)) (ry : RelV (mV k) u) (rd : RelV d r) (hl : kvs.length < sizeLine)
    (h1 : ∀ v, valV kvs k = some v → ∀ (w' : Value) (s' : Shared), Inv X pins σ H s' → RelV v w' → Q w' s') (h2 : valV kvs k = none → ∀ (w' : Value) (s' : Shared), Inv X pins σ (upd H a (DMk X.prog X.w a (putK kvs k d))) s' → RelV d w' → Q w' s') :
    wpAny (model X.prog X.w) A (call (.builtin "dict.setdefault") [.ref a, u, r]) Q E s := by
  obtain ⟨z, hd, vs, rel, dd⟩ := dmk_get I e
  have hz : vs.length ≤ sizeLine := by
    rw [← rel.length]
    exact z
  refine call_meetsIn PySem.F.slot_dict_setdefault dd.typeIs PySem.F.entry_dict_setdefault (PySem.F.args_dict_setdefault_3 _ _ _) (kt_meets_setdefault (markKind X.prog X.w) a (mV_is ry) hd r) ⟨vs, dd, hz, fun v hv => ?_, fun hn h' dd' hs => ?_⟩
  · have q := rel.val k
    rw [hv] at q
    cases q0 : valV kvs k with
    | none =>
      rw [q0] at q
      exact (show False from q).elim
    | some v0 =>
      rw [q0] at q
      exact h1 v0 q0 _ _ (I.tok _) q
  · have q := rel.val k
    rw [hn] at q
    cases q0 : valV kvs k with
    | some v0 =>
      rw [q0] at q
      exact (show False from q).elim
    | none =>
      have hl2 : (putK kvs k d).length ≤ sizeLine := by
        have := length_putK kvs k d
        omega
      have he : ∃ q, h'.get? a = some q := let ⟨q, _, _, hq, _⟩ := dd'; ⟨q, hq⟩
      exact h2 q0 _ _ (d_write (t' := s.toks + 1) I (by rw [e]; exact True.intro) hs he (dmk_ok hl2 hd (rel.put k rd) dd')) rd
/-- d.setdefault(y, z) -/
def tSetM (P : Program) (w : World) (td ty tx : TE) : TE := fun σ H Q => td σ H fun x H1 => ∃ a kvs0, x = .ref a ∧ H1 a = some (DMk P w a kvs0) ∧ ty σ H1 fun y H2 => tx σ H2 fun z H3 => ∃ (kvs : List (Option Bool × V)) (k : Option Bool), H3 a = some (DMk P w a kvs) ∧ y = mV k ∧ kvs.length < sizeLine ∧
  (∀ v, valV kvs k = some v → Q v H3) ∧ (valV kvs k = none → Q z (upd H3 a (DMk P w a (putK kvs k z))))
theorem pe_dsetM {o e f : Expr} {td ty tx : TE} {apos cpos : Pos} (ho : PE X o td) (he : PE X e ty) (hf : PE X f tx) (m : M2 X o "setdefault" apos e f cpos) : PE X (.Call (.Attribute o "setdefault" apos) [e, f] [] cpos) (tSetM X.prog X.w td ty tx) := by
  refine ⟨fun pins s σ H Q I h => ?_⟩
  refine wpAny_Call_method m.base m.few m.line PySem.F.plainAttrs_dict PySem.F.slot_dict_setdefault PySem.F.type_dict_setdefault (thn (ho.run pins s σ H _ I h) fun u s1 ⟨x, H1, I1, rx, a, kvs0, ex, d, q1⟩ => ?_)
  subst ex
  obtain rfl : u = Value.ref a := rx
  obtain ⟨_, hd0, vs0, rel0, dd0⟩ := dmk_get I1 d
  refine ⟨dd0.typeIs, fun b q => (by cases q; obtain ⟨ob, _, _, h1, h2, _⟩ := dd0; exact ⟨ob, h1, h2.2.1⟩), ?_⟩
  rw [m.trees]
  refine Calls.callWith_builtin rfl (Calls.evalArgs_plain (Calls.spliced_cons (thn (he.run pins s1 σ H1 _ I1 q1) fun iv s2 ⟨y, H2, I2, ry, q2⟩ =>
    Calls.spliced_cons (thn (hf.run pins s2 σ H2 _ I2 q2) fun fv s3 ⟨z, H3, I3, rz, kvs, k, ea, ey, hl, q3, q4⟩ => Calls.spliced_nil ?_))))
  subst ey
  exact d_setM I3 ea ry rz hl (fun v hv w' s4 I4 rw' => ⟨v, _, I4, rw', q3 v hv⟩) fun hn w' s4 I4 rw' => ⟨z, _, I4, rw', q4 hn⟩
end
end MK

/-! numbers of marks: plain mathematics -/
namespace Hop
section
variable {κ : Type} [DecidableEq κ]
def idx (ks : List κ) (m : κ) : Nat := ks.idxOf m
theorem idx_cons (k : κ) (ks : List κ) (m : κ) : idx (k :: ks) m = if k = m then 0 else idx ks m + 1 := by
  unfold idx
  rw [List.idxOf_cons]
  by_cases e : k = m
  · simp [e]
  · have : (k == m) = false := by simpa using e
    simp [e, this]
def addKey (ks : List κ) (m : κ) : List κ := if m ∈ ks then ks else ks ++ [m]
def keysOf (ms : List κ) : List κ := ms.foldl addKey []
theorem keysOf_snoc (ms : List κ) (m : κ) : keysOf (ms ++ [m]) = addKey (keysOf ms) m := by simp [keysOf, List.foldl_append]
theorem addKey_nodup {ks : List κ} (h : ks.Nodup) (m : κ) : (addKey ks m).Nodup := by
  unfold addKey
  split
  · exact h
  · rename_i c
    exact List.nodup_append.mpr ⟨h, by simp, fun a ha b hb e => c (by rw [List.mem_singleton.mp hb] at e; exact e ▸ ha)⟩
theorem mem_addKey {ks : List κ} {m x : κ} : x ∈ addKey ks m ↔ x ∈ ks ∨ x = m := by
  unfold addKey
  split
  · rename_i c
    exact ⟨.inl, fun h => h.elim id fun e => e ▸ c⟩
  · simp
theorem keysOf_nodup (ms : List κ) : (keysOf ms).Nodup := by
  have key : ∀ (ms ks : List κ), ks.Nodup → (ms.foldl addKey ks).Nodup := by
    intro ms
    induction ms with
    | nil => exact fun _ h => h
    | cons m ms ih => exact fun ks h => ih _ (addKey_nodup h m)
  exact key ms [] List.nodup_nil
theorem mem_keysOf {ms : List κ} {x : κ} : x ∈ keysOf ms ↔ x ∈ ms := by
  have key : ∀ (ms ks : List κ), x ∈ ms.foldl addKey ks ↔ x ∈ ks ∨ x ∈ ms := by
    intro ms
    induction ms with
    | nil => intro ks; simp
    | cons m ms ih =>
      intro ks
      show x ∈ ms.foldl addKey (addKey ks m) ↔ _
      rw [ih, mem_addKey, List.mem_cons]
      constructor
      · rintro ((h | h) | h)
        · exact .inl h
        · exact .inr (.inl h)
        · exact .inr (.inr h)
      · rintro (h | h | h)
        · exact .inl (.inl h)
        · exact .inl (.inr h)
        · exact .inr h
  have := key ms []
  simpa [keysOf] using this
theorem idx_addKey {ks : List κ} {m x : κ} (h : x ∈ ks) : idx (addKey ks m) x = idx ks x := by
  unfold addKey idx
  split
  · rfl
  · rw [List.idxOf_append, if_pos h]
theorem idx_new {ks : List κ} {m : κ} (h : ¬ m ∈ ks) : idx (addKey ks m) m = ks.length := by
  unfold addKey idx
  rw [if_neg h, List.idxOf_append, if_neg h]
  simp
def lotsOf (ms : List κ) : List Nat := ms.map fun m => idx (keysOf ms) m
theorem lotsOf_snoc (ms : List κ) (m : κ) : lotsOf (ms ++ [m]) = lotsOf ms ++ [idx (addKey (keysOf ms) m) m] := by
  unfold lotsOf
  rw [keysOf_snoc, List.map_append]
  congr 1
  apply List.map_congr_left
  intro x hx
  exact idx_addKey (mem_keysOf.mpr hx)
theorem lotsOf_len (ms : List κ) : (lotsOf ms).length = ms.length := by simp [lotsOf]
theorem lotsOf_iff {ms : List κ} {i j : Nat} (hi : i < ms.length) (hj : j < ms.length) : (lotsOf ms).getD i 0 = (lotsOf ms).getD j 0 ↔ ms[i] = ms[j] := by
  have e1 : (lotsOf ms).getD i 0 = (keysOf ms).idxOf ms[i] := by simp [lotsOf, idx, List.getD_eq_getElem?_getD, hi]
  have e2 : (lotsOf ms).getD j 0 = (keysOf ms).idxOf ms[j] := by simp [lotsOf, idx, List.getD_eq_getElem?_getD, hj]
  rw [e1, e2]
  constructor
  · intro h
    have a := mem_keysOf.mpr (List.getElem_mem hi)
    have b := mem_keysOf.mpr (List.getElem_mem hj)
    have l1 := List.idxOf_lt_length_iff.mpr a
    have l2 := List.idxOf_lt_length_iff.mpr b
    have g1 : (keysOf ms)[(keysOf ms).idxOf ms[i]] = ms[i] := List.getElem_idxOf l1
    have g2 : (keysOf ms)[(keysOf ms).idxOf ms[j]] = ms[j] := List.getElem_idxOf l2
    rw [← g1, ← g2]
    simp only [h]
  · intro h; rw [h]
theorem lotsOf_lt {ms : List κ} {i : Nat} (hi : i < ms.length) : (lotsOf ms).getD i 0 < (keysOf ms).length := by
  have e1 : (lotsOf ms).getD i 0 = (keysOf ms).idxOf ms[i] := by simp [lotsOf, idx, List.getD_eq_getElem?_getD, hi]
  rw [e1]
  exact List.idxOf_lt_length_iff.mpr (mem_keysOf.mpr (List.getElem_mem hi))
theorem lotsOf_onto {ms : List κ} {l : Nat} (hl : l < (keysOf ms).length) : ∃ i, i < ms.length ∧ (lotsOf ms).getD i 0 = l := by
  have hm : (keysOf ms)[l] ∈ ms := mem_keysOf.mp (List.getElem_mem hl)
  obtain ⟨i, hi, e⟩ := List.getElem_of_mem hm
  refine ⟨i, hi, ?_⟩
  have e1 : (lotsOf ms).getD i 0 = (keysOf ms).idxOf ms[i] := by simp [lotsOf, idx, List.getD_eq_getElem?_getD, hi]
  rw [e1, e]
  exact (keysOf_nodup ms).idxOf_getElem l hl
end
end Hop

/-! The partition of a machine's states: splitting by waiting lots. Plain mathematics. -/
namespace Hop
/-! ### lists -/
theorem nodup_sub_len {α : Type} [BEq α] [LawfulBEq α] : ∀ {l k : List α}, l.Nodup → (∀ x, x ∈ l → x ∈ k) → l.length ≤ k.length
  | [], _, _, _ => Nat.zero_le _
  | a :: l, k, h, hs => by
    have ha : a ∈ k := hs a List.mem_cons_self
    have hn := List.nodup_cons.mp h
    have ih := nodup_sub_len (l := l) (k := k.erase a) hn.2 fun x hx => by
      have hxa : x ≠ a := fun e => hn.1 (e ▸ hx)
      exact (List.mem_erase_of_ne hxa).mpr (hs x (List.mem_cons_of_mem _ hx))
    rw [List.length_erase_of_mem ha] at ih
    have : 0 < k.length := List.length_pos_of_mem ha
    simp only [List.length_cons]
    omega
theorem nodup_sub_all {α : Type} [BEq α] [LawfulBEq α] {l k : List α} (h : l.Nodup) (hs : ∀ x, x ∈ l → x ∈ k) (hl : k.length ≤ l.length) {x : α} (hx : x ∈ k) : x ∈ l := by
  by_cases c : x ∈ l
  · exact c
  · have h2 : (x :: l).Nodup := List.nodup_cons.mpr ⟨c, h⟩
    have := nodup_sub_len h2 (k := k) fun y hy => by
      rcases List.mem_cons.mp hy with e | e
      · exact e ▸ hx
      · exact hs y e
    simp only [List.length_cons] at this
    omega
/-- a shorter list leaves something out -/
theorem exists_out {α : Type} [BEq α] [LawfulBEq α] {l k : List α} (hk : k.Nodup) (hl : l.length < k.length) : ∃ x, x ∈ k ∧ ¬ x ∈ l := by
  by_cases c : ∃ x, x ∈ k ∧ ¬ x ∈ l
  · exact c
  · have hall : ∀ x, x ∈ k → x ∈ l := fun x hx => by
      by_cases d : x ∈ l
      · exact d
      · exact absurd ⟨x, hx, d⟩ c
    have := nodup_sub_len hk hall
    omega
theorem nodup_filter {α : Type} {p : α → Bool} {l : List α} (h : l.Nodup) : (l.filter p).Nodup := List.Pairwise.filter p h
/-! ### the partition -/
structure S where
  lots : List Nat
  members : List (List Nat)
  waiting : List Nat
def lotOf (σ : S) (s : Nat) : Nat := σ.lots.getD s 0
def mem (σ : S) (l : Nat) : List Nat := σ.members.getD l []
structure Ok (n : Nat) (σ : S) : Prop where
  len : σ.lots.length = n
  lt : ∀ s, s < n → lotOf σ s < σ.members.length
  mem : ∀ l, l < σ.members.length → ∀ s, s ∈ mem σ l ↔ s < n ∧ lotOf σ s = l
  nd : ∀ l, l < σ.members.length → (Hop.mem σ l).Nodup
  ne : ∀ l, l < σ.members.length → ∃ s, s ∈ Hop.mem σ l
  wlt : ∀ l, l ∈ σ.waiting → l < σ.members.length
def setAll (lots : List Nat) (hs : List Nat) (m : Nat) : List Nat := hs.foldl (fun l s => l.set s m) lots
theorem setAll_len (m : Nat) : ∀ (hs lots : List Nat), (setAll lots hs m).length = lots.length
  | [], _ => rfl
  | s :: hs, lots => by
    show (setAll (lots.set s m) hs m).length = _
    rw [setAll_len m hs, List.length_set]
theorem setAll_get (m : Nat) : ∀ (hs lots : List Nat) (s : Nat), (setAll lots hs m).getD s 0 = if s ∈ hs ∧ s < lots.length then m else lots.getD s 0
  | [], lots, s => by simp [setAll]
  | t :: hs, lots, s => by
    show (setAll (lots.set t m) hs m).getD s 0 = _
    rw [setAll_get m hs, List.length_set]
    by_cases c : s < lots.length
    · by_cases d : s ∈ hs
      · simp [c, d]
      · by_cases e : s = t
        · subst e
          simp [c, d, List.getD_eq_getElem?_getD, List.getElem?_set]
        · have e' : ¬ t = s := fun q => e q.symm
          simp [c, d, e, e', List.getD_eq_getElem?_getD, List.getElem?_set]
    · simp [c, List.getD_eq_getElem?_getD, List.getElem?_set]
/-- one lot is split by those of it that are hit -/
def split (σ : S) (L : Nat) (hs : List Nat) : S :=
  if hs.length < (mem σ L).length then
    let m := σ.members.length
    let lots' := setAll σ.lots hs m
    let rest := (mem σ L).filter fun s => lots'.getD s 0 == L
    ⟨lots', σ.members.set L rest ++ [hs], σ.waiting ++ [if !σ.waiting.contains L && decide (rest.length < hs.length) then L else m]⟩
  else σ
theorem split_not {σ : S} {L : Nat} {hs : List Nat} (h : ¬ hs.length < (mem σ L).length) : split σ L hs = σ := if_neg h
section
variable {n : Nat} {σ : S} {L : Nat} {hs : List Nat} {T : Nat → Bool}
/-- what is hit of a lot -/
structure Hit (σ : S) (T : Nat → Bool) (L : Nat) (hs : List Nat) : Prop where
  lt : L < σ.members.length
  nd : hs.Nodup
  ne : ∃ s, s ∈ hs
  iff : ∀ s, s ∈ hs ↔ s ∈ mem σ L ∧ T s = true
theorem split_lot (ok : Ok n σ) (h : Hit σ T L hs) (hlt : hs.length < (mem σ L).length) {s : Nat} (hs' : s < n) : lotOf (split σ L hs) s = if s ∈ hs then σ.members.length else lotOf σ s := by
  unfold split
  rw [if_pos hlt]
  show (setAll σ.lots hs σ.members.length).getD s 0 = _
  rw [setAll_get, ok.len]
  simp [hs', lotOf]
theorem split_mlen (hlt : hs.length < (mem σ L).length) : (split σ L hs).members.length = σ.members.length + 1 := by
  unfold split
  rw [if_pos hlt]
  simp
theorem hit_lot (ok : Ok n σ) (h : Hit σ T L hs) {s : Nat} (x : s ∈ hs) : s < n ∧ lotOf σ s = L := (ok.mem L h.lt s).mp ((h.iff s).mp x).1
theorem split_ok (ok : Ok n σ) (h : Hit σ T L hs) : Ok n (split σ L hs) := by
  by_cases hlt : hs.length < (mem σ L).length
  · have hL := h.lt
    have lot := @split_lot n σ L hs T ok h hlt
    have ml := split_mlen hlt
    have memL : mem (split σ L hs) L = (mem σ L).filter fun s => (setAll σ.lots hs σ.members.length).getD s 0 == L := by
      unfold split
      rw [if_pos hlt]
      unfold mem
      simp [List.getD_eq_getElem?_getD, List.getElem?_append, List.getElem?_set, hL]
    have memM : mem (split σ L hs) σ.members.length = hs := by
      unfold split
      rw [if_pos hlt]
      unfold mem
      simp [List.getD_eq_getElem?_getD, List.getElem?_append]
    have memO : ∀ l, l < σ.members.length → l ≠ L → mem (split σ L hs) l = mem σ l := by
      intro l hl hne
      unfold split
      rw [if_pos hlt]
      unfold mem
      have : ¬ L = l := fun e => hne e.symm
      simp [List.getD_eq_getElem?_getD, List.getElem?_append, List.getElem?_set, hl, this]
    have lotL : ∀ s, s < n → ((setAll σ.lots hs σ.members.length).getD s 0 == L) = true → (lotOf σ s = L ∧ ¬ s ∈ hs) ∨ (s ∈ hs ∧ σ.members.length = L) := by
      intro s hs' e
      have e' := eq_of_beq e
      rw [setAll_get, ok.len] at e'
      by_cases d : s ∈ hs
      · rw [if_pos ⟨d, hs'⟩] at e'
        exact .inr ⟨d, e'⟩
      · rw [if_neg (fun q => d q.1)] at e'
        exact .inl ⟨e', d⟩
    refine ⟨?_, ?_, ?_, ?_, ?_, ?_⟩
    · unfold split
      rw [if_pos hlt]
      exact (setAll_len _ _ _).trans ok.len
    · intro s hs'
      rw [lot hs', ml]
      split
      · omega
      · have := ok.lt s hs'
        omega
    · intro l hl s
      rw [ml] at hl
      by_cases e1 : l = σ.members.length
      · subst e1
        rw [memM]
        constructor
        · intro x
          have := hit_lot ok h x
          exact ⟨this.1, by rw [lot this.1, if_pos x]⟩
        · rintro ⟨a, b⟩
          rw [lot a] at b
          by_cases d : s ∈ hs
          · exact d
          · rw [if_neg d] at b
            have := ok.lt s a
            omega
      · have hl' : l < σ.members.length := by omega
        by_cases e2 : l = L
        · subst e2
          rw [memL, List.mem_filter]
          constructor
          · rintro ⟨a, b⟩
            have a' := (ok.mem l hl' s).mp a
            refine ⟨a'.1, ?_⟩
            rw [lot a'.1]
            rcases lotL s a'.1 b with ⟨c, d⟩ | ⟨c, d⟩
            · rw [if_neg d]; exact c
            · omega
          · rintro ⟨a, b⟩
            rw [lot a] at b
            by_cases d : s ∈ hs
            · rw [if_pos d] at b
              omega
            · rw [if_neg d] at b
              refine ⟨(ok.mem l hl' s).mpr ⟨a, b⟩, ?_⟩
              rw [setAll_get, if_neg (fun q => d q.1)]
              show (lotOf σ s == l) = true
              rw [b]
              exact beq_self_eq_true _
        · rw [memO l hl' e2, ok.mem l hl']
          constructor
          · rintro ⟨a, b⟩
            refine ⟨a, ?_⟩
            rw [lot a]
            by_cases d : s ∈ hs
            · have := (hit_lot ok h d).2
              omega
            · rw [if_neg d]; exact b
          · rintro ⟨a, b⟩
            rw [lot a] at b
            by_cases d : s ∈ hs
            · rw [if_pos d] at b; omega
            · rw [if_neg d] at b; exact ⟨a, b⟩
    · intro l hl
      rw [ml] at hl
      by_cases e1 : l = σ.members.length
      · subst e1; rw [memM]; exact h.nd
      · have hl' : l < σ.members.length := by omega
        by_cases e2 : l = L
        · subst e2; rw [memL]; exact nodup_filter (ok.nd _ hl')
        · rw [memO l hl' e2]; exact ok.nd l hl'
    · intro l hl
      rw [ml] at hl
      by_cases e1 : l = σ.members.length
      · subst e1; rw [memM]; exact h.ne
      · have hl' : l < σ.members.length := by omega
        by_cases e2 : l = L
        · subst e2
          obtain ⟨x, hx, hn⟩ := exists_out (ok.nd _ hl') hlt
          have hx' := (ok.mem l hl' x).mp hx
          refine ⟨x, ?_⟩
          rw [memL, List.mem_filter]
          refine ⟨hx, ?_⟩
          rw [setAll_get, if_neg (fun q => hn q.1)]
          show (lotOf σ x == l) = true
          rw [hx'.2]
          exact beq_self_eq_true _
        · rw [memO l hl' e2]; exact ok.ne l hl'
    · intro l hl
      rw [ml]
      unfold split at hl
      rw [if_pos hlt] at hl
      rcases List.mem_append.mp hl with a | a
      · have := ok.wlt l a; omega
      · have := List.mem_singleton.mp a
        rw [this]
        split <;> omega
  · rw [split_not hlt]; exact ok
/-! ### what holds of the lots that wait -/
/-- of two states of one lot, whose figures lead into unlike lots, one of these waits, or they differ by P -/
def Sep (n : Nat) (step : Nat → Nat) (P : Nat → Bool) (σ : S) : Prop := ∀ s t, s < n → t < n → lotOf σ s = lotOf σ t → lotOf σ (step s) ≠ lotOf σ (step t) →
  lotOf σ (step s) ∈ σ.waiting ∨ lotOf σ (step t) ∈ σ.waiting ∨ P (step s) ≠ P (step t)
theorem split_sep {step : Nat → Nat} {P : Nat → Bool} (ok : Ok n σ) (h : Hit σ T L hs) (hst : ∀ s, s < n → step s < n) (sp : Sep n step P σ) : Sep n step P (split σ L hs) := by
  by_cases hlt : hs.length < (mem σ L).length
  · have lot := @split_lot n σ L hs T ok h hlt
    have w : (split σ L hs).waiting = σ.waiting ++ [if !σ.waiting.contains L && decide (((mem σ L).filter fun s => (setAll σ.lots hs σ.members.length).getD s 0 == L).length < hs.length) then L else σ.members.length] := by
      unfold split
      rw [if_pos hlt]
    -- one of the two halves waits; both, if the lot waits
    have w1 : L ∈ (split σ L hs).waiting ∨ σ.members.length ∈ (split σ L hs).waiting := by
      rw [w]
      split
      · exact .inl (List.mem_append_right _ List.mem_cons_self)
      · exact .inr (List.mem_append_right _ List.mem_cons_self)
    have w2 : L ∈ σ.waiting → σ.members.length ∈ (split σ L hs).waiting := by
      intro q
      rw [w]
      have : σ.waiting.contains L = true := List.contains_iff_mem.mpr q
      simp [q]
    have wk : ∀ l, l ∈ σ.waiting → l ∈ (split σ L hs).waiting := by
      intro l q
      rw [w]
      exact List.mem_append_left _ q
    have lotB : ∀ s, s < n → lotOf σ s ∈ σ.waiting → lotOf (split σ L hs) s ∈ (split σ L hs).waiting := by
      intro s hs' q
      rw [lot hs']
      by_cases d : s ∈ hs
      · rw [if_pos d]
        exact w2 ((hit_lot ok h d).2 ▸ q)
      · rw [if_neg d]
        exact wk _ q
    have back : ∀ s t, s < n → t < n → lotOf (split σ L hs) s = lotOf (split σ L hs) t → lotOf σ s = lotOf σ t := by
      intro s t h1 h2 e
      rw [lot h1, lot h2] at e
      by_cases d1 : s ∈ hs
      · by_cases d2 : t ∈ hs
        · rw [(hit_lot ok h d1).2, (hit_lot ok h d2).2]
        · rw [if_pos d1, if_neg d2] at e
          have := ok.lt t h2
          omega
      · by_cases d2 : t ∈ hs
        · rw [if_neg d1, if_pos d2] at e
          have := ok.lt s h1
          omega
        · rw [if_neg d1, if_neg d2] at e
          exact e
    intro s t h1 h2 e ne
    have e0 := back s t h1 h2 e
    by_cases c : lotOf σ (step s) = lotOf σ (step t)
    · -- split apart just now: one of them is in hs, the other isn't
      rw [lot (hst s h1), lot (hst t h2)] at ne ⊢
      by_cases d1 : step s ∈ hs
      · by_cases d2 : step t ∈ hs
        · rw [if_pos d1, if_pos d2] at ne; exact absurd rfl ne
        · rw [if_pos d1, if_neg d2]
          have : lotOf σ (step t) = L := by rw [← c]; exact (hit_lot ok h d1).2
          rw [this]
          rcases w1 with q | q
          · exact .inr (.inl q)
          · exact .inl q
      · by_cases d2 : step t ∈ hs
        · rw [if_neg d1, if_pos d2]
          have : lotOf σ (step s) = L := by rw [c]; exact (hit_lot ok h d2).2
          rw [this]
          rcases w1 with q | q
          · exact .inl q
          · exact .inr (.inl q)
        · rw [if_neg d1, if_neg d2] at ne; exact absurd c ne
    · rcases sp s t h1 h2 e0 c with q | q | q
      · exact .inl (lotB _ (hst s h1) q)
      · exact .inr (.inl (lotB _ (hst t h2) q))
      · exact .inr (.inr q)
  · rw [split_not hlt]; exact sp
/-! ### all lots that are hit -/
/-- behind some of the lots that are hit -/
structure Prog (n : Nat) (σ0 : S) (T : Nat → Bool) (done : List Nat) (σ : S) : Prop where
  ok : Ok n σ
  grow : σ0.members.length ≤ σ.members.length
  keep : ∀ l, l < σ0.members.length → ¬ l ∈ done → mem σ l = mem σ0 l
  fine : ∀ s t, s < n → t < n → lotOf σ s = lotOf σ t → lotOf σ0 s = lotOf σ0 t
  even : ∀ s t, s < n → t < n → lotOf σ s = lotOf σ t → lotOf σ0 s ∈ done → T s = T t
theorem Prog.start (ok : Ok n σ) : Prog n σ T [] σ := ⟨ok, Nat.le_refl _, fun _ _ _ => rfl, fun _ _ _ _ e => e, fun _ _ _ _ _ q => absurd q List.not_mem_nil⟩
theorem split_mem_other {l : Nat} (hl : l < σ.members.length) (hne : l ≠ L) : mem (split σ L hs) l = mem σ l := by
  by_cases hlt : hs.length < (mem σ L).length
  · unfold split
    rw [if_pos hlt]
    unfold mem
    have : ¬ L = l := fun e => hne e.symm
    simp [List.getD_eq_getElem?_getD, List.getElem?_append, List.getElem?_set, hl, this]
  · rw [split_not hlt]
theorem split_grow : σ.members.length ≤ (split σ L hs).members.length := by
  by_cases hlt : hs.length < (mem σ L).length
  · rw [split_mlen hlt]; omega
  · rw [split_not hlt]; omega
theorem Prog.hit {σ0 : S} {done : List Nat} (p : Prog n σ0 T done σ) (h : Hit σ0 T L hs) (hd : ¬ L ∈ done) : Hit σ T L hs :=
  ⟨Nat.lt_of_lt_of_le h.lt p.grow, h.nd, h.ne, fun s => by rw [h.iff, p.keep L h.lt hd]⟩
theorem Prog.next {σ0 : S} {done : List Nat} (p : Prog n σ0 T done σ) (ok0 : Ok n σ0) (h0 : Hit σ0 T L hs) (hd : ¬ L ∈ done) : Prog n σ0 T (L :: done) (split σ L hs) := by
  have h := p.hit h0 hd
  refine ⟨split_ok p.ok h, Nat.le_trans p.grow split_grow, ?_, ?_, ?_⟩
  · intro l hl hn
    have n1 : l ≠ L := fun e => hn (e ▸ List.mem_cons_self)
    have n2 : ¬ l ∈ done := fun q => hn (List.mem_cons_of_mem _ q)
    rw [split_mem_other (Nat.lt_of_lt_of_le hl p.grow) n1]
    exact p.keep l hl n2
  · intro s t h1 h2 e
    by_cases hlt : hs.length < (mem σ L).length
    · have lot := @split_lot n σ L hs T p.ok h hlt
      rw [lot h1, lot h2] at e
      by_cases d1 : s ∈ hs
      · by_cases d2 : t ∈ hs
        · exact p.fine s t h1 h2 (by rw [(hit_lot p.ok h d1).2, (hit_lot p.ok h d2).2])
        · rw [if_pos d1, if_neg d2] at e
          have := p.ok.lt t h2; omega
      · by_cases d2 : t ∈ hs
        · rw [if_neg d1, if_pos d2] at e
          have := p.ok.lt s h1; omega
        · rw [if_neg d1, if_neg d2] at e
          exact p.fine s t h1 h2 e
    · rw [split_not hlt] at e
      exact p.fine s t h1 h2 e
  · intro s t h1 h2 e hm
    -- the old lots of both are alike
    have ef : lotOf σ s = lotOf σ t := by
      by_cases hlt : hs.length < (mem σ L).length
      · have lot := @split_lot n σ L hs T p.ok h hlt
        rw [lot h1, lot h2] at e
        by_cases d1 : s ∈ hs
        · by_cases d2 : t ∈ hs
          · rw [(hit_lot p.ok h d1).2, (hit_lot p.ok h d2).2]
          · rw [if_pos d1, if_neg d2] at e
            have := p.ok.lt t h2; omega
        · by_cases d2 : t ∈ hs
          · rw [if_neg d1, if_pos d2] at e
            have := p.ok.lt s h1; omega
          · rw [if_neg d1, if_neg d2] at e; exact e
      · rw [split_not hlt] at e; exact e
    rcases List.mem_cons.mp hm with q | q
    · -- the lot that is split now
      have ms : s ∈ mem σ L := by
        rw [p.keep L h0.lt hd]
        exact (ok0.mem L h0.lt s).mpr ⟨h1, q⟩
      have mt : t ∈ mem σ L := (p.ok.mem L h.lt t).mpr ⟨h2, by rw [← ef]; exact ((p.ok.mem L h.lt s).mp ms).2⟩
      have is := h.iff s
      have it := h.iff t
      by_cases hlt : hs.length < (mem σ L).length
      · have lot := @split_lot n σ L hs T p.ok h hlt
        rw [lot h1, lot h2] at e
        by_cases d1 : s ∈ hs
        · by_cases d2 : t ∈ hs
          · rw [(is.mp d1).2, (it.mp d2).2]
          · rw [if_pos d1, if_neg d2] at e
            have := p.ok.lt t h2; omega
        · by_cases d2 : t ∈ hs
          · rw [if_neg d1, if_pos d2] at e
            have := p.ok.lt s h1; omega
          · have f1 : T s = false := by
              cases z : T s with
              | false => rfl
              | true => exact absurd (is.mpr ⟨ms, z⟩) d1
            have f2 : T t = false := by
              cases z : T t with
              | false => rfl
              | true => exact absurd (it.mpr ⟨mt, z⟩) d2
            rw [f1, f2]
      · have a1 := nodup_sub_all h.nd (fun x hx => ((h.iff x).mp hx).1) (Nat.le_of_not_lt hlt) ms
        have a2 := nodup_sub_all h.nd (fun x hx => ((h.iff x).mp hx).1) (Nat.le_of_not_lt hlt) mt
        rw [(is.mp a1).2, (it.mp a2).2]
    · exact p.even s t h1 h2 ef q
end
section
variable {n : Nat} {σ : S} {T : Nat → Bool}
/-! ### the states that are hit, by their lots -/
def addHit : List (Nat × List Nat) → Nat → Nat → List (Nat × List Nat)
  | [], k, s => [(k, [s])]
  | (k', v) :: r, k, s => if k' = k then (k', v ++ [s]) :: r else (k', v) :: addHit r k s
def group (lots : List Nat) (kvs : List (Nat × List Nat)) (xs : List Nat) : List (Nat × List Nat) := xs.foldl (fun kvs s => addHit kvs (lots.getD s 0) s) kvs
theorem addHit_keys (k s : Nat) : ∀ kvs : List (Nat × List Nat), (addHit kvs k s).map (·.1) = if k ∈ kvs.map (·.1) then kvs.map (·.1) else kvs.map (·.1) ++ [k]
  | [] => by simp [addHit]
  | (k', v) :: r => by
    unfold addHit
    by_cases e : k' = k
    · simp [e]
    · have ih := addHit_keys k s r
      have e' : ¬ k = k' := fun q => e q.symm
      rw [if_neg e]
      simp only [List.map_cons, ih, List.mem_cons, e', false_or]
      split <;> simp
theorem addHit_mem (k s : Nat) : ∀ (kvs : List (Nat × List Nat)), (kvs.map (·.1)).Nodup → ∀ k' v', (k', v') ∈ addHit kvs k s →
    (k' ≠ k ∧ (k', v') ∈ kvs) ∨ (k' = k ∧ ((∃ v, (k, v) ∈ kvs ∧ v' = v ++ [s]) ∨ (¬ k ∈ kvs.map (·.1) ∧ v' = [s])))
  | [], _, k', v', h => by
    simp only [addHit, List.mem_singleton] at h
    cases h
    exact .inr ⟨rfl, .inr ⟨by simp, rfl⟩⟩
  | (k0, v0) :: r, hn, k', v', h => by
    unfold addHit at h
    have hn' := List.nodup_cons.mp (show ((k0 :: r.map (·.1))).Nodup from hn)
    by_cases e : k0 = k
    · rw [if_pos e] at h
      rcases List.mem_cons.mp h with q | q
      · cases q
        exact .inr ⟨e, .inl ⟨v0, by rw [e]; exact List.mem_cons_self, rfl⟩⟩
      · have : k' ≠ k := fun z => hn'.1 (by rw [e, ← z]; exact List.mem_map_of_mem (f := (·.1)) q)
        exact .inl ⟨this, List.mem_cons_of_mem _ q⟩
    · rw [if_neg e] at h
      rcases List.mem_cons.mp h with q | q
      · cases q
        exact .inl ⟨e, List.mem_cons_self⟩
      · rcases addHit_mem k s r hn'.2 k' v' q with ⟨a, b⟩ | ⟨a, ⟨v, b, c⟩ | ⟨b, c⟩⟩
        · exact .inl ⟨a, List.mem_cons_of_mem _ b⟩
        · exact .inr ⟨a, .inl ⟨v, List.mem_cons_of_mem _ b, c⟩⟩
        · refine .inr ⟨a, .inr ⟨?_, c⟩⟩
          have e' : ¬ k = k0 := fun q => e q.symm
          simp only [List.map_cons, List.mem_cons, e', false_or]
          exact b
/-- what a table of the hit states is, behind xs -/
structure Grouped (lots xs : List Nat) (kvs : List (Nat × List Nat)) : Prop where
  nd : (kvs.map (·.1)).Nodup
  val : ∀ k v, (k, v) ∈ kvs → v = xs.filter (fun s => lots.getD s 0 == k) ∧ v ≠ []
  has : ∀ s, s ∈ xs → lots.getD s 0 ∈ kvs.map (·.1)
theorem Grouped.nil (lots : List Nat) : Grouped lots [] [] := ⟨List.nodup_nil, fun _ _ h => absurd h List.not_mem_nil, fun _ h => absurd h List.not_mem_nil⟩
theorem Grouped.more {lots xs : List Nat} {kvs : List (Nat × List Nat)} (g : Grouped lots xs kvs) (s : Nat) : Grouped lots (xs ++ [s]) (addHit kvs (lots.getD s 0) s) := by
  have hk := addHit_keys (lots.getD s 0) s kvs
  refine ⟨?_, ?_, ?_⟩
  · rw [hk]
    split
    · exact g.nd
    · rename_i c
      exact List.nodup_append.mpr ⟨g.nd, by simp, fun a ha b hb => by
        have := List.mem_singleton.mp hb
        intro e
        exact c (by rw [← this, ← e]; exact ha)⟩
  · intro k v h
    rw [List.filter_append]
    rcases addHit_mem _ _ kvs g.nd k v h with ⟨a, b⟩ | ⟨a, ⟨w, b, c⟩ | ⟨b, c⟩⟩
    · obtain ⟨e1, e2⟩ := g.val k v b
      have : (lots.getD s 0 == k) = false := by simpa using fun q => a q.symm
      refine ⟨?_, e2⟩
      rw [List.filter_cons, this]
      simpa using e1
    · obtain ⟨e1, e2⟩ := g.val _ w b
      subst a
      refine ⟨?_, by rw [c]; simp⟩
      rw [c, e1]
      congr 1
      simp
    · subst a
      have : xs.filter (fun t => lots.getD t 0 == lots.getD s 0) = [] := by
        rw [List.filter_eq_nil_iff]
        intro t ht q
        exact b ((eq_of_beq q) ▸ g.has t ht)
      refine ⟨?_, by rw [c]; simp⟩
      rw [this, c]
      simp
  · intro t ht
    rw [hk]
    rcases List.mem_append.mp ht with q | q
    · have := g.has t q
      split
      · exact this
      · exact List.mem_append_left _ this
    · have := List.mem_singleton.mp q
      subst this
      split
      · assumption
      · exact List.mem_append_right _ List.mem_cons_self
theorem Grouped.hit {xs : List Nat} {kvs : List (Nat × List Nat)} (g : Grouped σ.lots xs kvs) (ok : Ok n σ) (hx : xs.Nodup) (hT : ∀ s, s ∈ xs ↔ s < n ∧ T s = true) {L : Nat} {hs : List Nat} (h : (L, hs) ∈ kvs) : Hit σ T L hs := by
  obtain ⟨e1, e2⟩ := g.val L hs h
  have iff1 : ∀ s, s ∈ hs ↔ s ∈ xs ∧ lotOf σ s = L := fun s => by
    rw [e1, List.mem_filter]
    exact ⟨fun ⟨a, b⟩ => ⟨a, eq_of_beq b⟩, fun ⟨a, b⟩ => ⟨a, by show (lotOf σ s == L) = true; rw [b]; exact beq_self_eq_true _⟩⟩
  obtain ⟨s, hs'⟩ := List.exists_mem_of_ne_nil hs e2
  have h1 := (iff1 s).mp hs'
  have hL : L < σ.members.length := h1.2 ▸ ok.lt s ((hT s).mp h1.1).1
  refine ⟨hL, by rw [e1]; exact nodup_filter hx, ⟨s, hs'⟩, fun t => ?_⟩
  rw [iff1, hT, ok.mem L hL]
  constructor
  · rintro ⟨⟨a, b⟩, c⟩
    exact ⟨⟨a, c⟩, b⟩
  · rintro ⟨⟨a, c⟩, b⟩
    exact ⟨⟨a, b⟩, c⟩
/-- all lots that are hit have been gone over: two states of one lot are both hit or both not -/
theorem Prog.all {σ0 : S} {done xs : List Nat} {kvs : List (Nat × List Nat)} (p : Prog n σ0 T done σ) (g : Grouped σ0.lots xs kvs) (hT : ∀ s, s ∈ xs ↔ s < n ∧ T s = true) (hd : ∀ k, k ∈ kvs.map (·.1) → k ∈ done)
    {s t : Nat} (h1 : s < n) (h2 : t < n) (e : lotOf σ s = lotOf σ t) : T s = T t := by
  by_cases c : lotOf σ0 s ∈ done
  · exact p.even s t h1 h2 e c
  · have e0 := p.fine s t h1 h2 e
    have f : ∀ r, r < n → lotOf σ0 r = lotOf σ0 s → T r = false := fun r hr q => by
      cases z : T r with
      | false => rfl
      | true => exact absurd (hd _ (g.has r ((hT r).mpr ⟨hr, z⟩))) (by rw [show σ0.lots.getD r 0 = lotOf σ0 r from rfl, q]; exact c)
    rw [f s h1 rfl, f t h2 e0.symm]
/-! ### what is kept over all -/
/-- R's states stay together -/
def Resp (n : Nat) (R : Nat → Nat → Prop) (σ : S) : Prop := ∀ s t, s < n → t < n → R s t → lotOf σ s = lotOf σ t
theorem split_resp {R : Nat → Nat → Prop} {L : Nat} {hs : List Nat} (ok : Ok n σ) (h : Hit σ T L hs) (hR : ∀ s t, s < n → t < n → R s t → T s = T t) (r : Resp n R σ) : Resp n R (split σ L hs) := by
  by_cases hlt : hs.length < (mem σ L).length
  · have lot := @split_lot n σ L hs T ok h hlt
    intro s t h1 h2 q
    have e := r s t h1 h2 q
    have eT := hR s t h1 h2 q
    rw [lot h1, lot h2]
    by_cases d1 : s ∈ hs
    · have ms := (h.iff s).mp d1
      have mt : t ∈ hs := (h.iff t).mpr ⟨(ok.mem L h.lt t).mpr ⟨h2, by rw [← e]; exact ((ok.mem L h.lt s).mp ms.1).2⟩, by rw [← eT]; exact ms.2⟩
      rw [if_pos d1, if_pos mt]
    · have nt : ¬ t ∈ hs := fun d2 => by
        have mt := (h.iff t).mp d2
        exact d1 ((h.iff s).mpr ⟨(ok.mem L h.lt s).mpr ⟨h1, by rw [e]; exact ((ok.mem L h.lt t).mp mt.1).2⟩, by rw [eT]; exact mt.2⟩)
      rw [if_neg d1, if_neg nt]
      exact e
  · rw [split_not hlt]; exact r
/-- the lots tell the marks -/
def Marks {M : Type} (n : Nat) (mark : Nat → M) (σ : S) : Prop := ∀ s t, s < n → t < n → lotOf σ s = lotOf σ t → mark s = mark t
/-- one lot is split: what is carried. P: what is in the lot that splits now (as states); i: which figures are through -/
structure Carry {M : Type} (n b : Nat) (step : Nat → Nat → Nat) (mark : Nat → M) (R : Nat → Nat → Prop) (P : Nat → Bool) (i : Nat) (σ : S) : Prop where
  ok : Ok n σ
  old : ∀ a, a < i → a < b → Sep n (fun s => step s a) (fun _ => false) σ
  now : ∀ a, i ≤ a → a < b → Sep n (fun s => step s a) P σ
  resp : Resp n R σ
  marks : Marks n mark σ
theorem Carry.split {M : Type} {b : Nat} {step : Nat → Nat → Nat} {mark : Nat → M} {R : Nat → Nat → Prop} {P : Nat → Bool} {i : Nat} {L : Nat} {hs : List Nat} (c : Carry n b step mark R P i σ) (h : Hit σ T L hs)
    (hst : ∀ s a, s < n → a < b → step s a < n) (hR : ∀ s t, s < n → t < n → R s t → T s = T t) : Carry n b step mark R P i (split σ L hs) := by
  refine ⟨split_ok c.ok h, fun a ha hb => split_sep c.ok h (fun s hs' => hst s a hs' hb) (c.old a ha hb), fun a ha hb => split_sep c.ok h (fun s hs' => hst s a hs' hb) (c.now a ha hb), split_resp c.ok h hR c.resp, ?_⟩
  intro s t h1 h2 e
  have p := (Prog.start (T := T) c.ok).next c.ok h List.not_mem_nil
  exact c.marks s t h1 h2 (p.fine s t h1 h2 e)
/-- a figure is through -/
theorem Carry.next {M : Type} {b : Nat} {step : Nat → Nat → Nat} {mark : Nat → M} {R : Nat → Nat → Prop} {P : Nat → Bool} {i : Nat} (c : Carry n b step mark R P i σ)
    (hev : ∀ s t, s < n → t < n → lotOf σ s = lotOf σ t → P (step s i) = P (step t i)) : Carry n b step mark R P (i + 1) σ := by
  refine ⟨c.ok, fun a ha hb => ?_, fun a ha hb => c.now a (by omega) hb, c.resp, c.marks⟩
  by_cases e : a = i
  · subst e
    intro s t h1 h2 q ne
    rcases c.now a (Nat.le_refl _) hb s t h1 h2 q ne with x | x | x
    · exact .inl x
    · exact .inr (.inl x)
    · exact absurd (hev s t h1 h2 q) x
  · exact c.old a (by omega) hb
/-- between two turns -/
abbrev Still {M : Type} (n b : Nat) (step : Nat → Nat → Nat) (mark : Nat → M) (R : Nat → Nat → Prop) (σ : S) : Prop := Carry n b step mark R (fun _ => false) b σ
/-- the last lot that waits is taken -/
theorem Carry.pop {M : Type} {b : Nat} {step : Nat → Nat → Nat} {mark : Nat → M} {R : Nat → Nat → Prop} {w : List Nat} {p : Nat} (c : Still n b step mark R σ) (hw : σ.waiting = w ++ [p]) (hst : ∀ s a, s < n → a < b → step s a < n) :
    Carry n b step mark R (fun x => (mem σ p).contains x) 0 { σ with waiting := w } := by
  have hp : p < σ.members.length := c.ok.wlt p (by rw [hw]; exact List.mem_append_right _ List.mem_cons_self)
  refine ⟨⟨c.ok.len, c.ok.lt, c.ok.mem, c.ok.nd, c.ok.ne, fun l hl => c.ok.wlt l (by rw [hw]; exact List.mem_append_left _ hl)⟩, fun a ha _ => absurd ha (Nat.not_lt_zero _), fun a _ hb => ?_, c.resp, c.marks⟩
  intro s t h1 h2 q ne
  have hP : ∀ x, x < n → ((mem σ p).contains x = true ↔ lotOf σ x = p) := fun x hx => by
    rw [List.contains_iff_mem, c.ok.mem p hp]
    exact ⟨fun z => z.2, fun z => ⟨hx, z⟩⟩
  have case1 : ∀ u v, u < n → v < n → lotOf σ u ≠ lotOf σ v → lotOf σ u ∈ σ.waiting → lotOf σ u ∈ w ∨ (mem σ p).contains u ≠ (mem σ p).contains v := by
    intro u v hu hv hne hm
    rw [hw] at hm
    rcases List.mem_append.mp hm with z | z
    · exact .inl z
    · have z := List.mem_singleton.mp z
      refine .inr ?_
      rw [(hP u hu).mpr z]
      intro e
      exact hne (by rw [z, (hP v hv).mp e.symm])
  have hs' := hst s a h1 hb
  have ht' := hst t a h2 hb
  rcases c.old a hb hb s t h1 h2 q ne with z | z | z
  · rcases case1 _ _ hs' ht' ne z with y | y
    · exact .inl y
    · exact .inr (.inr y)
  · rcases case1 _ _ ht' hs' (Ne.symm ne) z with y | y
    · exact .inr (.inl y)
    · exact .inr (.inr (Ne.symm y))
  · exact absurd rfl z
theorem Carry.done {M : Type} {b : Nat} {step : Nat → Nat → Nat} {mark : Nat → M} {R : Nat → Nat → Prop} {P : Nat → Bool} (c : Carry n b step mark R P b σ) : Still n b step mark R σ :=
  ⟨c.ok, c.old, fun a ha hb => absurd hb (by omega), c.resp, c.marks⟩
/-! ### the end -/
def runs (step : Nat → Nat → Nat) (s : Nat) (w : List Nat) : Nat := w.foldl step s
/-- no figures behind tell two states apart -/
def Alike {M : Type} (b : Nat) (step : Nat → Nat → Nat) (mark : Nat → M) (s t : Nat) : Prop := ∀ w : List Nat, (∀ a, a ∈ w → a < b) → mark (runs step s w) = mark (runs step t w)
theorem Alike.step {M : Type} {b : Nat} {step : Nat → Nat → Nat} {mark : Nat → M} {s t a : Nat} (h : Alike b step mark s t) (ha : a < b) : Alike b step mark (step s a) (step t a) := fun w hw =>
  h (a :: w) fun x hx => by
    rcases List.mem_cons.mp hx with q | q
    · exact q ▸ ha
    · exact hw x q
theorem Still.alike {M : Type} {b : Nat} {step : Nat → Nat → Nat} {mark : Nat → M} {R : Nat → Nat → Prop} (c : Still n b step mark R σ) (hst : ∀ s a, s < n → a < b → step s a < n) (hw : σ.waiting = []) :
    ∀ (w : List Nat) (s t : Nat), s < n → t < n → lotOf σ s = lotOf σ t → (∀ a, a ∈ w → a < b) → mark (runs step s w) = mark (runs step t w)
  | [], s, t, h1, h2, e, _ => c.marks s t h1 h2 e
  | a :: w, s, t, h1, h2, e, hb => by
    have ha := hb a List.mem_cons_self
    refine Still.alike c hst hw w (step s a) (step t a) (hst s a h1 ha) (hst t a h2 ha) ?_ fun x hx => hb x (List.mem_cons_of_mem _ hx)
    by_cases q : lotOf σ (step s a) = lotOf σ (step t a)
    · exact q
    · rcases c.old a ha ha s t h1 h2 e q with z | z | z
      · rw [hw] at z; exact absurd z List.not_mem_nil
      · rw [hw] at z; exact absurd z List.not_mem_nil
      · exact absurd rfl z
theorem Still.iff {M : Type} {b : Nat} {step : Nat → Nat → Nat} {mark : Nat → M} (c : Still n b step mark (Alike b step mark) σ) (hst : ∀ s a, s < n → a < b → step s a < n) (hw : σ.waiting = []) {s t : Nat} (h1 : s < n) (h2 : t < n) :
    lotOf σ s = lotOf σ t ↔ Alike b step mark s t := ⟨fun e w hb => Still.alike c hst hw w s t h1 h2 e hb, c.resp s t h1 h2⟩
/-- a state of each lot, no two of them alike -/
theorem reps {R : Nat → Nat → Prop} (ok : Ok n σ) (r : Resp n R σ) : ∀ k, k ≤ σ.members.length → ∃ ss : List Nat, ss.length = k ∧ (∀ s, s ∈ ss → s < n ∧ lotOf σ s < k) ∧ ss.Nodup ∧ ss.Pairwise (fun s t => ¬ R s t ∧ ¬ R t s)
  | 0, _ => ⟨[], rfl, fun _ h => absurd h List.not_mem_nil, List.nodup_nil, List.Pairwise.nil⟩
  | k + 1, hk => by
    obtain ⟨ss, e, h, nd, pw⟩ := reps ok r k (by omega)
    obtain ⟨s, hs⟩ := ok.ne k (by omega)
    have hs' := (ok.mem k (by omega) s).mp hs
    have ne : ∀ t, t ∈ ss → lotOf σ t ≠ lotOf σ s := fun t ht q => by
      have := (h t ht).2
      rw [q, hs'.2] at this
      omega
    refine ⟨s :: ss, by simp [e], ?_, ?_, ?_⟩
    · intro t ht
      rcases List.mem_cons.mp ht with q | q
      · subst q; exact ⟨hs'.1, by omega⟩
      · have := h t q; exact ⟨this.1, by omega⟩
    · exact List.nodup_cons.mpr ⟨fun q => ne s q rfl, nd⟩
    · exact List.pairwise_cons.mpr ⟨fun t ht => ⟨fun q => ne t ht (r s t hs'.1 (h t ht).1 q).symm, fun q => ne t ht (r t s (h t ht).1 hs'.1 q)⟩, pw⟩
theorem Ok.le (ok : Ok n σ) : σ.members.length ≤ n := by
  obtain ⟨ss, e, h, nd, _⟩ := reps (R := fun _ _ => False) ok (fun _ _ _ _ q => q.elim) σ.members.length (Nat.le_refl _)
  have := nodup_sub_len nd (k := List.range n) fun s hs => List.mem_range.mpr (h s hs).1
  rw [List.length_range] at this
  omega
/-- the measure: it falls by each lot that is taken, and doesn't grow by a split -/
def meas (n : Nat) (σ : S) : Nat := 2 * (n - σ.members.length) + σ.waiting.length
theorem split_meas {L : Nat} {hs : List Nat} (ok : Ok n σ) (h : Hit σ T L hs) : meas n (split σ L hs) ≤ meas n σ := by
  by_cases hlt : hs.length < (mem σ L).length
  · have a := (split_ok ok h).le
    have b := split_mlen hlt
    have w : (split σ L hs).waiting.length = σ.waiting.length + 1 := by
      unfold split
      rw [if_pos hlt]
      simp
    unfold meas
    omega
  · rw [split_not hlt]; exact Nat.le_refl _
end
end Hop

namespace B
open PySem L2 MK Hop
/-! ### lists of numbers -/
def nv (xs : List Nat) : List V := xs.map fun (n : Nat) => V.int (n : Int)
theorem nv_len (xs : List Nat) : (nv xs).length = xs.length := by simp [nv]
theorem nv_get {xs : List Nat} {i : Nat} {x : Nat} (h : xs[i]? = some x) : (nv xs)[i]? = some (V.int x) := by simp [nv, h]
theorem nv_at {xs : List Nat} {i : Nat} {y : V} (h : (nv xs)[i]? = some y) : ∃ x, xs[i]? = some x ∧ y = V.int (x : Int) := by
  simp only [nv, List.getElem?_map, Option.map_eq_some_iff] at h
  obtain ⟨x, h1, h2⟩ := h
  exact ⟨x, h1, h2.symm⟩
theorem nv_snoc (xs : List Nat) (x : Nat) : nv xs ++ [V.int x] = nv (xs ++ [x]) := by simp [nv]
theorem nv_set (xs : List Nat) (i x : Nat) : (nv xs).set i (V.int x) = nv (xs.set i x) := by simp [nv, List.map_set]
theorem take_snoc {α : Type} {l : List α} {i : Nat} {x : α} (h : l[i]? = some x) : l.take (i + 1) = l.take i ++ [x] := by
  obtain ⟨h1, h2⟩ := List.getElem?_eq_some_iff.mp h
  rw [List.take_add_one, h]
  rfl
/-! ### lots by marks -/
def kvOf (ks : List (Option Bool)) : List (Option Bool × V) := ks.zipIdx.map fun p => (p.1, V.int (p.2 : Int))
theorem kvOf_len (ks : List (Option Bool)) : (kvOf ks).length = ks.length := by simp [kvOf]
theorem kvOf_snoc (ks : List (Option Bool)) (m : Option Bool) : kvOf (ks ++ [m]) = kvOf ks ++ [(m, V.int (ks.length : Nat))] := by simp [kvOf, List.zipIdx_append]
theorem valV_kvOf : ∀ (ks : List (Option Bool)) (o : Nat) (m : Option Bool), valV ((ks.zipIdx o).map fun p => (p.1, V.int (p.2 : Int))) m = if m ∈ ks then some (V.int ((o + idx ks m : Nat) : Int)) else none
  | [], o, m => by simp [valV]
  | k :: ks, o, m => by
    rw [List.zipIdx_cons, List.map_cons]
    by_cases e : k = m
    · subst e
      rw [valV_pos rfl, idx_cons, if_pos rfl]
      simp
    · rw [valV_neg e, valV_kvOf ks (o + 1) m]
      have e' : ¬ m = k := fun z => e z.symm
      by_cases c : m ∈ ks
      · rw [if_pos c, if_pos (List.mem_cons_of_mem _ c), idx_cons, if_neg e]
        congr 2
        omega
      · rw [if_neg c, if_neg (by simp [e', c])]
def spLbm (K : PySem.W.Frag) : Sp := fun vs H Q _ => ∃ (a : Addr) (ms : List (Option Bool)), vs = [.ref a] ∧ SqL K H a (ms.map mV) ∧ ms.length ≤ 100000 ∧
  ∀ p H', H p = none → Same H H' → H' p = some (.lst (nv (lotsOf ms))) → Q (.ref p) H'
section
variable {P : Program} {w : World} {K : PySem.W.Frag} {mg : Str → Option Value} {base : Heap}
theorem ok_lbm {f : Addr} {fd : FuncData} (F : Fun K "lots_by_marks" "lots_by_marks" s_lots_by_marks f fd) (gLen : mg "len" = none) : FnOk P w K mg base CX0 1 f fd ["marks"] (spLbm K) := by
  refine F.ok sc_lots_by_marks (fun vs H Q E h => ?_) (fun cdv A outer s H vs Q E hr h => ?_)
  · obtain ⟨a, ns, rfl, _⟩ := h
    rfl
  · obtain ⟨a, ms, rfl, hS, hl, q⟩ := h
    have nd := sc_lots_by_marks.nd
    refine ⟨_, pss_cons (ps_set (i := 1) nd rfl (Or.inl rfl) pe_dnewM)
      (pss_cons (ps_set (i := 2) nd rfl (Or.inl rfl) (pe_lst pa_nil))
      (pss_cons (ps_for PassesOwn.never rfl (pi_list (pv 0)) (pg_name (i := 3) nd rfl (Or.inl rfl))
        (pss_one (ps_expr (pe_bm PySem.F.plainAttrs_list PySem.F.slot_list_append PySem.F.type_list_append mt_append (pv 2)
          (pa_cons (pe_dsetM (pv 1) (pv 3) (pe_callB call_lenM (by rfl) gLen PySem.boot_len (pa_cons (pv 1) pa_nil)) ⟨rfl, by rfl, rfl, rfl⟩) pa_nil)))))
      (pss_one (ps_ret (pv 2))))), ?_⟩
    intro d hd
    refine ⟨(by show 0 ≤ sizeLine; decide), fun l hl0 => ?_⟩
    have dl : d ≠ l := ne_of_none upd_same hl0
    have hlH : H l = none := by rw [← upd_ne (H := H) (o := DMk P w d []) dl.symm]; exact hl0
    refine ⟨_, rfl, a, rfl, ⟨ms.map mV, ?_⟩, for_list (K := K) (a := a) (xs := ms.map mV) (fun i σ H2 => ∃ v : Option V, σ = [some (.ref a), some (.ref d), some (.ref l), v] ∧ H2 d = some (DMk P w d (kvOf (keysOf (ms.take i)))) ∧ H2 l = some (.lst (nv (lotsOf (ms.take i)))) ∧ Same H H2)
      ⟨none, rfl, ?_, ?_, ?_⟩ (fun i σ H2 _ ⟨_, _, _, _, s2⟩ => s2.seq hS) ?_ ?_⟩
    · refine Same.seq ?_ hS
      intro b o e
      rw [upd_ne (ne_of_none e hlH), upd_ne (ne_of_none e hd)]
      exact e
    · rw [upd_ne dl, upd_same]; rfl
    · exact upd_same
    · intro b o e
      rw [upd_ne (ne_of_none e hlH), upd_ne (ne_of_none e hd)]
      exact e
    · rintro i y σ H2 hi ⟨v, rfl, h1, h2, s2⟩
      obtain ⟨m, hm, rfl⟩ : ∃ m, ms[i]? = some m ∧ y = mV m := by
        simp only [List.getElem?_map, Option.map_eq_some_iff] at hi
        obtain ⟨x, e1, e2⟩ := hi
        exact ⟨x, e1, e2.symm⟩
      have et := take_snoc hm
      have hi' : i < ms.length := (List.getElem?_eq_some_iff.mp hm).1
      have klen : (keysOf (ms.take i)).length ≤ 100000 := by
        have := nodup_sub_len (keysOf_nodup (ms.take i)) (k := ms.take i) fun x hx => mem_keysOf.mp hx
        rw [List.length_take] at this
        omega
      have llen : (lotsOf (ms.take i)).length ≤ 100000 := by
        rw [lotsOf_len, List.length_take]; omega
      have hv := valV_kvOf (keysOf (ms.take i)) 0 m
      refine ⟨_, rfl, .inl ⟨rfl, _, SqL.of h2⟩, _, rfl, d, _, rfl, h1, _, rfl, _, rfl, d, _, rfl, h1, kvOf (keysOf (ms.take i)), m, h1, rfl, ?_, ?_, ?_⟩
      · rw [kvOf_len]; exact (by rw [sizeLine_eq]; omega)
      · intro v' hv'
        have hv2 : (if m ∈ keysOf (ms.take i) then some (V.int ((0 + idx (keysOf (ms.take i)) m : Nat) : Int)) else none) = some v' := hv.symm.trans hv'
        by_cases c : m ∈ keysOf (ms.take i)
        · rw [if_pos c] at hv2
          have e3 := Option.some.inj hv2
          subst e3
          refine ⟨l, _, _, rfl, rfl, h2, ?_, some (mV m), rfl, ?_, ?_, ?_⟩
          · rw [nv_len]; exact (by rw [sizeLine_eq]; omega)
          · rw [upd_ne dl, h1, et, keysOf_snoc, addKey, if_pos c]
          · rw [upd_same, et, lotsOf_snoc, idx_addKey c, nv_snoc]
            simp
          · intro b o e
            rw [upd_ne (ne_of_none e hlH)]
            exact s2 b o e
        · rw [if_neg c] at hv2; cases hv2
      · intro hv'
        have hv2 : (if m ∈ keysOf (ms.take i) then some (V.int ((0 + idx (keysOf (ms.take i)) m : Nat) : Int)) else none) = none := hv.symm.trans hv'
        by_cases c : m ∈ keysOf (ms.take i)
        · rw [if_pos c] at hv2; cases hv2
        · refine ⟨l, _, _, rfl, rfl, (by rw [upd_ne dl.symm]; exact h2), ?_, some (mV m), rfl, ?_, ?_, ?_⟩
          · rw [nv_len]; exact (by rw [sizeLine_eq]; omega)
          · rw [upd_ne dl, upd_same, putK_new _ hv', kvOf_len, et, keysOf_snoc, addKey, if_neg c, kvOf_snoc]; rfl
          · rw [upd_same, et, lotsOf_snoc, idx_new c, kvOf_len, nv_snoc]
          · intro b o e
            rw [upd_ne (ne_of_none e hlH), upd_ne (ne_of_none e hd)]
            exact s2 b o e
    · rintro σ H2 ⟨v, rfl, h1, h2, s2⟩
      rw [List.length_map, List.take_length] at h2
      exact ⟨_, rfl, q l H2 hlH s2 h2⟩
end
end B

namespace L2
open PySem PySem.Spec PyProof.Rows
theorem for_enumL {K : PySem.W.Frag} {a : Addr} {xs : List V} {g : TG} {tb : TS} {D : Ends} {σ : St} {H : Hp} (Pv : Nat → St → Hp → Prop) (h0 : Pv 0 σ H) (hl : ∀ i σ H, i ≤ xs.length → Pv i σ H → SqL K H a xs)
    (hs : ∀ i x σ H T, xs[i]? = some x → Pv i σ H → H T = none → g (.ref T) σ (upd H T (.tup [.int (i : Nat), x])) fun σ2 H2 => tb { D with nx := Pv (i + 1), ct := Pv (i + 1), bk := D.nx } σ2 H2) (hd : ∀ σ H, Pv xs.length σ H → D.nx σ H) :
    ∃ W : Nat → Nat → St → Hp → Prop, (∃ m, W 0 m σ H) ∧ ∀ i m σ H, W i m σ H →
      ((Ite K a).stop i H ∧ D.nx σ H) ∨ ((Ite K a).go i H ∧ ∃ N : St → Hp → Prop, (∀ σ' H', N σ' H' → ∃ m', m' < m ∧ W (i + 1) m' σ' H') ∧ ∀ x H', (Ite K a).yld i H x H' → g x σ H' fun σ2 H2 => tb { D with nx := N, ct := N, bk := D.nx } σ2 H2) := by
  refine ⟨fun i m σ H => m = xs.length - i ∧ i ≤ xs.length ∧ Pv i σ H, ⟨xs.length, by simp, Nat.zero_le _, h0⟩, ?_⟩
  rintro i m σ H ⟨rfl, hi, p⟩
  have q := hl i σ H hi p
  by_cases hlt : i < xs.length
  · refine .inr ⟨⟨xs, xs[i], q, by simp [hlt]⟩, Pv (i + 1), fun σ' H' p' => ⟨xs.length - (i + 1), by omega, rfl, hlt, p'⟩, fun x H' y => ?_⟩
    obtain ⟨T, z, rfl, hT, rfl, y⟩ := y
    exact hs i z _ _ T (y xs q) p hT
  · have e : i = xs.length := by omega
    subst e
    exact .inl ⟨⟨xs, q, Nat.le_refl _⟩, hd _ _ p⟩
end L2
namespace B
open PySem L2 MK Hop
/-! ### lists of lists of numbers -/
structure Lol (H : Hp) (p : Addr) (as : List Addr) (xss : List (List Nat)) : Prop where
  top : H p = some (.lst (as.map V.ref))
  nd : as.Nodup
  np : ¬ p ∈ as
  len : as.length = xss.length
  cell : ∀ l a, as[l]? = some a → H a = some (.lst (nv (xss.getD l [])))
theorem Lol.get {H : Hp} {p : Addr} {as : List Addr} {xss : List (List Nat)} (h : Lol H p as xss) {l : Nat} (hl : l < xss.length) : ∃ a, as[l]? = some a ∧ a ∈ as ∧ (as.map V.ref)[l]? = some (V.ref a) ∧ H a = some (.lst (nv (xss.getD l []))) := by
  have hl' : l < as.length := by rw [h.len]; exact hl
  have e := List.getElem?_eq_getElem hl'
  exact ⟨as[l], e, List.getElem_mem hl', by simp [e], h.cell l _ e⟩
theorem Lol.at {H H' : Hp} {p : Addr} {as : List Addr} {xss : List (List Nat)} (h : Lol H p as xss) (k : ∀ b o, b = p ∨ b ∈ as → H b = some o → H' b = some o) : Lol H' p as xss :=
  ⟨k _ _ (.inl rfl) h.top, h.nd, h.np, h.len, fun l a e => k _ _ (.inr (List.mem_of_getElem? e)) (h.cell l a e)⟩
theorem Lol.same {H H' : Hp} {p : Addr} {as : List Addr} {xss : List (List Nat)} (h : Lol H p as xss) (k : Same H H') : Lol H' p as xss := h.at fun b o _ e => k b o e
theorem Lol.put {H : Hp} {p a : Addr} {as : List Addr} {xss : List (List Nat)} {l : Nat} (ys : List Nat) (h : Lol H p as xss) (ha : as[l]? = some a) : Lol (upd H a (.lst (nv ys))) p as (xss.set l ys) := by
  have am : a ∈ as := List.mem_of_getElem? ha
  have hl : l < as.length := (List.getElem?_eq_some_iff.mp ha).1
  refine ⟨by rw [upd_ne (fun z : p = a => h.np (z ▸ am))]; exact h.top, h.nd, h.np, by rw [List.length_set]; exact h.len, fun l' a' e => ?_⟩
  by_cases c : l' = l
  · subst c
    have : a' = a := Option.some.inj (e.symm.trans ha)
    subst this
    rw [upd_same, List.getD_eq_getElem?_getD, List.getElem?_set_self (by rw [← h.len]; exact hl)]
    rfl
  · have na : a' ≠ a := fun z => c (nd_ix h.nd (z ▸ e) ha)
    rw [upd_ne na, h.cell l' a' e, List.getD_eq_getElem?_getD, List.getD_eq_getElem?_getD, List.getElem?_set_ne (fun z => c z.symm)]
/-- a list of new empty lists, as a comprehension makes it -/
structure Fresh (H : Hp) (D : Addr) (n : Nat) (H' : Hp) : Prop where
  same : Same H H'
  ex : ∃ as : List Addr, Lol H' D as (List.replicate n []) ∧ ∀ a, a ∈ as → H a = none
theorem Fresh.start {H : Hp} {D : Addr} (hD : H D = none) : Fresh H D 0 (upd H D (.lst [])) :=
  ⟨fun b o e => by rw [upd_ne (ne_of_none e hD)]; exact e, [], ⟨upd_same, List.nodup_nil, List.not_mem_nil, rfl, fun l a e => by simp at e⟩, fun a h => absurd h List.not_mem_nil⟩
theorem Fresh.more {H H' : Hp} {D p : Addr} {n : Nat} (f : Fresh H D n H') (hD : H D = none) (hp : H' p = none) (hz : n < sizeLine) :
    ∃ acc, (upd H' p (.lst [])) D = some (.lst acc) ∧ acc.length < sizeLine ∧ Fresh H D (n + 1) (upd (upd H' p (.lst [])) D (.lst (acc ++ [V.ref p]))) := by
  obtain ⟨as, L, fr⟩ := f.ex
  have pD : D ≠ p := ne_of_none L.top hp
  have al : as.length = n := by rw [L.len]; simp
  refine ⟨as.map V.ref, by rw [upd_ne pD]; exact L.top, by rw [List.length_map, al]; exact hz, fun b o e => ?_, as ++ [p], ⟨?_, ?_, ?_, ?_, ?_⟩, ?_⟩
  · rw [upd_ne (ne_of_none e hD), upd_ne (ne_of_none (f.same _ _ e) hp)]
    exact f.same _ _ e
  · rw [upd_same]; simp
  · refine List.nodup_append.mpr ⟨L.nd, by simp, fun a ha b hb e => ?_⟩
    have := List.mem_singleton.mp hb
    subst this
    subst e
    obtain ⟨l, hl⟩ := List.getElem?_of_mem ha
    rw [L.cell l _ hl] at hp
    cases hp
  · intro m
    rcases List.mem_append.mp m with m | m
    · exact L.np m
    · exact pD (List.mem_singleton.mp m)
  · simp [al]
  · intro l a e
    rw [List.getElem?_append] at e
    by_cases c : l < as.length
    · rw [if_pos c] at e
      have aD : a ≠ D := fun z => L.np (z ▸ List.mem_of_getElem? e)
      have ap : a ≠ p := ne_of_none (L.cell l a e) hp
      rw [upd_ne aD, upd_ne ap, L.cell l a e]
      congr 2
      simp [List.getD_eq_getElem?_getD, List.getElem?_replicate]
      split <;> split <;> rfl
    · rw [if_neg c] at e
      have e2 : a = p := by
        by_cases z : l - as.length = 0
        · rw [z] at e; exact (Option.some.inj e).symm
        · simp [z] at e
      subst e2
      rw [upd_ne pD.symm, upd_same]
      congr 2
      simp [List.getD_eq_getElem?_getD, List.getElem?_replicate, nv]
      split <;> rfl
  · intro a ha
    rcases List.mem_append.mp ha with m | m
    · exact fr a m
    · rw [List.mem_singleton.mp m]
      exact f.same.free hp
/-! ### buckets: which states are of a number -/
def buckets (n : Nat) (fs : List Nat) (i : Nat) : List (List Nat) := (List.range n).map fun l => (List.range i).filter fun s => fs.getD s 0 == l
theorem buckets_len (n : Nat) (fs : List Nat) (i : Nat) : (buckets n fs i).length = n := by simp [buckets]
theorem buckets_zero (n : Nat) (fs : List Nat) : buckets n fs 0 = List.replicate n [] := by
  apply List.ext_getElem
  · simp [buckets]
  · intro i h1 h2
    simp [buckets]
theorem buckets_get {n : Nat} {fs : List Nat} {i l : Nat} (h : l < n) : (buckets n fs i).getD l [] = (List.range i).filter fun s => fs.getD s 0 == l := by
  simp [buckets, List.getD_eq_getElem?_getD, h]
theorem buckets_succ {n : Nat} {fs : List Nat} {i x : Nat} (hx : fs[i]? = some x) (hn : x < n) : buckets n fs (i + 1) = (buckets n fs i).set x ((buckets n fs i).getD x [] ++ [i]) := by
  apply List.ext_getElem?
  intro l
  by_cases c : l < n
  · have e : fs[i]?.getD 0 = x := by simp [hx]
    by_cases d : x = l
    · subst d
      rw [List.getElem?_set_self (by rw [buckets_len]; exact c)]
      rw [buckets_get c]
      simp [buckets, c, List.range_succ, List.filter_append, e]
    · rw [List.getElem?_set_ne d]
      simp [buckets, c, List.range_succ, List.filter_append, e, d]
  · rw [List.getElem?_eq_none (by rw [buckets_len]; omega), List.getElem?_eq_none (by rw [List.length_set, buckets_len]; omega)]
end B

namespace B
open PySem L2 MK Hop
theorem nvZ (ls : List Nat) : nv ls = (ls.map (fun (n : Nat) => (n : Int))).map V.int := by simp [nv, List.map_map, Function.comp_def]
/-- a new list of lists is handed back -/
def GivesLol (H : Hp) (xss : List (List Nat)) (Q : VK) : Prop := ∀ p as H', H p = none → Same H H' → Lol H' p as xss → (∀ a, a ∈ as → H a = none) → Q (.ref p) H'
def spMem (K : PySem.W.Frag) : Sp := fun vs H Q _ => ∃ (a : Addr) (ls : List Nat) (n : Nat), vs = [.ref a] ∧ SqL K H a (nv ls) ∧ ls.length ≤ 100000 ∧ n ≤ 100000 ∧ (∀ x, x ∈ ls → x < n) ∧ (n - 1) ∈ ls ∧ GivesLol H (buckets n ls ls.length) Q
/-- a list of lists of numbers that is read only -/
structure RowsL (K : PySem.W.Frag) (H : Hp) (a : Addr) (rows : List (List Nat)) : Prop where
  ex : ∃ rs : List Addr, SqL K H a (rs.map V.ref) ∧ rs.length = rows.length ∧ ∀ i r, rs[i]? = some r → SqL K H r (nv (rows.getD i []))
theorem RowsL.same {K : PySem.W.Frag} {H H' : Hp} {a : Addr} {rows : List (List Nat)} (h : RowsL K H a rows) (s : Same H H') : RowsL K H' a rows := by
  obtain ⟨rs, h1, h2, h3⟩ := h.ex
  exact ⟨rs, s.seq h1, h2, fun i r e => s.seq (h3 i r e)⟩
theorem RowsL.row {K : PySem.W.Frag} {H : Hp} {a : Addr} {rows : List (List Nat)} (h : RowsL K H a rows) : ∃ xs : List V, SqL K H a xs ∧ xs.length = rows.length ∧ ∀ i, i < rows.length → ∃ r, xs[i]? = some (.ref r) ∧ SqL K H r (nv (rows.getD i [])) := by
  obtain ⟨rs, h1, h2, h3⟩ := h.ex
  refine ⟨_, h1, by simp [h2], fun i hi => ?_⟩
  have hi' : i < rs.length := by omega
  exact ⟨rs[i], by simp [hi'], h3 i _ (List.getElem?_eq_getElem hi')⟩
/-- the column of a figure -/
def col (rows : List (List Nat)) (f : Nat) : List Nat := rows.map fun r => r.getD f 0
def spBack (K : PySem.W.Frag) : Sp := fun vs H Q _ => ∃ (a : Addr) (rows : List (List Nat)) (f : Nat), vs = [.ref a, .int f] ∧ RowsL K H a rows ∧ rows.length ≤ 100000 ∧ (∀ r, r ∈ rows → f < r.length ∧ ∀ x, x ∈ r → x < rows.length) ∧
  GivesLol H (buckets rows.length (col rows f) rows.length) Q
section
variable {P : Program} {w : World} {K : PySem.W.Frag} {mg : Str → Option Value} {base : Heap}
theorem ok_mem {f : Addr} {fd : FuncData} (F : Fun K "members_of" "members_of" s_members_of f fd) (gMax : mg "max" = none) (gR : mg "range" = none) (gE : mg "enumerate" = none) : FnOk P w K mg base CX0 1 f fd ["lots"] (spMem K) := by
  refine F.ok sc_members_of (fun vs H Q E h => ?_) (fun cdv A outer s H vs Q E hr h => ?_)
  · obtain ⟨a, ns, n, rfl, _⟩ := h
    rfl
  · obtain ⟨a, ls, n, rfl, hS, hl, hn, hlt, hmax, q⟩ := h
    have nd := sc_members_of.nd
    refine ⟨_, pss_cons (ps_setLc (i := 1) (own := [("_", 2)]) (g := gName 2) (tt := tYes) (by rfl) nd rfl rfl (sw_true rfl rfl rfl (by decide +kernel))
        (pi_range1 (by rfl) gR (pa_cons (pe_op op_add (pe_callB (cr_max rfl) (by rfl) gMax (by decide +kernel) (pa_cons (pv 0) pa_nil)) pe_int) pa_nil))
        (blkOk_by (own := [("_", 2)]) (N := ["lots", "members", "_", "state", "lot"]) (sc := defScope s_members_of) (by decide +kernel))
        (fun _ _ _ _ _ => pg_name (i := 2) nd rfl (Or.inl rfl)) (fun _ _ _ _ _ => pts_nil) (fun _ _ _ _ _ => pe_lst pa_nil))
      (pss_cons (ps_for PassesOwn.never rfl (pi_enum (by rfl) gE (pa_cons (pv 0) pa_nil)) (pg_tup rfl (pgs_cons (pg_name (i := 3) nd rfl (Or.inl rfl)) (pgs_cons (pg_name (i := 4) nd rfl (Or.inl rfl)) pgs_nil)))
        (pss_one (ps_expr (pe_bm PySem.F.plainAttrs_list PySem.F.slot_list_append PySem.F.type_list_append mt_append (pe_ix ix_list (pv 1) (pv 4) (fun _ _ => rfl)) (pa_cons (pv 3) pa_nil)))))
      (pss_one (ps_ret (pv 1)))), ?_⟩
    have hSz : SqL K H a ((ls.map (fun (n : Nat) => (n : Int))).map V.int) := by rw [← nvZ]; exact hS
    have hne : 0 < ls.length := List.length_pos_of_mem hmax
    have hn0 : 0 < n := Nat.lt_of_le_of_lt (Nat.zero_le _) (hlt _ hmax)
    refine ⟨_, rfl, a, ls.map (fun (n : Nat) => (n : Int)), rfl, hSz, (by simpa using hne), fun m hm hall => ?_⟩
    have em : m = ((n - 1 : Nat) : Int) := by
      have h1 := hall ((n - 1 : Nat) : Int) (List.mem_map.mpr ⟨_, hmax, rfl⟩)
      obtain ⟨x, hx, e⟩ := List.mem_map.mp hm
      have := hlt x hx
      omega
    subst em
    refine ⟨_, _, rfl, rfl, _, rfl, by omega, by omega, fun D hD => ?_⟩
    have en : (((n - 1 : Nat) : Int) + 1).toNat = n := by omega
    refine lc_range (lo := 0) (n := (((n - 1 : Nat) : Int) + 1).toNat) (fun i H' => Fresh H D i H') (Fresh.start hD) ?_ ?_
    · intro i H' hi fr
      refine ⟨rfl, ?_⟩
      refine iteT (B := Fresh H D (i + 1) H') ⟨(by show 0 ≤ sizeLine; decide), fun p hp => fr.more hD hp (by rw [sizeLine_eq]; omega)⟩
    · intro H1 fr
      rw [en] at fr
      obtain ⟨as, L, fra⟩ := fr.ex
      refine ⟨_, rfl, a, _, rfl, fr.same.seq hS, for_enumL (K := K) (a := a) (xs := nv ls) (fun i σ H2 => ∃ v3 v4 : Option V, σ = [some (.ref a), some (.ref D), none, v3, v4] ∧ Same H H2 ∧ Lol H2 D as (buckets n ls i))
        ⟨none, none, rfl, fr.same, by rw [buckets_zero]; exact L⟩ (fun i σ H2 _ ⟨_, _, _, s2, _⟩ => s2.seq hS) ?_ ?_⟩
      · rintro i y σ H2 T hi ⟨v3, v4, rfl, s2, L2⟩ hT
        obtain ⟨x, hx, rfl⟩ := nv_at hi
        have hxn : x < n := hlt x (List.mem_of_getElem? hx)
        have L3 : Lol (upd H2 T (.tup [.int (i : Nat), .int (x : Int)])) D as (buckets n ls i) := L2.at fun b o _ e => by rw [upd_ne (ne_of_none e hT)]; exact e
        obtain ⟨c, hc, cm, hcr, hcell⟩ := L3.get (l := x) (by rw [buckets_len]; exact hxn)
        have blen : ((buckets n ls i).getD x []).length < sizeLine := by
          rw [buckets_get hxn, sizeLine_eq]
          have := List.length_filter_le (fun s => ls.getD s 0 == x) (List.range i)
          rw [List.length_range] at this
          have hi2 : i < ls.length := (List.getElem?_eq_some_iff.mp hx).1
          omega
        refine ⟨T, _, rfl, SqT.of upd_same, rfl, _, _, rfl, _, _, rfl, rfl, ?_⟩
        refine ⟨_, rfl, _, rfl, D, _, _, V.ref c, rfl, rfl, SqL.of L3.top, atI_nat hcr, .inl ⟨rfl, _, SqL.of hcell⟩, _, rfl, c, _, _, rfl, rfl, hcell, by rw [nv_len]; exact blen, _, _, rfl, ?_, ?_⟩
        · intro b o e
          have hTH : H T = none := s2.free hT
          rw [upd_ne (ne_of_none e (fra c cm)), upd_ne (ne_of_none e hTH)]
          exact s2 b o e
        · rw [nv_snoc, buckets_succ hx hxn]
          exact L3.put _ hc
      · rintro σ H2 ⟨v3, v4, rfl, s2, L2⟩
        rw [nv_len] at L2
        exact ⟨_, rfl, q D as H2 hD s2 L2 fra⟩
theorem ok_back {f : Addr} {fd : FuncData} (F : Fun K "steps_back" "steps_back" s_steps_back f fd) (gE : mg "enumerate" = none) : FnOk P w K mg base CX0 1 f fd ["steps", "figure"] (spBack K) := by
  refine F.ok sc_steps_back (fun vs H Q E h => ?_) (fun cdv A outer s H vs Q E hr h => ?_)
  · obtain ⟨a, ns, n, rfl, _⟩ := h
    rfl
  · obtain ⟨a, rows, fg, rfl, R, hl, hrow, q⟩ := h
    have nd := sc_steps_back.nd
    refine ⟨_, pss_cons (ps_setLc (i := 2) (own := [("_", 3)]) (g := gName 3) (tt := tYes) (by rfl) nd rfl rfl (sw_true rfl rfl rfl (by decide +kernel))
        (pi_list (pv 0))
        (blkOk_by (own := [("_", 3)]) (N := ["steps", "figure", "back", "_", "state", "row"]) (sc := defScope s_steps_back) (by decide +kernel))
        (fun _ _ _ _ _ => pg_name (i := 3) nd rfl (Or.inl rfl)) (fun _ _ _ _ _ => pts_nil) (fun _ _ _ _ _ => pe_lst pa_nil))
      (pss_cons (ps_for PassesOwn.never rfl (pi_enum (by rfl) gE (pa_cons (pv 0) pa_nil)) (pg_tup rfl (pgs_cons (pg_name (i := 4) nd rfl (Or.inl rfl)) (pgs_cons (pg_name (i := 5) nd rfl (Or.inl rfl)) pgs_nil)))
        (pss_one (ps_expr (pe_bm PySem.F.plainAttrs_list PySem.F.slot_list_append PySem.F.type_list_append mt_append (pe_ix ix_list (pv 2) (pe_ix ix_list (pv 5) (pv 1) (fun _ _ => rfl)) (fun _ _ => rfl)) (pa_cons (pv 4) pa_nil)))))
      (pss_one (ps_ret (pv 2)))), ?_⟩
    obtain ⟨xs, hS, hxl, hxr⟩ := R.row
    refine ⟨_, rfl, a, rfl, ⟨xs, hS⟩, fun D hD => ?_⟩
    refine lc_list (K := K) (a := a) (xs := xs) (fun i H' => Fresh H D i H') (Fresh.start hD) (fun i H' _ fr => fr.same.seq hS) ?_ ?_
    · intro i y H' hi fr
      refine ⟨rfl, ?_⟩
      have : i < xs.length := (List.getElem?_eq_some_iff.mp hi).1
      refine iteT (B := Fresh H D (i + 1) H') ⟨(by show 0 ≤ sizeLine; decide), fun p hp => fr.more hD hp (by rw [sizeLine_eq]; omega)⟩
    · intro H1 fr
      rw [hxl] at fr
      obtain ⟨as, L, fra⟩ := fr.ex
      refine ⟨_, rfl, a, _, rfl, fr.same.seq hS, for_enumL (K := K) (a := a) (xs := xs) (fun i σ H2 => ∃ v3 v4 : Option V, σ = [some (.ref a), some (.int fg), some (.ref D), none, v3, v4] ∧ Same H H2 ∧ Lol H2 D as (buckets rows.length (col rows fg) i))
        ⟨none, none, rfl, fr.same, by rw [buckets_zero]; exact L⟩ (fun i σ H2 _ ⟨_, _, _, s2, _⟩ => s2.seq hS) ?_ ?_⟩
      · rintro i y σ H2 T hi ⟨v3, v4, rfl, s2, L2⟩ hT
        have hi2 : i < rows.length := by rw [← hxl]; exact (List.getElem?_eq_some_iff.mp hi).1
        obtain ⟨r, hr1, hr2⟩ := hxr i hi2
        have ey : y = V.ref r := Option.some.inj (hi.symm.trans hr1)
        subst ey
        have hrm : rows[i] ∈ rows := List.getElem_mem hi2
        have egd : rows.getD i [] = rows[i] := by simp [List.getD_eq_getElem?_getD, hi2]
        rw [egd] at hr2
        obtain ⟨hf1, hf2⟩ := hrow _ hrm
        have hxf : (rows[i])[fg]? = some (rows[i])[fg] := List.getElem?_eq_getElem hf1
        have hxn : (rows[i])[fg] < rows.length := hf2 _ (List.getElem_mem hf1)
        have hcol : (col rows fg)[i]? = some (rows[i])[fg] := by simp [col, hi2, List.getD_eq_getElem?_getD, hf1]
        have sT : Same H2 (upd H2 T (.tup [.int (i : Nat), .ref r])) := fun b o e => by rw [upd_ne (ne_of_none e hT)]; exact e
        have L3 : Lol (upd H2 T (.tup [.int (i : Nat), .ref r])) D as (buckets rows.length (col rows fg) i) := L2.same sT
        obtain ⟨c, hc, cm, hcr, hcell⟩ := L3.get (l := (rows[i])[fg]) (by rw [buckets_len]; exact hxn)
        have blen : ((buckets rows.length (col rows fg) i).getD (rows[i])[fg] []).length < sizeLine := by
          rw [buckets_get hxn, sizeLine_eq]
          have := List.length_filter_le (fun s => (col rows fg).getD s 0 == (rows[i])[fg]) (List.range i)
          rw [List.length_range] at this
          omega
        refine ⟨T, _, rfl, SqT.of upd_same, rfl, _, _, rfl, _, _, rfl, rfl, ?_⟩
        refine ⟨_, rfl, _, rfl, _, rfl, r, _, _, V.int ((rows[i])[fg] : Nat), rfl, rfl, (s2.trans sT).seq hr2, atI_nat (nv_get hxf), D, _, _, V.ref c, rfl, rfl, SqL.of L3.top, atI_nat hcr, .inl ⟨rfl, _, SqL.of hcell⟩, _, rfl, c, _, _, rfl, rfl, hcell, by rw [nv_len]; exact blen, _, _, rfl, ?_, ?_⟩
        · intro b o e
          have hTH : H T = none := s2.free hT
          rw [upd_ne (ne_of_none e (fra c cm)), upd_ne (ne_of_none e hTH)]
          exact s2 b o e
        · rw [nv_snoc, buckets_succ hcol hxn]
          exact L3.put _ hc
      · rintro σ H2 ⟨v3, v4, rfl, s2, L2⟩
        rw [hxl] at L2
        exact ⟨_, rfl, q D as H2 hD s2 L2 fra⟩
end
end B

namespace Hop
theorem addHit_at (k s : Nat) : ∀ (kvs : List (Nat × List Nat)) (i : Nat) (v : List Nat), kvs[i]? = some (k, v) → (∀ j w, j < i → kvs[j]? ≠ some (k, w)) → addHit kvs k s = kvs.set i (k, v ++ [s])
  | [], i, v, h, _ => by simp at h
  | (k0, v0) :: r, 0, v, h, _ => by
    have e := Option.some.inj h
    cases e
    simp [addHit]
  | (k0, v0) :: r, i + 1, v, h, hn => by
    have ne : k0 ≠ k := fun e => hn 0 v0 (Nat.succ_pos _) (by rw [e]; rfl)
    unfold addHit
    rw [if_neg ne, addHit_at k s r i v (by simpa using h) fun j w hj e => hn (j + 1) w (by omega) (by simpa using e)]
    rfl
theorem addHit_new (k s : Nat) : ∀ (kvs : List (Nat × List Nat)), ¬ k ∈ kvs.map (·.1) → addHit kvs k s = kvs ++ [(k, [s])]
  | [], _ => rfl
  | (k0, v0) :: r, h => by
    simp only [List.map_cons, List.mem_cons, not_or] at h
    unfold addHit
    rw [if_neg (fun e => h.1 e.symm), addHit_new k s r h.2]
    rfl
theorem group_snoc (lots : List Nat) (kvs : List (Nat × List Nat)) (xs : List Nat) (s : Nat) : group lots kvs (xs ++ [s]) = addHit (group lots kvs xs) (lots.getD s 0) s := by simp [group, List.foldl_append]
theorem grouped_group (lots : List Nat) : ∀ (xs : List Nat), Grouped lots xs (group lots [] xs) := by
  have key : ∀ (ys xs : List Nat) (kvs : List (Nat × List Nat)), Grouped lots xs kvs → Grouped lots (xs ++ ys) (group lots kvs ys) := by
    intro ys
    induction ys with
    | nil => intro xs kvs g; simpa [group] using g
    | cons y ys ih =>
      intro xs kvs g
      have := ih (xs ++ [y]) _ (g.more y)
      simpa [group] using this
  intro xs
  simpa using key xs [] [] (Grouped.nil lots)
end Hop
namespace B
open PySem L2 MK Hop
/-! ### a table of lists by numbers -/
def kvD (kvs : List (Nat × List Nat)) (as : List Addr) : List (Key × V) := (kvs.zip as).map fun p => (Sum.inl (p.1.1 : Int), V.ref p.2)
theorem kvD_len {kvs : List (Nat × List Nat)} {as : List Addr} (h : as.length = kvs.length) : (kvD kvs as).length = kvs.length := by simp [kvD, h]
theorem kvD_get {kvs : List (Nat × List Nat)} {as : List Addr} {i : Nat} {k : Nat} {v : List Nat} {a : Addr} (h1 : kvs[i]? = some (k, v)) (h2 : as[i]? = some a) : (kvD kvs as)[i]? = some (Sum.inl (k : Int), V.ref a) := by
  have e : (kvs.zip as)[i]? = some ((k, v), a) := List.getElem?_zip_eq_some.mpr ⟨h1, h2⟩
  unfold kvD
  rw [List.getElem?_map, e]
  rfl
theorem kvD_val : ∀ (kvs : List (Nat × List Nat)) (as : List Addr) (k : Nat), as.length = kvs.length → (kvs.map (·.1)).Nodup →
    (∀ (i : Nat) (v : List Nat) (a : Addr), kvs[i]? = some (k, v) → as[i]? = some a → valV (kvD kvs as) (Sum.inl (k : Int)) = some (V.ref a)) ∧ (¬ k ∈ kvs.map (·.1) → valV (kvD kvs as) (Sum.inl (k : Int)) = none)
  | [], as, k, _, _ => ⟨fun i v a h => by simp at h, fun _ => rfl⟩
  | (k0, v0) :: r, [], k, h, _ => by simp at h
  | (k0, v0) :: r, a0 :: as, k, h, nd => by
    have nd' := List.nodup_cons.mp (show (k0 :: r.map (·.1)).Nodup from nd)
    have ih := kvD_val r as k (by simpa using h) nd'.2
    have e0 : kvD ((k0, v0) :: r) (a0 :: as) = (Sum.inl (k0 : Int), V.ref a0) :: kvD r as := rfl
    rw [e0]
    constructor
    · intro i v a h1 h2
      cases i with
      | zero =>
        have := Option.some.inj h1
        cases this
        have := Option.some.inj h2
        subst this
        exact valV_pos rfl
      | succ i =>
        have hm : k ∈ r.map (·.1) := List.mem_map.mpr ⟨(k, v), List.mem_of_getElem? (by simpa using h1), rfl⟩
        have ne : k0 ≠ k := fun e => nd'.1 (e ▸ hm)
        rw [valV_neg (fun e => ne (by have := Sum.inl.inj e; omega))]
        exact ih.1 i v a (by simpa using h1) (by simpa using h2)
    · intro hn
      simp only [List.map_cons, List.mem_cons, not_or] at hn
      rw [valV_neg (fun e => hn.1 (by have := Sum.inl.inj e; omega))]
      exact ih.2 hn.2
structure HitAt (H : Hp) (d : Addr) (as : List Addr) (kvs : List (Nat × List Nat)) : Prop where
  top : H d = some (.dK (kvD kvs as))
  nd : as.Nodup
  len : as.length = kvs.length
  cell : ∀ (i : Nat) (a : Addr) (k : Nat) (v : List Nat), as[i]? = some a → kvs[i]? = some (k, v) → H a = some (.lst (nv v))
theorem HitAt.at {H H' : Hp} {d : Addr} {as : List Addr} {kvs : List (Nat × List Nat)} (h : HitAt H d as kvs) (k : ∀ b o, b = d ∨ b ∈ as → H b = some o → H' b = some o) : HitAt H' d as kvs :=
  ⟨k _ _ (.inl rfl) h.top, h.nd, h.len, fun i a q v e1 e2 => k _ _ (.inr (List.mem_of_getElem? e1)) (h.cell i a q v e1 e2)⟩
theorem HitAt.has {H : Hp} {d : Addr} {as : List Addr} {kvs : List (Nat × List Nat)} (h : HitAt H d as kvs) {i : Nat} {a : Addr} (e : as[i]? = some a) : ∃ v, H a = some (.lst v) := by
  have hi : i < kvs.length := by rw [← h.len]; exact (List.getElem?_eq_some_iff.mp e).1
  exact ⟨_, h.cell i a (kvs[i]).1 (kvs[i]).2 e (List.getElem?_eq_getElem hi)⟩
/-- one state more -/
theorem HitAt.more {H : Hp} {d p : Addr} {as : List Addr} {kvs : List (Nat × List Nat)} {k s : Nat} (h : HitAt H d as kvs) (nd : (kvs.map (·.1)).Nodup) (hp : H p = none) :
    (∀ v, valV (kvD kvs as) (Sum.inl (k : Int)) = some v → ∃ (a : Addr) (xs : List Nat), v = V.ref a ∧ a ∈ as ∧ H a = some (.lst (nv xs)) ∧ (∃ i : Nat, as[i]? = some a ∧ kvs[i]? = some (k, xs)) ∧ HitAt (upd (upd H p (.lst [])) a (.lst (nv (xs ++ [s])))) d as (addHit kvs k s)) ∧
    (valV (kvD kvs as) (Sum.inl (k : Int)) = none → HitAt (upd (upd (upd H p (.lst [])) d (.dK (putK (kvD kvs as) (Sum.inl (k : Int)) (V.ref p)))) p (.lst (nv [s]))) d (as ++ [p]) (addHit kvs k s)) := by
  have dp : d ≠ p := ne_of_none h.top hp
  obtain ⟨v1, v2⟩ := kvD_val kvs as k h.len nd
  constructor
  · intro v hv
    by_cases c : k ∈ kvs.map (·.1)
    · obtain ⟨⟨k1, xs⟩, hm, e⟩ := List.mem_map.mp c
      dsimp only at e
      subst e
      obtain ⟨i, hi⟩ := List.getElem?_of_mem hm
      have hil : i < as.length := by rw [h.len]; exact (List.getElem?_eq_some_iff.mp hi).1
      have ha := List.getElem?_eq_getElem hil
      have e2 := v1 i xs _ hi ha
      rw [e2] at hv
      have := Option.some.inj hv
      subst this
      have hc := h.cell i _ _ _ ha hi
      refine ⟨as[i], xs, rfl, List.getElem_mem hil, hc, ⟨i, ha, hi⟩, ?_⟩
      have ap : as[i] ≠ p := ne_of_none hc hp
      have ad : d ≠ as[i] := ne_of h.top hc (fun z => by cases z)
      have e3 : addHit kvs k1 s = kvs.set i (k1, xs ++ [s]) := addHit_at k1 s kvs i xs hi fun j w hj e => by
        have : j = i := nd_ix nd (x := k1) (by simp [e]) (by simp [hi])
        omega
      rw [e3]
      have eq : kvD (kvs.set i (k1, xs ++ [s])) as = kvD kvs as := by
        apply List.ext_getElem?
        intro j
        have hl1 : as.length = (kvs.set i (k1, xs ++ [s])).length := by rw [List.length_set]; exact h.len
        by_cases cj : j < kvs.length
        · have cj2 : j < as.length := by rw [h.len]; exact cj
          have haj : as[j]? = some as[j] := List.getElem?_eq_getElem cj2
          by_cases d : j = i
          · subst d
            rw [kvD_get (k := k1) (v := xs ++ [s]) (by rw [List.getElem?_set_self (by exact cj)]) haj, kvD_get hi haj]
          · have hj : kvs[j]? = some (kvs[j].1, kvs[j].2) := List.getElem?_eq_getElem cj
            have hj2 : (kvs.set i (k1, xs ++ [s]))[j]? = some (kvs[j].1, kvs[j].2) := by
              rw [List.getElem?_set_ne (fun z => d z.symm)]
              exact hj
            exact (kvD_get hj2 haj).trans (kvD_get hj haj).symm
        · rw [List.getElem?_eq_none (by rw [kvD_len hl1, List.length_set]; omega), List.getElem?_eq_none (by rw [kvD_len h.len]; omega)]
      refine ⟨by rw [upd_ne ad, upd_ne dp, eq]; exact h.top, h.nd, by rw [List.length_set]; exact h.len, fun j a q w e1 e2 => ?_⟩
      by_cases d : j = i
      · subst d
        have : a = as[j] := Option.some.inj (e1.symm.trans ha)
        subst this
        rw [List.getElem?_set_self (by rw [← h.len]; exact hil)] at e2
        have := Option.some.inj e2
        cases this
        rw [upd_same]
      · rw [List.getElem?_set_ne (fun z => d z.symm)] at e2
        have na : a ≠ as[i] := fun z => d (nd_ix h.nd (z ▸ e1) ha)
        have hca := h.cell j a q w e1 e2
        rw [upd_ne na, upd_ne (ne_of_none hca hp)]
        exact hca
    · rw [v2 c] at hv; cases hv
  · intro hv
    have c : ¬ k ∈ kvs.map (·.1) := fun c => by
      obtain ⟨⟨k1, xs⟩, hm, e⟩ := List.mem_map.mp c
      dsimp only at e
      subst e
      obtain ⟨i, hi⟩ := List.getElem?_of_mem hm
      have hil : i < as.length := by rw [h.len]; exact (List.getElem?_eq_some_iff.mp hi).1
      rw [v1 i xs _ hi (List.getElem?_eq_getElem hil)] at hv
      cases hv
    rw [addHit_new k s kvs c]
    refine ⟨?_, ?_, by simp [h.len], fun j a q w e1 e2 => ?_⟩
    · rw [upd_ne dp, upd_same, putK_new _ hv]
      congr 2
      simp [kvD, List.zip_append h.len.symm]
    · refine List.nodup_append.mpr ⟨h.nd, by simp, fun a ha b hb e => ?_⟩
      have := List.mem_singleton.mp hb
      subst this
      subst e
      obtain ⟨l, hl⟩ := List.getElem?_of_mem ha
      obtain ⟨w, hw⟩ := h.has hl
      rw [hw] at hp
      cases hp
    · by_cases d : j < kvs.length
      · rw [List.getElem?_append_left (by rw [h.len]; exact d)] at e1
        rw [List.getElem?_append_left d] at e2
        have hca := h.cell j a q w e1 e2
        have ad : a ≠ _ := ne_of hca h.top (fun z => by cases z)
        rw [upd_ne (ne_of_none hca hp), upd_ne ad, upd_ne (ne_of_none hca hp)]
        exact hca
      · rw [List.getElem?_append_right (by rw [h.len]; omega)] at e1
        rw [List.getElem?_append_right (by omega)] at e2
        have e0 : j - kvs.length = 0 := by
          by_cases z : j - kvs.length = 0
          · exact z
          · exfalso
            rw [List.getElem?_eq_none (by simp; omega)] at e2
            cases e2
        rw [h.len, e0] at e1
        rw [e0] at e2
        have := Option.some.inj e1
        subst this
        have := Option.some.inj e2
        cases this
        rw [upd_same]
end B

namespace B
open PySem L2 MK Hop
def hitsOf (back : List (List Nat)) (ts : List Nat) : List Nat := ts.flatMap fun t => back.getD t []
theorem hitsOf_snoc (back : List (List Nat)) (ts : List Nat) (t : Nat) : hitsOf back (ts ++ [t]) = hitsOf back ts ++ back.getD t [] := by simp [hitsOf]
def spHit (K : PySem.W.Frag) : Sp := fun vs H Q _ => ∃ (t b l : Addr) (ts lots : List Nat) (back : List (List Nat)), vs = [.ref t, .ref b, .ref l] ∧ SqL K H t (nv ts) ∧ RowsL K H b back ∧ SqL K H l (nv lots) ∧
  (∀ x, x ∈ ts → x < back.length) ∧ (∀ r, r ∈ back → ∀ s, s ∈ r → s < lots.length) ∧ (hitsOf back ts).length ≤ 100000 ∧ ts.length ≤ 100000 ∧
  ∀ d as H', H d = none → Same H H' → HitAt H' d as (group lots [] (hitsOf back ts)) → (∀ a, a ∈ as → H a = none) → Q (.ref d) H'
section
variable {P : Program} {w : World} {K : PySem.W.Frag} {mg : Str → Option Value} {base : Heap}
theorem hits_prefix (back : List (List Nat)) (ts : List Nat) (i j : Nat) (t : Nat) (h : ts[i]? = some t) : (hitsOf back (ts.take i) ++ (back.getD t []).take j).length ≤ (hitsOf back ts).length := by
  have e : hitsOf back ts = hitsOf back (ts.take i) ++ (back.getD t [] ++ hitsOf back (ts.drop (i + 1))) := by
    have h1 : ts = ts.take i ++ t :: ts.drop (i + 1) := by
      obtain ⟨h2, h3⟩ := List.getElem?_eq_some_iff.mp h
      rw [← h3]
      exact (List.take_append_drop i ts).symm.trans (by rw [List.drop_eq_getElem_cons h2])
    conv => lhs; rw [h1]
    simp [hitsOf]
  rw [e, List.length_append, List.length_append, List.length_append, List.length_take]
  omega
theorem group_len (lots xs : List Nat) : (group lots [] xs).length ≤ xs.length := by
  have key : ∀ (xs : List Nat) (kvs : List (Nat × List Nat)), (group lots kvs xs).length ≤ kvs.length + xs.length := by
    intro xs
    induction xs with
    | nil => intro kvs; simp [group]
    | cons x xs ih =>
      intro kvs
      have h1 : (addHit kvs (lots.getD x 0) x).length ≤ kvs.length + 1 := by
        have h2 := congrArg List.length (addHit_keys (lots.getD x 0) x kvs)
        rw [List.length_map] at h2
        rw [h2]
        split <;> simp
      have h3 := ih (addHit kvs (lots.getD x 0) x)
      show (group lots (addHit kvs (lots.getD x 0) x) xs).length ≤ _
      simp only [List.length_cons]
      omega
  have := key xs []
  simpa using this
theorem group_val_len {lots xs : List Nat} {i k : Nat} {v : List Nat} (h : (group lots [] xs)[i]? = some (k, v)) : v.length ≤ xs.length := by
  have g := grouped_group lots xs
  rw [(g.val k v (List.mem_of_getElem? h)).1]
  exact List.length_filter_le _ _
theorem ok_hit {f : Addr} {fd : FuncData} (F : Fun K "hit_by_lot" "hit_by_lot" s_hit_by_lot f fd) : FnOk P w K mg base CX0 1 f fd ["targets", "back", "lots"] (spHit K) := by
  refine F.ok sc_hit_by_lot (fun vs H Q E h => ?_) (fun cdv A outer s H vs Q E hr h => ?_)
  · obtain ⟨t, b, l, ts, lots, back, rfl, _⟩ := h
    rfl
  · obtain ⟨t, b, l, ts, lots, back, rfl, hT, R, hL, hts, hback, hz, hzt, q⟩ := h
    have nd := sc_hit_by_lot.nd
    refine ⟨_, pss_cons (ps_set (i := 3) nd rfl (Or.inl rfl) pe_dnewK)
      (pss_cons (ps_for PassesOwn.never rfl (pi_list (pv 0)) (pg_name (i := 4) nd rfl (Or.inl rfl))
        (pss_one (ps_for PassesOwn.never rfl (pi_list (pe_ix ix_list (pv 1) (pv 4) (fun _ _ => rfl))) (pg_name (i := 5) nd rfl (Or.inl rfl))
          (pss_one (ps_expr (pe_bm PySem.F.plainAttrs_list PySem.F.slot_list_append PySem.F.type_list_append mt_append
            (pe_dsetd (pv 3) (pe_ix ix_list (pv 2) (pv 5) (fun _ _ => rfl)) (pe_lst pa_nil) ⟨rfl, by rfl, rfl, rfl⟩) (pa_cons (pv 5) pa_nil)))))))
      (pss_one (ps_ret (pv 3)))), ?_⟩
    intro d hd
    -- what is kept: the table is that of the states gone through
    have s0 : Same H (upd H d (.dK [])) := fun b o e => by rw [upd_ne (ne_of_none e hd)]; exact e
    refine ⟨_, rfl, t, rfl, ⟨nv ts, s0.seq hT⟩, for_list (K := K) (a := t) (xs := nv ts) (fun i σ H2 => ∃ (v4 v5 : Option V) (as : List Addr), σ = [some (.ref t), some (.ref b), some (.ref l), some (.ref d), v4, v5] ∧ Same H H2 ∧ (∀ a, a ∈ as → H a = none) ∧ HitAt H2 d as (group lots [] (hitsOf back (ts.take i))))
      ⟨none, none, [], rfl, s0, fun a h => absurd h List.not_mem_nil, upd_same, List.nodup_nil, rfl, fun i a k v e => by simp at e⟩ (fun i σ H2 _ ⟨_, _, _, _, s2, _⟩ => s2.seq hT) ?_ ?_⟩
    · rintro i y σ H2 hi ⟨v4, v5, as, rfl, s2, fr, ht⟩
      obtain ⟨x, hx, rfl⟩ := nv_at hi
      have hxb : x < back.length := hts x (List.mem_of_getElem? hx)
      obtain ⟨xs, hS, hxl, hxr⟩ := R.row
      obtain ⟨r, hr1, hr2⟩ := hxr x hxb
      have egd : back.getD x [] = back[x] := by simp [List.getD_eq_getElem?_getD, hxb]
      refine ⟨_, rfl, _, rfl, b, _, _, V.ref r, rfl, rfl, s2.seq hS, atI_nat hr1, r, rfl, ⟨_, s2.seq hr2⟩, for_list (K := K) (a := r) (xs := nv (back.getD x [])) (fun j σ H3 => ∃ (v5 : Option V) (as : List Addr), σ = [some (.ref t), some (.ref b), some (.ref l), some (.ref d), some (.int x), v5] ∧ Same H H3 ∧ (∀ a, a ∈ as → H a = none) ∧ HitAt H3 d as (group lots [] (hitsOf back (ts.take i) ++ (back.getD x []).take j)))
        ⟨v5, as, rfl, s2, fr, by simpa using ht⟩ (fun j σ H3 _ ⟨_, _, _, s3, _, _⟩ => s3.seq hr2) ?_ ?_⟩
      · rintro j y σ H3 hj ⟨v5', as', rfl, s3, fr3, ht3⟩
        obtain ⟨z, hz', rfl⟩ := nv_at hj
        have hzl : z < lots.length := hback _ (by rw [egd]; exact List.getElem_mem hxb) z (List.mem_of_getElem? hz')
        have hlz : lots[z]? = some lots[z] := List.getElem?_eq_getElem hzl
        have elz : lots.getD z 0 = lots[z] := by simp [List.getD_eq_getElem?_getD, hzl]
        have gr := grouped_group lots (hitsOf back (ts.take i) ++ (back.getD x []).take j)
        have pl := hits_prefix back ts i j x hx
        have gl := group_len lots (hitsOf back (ts.take i) ++ (back.getD x []).take j)
        have nxt : group lots [] (hitsOf back (ts.take i) ++ (back.getD x []).take (j + 1)) = addHit (group lots [] (hitsOf back (ts.take i) ++ (back.getD x []).take j)) (lots[z]) z := by
          rw [take_snoc hz', ← List.append_assoc, group_snoc, elz]
        refine ⟨_, rfl, d, rfl, .inl ⟨_, .inl ht3.top⟩, _, rfl, _, rfl, l, _, _, V.int (lots[z] : Nat), rfl, rfl, s3.seq hL, atI_nat (nv_get hlz), (by show 0 ≤ sizeLine; decide), fun p hp => ?_⟩
        have dp : d ≠ p := ne_of_none ht3.top hp
        obtain ⟨m1, m2⟩ := ht3.more (k := lots[z]) (s := z) gr.nd hp
        refine ⟨kvD _ as', Sum.inl (lots[z] : Int), by rw [upd_ne dp]; exact ht3.top, rfl, by rw [kvD_len ht3.len, sizeLine_eq]; omega, fun v hv => ?_, fun hv => ?_⟩
        · obtain ⟨a, ys, rfl, ha, hc, ⟨i0, e1, e2⟩, ht4⟩ := m1 v hv
          have ap : a ≠ p := ne_of_none hc hp
          have hc2 : upd H3 p (.lst []) a = some (.lst (nv ys)) := by rw [upd_ne ap]; exact hc
          have yl := group_val_len e2
          have an : H a = none := fr3 a ha
          refine ⟨.inl ⟨rfl, _, SqL.of hc2⟩, _, rfl, a, _, _, rfl, rfl, hc2, by rw [nv_len, sizeLine_eq]; omega, some (.int z), as', rfl, fun b o e => ?_, fr3, ?_⟩
          · rw [upd_ne (ne_of_none e an), upd_ne (ne_of_none (s3 _ _ e) hp)]
            exact s3 b o e
          · rw [nxt, nv_snoc]; exact ht4
        · have ht4 := m2 hv
          have pH : H p = none := s3.free hp
          refine ⟨.inl ⟨rfl, _, SqL.of (by rw [upd_ne dp.symm, upd_same])⟩, _, rfl, p, _, _, rfl, rfl, (by rw [upd_ne dp.symm, upd_same]), (by show 0 < sizeLine; decide), some (.int z), as' ++ [p], rfl, fun b o e => ?_, fun a ha => ?_, ?_⟩
          · rw [upd_ne (ne_of_none e pH), upd_ne (ne_of_none e hd), upd_ne (ne_of_none e pH)]
            exact s3 b o e
          · rcases List.mem_append.mp ha with m | m
            · exact fr3 a m
            · rw [List.mem_singleton.mp m]; exact pH
          · rw [nxt]; exact ht4
      · rintro σ H3 ⟨v5', as', rfl, s3, fr3, ht3⟩
        refine ⟨some (.int x), v5', as', rfl, s3, fr3, ?_⟩
        rw [nv_len, List.take_length] at ht3
        rw [take_snoc hx, hitsOf_snoc]
        exact ht3
    · rintro σ H2 ⟨v4, v5, as, rfl, s2, fr, ht⟩
      rw [nv_len, List.take_length] at ht
      exact ⟨_, rfl, q d as H2 hd s2 ht fr⟩
end
end B

namespace B
open PySem L2 MK Hop
/-! ### a machine as lists -/
def stepOf (rows : List (List Nat)) (s a : Nat) : Nat := (rows.getD s []).getD a 0
def markOf (ms : List (Option Bool)) (s : Nat) : Option Bool := ms.getD s none
structure Mach (rows : List (List Nat)) (n b : Nat) : Prop where
  len : rows.length = n
  row : ∀ r, r ∈ rows → r.length = b ∧ ∀ x, x ∈ r → x < n
theorem Mach.step {rows : List (List Nat)} {n b s a : Nat} (m : Mach rows n b) (hs : s < n) (ha : a < b) : stepOf rows s a < n := by
  have h1 : s < rows.length := by rw [m.len]; exact hs
  have h2 := m.row _ (List.getElem_mem h1)
  have h3 : a < (rows[s]).length := by rw [h2.1]; exact ha
  have e : stepOf rows s a = (rows[s])[a] := by simp [stepOf, List.getD_eq_getElem?_getD, h1, h3]
  rw [e]
  exact h2.2 _ (List.getElem_mem h3)
theorem col_get {rows : List (List Nat)} {n b s : Nat} (m : Mach rows n b) (hs : s < n) (f : Nat) : (col rows f).getD s 0 = stepOf rows s f := by
  have h1 : s < rows.length := by rw [m.len]; exact hs
  simp [col, stepOf, List.getD_eq_getElem?_getD, h1]
theorem mem_bucket {n f l s : Nat} {rows : List (List Nat)} {b : Nat} (m : Mach rows n b) (hl : l < n) : s ∈ (buckets n (col rows f) n).getD l [] ↔ s < n ∧ stepOf rows s f = l := by
  rw [buckets_get hl, List.mem_filter, List.mem_range]
  constructor
  · rintro ⟨h1, h2⟩
    exact ⟨h1, by rw [← col_get m h1]; exact eq_of_beq h2⟩
  · rintro ⟨h1, h2⟩
    exact ⟨h1, by rw [col_get m h1, h2]; exact beq_self_eq_true _⟩
theorem mem_hits {rows : List (List Nat)} {n b f : Nat} (m : Mach rows n b) (hf : f < b) {ts : List Nat} (ht : ∀ t, t ∈ ts → t < n) (s : Nat) : s ∈ hitsOf (buckets n (col rows f) n) ts ↔ s < n ∧ ts.contains (stepOf rows s f) = true := by
  unfold hitsOf
  rw [List.mem_flatMap, List.contains_iff_mem]
  constructor
  · rintro ⟨t, h1, h2⟩
    have := (mem_bucket m (ht t h1)).mp h2
    exact ⟨this.1, this.2 ▸ h1⟩
  · rintro ⟨h1, h2⟩
    exact ⟨_, h2, (mem_bucket m (ht _ h2)).mpr ⟨h1, rfl⟩⟩
theorem hits_nodup {rows : List (List Nat)} {n b f : Nat} (m : Mach rows n b) {ts : List Nat} (ht : ∀ t, t ∈ ts → t < n) (hn : ts.Nodup) : (hitsOf (buckets n (col rows f) n) ts).Nodup := by
  unfold hitsOf List.Nodup
  rw [List.pairwise_flatMap]
  refine ⟨fun t h => ?_, ?_⟩
  · rw [buckets_get (ht t h)]
    exact nodup_filter List.nodup_range
  · have key : ∀ l : List Nat, (∀ t, t ∈ l → t < n) → l.Nodup → l.Pairwise fun t1 t2 => ∀ x, x ∈ (buckets n (col rows f) n).getD t1 [] → ∀ y, y ∈ (buckets n (col rows f) n).getD t2 [] → x ≠ y := by
      intro l hl hn
      refine List.Pairwise.imp_of_mem (R := fun a b => a ≠ b) (fun {t1 t2} m1 m2 ne x hx y hy e => ?_) hn
      have a1 := (mem_bucket m (hl t1 m1)).mp hx
      have a2 := (mem_bucket m (hl t2 m2)).mp hy
      exact ne (by rw [← a1.2, ← a2.2, e])
    exact key ts ht hn
theorem hits_len {rows : List (List Nat)} {n b f : Nat} (m : Mach rows n b) (hf : f < b) {ts : List Nat} (ht : ∀ t, t ∈ ts → t < n) (hn : ts.Nodup) : (hitsOf (buckets n (col rows f) n) ts).length ≤ n := by
  have := nodup_sub_len (hits_nodup (f := f) m ht hn) (k := List.range n) fun s hs => List.mem_range.mpr ((mem_hits m hf ht s).mp hs).1
  rw [List.length_range] at this
  exact this
/-! ### the beginning -/
theorem start_ok {ms : List (Option Bool)} {w : List Nat} (hw : ∀ l, l ∈ w → l < (keysOf ms).length) : Ok ms.length ⟨lotsOf ms, buckets (keysOf ms).length (lotsOf ms) ms.length, w⟩ := by
  have mm : ∀ l, l < (keysOf ms).length → ∀ s, s ∈ (buckets (keysOf ms).length (lotsOf ms) ms.length).getD l [] ↔ s < ms.length ∧ (lotsOf ms).getD s 0 = l := fun l hl s => by
    rw [buckets_get hl, List.mem_filter, List.mem_range]
    exact ⟨fun ⟨h1, h2⟩ => ⟨h1, eq_of_beq h2⟩, fun ⟨h1, h2⟩ => ⟨h1, by rw [h2]; exact beq_self_eq_true _⟩⟩
  refine ⟨lotsOf_len ms, fun s hs => ?_, fun l hl => ?_, fun l hl => ?_, fun l hl => ?_, fun l hl => ?_⟩
  · show _ < (buckets _ _ _).length
    rw [buckets_len]
    exact lotsOf_lt hs
  · have hl : l < (buckets (keysOf ms).length (lotsOf ms) ms.length).length := hl
    rw [buckets_len] at hl
    exact mm l hl
  · have hl : l < (buckets (keysOf ms).length (lotsOf ms) ms.length).length := hl
    rw [buckets_len] at hl
    show ((buckets _ _ _).getD l []).Nodup
    rw [buckets_get hl]
    exact nodup_filter List.nodup_range
  · have hl : l < (buckets (keysOf ms).length (lotsOf ms) ms.length).length := hl
    rw [buckets_len] at hl
    obtain ⟨i, h1, h2⟩ := lotsOf_onto hl
    exact ⟨i, (mm l hl i).mpr ⟨h1, h2⟩⟩
  · show l < (buckets _ _ _).length
    rw [buckets_len]
    exact hw l hl
theorem markOf_get {ms : List (Option Bool)} {s : Nat} (h : s < ms.length) : markOf ms s = ms[s] := by simp [markOf, List.getD_eq_getElem?_getD, h]
theorem start_still {ms : List (Option Bool)} {rows : List (List Nat)} {b : Nat} {w : List Nat} (m : Mach rows ms.length b) (hw : ∀ l, l ∈ w → l < (keysOf ms).length) (hall : ∀ A B, A < (keysOf ms).length → B < (keysOf ms).length → A ≠ B → A ∈ w ∨ B ∈ w) :
    Still ms.length b (stepOf rows) (markOf ms) (Alike b (stepOf rows) (markOf ms)) ⟨lotsOf ms, buckets (keysOf ms).length (lotsOf ms) ms.length, w⟩ := by
  refine ⟨start_ok hw, fun a _ ha => fun s t h1 h2 e ne => ?_, fun a h1 h2 => absurd h2 (by omega), fun s t h1 h2 al => ?_, fun s t h1 h2 e => ?_⟩
  · rcases hall _ _ (lotsOf_lt (m.step h1 ha)) (lotsOf_lt (m.step h2 ha)) ne with q | q
    · exact .inl q
    · exact .inr (.inl q)
  · have := al [] (fun _ h => absurd h List.not_mem_nil)
    have e : markOf ms s = markOf ms t := this
    rw [markOf_get h1, markOf_get h2] at e
    exact (lotsOf_iff h1 h2).mpr e
  · rw [markOf_get h1, markOf_get h2]
    exact (lotsOf_iff h1 h2).mp e
/-! ### what comes out -/
def LotsOk (rows : List (List Nat)) (ms : List (Option Bool)) (b most : Nat) (ls : List Nat) : Prop :=
  ls.length = ms.length ∧ (∀ s t, s < ms.length → t < ms.length → (ls.getD s 0 = ls.getD t 0 ↔ Alike b (stepOf rows) (markOf ms) s t)) ∧ ∃ k, k ≤ most ∧ (∀ s, s < ms.length → ls.getD s 0 < k) ∧ ∀ l, l < k → ∃ s, s < ms.length ∧ ls.getD s 0 = l
def Wide (rows : List (List Nat)) (ms : List (Option Bool)) (b most : Nat) : Prop :=
  ∃ ss : List Nat, most < ss.length ∧ (∀ s, s ∈ ss → s < ms.length) ∧ ss.Pairwise fun s t => ¬ Alike b (stepOf rows) (markOf ms) s t
theorem lots_ok {ms : List (Option Bool)} {rows : List (List Nat)} {b most : Nat} {σ : Hop.S} (m : Mach rows ms.length b) (c : Still ms.length b (stepOf rows) (markOf ms) (Alike b (stepOf rows) (markOf ms)) σ) (hw : σ.waiting = []) (hm : σ.members.length ≤ most) : LotsOk rows ms b most σ.lots := by
  refine ⟨c.ok.len, fun s t h1 h2 => c.iff (fun s a hs ha => m.step hs ha) hw h1 h2, σ.members.length, hm, c.ok.lt, fun l hl => ?_⟩
  obtain ⟨s, hs⟩ := c.ok.ne l hl
  have := (c.ok.mem l hl s).mp hs
  exact ⟨s, this.1, this.2⟩
theorem wide_of {ms : List (Option Bool)} {rows : List (List Nat)} {b most : Nat} {σ : Hop.S} (ok : Ok ms.length σ) (r : Resp ms.length (Alike b (stepOf rows) (markOf ms)) σ) (hm : most < σ.members.length) : Wide rows ms b most := by
  obtain ⟨ss, e, h, _, pw⟩ := reps ok r σ.members.length (Nat.le_refl _)
  exact ⟨ss, by omega, fun s hs => (h s hs).1, pw.imp fun h => h.1⟩
end B

namespace B
open PySem L2 MK Hop
structure PtAt (H : Hp) (lo me wa : Addr) (as : List Addr) (σ : Hop.S) : Prop where
  lots : H lo = some (.lst (nv σ.lots))
  top : H me = some (.lst (as.map V.ref))
  len : as.length = σ.members.length
  wait : H wa = some (.lst (nv σ.waiting))
  cell : ∀ (l : Nat) (a : Addr), as[l]? = some a → H a = some (.lst (nv (σ.members.getD l []))) ∧ a ≠ lo ∧ a ≠ me ∧ a ≠ wa
  ne1 : lo ≠ me
  ne2 : lo ≠ wa
  ne3 : me ≠ wa
def spLos (K : PySem.W.Frag) : Sp := fun vs H Q _ => ∃ (st mk : Addr) (rows : List (List Nat)) (ms : List (Option Bool)) (b most : Nat), vs = [.ref st, .ref mk, .int (most : Nat)] ∧ RowsL K H st rows ∧ SqL K H mk (ms.map mV) ∧ Mach rows ms.length b ∧ 0 < b ∧ 0 < ms.length ∧ ms.length ≤ 50000 ∧ b ≤ 100 ∧
  (∀ H', Same H H' → Wide rows ms b most → Q .non H') ∧ ∀ p ls H', H p = none → Same H H' → H' p = some (.lst (nv ls)) → LotsOk rows ms b most ls → Q (.ref p) H'
/-- all lots but one -/
def spWid (K : PySem.W.Frag) : Sp := fun vs H Q _ => ∃ (me pm : Addr) (as : List Addr) (xss : List (List Nat)), vs = [.ref me] ∧ H me = some (.lst (as.map V.ref)) ∧ Lol H pm as xss ∧ xss.length ≤ 50000 ∧
  ∀ wa ws H', H wa = none → Same H H' → H' wa = some (.lst (nv ws)) → (∀ l, l ∈ ws → l < xss.length) → (∀ A B, A < xss.length → B < xss.length → A ≠ B → A ∈ ws ∨ B ∈ ws) → ws.length ≤ xss.length → Q (.ref wa) H'
/-- a def of the text, where it stands and what it promises -/
def Df (P : Program) (w : World) (K : PySem.W.Frag) (mg : Str → Option Value) (base : Heap) (CX : CXT) (k : Nat) (x : Str) (ps : List Str) (sp : Sp) : Prop :=
  ∃ (f : Addr) (fd : FuncData), FnOk P w K mg base CX k f fd ps sp ∧ mg x = some (.ref f) ∧ PySem.W.keepIn K (.ref f) = true ∧ Binds K fd ps []
/-- the lot of a pair (size, lot) -/
def lotOf (H : Hp) : V → Nat
  | .ref t => match H t with
    | some (.tup [_, .int i]) => i.toNat
    | _ => 0
  | _ => 0
theorem lotOf_ref {H : Hp} {t : Addr} {x : V} {j : Nat} (h : H t = some (.tup [x, .int (j : Nat)])) : lotOf H (.ref t) = j := by
  show (match H t with | some (.tup [_, .int i]) => i.toNat | _ => 0) = j
  rw [h]
  exact Int.toNat_natCast j
theorem but_one {l : List Nat} {A B : Nat} (ha : A ∈ l) (hb : B ∈ l) (hn : A ≠ B) : A ∈ l.dropLast ∨ B ∈ l.dropLast := by
  have hne : l ≠ [] := fun z => by rw [z] at ha; cases ha
  have e := List.dropLast_concat_getLast hne
  rw [← e] at ha hb
  rcases List.mem_append.mp ha with h | h
  · exact .inl h
  rcases List.mem_append.mp hb with h2 | h2
  · exact .inr h2
  · exact absurd ((List.mem_singleton.mp h).trans (List.mem_singleton.mp h2).symm) hn
theorem cutV_last {xs : List V} : cutV xs none (some (-1)) = xs.dropLast := by
  unfold cutV
  rw [HT.sIx_none, List.drop_zero]
  have : HT.sIx xs.length xs.length (some (-1)) = xs.length - 1 := by
    show (if (-1 : Int) < 0 then ((-1 : Int) + (xs.length : Int)).toNat else min (-1 : Int).toNat xs.length) = _
    rw [if_pos (by decide)]
    omega
  rw [this, List.dropLast_eq_take]
  rfl
theorem yes_i {σ : L2.St} {H : Hp} {A B : Hp → Prop} (h : A H) : tYes σ H (fun b H3 => if b = true then A H3 else B H3) := iteT (B := B H) h
section
variable {P : Program} {w : World} {K : PySem.W.Frag} {mg : Str → Option Value} {base : Heap}
theorem ok_wid {f : Addr} {fd : FuncData} (F : Fun K "all_but_a_widest" "all_but_a_widest" s_all_but_a_widest f fd)
    (g_sorted : mg "sorted" = none) (g_len : mg "len" = none) (g_range : mg "range" = none) : FnOk P w K mg base CX0 1 f fd ["members"] (spWid K) := by
  refine F.ok sc_all_but_a_widest (fun vs H Q E h => ?_) (fun cdv A outer s H vs Q E hr h => ?_)
  · obtain ⟨me, pm, as, xss, rfl, _⟩ := h
    rfl
  · obtain ⟨me, pm, as, xss, rfl, hme, L, hz, q⟩ := h
    have nd := sc_all_but_a_widest.nd
    have hu := hu_of hr
    refine ⟨_, (pss_cons (ps_set (i := 1) nd rfl (Or.inl rfl) (pe_callB cr_sortedP (by rfl) g_sorted (by decide +kernel) (pa_cons (pe_lc (own := [("lot", 2)]) (g := gName 2) (tt := tYes) (by rfl) nd (pi_range1 (by rfl) g_range (pa_cons (pe_callB call_len (by rfl) g_len PySem.boot_len (pa_cons (pv 0) pa_nil)) pa_nil)) (blkOk_by (own := [("lot", 2)]) (N := ["members", "ascending", "lot", "_"]) (sc := defScope s_all_but_a_widest) (by decide +kernel)) (fun _ _ _ _ _ => (pg_name (i := 2) nd rfl (Or.inl rfl))) (fun _ _ _ _ _ => pts_nil) (fun _ _ _ _ _ => (pe_tup (pa_cons (pe_callB (show CallR _ _ (rLen K) from call_len) (by rfl) g_len PySem.boot_len (pa_cons (pe_ix (show IxR _ (rIxL K) from ix_list) (pv 0) (pv 2) (fun _ _ => rfl)) pa_nil)) (pa_cons (pv 2) pa_nil))))) pa_nil)))
      (pss_one (ps_ret (pe_lc (own := [("_", 3), ("lot", 2)]) (tt := tYes) (by rfl) nd (pi_list (pe_slice sl_list (pv 1) po_none (po_some (pe_un un_neg pe_int)))) (blkOk_by (own := [("_", 3), ("lot", 2)]) (N := ["members", "ascending", "lot", "_"]) (sc := defScope s_all_but_a_widest) (by decide +kernel)) (fun _ _ _ _ _ => (show PG _ _ (gTup K 2 (gCons (gName 3) (gCons (gName 2) gNil))) from pg_tup rfl (pgs_cons (pg_name (i := 3) nd rfl (Or.inl rfl)) (pgs_cons (pg_name (i := 2) nd rfl (Or.inl rfl)) pgs_nil)))) (fun _ _ _ _ _ => pts_nil) (fun _ _ _ _ _ => (pv 2)))))), ?_⟩
    have hk : as.length = xss.length := L.len
    refine ⟨_, rfl, _, xss.length, rfl, .inl ⟨_, SqL.of hme, by rw [List.length_map, hk]⟩, _, rfl, by omega, by omega, fun D hD => ?_⟩
    have nD : ∀ {x : Addr} {o : HO}, H x = some o → x ≠ D := fun e => ne_of_none e hD
    refine lc_range (lo := 0) (n := xss.length) (fun i H' => Same H H' ∧ ∃ ts, ts.length = i ∧ H' D = some (.lst (ts.map V.ref)) ∧ (∀ t, t ∈ ts → t ≠ D) ∧ ∀ j t, ts[j]? = some t → ∃ n : Int, H' t = some (.tup [.int n, .int (j : Nat)]))
      ⟨fun x o e => by rw [upd_ne (nD e)]; exact e, [], rfl, upd_same, fun t h => absurd h List.not_mem_nil, fun j t e => by simp at e⟩ ?_ ?_
    · rintro i H' hi ⟨sm, ts, hl, hd, hnd, hc⟩
      refine ⟨rfl, ?_⟩
      refine yes_i ?_
      obtain ⟨a, ea, _, em, ec⟩ := L.get hi
      refine ⟨_, rfl, _, rfl, me, _, _, V.ref a, rfl, rfl, SqL.of (sm _ _ hme), by rw [Int.zero_add]; exact atI_nat em, _, _, rfl, .inl ⟨_, SqL.of (sm _ _ ec), rfl⟩, _, rfl, by show 2 ≤ sizeLine; decide, fun t ht => ?_⟩
      have tD : D ≠ t := ne_of_none hd ht
      refine ⟨_, by rw [upd_ne tD]; exact hd, by rw [List.length_map, sizeLine_eq]; omega, fun x o e => by rw [upd_ne (nD e), upd_ne (ne_of_none (sm _ _ e) ht)]; exact sm _ _ e, ts ++ [t], by simp [hl], by rw [upd_same]; simp, fun x hx => ?_, fun j x e => ?_⟩
      · rcases List.mem_append.mp hx with m | m
        · exact hnd x m
        · rw [List.mem_singleton.mp m]; exact tD.symm
      · by_cases cj : j < ts.length
        · rw [List.getElem?_append_left cj] at e
          obtain ⟨n, hn⟩ := hc j x e
          exact ⟨n, by rw [upd_ne (hnd x (List.mem_of_getElem? e)), upd_ne (ne_of_none hn ht)]; exact hn⟩
        · rw [List.getElem?_append_right (by omega)] at e
          have e0 : j - ts.length = 0 := by
            by_cases z : j - ts.length = 0
            · exact z
            · rw [List.getElem?_eq_none (by simp; omega)] at e; cases e
          rw [e0] at e
          have := Option.some.inj e
          subst this
          have ej : j = i := by omega
          subst ej
          exact ⟨_, by rw [upd_ne tD.symm, upd_same, Int.zero_add]⟩
    · rintro H1 ⟨s1, ts, hl, hd, hnd, hc⟩
      refine ⟨D, _, rfl, SqL.of hd, fun x hx => ?_, fun ys p hp np => ?_⟩
      · obtain ⟨t, ht, e⟩ := List.mem_map.mp hx
        obtain ⟨j, hj⟩ := List.getElem?_of_mem ht
        obtain ⟨n, hn⟩ := hc j t hj
        exact ⟨t, n, _, e.symm, hn⟩
      -- what stands in the sorted list
      have hys : (ys.map (lotOf H1)).Perm (List.range xss.length) := by
        refine (hp.map _).trans ?_
        rw [List.map_map]
        refine (List.Perm.of_eq ?_)
        refine List.ext_getElem? fun j => ?_
        rw [List.getElem?_map]
        by_cases cj : j < ts.length
        · have ej := List.getElem?_eq_getElem cj
          obtain ⟨n, hn⟩ := hc j _ ej
          rw [ej, List.getElem?_range (by omega)]
          show some (lotOf H1 (V.ref ts[j])) = some j
          rw [lotOf_ref hn]
        · rw [List.getElem?_eq_none (by omega), List.getElem?_eq_none (by rw [List.length_range]; omega)]
          rfl
      have hyl : ys.length = xss.length := by have := hys.length_eq; rw [List.length_map, List.length_range] at this; exact this
      have hyt : ∀ y, y ∈ ys → ∃ t, y = V.ref t ∧ ∃ n : Int, H1 t = some (.tup [.int n, .int (lotOf H1 y : Nat)]) := by
        intro y hy
        have hm := hp.mem_iff.mp hy
        obtain ⟨t, ht, e⟩ := List.mem_map.mp hm
        obtain ⟨j, hj⟩ := List.getElem?_of_mem ht
        obtain ⟨n, hn⟩ := hc j t hj
        refine ⟨t, e.symm, n, ?_⟩
        rw [← e, lotOf_ref hn]
        exact hn
      have np1 : H p = none := s1.free np
      refine ⟨_, rfl, _, rfl, _, rfl, p, ys, rfl, SqL.of upd_same, fun R hR => ⟨R, rfl, ⟨_, SqL.of upd_same⟩, fun D2 hD2 => ?_⟩⟩
      rw [cutV_last] at hD2 ⊢
      have hdl : (nv ((ys.map (lotOf H1)).dropLast)).length = xss.length - 1 := by rw [nv_len, List.length_dropLast, List.length_map, hyl]
      have sR : ∀ {x : Addr} {o : HO}, H1 x = some o → upd (upd H1 p (.lst ys)) R (.lst ys.dropLast) x = some o := fun {x o} e => by
        have h1 : upd H1 p (.lst ys) x = some o := by rw [upd_ne (ne_of_none e np)]; exact e
        rw [upd_ne (ne_of_none h1 hR)]; exact h1
      generalize hHR : upd (upd H1 p (.lst ys)) R (.lst ys.dropLast) = HR at *
      have topR : HR R = some (.lst ys.dropLast) := by rw [← hHR, upd_same]
      have RD : R ≠ D2 := ne_of_none topR hD2
      refine lc_list (K := K) (a := R) (xs := ys.dropLast) (fun i H' => H' D2 = some (.lst (nv (((ys.map (lotOf H1)).dropLast).take i))) ∧ ∀ x o, x ≠ D2 → HR x = some o → H' x = some o)
        ⟨upd_same, fun x o hx e => by rw [upd_ne hx]; exact e⟩ (fun i H' _ ⟨_, kp⟩ => SqL.of (kp _ _ RD topR)) ?_ ?_
      · rintro i y H' hi ⟨hd2, kp⟩
        have hyi : y ∈ ys := (List.dropLast_sublist _).subset (List.mem_of_getElem? hi)
        obtain ⟨t, rfl, n, ht⟩ := hyt y hyi
        have ht' : H' t = some (.tup [.int n, .int (lotOf H1 (.ref t) : Nat)]) := kp _ _ (ne_of_none (sR ht) hD2) (sR ht)
        refine ⟨t, _, rfl, SqT.of ht', rfl, ?_⟩
        refine ⟨_, _, rfl, _, _, rfl, rfl, rfl, ?_⟩
        refine yes_i ?_
        have hli : ((ys.map (lotOf H1)).dropLast)[i]? = some (lotOf H1 (.ref t)) := by
          rw [← List.map_dropLast, List.getElem?_map, hi]; rfl
        have hll : (((ys.map (lotOf H1)).dropLast).take i).length ≤ 50000 := by
          rw [List.length_take, List.length_dropLast, List.length_map, hyl]; omega
        refine ⟨_, rfl, _, hd2, by rw [nv_len, sizeLine_eq]; omega, ?_, fun x o hx e => by rw [upd_ne hx]; exact kp x o hx e⟩
        rw [upd_same, take_snoc hli, nv_snoc]
      · rintro H' ⟨hd2, kp⟩
        have e0 : ys.dropLast.length = ((ys.map (lotOf H1)).dropLast).length := by rw [← List.map_dropLast, List.length_map]
        rw [e0, List.take_length] at hd2
        have D2n : H D2 = none := by
          cases e : H D2 with
          | none => rfl
          | some o => rw [sR (s1 _ _ e)] at hD2; cases hD2
        refine q D2 _ H' D2n (fun x o e => kp _ _ (ne_of_none e D2n) (sR (s1 _ _ e))) hd2 (fun l hl => ?_) (fun A B hA hB hAB => ?_) ?_
        · exact List.mem_range.mp (hys.mem_iff.mp ((List.dropLast_sublist _).subset hl))
        · exact but_one (hys.mem_iff.mpr (List.mem_range.mpr hA)) (hys.mem_iff.mpr (List.mem_range.mpr hB)) hAB
        · rw [List.length_dropLast, List.length_map, hyl]; omega

end
end B

namespace B
open PySem L2 MK Hop
def tLenL (K : PySem.W.Frag) (te : TE) : TE := tCB (rLen K) (tCons te tNil)
def rLtV : R2 := rI0 fun i j => .bl (decide (i < j))
/-- one lot that is hit -/
def tBody (K : PySem.W.Frag) : TS :=
  tIfS (tTest (tOp rLtV (tLenL K (tDGet (tVar 10) (tVar 11))) (tLenL K (tOp (rIxL K) (tVar 4) (tVar 11)))))
    (tSeq (tFor (iList K (tDGet (tVar 10) (tVar 11))) (gName 12) (tAsg (tLenL K (tVar 4)) (gSub (tVar 3) (tVar 12) rSetL)))
    (tSeq (tAsg (tLc (iList K (tOp (rIxL K) (tVar 4) (tVar 11))) (gName 12) (tTest (tOp rEq (tOp (rIxL K) (tVar 3) (tVar 12)) (tVar 11))) (tVar 12) [12]) (gSub (tVar 4) (tVar 11) rSetL))
    (tSeq (tIfS (tAnd (tTest (tOp (rIn K true) (tVar 11) (tVar 7))) (tTest (tOp rLtV (tLenL K (tOp (rIxL K) (tVar 4) (tVar 11))) (tLenL K (tDGet (tVar 10) (tVar 11))))))
        (tDrop (tBM K "list" rAppend (tVar 7) (tCons (tVar 11) tNil))) (tDrop (tBM K "list" rAppend (tVar 7) (tCons (tLenL K (tVar 4)) tNil))))
      (tDrop (tBM K "list" rAppend (tVar 4) (tCons (tDGet (tVar 10) (tVar 11)) tNil)))))) tNext
/-- what is left as it was: all but three lists -/
def Kp (lo me wa : Addr) (H H' : Hp) : Prop := ∀ b o, b ≠ lo → b ≠ me → b ≠ wa → H b = some o → H' b = some o
theorem Kp.refl (lo me wa : Addr) (H : Hp) : Kp lo me wa H H := fun _ _ _ _ _ e => e
theorem Kp.trans {lo me wa : Addr} {H H1 H2 : Hp} (a : Kp lo me wa H H1) (b : Kp lo me wa H1 H2) : Kp lo me wa H H2 := fun c o x y z e => b c o x y z (a c o x y z e)
theorem nv_in {xs : List Nat} {x : Nat} : inV (.int (x : Int)) (nv xs) = xs.contains x := by
  unfold inV nv
  rw [List.any_map]
  rw [Bool.eq_iff_iff, List.any_eq_true, List.contains_iff_mem]
  constructor
  · rintro ⟨y, hy, e⟩
    have e' : ((y : Int) == (x : Int)) = true := e
    have : y = x := by have := eq_of_beq e'; omega
    exact this ▸ hy
  · intro h
    exact ⟨x, h, by show ((x : Int) == (x : Int)) = true; exact beq_self_eq_true _⟩
theorem nv_flat (xs : List Nat) : (nv xs).all flatV = true := by
  rw [List.all_eq_true]
  intro v hv
  obtain ⟨x, _, e⟩ := List.mem_map.mp hv
  subst e
  rfl
theorem filter_take_snoc {α : Type} {l : List α} {p : α → Bool} {i : Nat} {x : α} (h : l[i]? = some x) : (l.take (i + 1)).filter p = (l.take i).filter p ++ (if p x = true then [x] else []) := by
  rw [take_snoc h, List.filter_append]
  congr 1
  by_cases c : p x = true
  · simp [c]
  · simp [c]
theorem setAll_snoc (lots hs : List Nat) (m s : Nat) : setAll lots (hs ++ [s]) m = (setAll lots hs m).set s m := by simp [setAll, List.foldl_append]
theorem body_run {K : PySem.W.Frag} {D : Ends} {H : Hp} {s0 s1 s2 s5 s6 s10 s11 s13 : Option V} {lo me wa d ha : Addr} {L : Nat} {as : List Addr} {σs : Hop.S} {hs : List Nat} {od : Obj} {kvs : List (Key × V)}
    (p : PtAt H lo me wa as σs) (hd : H d = some (.frz od (.dK kvs))) (hv : valV kvs (Sum.inl (L : Int)) = some (.ref ha)) (hh : H ha = some (.lst (nv hs))) (h1 : ha ≠ lo) (h2 : ha ≠ me) (h3 : ha ≠ wa)
    (hL : L < σs.members.length) (hsb : ∀ s, s ∈ hs → s < σs.lots.length) (hmb : ∀ s, s ∈ Hop.mem σs L → s < σs.lots.length) (z1 : σs.members.length < 100000) (z2 : σs.waiting.length < 200000) (z3 : hs.length ≤ 100000) (z4 : (Hop.mem σs L).length ≤ 100000)
    (k : ∀ (v : Option V) (H' : Hp) (as' : List Addr), PtAt H' lo me wa as' (split σs L hs) → Kp lo me wa H H' → (∀ a, a ∈ as' → a ∈ as ∨ a = ha ∨ H a = none) → D.nx [s0, s1, s2, some (.ref lo), some (.ref me), s5, s6, some (.ref wa), s10, s11, some (.ref d), some (.int L), v] H') :
    tBody K D [s0, s1, s2, some (.ref lo), some (.ref me), s5, s6, some (.ref wa), s10, s11, some (.ref d), some (.int L), s13] H := by
  have hLa : L < as.length := by rw [p.len]; exact hL
  have eA := List.getElem?_eq_getElem hLa
  obtain ⟨ca, cn1, cn2, cn3⟩ := p.cell L _ eA
  have eAr : (as.map V.ref)[L]? = some (V.ref as[L]) := by simp [hLa]
  have dne : ∀ {a : Addr} {xs : List V}, H a = some (.lst xs) → d ≠ a := fun e => ne_of hd e (fun z => by cases z)
  have dlo := dne p.lots
  have dme := dne p.top
  have dwa := dne p.wait
  have gd : ∀ {H' : Hp}, H' d = some (.frz od (.dK kvs)) → DGet H' d (.int L) (some (.ref ha)) := fun {H'} e => .inl ⟨kvs, Sum.inl (L : Int), .inr ⟨od, e⟩, rfl, hv.symm⟩
  refine ⟨_, rfl, _, rfl, d, _, rfl, gd hd, _, hs.length, rfl, .inl ⟨_, SqL.of hh, (nv_len hs).symm⟩, ?_⟩
  refine ⟨_, rfl, _, rfl, me, _, _, _, rfl, rfl, SqL.of p.top, atI_nat eAr, _, (Hop.mem σs L).length, rfl, .inl ⟨_, SqL.of ca, (nv_len _).symm⟩, _, _, rfl, rfl, _, rfl, ?_⟩
  by_cases c : hs.length < (Hop.mem σs L).length
  · have c' : ((hs.length : Int) < ((Hop.mem σs L).length : Int)) := by omega
    rw [decide_eq_true c']
    refine iteT ?_
    -- for state in hit[lot]: lots[state] = len(members)
    refine ⟨_, rfl, _, rfl, d, _, rfl, gd hd, ha, rfl, ⟨_, SqL.of hh⟩, for_list (K := K) (a := ha) (xs := nv hs) (fun i σ H2 => ∃ v : Option V, σ = [s0, s1, s2, some (.ref lo), some (.ref me), s5, s6, some (.ref wa), s10, s11, some (.ref d), some (.int L), v] ∧ H2 lo = some (.lst (nv (setAll σs.lots (hs.take i) σs.members.length))) ∧ ∀ b o, b ≠ lo → H b = some o → H2 b = some o)
      ⟨s13, rfl, p.lots, fun _ _ _ e => e⟩ (fun i σ H2 _ ⟨_, _, _, kp⟩ => SqL.of (kp _ _ h1 hh)) ?_ ?_⟩
    · rintro i y σ H2 hi ⟨v, rfl, hlo, kp⟩
      obtain ⟨x, hx, rfl⟩ := nv_at hi
      have hxm : x ∈ hs := List.mem_of_getElem? hx
      have hxl := hsb x hxm
      refine ⟨_, rfl, _, σs.members.length, rfl, .inl ⟨_, SqL.of (kp _ _ p.ne1.symm p.top), by rw [List.length_map, p.len]⟩, ?_⟩
      refine ⟨_, rfl, _, rfl, lo, _, _, x, rfl, rfl, hlo, Evl.ixN_nat (by rw [nv_len, setAll_len]; exact hxl), some (.int x), rfl, ?_, fun b o hb e => by rw [upd_ne hb]; exact kp b o hb e⟩
      rw [upd_same, nv_set, take_snoc hx, setAll_snoc]
    · rintro σ H2 ⟨v, rfl, hlo, kp⟩
      rw [nv_len, List.take_length] at hlo
      have lots' := hlo
      -- members[lot] = [state for state in members[lot] if lots[state] == lot]
      have top2 := kp _ _ p.ne1.symm p.top
      have ca2 := kp _ _ cn1 ca
      have hd2 := kp _ _ dlo hd
      refine ⟨_, rfl, _, rfl, me, _, _, _, rfl, rfl, SqL.of top2, atI_nat eAr, as[L], rfl, ⟨_, SqL.of ca2⟩, fun R hR => ?_⟩
      have Rn : ∀ {b : Addr} {o : HO}, H2 b = some o → b ≠ R := fun e => ne_of_none e hR
      refine lc_list (K := K) (a := as[L]) (xs := nv (Hop.mem σs L)) (fun i H3 => H3 R = some (.lst (nv (((Hop.mem σs L).take i).filter fun s => (setAll σs.lots hs σs.members.length).getD s 0 == L))) ∧ ∀ b o, b ≠ R → H2 b = some o → H3 b = some o)
        ⟨upd_same, fun b o hb e => by rw [upd_ne hb]; exact e⟩ (fun i H3 _ ⟨_, kp3⟩ => SqL.of (kp3 _ _ (Rn ca2) ca2)) ?_ ?_
      · rintro i y H3 hi ⟨hR3, kp3⟩
        obtain ⟨x, hx, rfl⟩ := nv_at hi
        have hxm : x ∈ Hop.mem σs L := List.mem_of_getElem? hx
        have hxl := hmb x hxm
        have lo3 := kp3 _ _ (Rn lots') lots'
        have hsl : x < (setAll σs.lots hs σs.members.length).length := by rw [setAll_len]; exact hxl
        have hget : (setAll σs.lots hs σs.members.length)[x]? = some (setAll σs.lots hs σs.members.length)[x] := List.getElem?_eq_getElem hsl
        have egd : (setAll σs.lots hs σs.members.length).getD x 0 = (setAll σs.lots hs σs.members.length)[x] := by simp [List.getD_eq_getElem?_getD, hsl]
        refine ⟨rfl, _, rfl, _, rfl, lo, _, _, V.int ((setAll σs.lots hs σs.members.length)[x] : Nat), rfl, rfl, SqL.of lo3, atI_nat (nv_get hget), _, rfl, rfl, _, rfl, ?_⟩
        have fl : (((Hop.mem σs L).take i).filter fun s => (setAll σs.lots hs σs.members.length).getD s 0 == L).length ≤ 100000 := by
          refine Nat.le_trans (List.length_filter_le _ _) ?_
          rw [List.length_take]; omega
        have ef := filter_take_snoc (p := fun s => (setAll σs.lots hs σs.members.length).getD s 0 == L) hx
        rw [egd] at ef
        by_cases e : (setAll σs.lots hs σs.members.length)[x] = L
        · rw [e, decide_eq_true (show V.int (L : Int) = V.int (L : Int) from rfl)]
          refine iteT ⟨_, rfl, _, hR3, by rw [nv_len, sizeLine_eq]; omega, ?_, fun b o hb e => by rw [upd_ne hb]; exact kp3 b o hb e⟩
          rw [upd_same, nv_snoc, ef, e]
          simp
        · have ne : ¬ (V.int ((setAll σs.lots hs σs.members.length)[x] : Nat) = V.int (L : Int)) := fun z => e (by have := V.int.inj z; omega)
          rw [decide_eq_false ne]
          refine iteF ⟨?_, kp3⟩
          rw [hR3, ef]
          have : (((setAll σs.lots hs σs.members.length)[x] : Nat) == L) = false := by simpa using e
          rw [this]
          simp
      · rintro H3 ⟨hR3, kp3⟩
        rw [nv_len, List.take_length] at hR3
        have top3 := kp3 _ _ (Rn top2) top2
        have lo3 := kp3 _ _ (Rn lots') lots'
        have wa2 := kp _ _ p.ne2.symm p.wait
        have wa3 := kp3 _ _ (Rn wa2) wa2
        have hd3 := kp3 _ _ (Rn hd2) hd2
        have hh2 := kp _ _ h1 hh
        have hh3 := kp3 _ _ (Rn hh2) hh2
        have RH : H R = none := by
          cases e : H R with
          | none => rfl
          | some o =>
            by_cases z : R = lo
            · rw [z, lots'] at hR; cases hR
            · rw [kp R o z e] at hR; cases hR
        have Rlo : lo ≠ R := Rn lots'
        have Rme : me ≠ R := Rn top2
        have Rwa : wa ≠ R := Rn wa2
        have Rha : ha ≠ R := Rn hh2
        have Rd : d ≠ R := Rn hd2
        refine ⟨_, rfl, _, rfl, me, _, _, L, rfl, rfl, top3, Evl.ixN_nat (by rw [List.length_map]; exact hLa), ?_⟩
        -- the heap now
        generalize hH4 : upd H3 me (.lst ((as.map V.ref).set L (.ref R))) = H4
        have g4 : ∀ {b : Addr}, b ≠ me → H4 b = H3 b := fun hb => by rw [← hH4, upd_ne hb]
        have top4 : H4 me = some (.lst ((as.set L R).map V.ref)) := by rw [← hH4, upd_same, List.map_set]
        have R4 : H4 R = some (.lst (nv ((Hop.mem σs L).filter fun s => (setAll σs.lots hs σs.members.length).getD s 0 == L))) := by rw [g4 Rme.symm]; exact hR3
        have wa4 : H4 wa = some (.lst (nv σs.waiting)) := by rw [g4 p.ne3.symm]; exact wa3
        have lo4 : H4 lo = some (.lst (nv (setAll σs.lots hs σs.members.length))) := by rw [g4 p.ne1]; exact lo3
        have hh4 : H4 ha = some (.lst (nv hs)) := by rw [g4 h2]; exact hh3
        have hd4 : H4 d = some (.frz od (.dK kvs)) := by rw [g4 dme]; exact hd3
        have eR : ((as.set L R).map V.ref)[L]? = some (V.ref R) := by simp [hLa]
        have kp4 : ∀ b o, b ≠ lo → b ≠ me → b ≠ R → H b = some o → H4 b = some o := fun b o x1 x2 x3 e => by rw [g4 x2]; exact kp3 b o x3 (kp b o x1 e)
        -- the last step: members.append(hit[lot]), behind a new waiting list
        have last : ∀ (w' : List Nat) (H5 : Hp), H5 wa = some (.lst (nv w')) → (∀ b o, b ≠ wa → H4 b = some o → H5 b = some o) → (split σs L hs).waiting = w' →
            (tDrop (tBM K "list" rAppend (tVar 4) (tCons (tDGet (tVar 10) (tVar 11)) tNil))) D [s0, s1, s2, some (.ref lo), some (.ref me), s5, s6, some (.ref wa), s10, s11, some (.ref d), some (.int L), v] H5 := by
          intro w' H5 hw kp5 ew
          have top5 := kp5 _ _ p.ne3 top4
          have hd5 := kp5 _ _ dwa hd4
          refine ⟨_, rfl, .inl ⟨rfl, _, SqL.of top5⟩, _, rfl, _, rfl, d, _, rfl, gd hd5, me, _, _, rfl, rfl, top5, (by rw [List.length_map, List.length_set, sizeLine_eq, p.len]; omega), ?_⟩
          refine k v _ ((as.set L R) ++ [ha]) ⟨?_, ?_, ?_, ?_, ?_, p.ne1, p.ne2, p.ne3⟩ ?_ ?_
          · rw [upd_ne p.ne1, kp5 _ _ p.ne2 lo4]
            unfold split
            rw [if_pos c]
          · rw [upd_same]
            simp
          · unfold split
            rw [if_pos c]
            simp [p.len]
          · rw [upd_ne p.ne3.symm, hw, ew]
          · intro l a e
            have ms : (split σs L hs).members = σs.members.set L ((Hop.mem σs L).filter fun s => (setAll σs.lots hs σs.members.length).getD s 0 == L) ++ [hs] := by
              unfold split
              rw [if_pos c]
            rw [ms]
            by_cases cl : l < as.length
            · rw [List.getElem?_append_left (by rw [List.length_set]; exact cl)] at e
              have clm : l < σs.members.length := by rw [← p.len]; exact cl
              have eg : (σs.members.set L ((Hop.mem σs L).filter fun s => (setAll σs.lots hs σs.members.length).getD s 0 == L) ++ [hs]).getD l [] = (σs.members.set L ((Hop.mem σs L).filter fun s => (setAll σs.lots hs σs.members.length).getD s 0 == L)).getD l [] := by
                rw [List.getD_eq_getElem?_getD, List.getD_eq_getElem?_getD, List.getElem?_append_left (by rw [List.length_set]; exact clm)]
              rw [eg]
              by_cases cL : L = l
              · subst cL
                rw [List.getElem?_set_self hLa] at e
                have := Option.some.inj e
                subst this
                refine ⟨?_, Rlo.symm, Rme.symm, Rwa.symm⟩
                rw [upd_ne Rme.symm, kp5 _ _ Rwa.symm R4, List.getD_eq_getElem?_getD, List.getElem?_set_self hL]
                rfl
              · rw [List.getElem?_set_ne cL] at e
                obtain ⟨x1, x2, x3, x4⟩ := p.cell l a e
                refine ⟨?_, x2, x3, x4⟩
                have aR : a ≠ R := ne_of_none x1 RH
                rw [upd_ne x3, kp5 _ _ x4 (kp4 _ _ x2 x3 aR x1), List.getD_eq_getElem?_getD, List.getD_eq_getElem?_getD, List.getElem?_set_ne cL]
            · rw [List.getElem?_append_right (by rw [List.length_set]; omega), List.length_set] at e
              have e0 : l - as.length = 0 := by
                by_cases z : l - as.length = 0
                · exact z
                · rw [List.getElem?_eq_none (by simp; omega)] at e; cases e
              rw [e0] at e
              have := Option.some.inj e
              subst this
              have el : l = σs.members.length := by rw [← p.len]; omega
              refine ⟨?_, h1, h2, h3⟩
              rw [upd_ne h2, kp5 _ _ h3 hh4, el, List.getD_eq_getElem?_getD, List.getElem?_append_right (by simp)]
              simp
          · intro b o x1 x2 x3 e
            rw [upd_ne x2]
            exact kp5 _ _ x3 (kp4 b o x1 x2 (ne_of_none e RH) e)
          · intro a ha'
            rcases List.mem_append.mp ha' with q | q
            · rcases List.mem_or_eq_of_mem_set q with q | q
              · exact .inl q
              · exact .inr (.inr (by rw [q]; exact RH))
            · exact .inr (.inl (List.mem_singleton.mp q))
        -- if lot not in waiting and len(members[lot]) < len(hit[lot])
        have ew : (split σs L hs).waiting = σs.waiting ++ [if !σs.waiting.contains L && decide (((Hop.mem σs L).filter fun s => (setAll σs.lots hs σs.members.length).getD s 0 == L).length < hs.length) then L else σs.members.length] := by
          unfold split
          rw [if_pos c]
        have wl : (nv σs.waiting).length < sizeLine := by rw [nv_len, sizeLine_eq]; omega
        have app : ∀ (x : Nat), (if !σs.waiting.contains L && decide (((Hop.mem σs L).filter fun s => (setAll σs.lots hs σs.members.length).getD s 0 == L).length < hs.length) then L else σs.members.length) = x →
            (tDrop (tBM K "list" rAppend (tVar 4) (tCons (tDGet (tVar 10) (tVar 11)) tNil))) D [s0, s1, s2, some (.ref lo), some (.ref me), s5, s6, some (.ref wa), s10, s11, some (.ref d), some (.int L), v] (upd H4 wa (.lst (nv σs.waiting ++ [V.int x]))) := by
          intro x ex
          refine last (σs.waiting ++ [x]) _ (by rw [upd_same, nv_snoc]) (fun b o hb e => by rw [upd_ne hb]; exact e) (by rw [ew, ex])
        have appM : (tDrop (tBM K "list" rAppend (tVar 7) (tCons (tLenL K (tVar 4)) tNil))) { D with nx := tDrop (tBM K "list" rAppend (tVar 4) (tCons (tDGet (tVar 10) (tVar 11)) tNil)) D } [s0, s1, s2, some (.ref lo), some (.ref me), s5, s6, some (.ref wa), s10, s11, some (.ref d), some (.int L), v] H4 ∨ (!σs.waiting.contains L && decide (((Hop.mem σs L).filter fun s => (setAll σs.lots hs σs.members.length).getD s 0 == L).length < hs.length)) = true := by
          by_cases z : (!σs.waiting.contains L && decide (((Hop.mem σs L).filter fun s => (setAll σs.lots hs σs.members.length).getD s 0 == L).length < hs.length)) = true
          · exact .inr z
          · refine .inl ⟨_, rfl, .inl ⟨rfl, _, SqL.of wa4⟩, _, rfl, _, σs.members.length, rfl, .inl ⟨_, SqL.of top4, by rw [List.length_map, List.length_set, p.len]⟩, wa, _, _, rfl, rfl, wa4, wl, ?_⟩
            exact app σs.members.length (by rw [if_neg z])
        refine ⟨_, rfl, _, rfl, wa, _, rfl, .inl (SqL.of wa4), rfl, nv_flat _, _, rfl, ?_⟩
        by_cases cw : σs.waiting.contains L = true
        · have e1 : (!inV (.int (L : Int)) (nv σs.waiting)) = false := by rw [nv_in, cw]; rfl
          show (if (if true = true then !inV (.int (L : Int)) (nv σs.waiting) else inV (.int (L : Int)) (nv σs.waiting)) = true then _ else _)
          rw [if_pos rfl, e1]
          refine iteF ?_
          refine iteF ?_
          rcases appM with z | z
          · exact z
          · rw [cw] at z; cases z
        · have cw' : σs.waiting.contains L = false := by simpa using cw
          have e1 : (!inV (.int (L : Int)) (nv σs.waiting)) = true := by rw [nv_in, cw']; rfl
          show (if (if true = true then !inV (.int (L : Int)) (nv σs.waiting) else inV (.int (L : Int)) (nv σs.waiting)) = true then _ else _)
          rw [if_pos rfl, e1]
          refine iteT ?_
          refine ⟨_, rfl, _, rfl, me, _, _, _, rfl, rfl, SqL.of top4, atI_nat eR, _, ((Hop.mem σs L).filter fun s => (setAll σs.lots hs σs.members.length).getD s 0 == L).length, rfl, .inl ⟨_, SqL.of R4, (nv_len _).symm⟩, ?_⟩
          refine ⟨_, rfl, _, rfl, d, _, rfl, gd hd4, _, hs.length, rfl, .inl ⟨_, SqL.of hh4, (nv_len _).symm⟩, _, _, rfl, rfl, _, rfl, ?_⟩
          by_cases cz : ((Hop.mem σs L).filter fun s => (setAll σs.lots hs σs.members.length).getD s 0 == L).length < hs.length
          · rw [decide_eq_true (show ((((Hop.mem σs L).filter fun s => (setAll σs.lots hs σs.members.length).getD s 0 == L).length : Nat) : Int) < (hs.length : Int) by omega)]
            refine iteT ?_
            refine ⟨_, rfl, .inl ⟨rfl, _, SqL.of wa4⟩, _, rfl, wa, _, _, rfl, rfl, wa4, wl, ?_⟩
            exact app L (by rw [cw', decide_eq_true cz]; rfl)
          · rw [decide_eq_false (show ¬ ((((Hop.mem σs L).filter fun s => (setAll σs.lots hs σs.members.length).getD s 0 == L).length : Nat) : Int) < (hs.length : Int) by omega)]
            refine iteF ?_
            rcases appM with z | z
            · exact z
            · rw [decide_eq_false cz] at z; simp at z
  · have c' : ¬ ((hs.length : Int) < ((Hop.mem σs L).length : Int)) := by omega
    rw [decide_eq_false c']
    refine iteF ?_
    refine k s13 H as (by rw [split_not c]; exact p) (Kp.refl _ _ _ _) fun a ha => .inl ha
end B

namespace B
open PySem L2 MK Hop
theorem PtAt.kp {H H' : Hp} {lo me wa : Addr} {as : List Addr} {σs : Hop.S} (p : PtAt H lo me wa as σs) (s : Same H H') : PtAt H' lo me wa as σs :=
  ⟨s _ _ p.lots, s _ _ p.top, p.len, s _ _ p.wait, fun l a e => ⟨s _ _ (p.cell l a e).1, (p.cell l a e).2⟩, p.ne1, p.ne2, p.ne3⟩
/-- all lots that are hit by one figure -/
theorem hits_run {K : PySem.W.Frag} {D : Ends} {H : Hp} {s0 s1 s2 s5 s6 s8 s10 s11 s13 : Option V} {lo me wa d : Addr} {as hs : List Addr} {σ0 : Hop.S} {od : Obj} {xs : List Nat}
    {M : Type} {n b fi m0 : Nat} {step : Nat → Nat → Nat} {mark : Nat → M} {R : Nat → Nat → Prop} {P : Nat → Bool}
    (p : PtAt H lo me wa as σ0) (hd : H d = some (.frz od (.dK (kvD (group σ0.lots [] xs) hs)))) (hlen : hs.length = (group σ0.lots [] xs).length)
    (hcell : ∀ (i : Nat) (a : Addr) (k : Nat) (v : List Nat), hs[i]? = some a → (group σ0.lots [] xs)[i]? = some (k, v) → H a = some (.lst (nv v)) ∧ a ≠ lo ∧ a ≠ me ∧ a ≠ wa)
    (c0 : Carry n b step mark R P fi σ0) (hfi : fi < b) (hst : ∀ s a, s < n → a < b → step s a < n) (hR : ∀ s t, s < n → t < n → R s t → P (step s fi) = P (step t fi))
    (hxn : xs.Nodup) (hT : ∀ s, s ∈ xs ↔ s < n ∧ P (step s fi) = true) (hm : meas n σ0 ≤ m0) (hn : n ≤ 50000) (hm0 : m0 ≤ 150000)
    (k : ∀ (v8 v13 : Option V) (H' : Hp) (as' : List Addr) (σs : Hop.S), PtAt H' lo me wa as' σs → Kp lo me wa H H' → Carry n b step mark R P (fi + 1) σs → meas n σs ≤ m0 →
      D.nx [s0, s1, s2, some (.ref lo), some (.ref me), s5, s6, some (.ref wa), s10, s11, some (.ref d), v8, v13] H') :
    tFor (iKeys (tVar 10)) (gName 11) (tBody K) D [s0, s1, s2, some (.ref lo), some (.ref me), s5, s6, some (.ref wa), s10, s11, some (.ref d), s8, s13] H := by
  have gr := grouped_group σ0.lots xs
  have kl := kvD_len hlen
  have dne : ∀ {a : Addr} {ys : List V}, H a = some (.lst ys) → d ≠ a := fun e => ne_of hd e (fun z => by cases z)
  refine ⟨_, rfl, d, od, rfl, .inl ⟨_, hd, for_it walk_keys (fun i σ H2 => ∃ (v8 v13 : Option V) (as' : List Addr) (σs : Hop.S) (done : List Nat), σ = [s0, s1, s2, some (.ref lo), some (.ref me), s5, s6, some (.ref wa), s10, s11, some (.ref d), v8, v13] ∧ PtAt H2 lo me wa as' σs ∧ Kp lo me wa H H2 ∧
      (∀ x, x ∈ done ↔ x ∈ ((group σ0.lots [] xs).take i).map (·.1)) ∧ Prog n σ0 (fun s => P (step s fi)) done σs ∧ Carry n b step mark R P fi σs ∧ meas n σs ≤ m0)
    ⟨s8, s13, as, σ0, [], rfl, p, Kp.refl _ _ _ _, by simp, Prog.start c0.ok, c0, hm⟩ (fun i σ H2 _ ⟨_, _, _, _, _, _, _, kp, _⟩ => kp _ _ (dne p.lots) (dne p.top) (dne p.wait) hd) ?_ ?_⟩⟩
  · rintro i y σ H2 H2' hi ⟨v8, v13, as', σs, done, rfl, p2, kp, hdone, pr, ca, hms⟩ ⟨rfl, kk, vv, hkv, rfl⟩
    rw [kl] at hi
    have hgi : (group σ0.lots [] xs)[i]? = some ((group σ0.lots [] xs)[i].1, (group σ0.lots [] xs)[i].2) := List.getElem?_eq_getElem hi
    have hih : i < hs.length := by rw [hlen]; exact hi
    have hai : hs[i]? = some hs[i] := List.getElem?_eq_getElem hih
    have hkv2 := kvD_get hgi hai
    generalize eL : (group σ0.lots [] xs)[i].1 = L at *
    generalize eh : (group σ0.lots [] xs)[i].2 = hl at *
    rw [hkv] at hkv2
    have e3 := Option.some.inj hkv2
    cases e3
    obtain ⟨hc, n1, n2, n3⟩ := hcell i _ L hl hai hgi
    have hmem : (L, hl) ∈ group σ0.lots [] xs := List.mem_of_getElem? hgi
    have hit0 : Hit σ0 (fun s => P (step s fi)) L hl := gr.hit c0.ok hxn hT hmem
    have hnd : ¬ L ∈ done := fun q => by
      have q' := (hdone L).mp q
      obtain ⟨⟨k1, w1⟩, hm1, e1⟩ := List.mem_map.mp q'
      dsimp only at e1
      subst e1
      obtain ⟨j, hj⟩ := List.getElem?_of_mem hm1
      rw [List.getElem?_take] at hj
      by_cases cj : j < i
      · rw [if_pos cj] at hj
        have : j = i := nd_ix gr.nd (x := k1) (by rw [List.getElem?_map, hj]; rfl) (by rw [List.getElem?_map, hgi]; rfl)
        omega
      · rw [if_neg cj] at hj; cases hj
    have hit1 := pr.hit hit0 hnd
    have ok1 := ca.ok
    have v1 : valV (kvD (group σ0.lots [] xs) hs) (Sum.inl (L : Int)) = some (.ref hs[i]) := (kvD_val _ hs L hlen gr.nd).1 i hl _ hgi hai
    have ml := ok1.le
    have wl : σs.waiting.length ≤ meas n σs := by unfold meas; omega
    have hll : hl.length ≤ n := by
      have := nodup_sub_len hit1.nd (k := List.range n) fun s hs' => List.mem_range.mpr ((ok1.mem L hit1.lt s).mp ((hit1.iff s).mp hs').1).1
      rw [List.length_range] at this
      exact this
    have mll : (Hop.mem σs L).length ≤ n := by
      have := nodup_sub_len (ok1.nd L hit1.lt) (k := List.range n) fun s hs' => List.mem_range.mpr ((ok1.mem L hit1.lt s).mp hs').1
      rw [List.length_range] at this
      exact this
    refine body_run p2 (kp _ _ (dne p.lots) (dne p.top) (dne p.wait) hd) v1 (kp _ _ n1 n2 n3 hc) n1 n2 n3 hit1.lt (fun s hs' => by rw [ok1.len]; exact ((ok1.mem L hit1.lt s).mp ((hit1.iff s).mp hs').1).1) (fun s hs' => by rw [ok1.len]; exact ((ok1.mem L hit1.lt s).mp hs').1) (by omega) (by omega) (by omega) (by omega) ?_
    intro v H3 as3 p3 kp3 _
    refine ⟨_, v, as3, _, L :: done, rfl, p3, kp.trans kp3, fun x => ?_, pr.next c0.ok hit0 hnd, ca.split hit1 hst (fun s t hs' ht r => hR s t hs' ht r), Nat.le_trans (split_meas ok1 hit1) hms⟩
    rw [take_snoc hgi, List.map_append, List.mem_append, List.mem_cons, hdone]
    simp [or_comm]
  · rintro σ H2 ⟨v8, v13, as', σs, done, rfl, p2, kp, hdone, pr, ca, hms⟩
    rw [kl, List.take_length] at hdone
    refine k v8 v13 H2 as' σs p2 kp (ca.next fun s t h1 h2 e => ?_) hms
    exact pr.all gr hT (fun x hx => (hdone x).mpr hx) h1 h2 e
end B

namespace B
open PySem L2 MK Hop
/-- the tables of steps back, one a figure -/
structure BkAt (H : Hp) (bk : Addr) (rows : List (List Nat)) (n i : Nat) (bs : List (Addr × List Addr)) : Prop where
  top : H bk = some (.lst (bs.map fun q => V.ref q.1))
  len : bs.length = i
  lol : ∀ (j : Nat) (q : Addr × List Addr), bs[j]? = some q → Lol H q.1 q.2 (buckets n (col rows j) n)
theorem Lol.rows {K : PySem.W.Frag} {H : Hp} {p : Addr} {as : List Addr} {xss : List (List Nat)} (h : Lol H p as xss) : RowsL K H p xss :=
  ⟨as, SqL.of h.top, h.len, fun i r e => SqL.of (h.cell i r e)⟩
/-- between two turns of the while: m is what is left to do -/
def WhW (H7 : Hp) (st mk lo me bk wa : Addr) (rows : List (List Nat)) (ms : List (Option Bool)) (b most m : Nat) (σ : L2.St) (Hx : Hp) : Prop :=
  ∃ (v6 v8 v10 v11 v12 v13 : Option V) (as' : List Addr) (σs : Hop.S), σ = [some (.ref st), some (.ref mk), some (.int most), some (.ref lo), some (.ref me), some (.ref bk), v6, some (.ref wa), v10, v11, v12, v8, v13] ∧
    PtAt Hx lo me wa as' σs ∧ Kp lo me wa H7 Hx ∧ Still ms.length b (stepOf rows) (markOf ms) (Alike b (stepOf rows) (markOf ms)) σs ∧ meas ms.length σs ≤ 150000 ∧ m = meas ms.length σs
section
variable {P : Program} {w : World} {K : PySem.W.Frag} {mg : Str → Option Value} {base : Heap}
theorem ok_los {f : Addr} {fd : FuncData} (F : Fun K "lots_of_states" "lots_of_states" s_lots_of_states f fd)
    (D1 : Df P w K mg base CX0 1 "lots_by_marks" ["marks"] (spLbm K)) (D2 : Df P w K mg base CX0 1 "members_of" ["lots"] (spMem K))
    (D3 : Df P w K mg base CX0 1 "steps_back" ["steps", "figure"] (spBack K)) (D4 : Df P w K mg base CX0 1 "hit_by_lot" ["targets", "back", "lots"] (spHit K))
    (D5 : Df P w K mg base CX0 1 "all_but_a_widest" ["members"] (spWid K))
    (g_list : mg "list" = none) (g_len : mg "len" = none) (g_range : mg "range" = none) : FnOk P w K mg base CX0 2 f fd ["steps", "marks", "most"] (spLos K) := by
  obtain ⟨_, _, G_lots_by_marks, g_lots_by_marks, k_lots_by_marks, b_lots_by_marks⟩ := D1
  obtain ⟨_, _, G_members_of, g_members_of, k_members_of, b_members_of⟩ := D2
  obtain ⟨_, _, G_steps_back, g_steps_back, k_steps_back, b_steps_back⟩ := D3
  obtain ⟨_, _, G_hit_by_lot, g_hit_by_lot, k_hit_by_lot, b_hit_by_lot⟩ := D4
  obtain ⟨_, _, G_all_but_a_widest, g_all_but_a_widest, k_all_but_a_widest, b_all_but_a_widest⟩ := D5
  refine F.ok sc_lots_of_states (fun vs H Q E h => ?_) (fun cdv A outer s H vs Q E hr h => ?_)
  · obtain ⟨st, mk, rows, ms, b, most, rfl, _⟩ := h
    rfl
  · obtain ⟨st, mk, rows, ms, b, most, rfl, R, hK, hM, hb0, hn0, hn, hb, qN, qL⟩ := h
    have nd := sc_lots_of_states.nd
    have hu := hu_of hr
    refine ⟨_, (pss_cons (ps_set (i := 3) nd rfl (Or.inr rfl) (pe_callTy call_list_of (by rfl) g_list (by decide +kernel) (pa_cons (pe_call G_lots_by_marks (hr.mono (by decide)) (by rfl) g_lots_by_marks k_lots_by_marks b_lots_by_marks .nil pass0 (pa_cons (pv 1) pa_nil)) pa_nil)))
      (pss_cons (ps_set (i := 4) nd rfl (Or.inl rfl) (pe_callTy call_list_of (by rfl) g_list (by decide +kernel) (pa_cons (pe_call G_members_of (hr.mono (by decide)) (by rfl) g_members_of k_members_of b_members_of .nil pass0 (pa_cons (pv 3) pa_nil)) pa_nil)))
      (pss_cons (ps_setLc (i := 5) (own := [("figure", 6)]) (g := gName 6) (tt := tYes) (by rfl) nd rfl rfl (sw_true rfl rfl rfl (by decide +kernel)) (pi_range1 (by rfl) g_range (pa_cons (pe_callB call_len (by rfl) g_len PySem.boot_len (pa_cons (pe_ix ix_list (pv 0) pe_int (fun _ _ => rfl)) pa_nil)) pa_nil)) (blkOk_by (own := [("figure", 6)]) (N := ["steps", "marks", "most", "lots", "members", "backs", "figure", "waiting", "targets", "back", "hit", "lot", "state"]) (sc := defScope s_lots_of_states) (by decide +kernel)) (fun _ _ _ _ _ => (pg_name (i := 6) nd rfl (Or.inl rfl))) (fun _ _ _ _ _ => pts_nil) (fun _ _ _ _ _ => (pe_call G_steps_back (hr.mono (by decide)) (by rfl) g_steps_back k_steps_back b_steps_back .nil pass0 (pa_cons (pv 0) (pa_cons (pv 6) pa_nil)))))
      (pss_cons (ps_set (i := 7) nd rfl (Or.inl rfl) (pe_callTy call_list_of (by rfl) g_list (by decide +kernel) (pa_cons (pe_call G_all_but_a_widest (hr.mono (by decide)) (by rfl) g_all_but_a_widest k_all_but_a_widest b_all_but_a_widest .nil pass0 (pa_cons (pv 4) pa_nil)) pa_nil)))
      (pss_cons (ps_while PassesOwn.never (pt_truth (pv 7) (by intro _; rfl)) (pss_cons (ps_set (i := 8) nd rfl (Or.inl rfl) (pe_ix ix_list (pv 4) (pe_bm0 PySem.F.plainAttrs_list PySem.F.slot_list_pop PySem.F.type_list_pop mt_pop (pv 7)) (fun _ _ => rfl)))
      (pss_one (ps_for PassesOwn.never rfl (pi_list (pv 5)) (pg_name (i := 9) nd rfl (Or.inl rfl)) (pss_cons (ps_if (pt_cmpR op_gt (pe_callB call_len (by rfl) g_len PySem.boot_len (pa_cons (pv 4) pa_nil)) (pv 2) (nomark _)) (pss_one (ps_ret pe_non)) pss_nil)
      (pss_cons (ps_set (i := 10) nd rfl (Or.inl rfl) (pe_call G_hit_by_lot (hr.mono (by decide)) (by rfl) g_hit_by_lot k_hit_by_lot b_hit_by_lot .nil pass0 (pa_cons (pv 8) (pa_cons (pv 9) (pa_cons (pv 3) pa_nil)))))
      (pss_one (ps_lock (ps_for PassesOwn.never rfl (pi_keys (pv 10)) (pg_name (i := 11) nd rfl (Or.inr rfl)) (pss_one (ps_if (pt_cmpR op_lt (pe_callB call_len (by rfl) g_len PySem.boot_len (pa_cons (pe_dget hu (pv 10) (pv 11) (fun _ _ => rfl)) pa_nil)) (pe_callB call_len (by rfl) g_len PySem.boot_len (pa_cons (pe_ix ix_list (pv 4) (pv 11) (fun _ _ => rfl)) pa_nil)) (nomark _)) (pss_cons (ps_for PassesOwn.never rfl (pi_list (pe_dget hu (pv 10) (pv 11) (fun _ _ => rfl))) (pg_name (i := 12) nd rfl (Or.inl rfl)) (pss_one (ps_asg (pe_callB call_len (by rfl) g_len PySem.boot_len (pa_cons (pv 4) pa_nil)) (pg_sub (pv 3) (pv 12) set_list))))
      (pss_cons (ps_asg (pe_lc (own := [("state", 12)]) (g := gName 12) (by rfl) nd (pi_list (pe_ix ix_list (pv 4) (pv 11) (fun _ _ => rfl))) (blkOk_by (own := [("state", 12)]) (N := ["steps", "marks", "most", "lots", "members", "backs", "figure", "waiting", "targets", "back", "hit", "lot", "state"]) (sc := defScope s_lots_of_states) (by decide +kernel)) (fun _ _ _ _ _ => (pg_name (i := 12) nd rfl (Or.inl rfl))) (fun _ _ _ _ _ => (pts_one (pt_cmpR op_eq (pe_ix (show IxR _ (rIxL K) from ix_list) (pv 3) (pv 12) (fun _ _ => rfl)) (pv 11) (nomark _)))) (fun _ _ _ _ _ => (pv 12))) (pg_sub (pv 4) (pv 11) set_list))
      (pss_cons (ps_if (PW.pt (pw_and (pt_cmpR op_notIn_seq (pv 11) (pv 7) (by rfl)) (pw_and1 (pt_cmpR op_lt (pe_callB call_len (by rfl) g_len PySem.boot_len (pa_cons (pe_ix ix_list (pv 4) (pv 11) (fun _ _ => rfl)) pa_nil)) (pe_callB call_len (by rfl) g_len PySem.boot_len (pa_cons (pe_dget hu (pv 10) (pv 11) (fun _ _ => rfl)) pa_nil)) (nomark _))))) (pss_one (ps_expr (pe_bm PySem.F.plainAttrs_list PySem.F.slot_list_append PySem.F.type_list_append mt_append (pv 7) (pa_cons (pv 11) pa_nil)))) (pss_one (ps_expr (pe_bm PySem.F.plainAttrs_list PySem.F.slot_list_append PySem.F.type_list_append mt_append (pv 7) (pa_cons (pe_callB call_len (by rfl) g_len PySem.boot_len (pa_cons (pv 4) pa_nil)) pa_nil)))))
      (pss_one (ps_expr (pe_bm PySem.F.plainAttrs_list PySem.F.slot_list_append PySem.F.type_list_append mt_append (pv 4) (pa_cons (pe_dget hu (pv 10) (pv 11) (fun _ _ => rfl)) pa_nil))))))) pss_nil)))))))))))
      (pss_one (ps_ret (pe_ifExp (pt_cmpR op_le (pe_callB call_len (by rfl) g_len PySem.boot_len (pa_cons (pv 4) pa_nil)) (pv 2) (nomark _)) (pv 3) pe_non)))))))), ?_⟩
    -- lots
    have kle : (keysOf ms).length ≤ ms.length := nodup_sub_len (keysOf_nodup ms) fun x hx => mem_keysOf.mp hx
    have k0 : 0 < (keysOf ms).length := by
      have := lotsOf_lt hn0
      omega
    refine ⟨_, rfl, mk, ms, rfl, hK, by omega, fun p0 H1 hp0 s1 e1 => ⟨p0, _, rfl, .inl (SqL.of e1), fun lo hlo => ?_⟩⟩
    have s2 : Same H (upd H1 lo (.lst (nv (lotsOf ms)))) := fun x o e => by rw [upd_ne (ne_of_none (s1 _ _ e) hlo)]; exact s1 _ _ e
    -- members
    have onto := lotsOf_onto (ms := ms) (l := (keysOf ms).length - 1) (by omega)
    refine ⟨_, rfl, lo, lotsOf ms, (keysOf ms).length, rfl, SqL.of upd_same, by rw [lotsOf_len]; omega, by omega, fun x hx => ?_, ?_, fun pm as H3 hpm s3 L3 fr3 => ⟨pm, _, rfl, .inl (SqL.of L3.top), fun me hme => ?_⟩⟩
    · obtain ⟨i, hi⟩ := List.getElem?_of_mem hx
      have hi' : i < ms.length := by rw [← lotsOf_len ms]; exact (List.getElem?_eq_some_iff.mp hi).1
      have := lotsOf_lt hi'
      rw [List.getD_eq_getElem?_getD, hi] at this
      exact this
    · obtain ⟨i, h1, h2⟩ := onto
      have hl : i < (lotsOf ms).length := by rw [lotsOf_len]; exact h1
      have e : (lotsOf ms).getD i 0 = (lotsOf ms)[i] := by simp [List.getD_eq_getElem?_getD, hl]
      rw [← h2, e]
      exact List.getElem_mem hl
    rw [lotsOf_len] at L3
    generalize hH4 : upd H3 me (.lst (as.map V.ref)) = H4
    have s34 : Same H3 H4 := fun x o e => by rw [← hH4, upd_ne (ne_of_none e hme)]; exact e
    have lo4 : H4 lo = some (.lst (nv (lotsOf ms))) := s34 _ _ (s3 _ _ upd_same)
    have me4 : H4 me = some (.lst (as.map V.ref)) := by rw [← hH4, upd_same]
    have L4 : Lol H4 pm as (buckets (keysOf ms).length (lotsOf ms) ms.length) := L3.same s34
    have s4 : Same H H4 := (s2.trans s3).trans s34
    have lome : lo ≠ me := ne_of_none (s3 _ _ upd_same) hme
    have asn : ∀ a, a ∈ as → a ≠ lo ∧ a ≠ me := by
      intro a ha
      refine ⟨fun z => ?_, fun z => ?_⟩
      · have := fr3 a ha
        rw [z, upd_same] at this
        cases this
      · obtain ⟨l, hl⟩ := List.getElem?_of_mem ha
        have := L3.cell l a hl
        rw [z, hme] at this
        cases this
    -- backs
    obtain ⟨xs, hS, hxl, hxr⟩ := R.row
    have hrl : rows.length = ms.length := hM.len
    obtain ⟨r0, hr0, hr0'⟩ := hxr 0 (by omega)
    have e00 : rows.getD 0 [] = rows[0]'(by omega) := by simp [List.getD_eq_getElem?_getD, show 0 < rows.length by omega]
    have l0 : (rows.getD 0 []).length = b := by rw [e00]; exact (hM.row _ (List.getElem_mem _)).1
    refine ⟨_, rfl, st, xs, _, V.ref r0, rfl, rfl, s4.seq hS, atI_nat (j := 0) hr0, _, b, rfl, .inl ⟨_, s4.seq hr0', by rw [nv_len, l0]⟩, _, rfl, by omega, by omega, fun bk hbk => ?_⟩
    refine lc_range (lo := 0) (n := b) (fun i H' => Same H4 H' ∧ ∃ bs, BkAt H' bk rows ms.length i bs ∧ ∀ q, q ∈ bs → (q.1 ≠ bk ∧ H4 q.1 = none) ∧ ∀ a, a ∈ q.2 → a ≠ bk ∧ H4 a = none)
      ⟨fun x o e => by rw [upd_ne (ne_of_none e hbk)]; exact e, [], ⟨upd_same, rfl, fun j q e => by simp at e⟩, fun q h => absurd h List.not_mem_nil⟩ ?_ ?_
    · rintro i H' hi ⟨sm, bs, BB, fr⟩
      refine ⟨rfl, ?_⟩
      have hrow : ∀ r, r ∈ rows → i < r.length ∧ ∀ x, x ∈ r → x < rows.length := fun r hr' => ⟨by rw [(hM.row r hr').1]; exact hi, fun x hx => by rw [hrl]; exact (hM.row r hr').2 x hx⟩
      refine yes_i ?_
      refine ⟨_, rfl, _, rfl, st, rows, i, by rw [Int.zero_add]; rfl, R.same (s4.trans sm), by omega, hrow, fun p' as' H5 hp' s5 L5 fr5 => ?_⟩
      have bk5 := s5 _ _ BB.top
      have pbk : p' ≠ bk := fun z => by rw [z, BB.top] at hp'; cases hp'
      have abk : ∀ a, a ∈ as' → a ≠ bk := fun a ha z => by
        have := fr5 a ha
        rw [z, BB.top] at this
        cases this
      refine ⟨_, bk5, by rw [List.length_map, BB.len, sizeLine_eq]; omega, fun x o e => ?_, bs ++ [(p', as')], ⟨by rw [upd_same]; simp, by simp [BB.len], fun j q e => ?_⟩, fun q hq => ?_⟩
      · rw [upd_ne (ne_of_none e hbk)]
        exact s5 _ _ (sm _ _ e)
      · by_cases cj : j < bs.length
        · rw [List.getElem?_append_left cj] at e
          have qm := List.mem_of_getElem? e
          refine (BB.lol j q e).at fun x o hx ex => ?_
          have : x ≠ bk := by
            rcases hx with z | z
            · rw [z]; exact (fr q qm).1.1
            · exact ((fr q qm).2 x z).1
          rw [upd_ne this]
          exact s5 _ _ ex
        · rw [List.getElem?_append_right (by omega)] at e
          have e0 : j - bs.length = 0 := by
            by_cases z : j - bs.length = 0
            · exact z
            · rw [List.getElem?_eq_none (by simp; omega)] at e; cases e
          rw [e0] at e
          have := Option.some.inj e
          subst this
          have ej : j = i := by have := BB.len; omega
          subst ej
          refine (hrl ▸ L5).at fun x o hx ex => ?_
          have : x ≠ bk := by
            rcases hx with z | z
            · rw [z]; exact pbk
            · exact abk x z
          rw [upd_ne this]
          exact ex
      · rcases List.mem_append.mp hq with m | m
        · exact fr q m
        · rw [List.mem_singleton.mp m]
          exact ⟨⟨pbk, sm.free hp'⟩, fun a ha => ⟨abk a ha, sm.free (fr5 a ha)⟩⟩
    · rintro H5 ⟨s45, bs, B5, frb⟩
      -- waiting
      have me5 := s45 _ _ me4
      have lo5 := s45 _ _ lo4
      have L5 : Lol H5 pm as (buckets (keysOf ms).length (lotsOf ms) ms.length) := L4.same s45
      have asl : as.length = (keysOf ms).length := by rw [L5.len, buckets_len]
      refine ⟨_, rfl, me, pm, as, _, rfl, me5, L5, by rw [buckets_len]; omega, fun wq ws H6 hwq s56 hwqs hwl hwall hwlen => ?_⟩
      · rw [buckets_len] at hwl hwall hwlen
        refine ⟨wq, _, rfl, .inl (SqL.of hwqs), fun wa hwa => ?_⟩
        have s6 : Same H H6 := (s4.trans s45).trans s56
        generalize hH7 : upd H6 wa (.lst (nv ws)) = H7
        have s67 : Same H6 H7 := fun x o e => by rw [← hH7, upd_ne (ne_of_none e hwa)]; exact e
        have hw : H7 wa = some (.lst (nv ws)) := by rw [← hH7, upd_same]
        have s7 : Same H H7 := s6.trans s67
        -- the partition at the beginning
        have waN : ∀ {x : Addr} {o : HO}, H6 x = some o → x ≠ wa := fun e => ne_of_none e hwa
        have pt7 : PtAt H7 lo me wa as ⟨lotsOf ms, buckets (keysOf ms).length (lotsOf ms) ms.length, ws⟩ := by
          refine ⟨s67 _ _ (s56 _ _ lo5), s67 _ _ (s56 _ _ me5), L5.len, hw, fun l a e => ?_, lome, waN (s56 _ _ lo5), waN (s56 _ _ me5)⟩
          have hc := s56 _ _ (L5.cell l a e)
          have := asn a (List.mem_of_getElem? e)
          exact ⟨s67 _ _ hc, this.1, this.2, waN hc⟩
        have B7 : BkAt H7 bk rows ms.length b bs := ⟨s67 _ _ (s56 _ _ B5.top), B5.len, fun j q e => ((B5.lol j q e).same s56).same s67⟩
        have bkn : bk ≠ lo ∧ bk ≠ me ∧ bk ≠ wa := ⟨(ne_of_none lo4 hbk).symm, (ne_of_none me4 hbk).symm, waN (s56 _ _ B5.top)⟩
        have bsn : ∀ (j : Nat) (q : Addr × List Addr), bs[j]? = some q → ∀ x, x = q.1 ∨ x ∈ q.2 → x ≠ lo ∧ x ≠ me ∧ x ≠ wa := by
          intro j q e x hx
          have qm := List.mem_of_getElem? e
          have hxn : H4 x = none := by
            rcases hx with z | z
            · rw [z]; exact (frb q qm).1.2
            · exact ((frb q qm).2 x z).2
          have hxs : ∃ o, H5 x = some o := by
            rcases hx with z | z
            · rw [z]; exact ⟨_, (B5.lol j q e).top⟩
            · obtain ⟨l, hl⟩ := List.getElem?_of_mem z
              exact ⟨_, (B5.lol j q e).cell l x hl⟩
          obtain ⟨o, ho⟩ := hxs
          exact ⟨(ne_of_none lo4 hxn).symm, (ne_of_none me4 hxn).symm, waN (s56 _ _ ho)⟩
        have st0 := start_still (w := ws) hM hwl hwall
        have nm0 : meas ms.length ⟨lotsOf ms, buckets (keysOf ms).length (lotsOf ms) ms.length, ws⟩ ≤ 150000 := by
          show 2 * (ms.length - (buckets _ _ _).length) + ws.length ≤ 150000
          rw [buckets_len]; omega
        have hloN : H lo = none := by
          cases e : H lo with
          | none => rfl
          | some o => rw [s1 _ _ e] at hlo; cases hlo
        have hmeN : H me = none := by
          cases e : H me with
          | none => rfl
          | some o => rw [(s2.trans s3) _ _ e] at hme; cases hme
        have hwaN : H wa = none := s6.free hwa
        -- what was there ahead stays
        have stay : ∀ {H' : Hp}, Kp lo me wa H7 H' → Same H H' := fun kp x o e => kp x o (ne_of_none e hloN) (ne_of_none e hmeN) (ne_of_none e hwaN) (s7 x o e)
        have hst : ∀ s a, s < ms.length → a < b → stepOf rows s a < ms.length := fun s a h1 h2 => hM.step h1 h2
        refine ⟨WhW H7 st mk lo me bk wa rows ms b most, ⟨_, none, none, none, none, none, none, as, _, rfl, pt7, Kp.refl _ _ _ _, st0, nm0, rfl⟩, ?_⟩
        rintro m σ Hx ⟨v6, v8, v10, v11, v12, v13, as', σs, rfl, pt, kp, sl, nm, rfl⟩
        refine ⟨_, rfl, !(nv σs.waiting).isEmpty, .inl ⟨_, SqL.of pt.wait, rfl⟩, ?_⟩
        by_cases cw : σs.waiting = []
        · have e : (!(nv σs.waiting).isEmpty) = false := by rw [cw]; rfl
          rw [e]
          refine iteF ?_
          refine ⟨_, rfl, _, σs.members.length, rfl, .inl ⟨_, SqL.of pt.top, by rw [List.length_map, pt.len]⟩, _, rfl, _, _, rfl, rfl, _, rfl, ?_⟩
          by_cases cm : σs.members.length ≤ most
          · rw [decide_eq_true (show ((σs.members.length : Nat) : Int) ≤ (most : Int) by omega)]
            exact iteT ⟨_, rfl, qL lo σs.lots Hx hloN (stay kp) pt.lots (lots_ok hM sl cw cm)⟩
          · rw [decide_eq_false (show ¬ ((σs.members.length : Nat) : Int) ≤ (most : Int) by omega)]
            exact iteF (qN Hx (stay kp) (wide_of sl.ok sl.resp (by omega)))
        · have hwp : σs.waiting = σs.waiting.dropLast ++ [σs.waiting.getLast cw] := (List.dropLast_concat_getLast cw).symm
          generalize hw' : σs.waiting.dropLast = wl at hwp
          generalize hp' : σs.waiting.getLast cw = pp at hwp
          have e : (!(nv σs.waiting).isEmpty) = true := by rw [hwp]; simp [nv]
          rw [e]
          refine iteT ⟨fun σ' H' => ∃ m', m' < meas ms.length σs ∧ WhW H7 st mk lo me bk wa rows ms b most m' σ' H', fun _ _ h => h, ?_⟩
          have hpl : pp < σs.members.length := sl.ok.wlt pp (by rw [hwp]; simp)
          have hpa : pp < as'.length := by rw [pt.len]; exact hpl
          have eA := List.getElem?_eq_getElem hpa
          obtain ⟨tc, tn1, tn2, tn3⟩ := pt.cell pp _ eA
          have nvw : (nv σs.waiting).dropLast = nv wl := by rw [hwp]; simp [nv]
          have glast : (nv σs.waiting)[(nv σs.waiting).length - 1]? = some (V.int pp) := by
            rw [hwp, nv_len]
            exact nv_get (by simp)
          refine ⟨_, rfl, _, rfl, .inl ⟨rfl, _, SqL.of pt.wait⟩, wa, _, _, rfl, rfl, pt.wait, glast, me, _, _, V.ref as'[pp], rfl, rfl, SqL.of (by rw [upd_ne pt.ne3]; exact pt.top), atI_nat (by rw [List.getElem?_map, eA]; rfl), ?_⟩
          rw [nvw]
          have hms1 : meas ms.length { σs with waiting := wl } + 1 = meas ms.length σs := by
            have : σs.waiting.length = wl.length + 1 := by rw [hwp]; simp
            unfold meas
            dsimp only
            omega
          have c1 := Carry.pop sl hwp hst
          generalize hts : Hop.mem σs pp = ts at c1
          have htc : Hx as'[pp] = some (.lst (nv ts)) := by rw [← hts]; exact tc
          have tsn : ts.Nodup := by rw [← hts]; exact sl.ok.nd pp hpl
          have tslt : ∀ t, t ∈ ts → t < ms.length := by
            intro t ht
            rw [← hts] at ht
            exact ((sl.ok.mem pp hpl t).mp ht).1
          have pcl : ∀ s t, s < ms.length → t < ms.length → Alike b (stepOf rows) (markOf ms) s t → ts.contains s = ts.contains t := by
            intro s t hs ht al
            have e2 := sl.resp s t hs ht al
            rw [← hts, Bool.eq_iff_iff, List.contains_iff_mem, List.contains_iff_mem]
            rw [sl.ok.mem pp hpl, sl.ok.mem pp hpl, e2]
            simp [hs, ht]
          have kp1 : Kp lo me wa H7 (upd Hx wa (.lst (nv wl))) := kp.trans fun x o _ _ h3 e => by rw [upd_ne h3]; exact e
          have pt1 : PtAt (upd Hx wa (.lst (nv wl))) lo me wa as' { σs with waiting := wl } :=
            ⟨by rw [upd_ne pt.ne2]; exact pt.lots, by rw [upd_ne pt.ne3]; exact pt.top, pt.len, upd_same, fun l a e => by
              obtain ⟨x1, x2, x3, x4⟩ := pt.cell l a e
              exact ⟨by rw [upd_ne x4]; exact x1, x2, x3, x4⟩, pt.ne1, pt.ne2, pt.ne3⟩
          have bkx : ∀ {H' : Hp}, Kp lo me wa H7 H' → H' bk = some (.lst (bs.map fun q => V.ref q.1)) := fun kq => kq _ _ bkn.1 bkn.2.1 bkn.2.2 B7.top
          refine ⟨_, rfl, bk, rfl, ⟨_, SqL.of (bkx kp1)⟩, for_list (K := K) (a := bk) (xs := bs.map fun q => V.ref q.1) (fun i σ' Hz => ∃ (v8 v11 v12 v13 : Option V) (as2 : List Addr) (σ2 : Hop.S), σ' = [some (.ref st), some (.ref mk), some (.int most), some (.ref lo), some (.ref me), some (.ref bk), v6, some (.ref wa), some (.ref as'[pp]), v11, v12, v8, v13] ∧ PtAt Hz lo me wa as2 σ2 ∧ Kp lo me wa H7 Hz ∧ Carry ms.length b (stepOf rows) (markOf ms) (Alike b (stepOf rows) (markOf ms)) (fun x => ts.contains x) i σ2 ∧ meas ms.length σ2 ≤ meas ms.length { σs with waiting := wl } ∧ Hz as'[pp] = some (.lst (nv ts)))
            ⟨v8, v11, v12, v13, as', _, rfl, pt1, kp1, c1, Nat.le_refl _, by rw [upd_ne tn3]; exact htc⟩ (fun i σ' Hz _ ⟨_, _, _, _, _, _, _, _, kq, _⟩ => SqL.of (bkx kq)) ?_ ?_⟩
          · rintro i y σ' Hz hi ⟨v8, v11, v12, v13, as2, σ2, rfl, pt2, kp2, c2, ms2, ht2⟩
            have hib : i < b := by have := (List.getElem?_eq_some_iff.mp hi).1; rw [List.length_map, B7.len] at this; exact this
            have hib2 : i < bs.length := by rw [B7.len]; exact hib
            have hbi := List.getElem?_eq_getElem hib2
            have ey : y = V.ref bs[i].1 := by
              rw [List.getElem?_map, hbi] at hi
              exact (Option.some.inj hi).symm
            subst ey
            have Lz : Lol Hz bs[i].1 bs[i].2 (buckets ms.length (col rows i) ms.length) := (B7.lol i _ hbi).at fun x o hx e => by
              obtain ⟨a1, a2, a3⟩ := bsn i _ hbi x hx
              exact kp2 x o a1 a2 a3 e
            refine ⟨_, rfl, _, σ2.members.length, rfl, .inl ⟨_, SqL.of pt2.top, by rw [List.length_map, pt2.len]⟩, _, rfl, _, _, rfl, rfl, _, rfl, ?_⟩
            by_cases cm : most < σ2.members.length
            · rw [decide_eq_true (show (most : Int) < ((σ2.members.length : Nat) : Int) by omega)]
              exact iteT (qN Hz (stay kp2) (wide_of c2.ok c2.resp cm))
            · rw [decide_eq_false (show ¬ (most : Int) < ((σ2.members.length : Nat) : Int) by omega)]
              refine iteF ?_
              have hil := hits_len (f := i) hM hib tslt tsn
              have tl : ts.length ≤ ms.length := by
                have := nodup_sub_len tsn (k := List.range ms.length) fun s hs => List.mem_range.mpr (tslt s hs)
                rw [List.length_range] at this
                exact this
              refine ⟨_, rfl, _, rfl, _, rfl, as'[pp], bs[i].1, lo, ts, σ2.lots, buckets ms.length (col rows i) ms.length, rfl, SqL.of ht2, Lz.rows, SqL.of pt2.lots, fun t ht => by rw [buckets_len]; exact tslt t ht, fun r hr' s hs => ?_, by omega, by omega, fun d hs Hw hdn sw hta frh => ?_⟩
              · obtain ⟨l, hl⟩ := List.getElem?_of_mem hr'
                have hl2 : l < ms.length := by have := (List.getElem?_eq_some_iff.mp hl).1; rw [buckets_len] at this; exact this
                have e3 : (buckets ms.length (col rows i) ms.length).getD l [] = r := by rw [List.getD_eq_getElem?_getD, hl]; rfl
                rw [c2.ok.len]
                exact ((mem_bucket hM hl2).mp (e3 ▸ hs)).1
              · have ptw := pt2.kp sw
                have dn1 : d ≠ lo := (ne_of_none pt2.lots hdn).symm
                have dn2 : d ≠ me := (ne_of_none pt2.top hdn).symm
                have dn3 : d ≠ wa := (ne_of_none pt2.wait hdn).symm
                have dH7 : H7 d = none := by
                  cases e : H7 d with
                  | none => rfl
                  | some o => rw [kp2 d o dn1 dn2 dn3 e] at hdn; cases hdn
                refine ⟨d, _, hta.top, trivial, fun od => ?_⟩
                have ptl : PtAt (upd Hw d (.frz od (.dK (kvD (group σ2.lots [] (hitsOf (buckets ms.length (col rows i) ms.length) ts)) hs)))) lo me wa as2 σ2 :=
                  ⟨by rw [upd_ne dn1.symm]; exact ptw.lots, by rw [upd_ne dn2.symm]; exact ptw.top, ptw.len, by rw [upd_ne dn3.symm]; exact ptw.wait, fun l a e => by
                    obtain ⟨x1, x2, x3, x4⟩ := ptw.cell l a e
                    exact ⟨by rw [upd_ne (ne_of x1 hta.top (fun z => by cases z))]; exact x1, x2, x3, x4⟩, pt2.ne1, pt2.ne2, pt2.ne3⟩
                refine hits_run (m0 := meas ms.length { σs with waiting := wl }) ptl upd_same hta.len (fun j a kk v e1 e2 => ?_) c2 hib hst (fun s t h1 h2 al => pcl _ _ (hst s i h1 hib) (hst t i h2 hib) (al.step hib)) (hits_nodup hM tslt tsn) (fun s => mem_hits hM hib tslt s) ms2 hn (by omega) ?_
                · have hc := hta.cell j a kk v e1 e2
                  have fr := frh a (List.mem_of_getElem? e1)
                  exact ⟨by rw [upd_ne (ne_of hc hta.top (fun z => by cases z))]; exact hc, (ne_of_none pt2.lots fr).symm, (ne_of_none pt2.top fr).symm, (ne_of_none pt2.wait fr).symm⟩
                · intro v8' v13' H' as3 σ3 p3 kp3 c3 m3
                  have hd3 : H' d = some (.frz od (.dK (kvD (group σ2.lots [] (hitsOf (buckets ms.length (col rows i) ms.length) ts)) hs))) := kp3 _ _ dn1 dn2 dn3 upd_same
                  have tgd : as'[pp] ≠ d := ne_of_none ht2 hdn
                  refine ⟨hd3, v8', some (.ref bs[i].1), some (.ref d), v13', as3, σ3, rfl, ?_, ?_, c3, m3, ?_⟩
                  · exact ⟨by rw [upd_ne dn1.symm]; exact p3.lots, by rw [upd_ne dn2.symm]; exact p3.top, p3.len, by rw [upd_ne dn3.symm]; exact p3.wait, fun l a e => by
                      obtain ⟨x1, x2, x3, x4⟩ := p3.cell l a e
                      exact ⟨by rw [upd_ne (ne_of x1 hd3 (fun z => by cases z))]; exact x1, x2, x3, x4⟩, pt2.ne1, pt2.ne2, pt2.ne3⟩
                  · intro x o h1 h2 h3 e
                    have xd : x ≠ d := ne_of_none e dH7
                    rw [upd_ne xd]
                    refine kp3 x o h1 h2 h3 ?_
                    rw [upd_ne xd]
                    exact sw x o (kp2 x o h1 h2 h3 e)
                  · rw [upd_ne tgd]
                    refine kp3 _ _ tn1 tn2 tn3 ?_
                    rw [upd_ne tgd]
                    exact sw _ _ ht2
          · rintro σ' Hz ⟨v8, v11, v12, v13, as2, σ2, rfl, pt2, kp2, c2, ms2, ht2⟩
            rw [List.length_map, B7.len] at c2
            exact ⟨_, by omega, v6, v8, _, v11, v12, v13, as2, σ2, rfl, pt2, kp2, c2.done, by omega, rfl⟩
end
end B

namespace B
open PySem L2 MK Hop
/-! ### machines in order: plain mathematics. Marks of any kind -/
def mkOf {M : Type} (d : M) (ms : List M) (s : Nat) : M := ms.getD s d
/-- entries of a row: known states, or the next new one -/
def RG : Nat → List Nat → Nat → Prop
  | k, [], k' => k = k'
  | k, e :: xs, k' => (e < k ∧ RG k xs k') ∨ (e = k ∧ RG (k + 1) xs k')
def RGR : Nat → Nat → List (List Nat) → Nat → Prop
  | _, k, [], k' => k = k'
  | i, k, r :: rs, k' => i < k ∧ ∃ k1, RG k r k1 ∧ RGR (i + 1) k1 rs k'
theorem RG.le : ∀ {xs : List Nat} {k k' : Nat}, RG k xs k' → k ≤ k'
  | [], k, k', h => Nat.le_of_eq h
  | e :: xs, k, k', h => by
    rcases h with ⟨_, h⟩ | ⟨_, h⟩
    · exact RG.le h
    · have := RG.le h; omega
theorem RG.lt : ∀ {xs : List Nat} {k k' : Nat}, RG k xs k' → ∀ e, e ∈ xs → e < k'
  | [], k, k', h, e, he => absurd he List.not_mem_nil
  | x :: xs, k, k', h, e, he => by
    rcases h with ⟨h1, h⟩ | ⟨h1, h⟩
    · rcases List.mem_cons.mp he with q | q
      · have := RG.le h; omega
      · exact RG.lt h e q
    · rcases List.mem_cons.mp he with q | q
      · have := RG.le h; omega
      · exact RG.lt h e q
theorem RG.snoc : ∀ {xs : List Nat} {k k' e : Nat}, RG k xs k' → e < k' → RG k (xs ++ [e]) k'
  | [], k, k', e, h, he => .inl ⟨by have : k = k' := h; omega, h⟩
  | x :: xs, k, k', e, h, he => by
    rcases h with ⟨h1, h⟩ | ⟨h1, h⟩
    · exact .inl ⟨h1, RG.snoc h he⟩
    · exact .inr ⟨h1, RG.snoc h he⟩
theorem RG.snocN : ∀ {xs : List Nat} {k k' : Nat}, RG k xs k' → RG k (xs ++ [k']) (k' + 1)
  | [], k, k', h => .inr ⟨h.symm, by have : k = k' := h; subst this; rfl⟩
  | x :: xs, k, k', h => by
    rcases h with ⟨h1, h⟩ | ⟨h1, h⟩
    · exact .inl ⟨h1, RG.snocN h⟩
    · exact .inr ⟨h1, RG.snocN h⟩
theorem RGR.le : ∀ {rs : List (List Nat)} {i k k' : Nat}, RGR i k rs k' → k ≤ k'
  | [], _, _, _, h => Nat.le_of_eq h
  | r :: rs, i, k, k', ⟨_, k1, h1, h2⟩ => Nat.le_trans h1.le h2.le
theorem RGR.lt : ∀ {rs : List (List Nat)} {i k k' : Nat}, RGR i k rs k' → ∀ r, r ∈ rs → ∀ e, e ∈ r → e < k'
  | [], _, _, _, _, r, hr => absurd hr List.not_mem_nil
  | r0 :: rs, i, k, k', ⟨_, k1, h1, h2⟩, r, hr => by
    rcases List.mem_cons.mp hr with q | q
    · subst q
      intro e he
      exact Nat.lt_of_lt_of_le (h1.lt e he) h2.le
    · exact h2.lt r q
theorem RGR.snoc : ∀ {rs : List (List Nat)} {i k k' k'' : Nat} {r : List Nat}, RGR i k rs k' → i + rs.length < k' → RG k' r k'' → RGR i k (rs ++ [r]) k''
  | [], i, k, k', k'', r, h, hi, hr => by
    have : k = k' := h
    subst this
    exact ⟨by simpa using hi, k'', hr, rfl⟩
  | r0 :: rs, i, k, k', k'', r, ⟨h0, k1, h1, h2⟩, hi, hr => ⟨h0, k1, h1, RGR.snoc h2 (by simp only [List.length_cons] at hi; omega) hr⟩
/-- a machine in order, none of whose states are alike -/
structure Canon {M : Type} (d : M) (rows : List (List Nat)) (ms : List M) (b : Nat) : Prop where
  len : ms.length = rows.length
  wid : ∀ r, r ∈ rows → r.length = b
  grow : RGR 0 1 rows rows.length
  min : ∀ i j, i < rows.length → j < rows.length → Alike b (stepOf rows) (mkOf d ms) i j → i = j
theorem Canon.mach {M : Type} {d : M} {rows : List (List Nat)} {ms : List M} {b : Nat} (c : Canon d rows ms b) : Mach rows rows.length b := ⟨rfl, fun r hr => ⟨c.wid r hr, c.grow.lt r hr⟩⟩
/-- two states of two machines tell the same -/
def Both {M : Type} (b : Nat) (s1 s2 : Nat → Nat → Nat) (m1 m2 : Nat → M) (x y : Nat) : Prop := ∀ w : List Nat, (∀ a, a ∈ w → a < b) → m1 (runs s1 x w) = m2 (runs s2 y w)
theorem Both.step {M : Type} {b : Nat} {s1 s2 : Nat → Nat → Nat} {m1 m2 : Nat → M} {x y a : Nat} (h : Both b s1 s2 m1 m2 x y) (ha : a < b) : Both b s1 s2 m1 m2 (s1 x a) (s2 y a) := fun w hw =>
  h (a :: w) fun z hz => by
    rcases List.mem_cons.mp hz with q | q
    · exact q ▸ ha
    · exact hw z q
theorem getD_mem {α : Type} {l : List α} {i : Nat} {d : α} (h : i < l.length) : l.getD i d = l[i] := by simp [List.getD_eq_getElem?_getD, h]
section
variable {M : Type} {d : M} {b : Nat} {R1 R2 : List (List Nat)} {m1 m2 : List M}
/-- one row: entry by entry -/
theorem same_row (c1 : Canon d R1 m1 b) (c2 : Canon d R2 m2 b) : ∀ (xs ys : List Nat) (k k1 k2 : Nat), xs.length = ys.length → RG k xs k1 → RG k ys k2 → k1 ≤ R1.length → k2 ≤ R2.length →
    (∀ q, q < k → Both b (stepOf R1) (stepOf R2) (mkOf d m1) (mkOf d m2) q q) → (∀ (j : Nat) (x y : Nat), xs[j]? = some x → ys[j]? = some y → Both b (stepOf R1) (stepOf R2) (mkOf d m1) (mkOf d m2) x y) →
    xs = ys ∧ k1 = k2 ∧ ∀ q, q < k1 → Both b (stepOf R1) (stepOf R2) (mkOf d m1) (mkOf d m2) q q
  | [], [], k, k1, k2, _, h1, h2, _, _, hq, _ => by
    have a : k = k1 := h1
    have b' : k = k2 := h2
    subst a; subst b'
    exact ⟨rfl, rfl, hq⟩
  | x :: xs, [], _, _, _, h, _, _, _, _, _, _ => by simp at h
  | [], y :: ys, _, _, _, h, _, _, _, _, _, _ => by simp at h
  | x :: xs, y :: ys, k, k1, k2, hl, h1, h2, l1, l2, hq, hxy => by
    have bxy : Both b (stepOf R1) (stepOf R2) (mkOf d m1) (mkOf d m2) x y := hxy 0 x y rfl rfl
    have rest : ∀ (j : Nat) (a b' : Nat), xs[j]? = some a → ys[j]? = some b' → Both b (stepOf R1) (stepOf R2) (mkOf d m1) (mkOf d m2) a b' := fun j a b' e1 e2 => hxy (j + 1) a b' (by simpa using e1) (by simpa using e2)
    have hl' : xs.length = ys.length := by simpa using hl
    rcases h1 with ⟨a1, h1⟩ | ⟨a1, h1⟩
    · rcases h2 with ⟨a2, h2⟩ | ⟨a2, h2⟩
      · have k2' := h2.le
        have k1' := h1.le
        have e : x = y := c2.min x y (by omega) (by omega) fun w hw => (hq x a1 w hw).symm.trans (bxy w hw)
        subst e
        obtain ⟨e1, e2, e3⟩ := same_row c1 c2 xs ys k k1 k2 hl' h1 h2 l1 l2 hq rest
        exact ⟨by rw [e1], e2, e3⟩
      · -- y is new, x is not
        exfalso
        have k2' := h2.le
        have k1' := h1.le
        have : x = y := c2.min x y (by omega) (by omega) fun w hw => (hq x a1 w hw).symm.trans (bxy w hw)
        omega
    · rcases h2 with ⟨a2, h2⟩ | ⟨a2, h2⟩
      · exfalso
        have k2' := h2.le
        have k1' := h1.le
        have : x = y := c1.min x y (by omega) (by omega) fun w hw => (bxy w hw).trans (hq y a2 w hw).symm
        omega
      · have e : x = y := by omega
        subst e
        obtain ⟨e1, e2, e3⟩ := same_row c1 c2 xs ys (k + 1) k1 k2 hl' h1 h2 l1 l2 (fun q hq' => by
          by_cases z : q < k
          · exact hq q z
          · have : q = x := by omega
            subst this
            exact bxy) rest
        exact ⟨by rw [e1], e2, e3⟩
theorem same_rows (c1 : Canon d R1 m1 b) (c2 : Canon d R2 m2 b) : ∀ (A1 A2 P : List (List Nat)) (k : Nat), P ++ A1 = R1 → P ++ A2 = R2 → RGR P.length k A1 R1.length → RGR P.length k A2 R2.length →
    (∀ q, q < k → Both b (stepOf R1) (stepOf R2) (mkOf d m1) (mkOf d m2) q q) → A1 = A2 ∧ ∀ q, q < R1.length → Both b (stepOf R1) (stepOf R2) (mkOf d m1) (mkOf d m2) q q
  | [], [], P, k, e1, e2, h1, h2, hq => by
    have : k = R1.length := h1
    exact ⟨rfl, fun q hq' => hq q (by omega)⟩
  | [], r :: rs, P, k, e1, e2, h1, h2, hq => by
    exfalso
    have a : k = R1.length := h1
    have b' := h2.1
    have : R1.length = P.length := by rw [← e1]; simp
    omega
  | r :: rs, [], P, k, e1, e2, h1, h2, hq => by
    exfalso
    have a : k = R2.length := h2
    have b' := h1.1
    have : R2.length = P.length := by rw [← e2]; simp
    omega
  | r1 :: A1, r2 :: A2, P, k, e1, e2, ⟨i1, k1, g1, h1⟩, ⟨i2, k2, g2, h2⟩, hq => by
    have m1' : r1 ∈ R1 := by rw [← e1]; simp
    have m2' : r2 ∈ R2 := by rw [← e2]; simp
    have w1 := c1.wid r1 m1'
    have w2 := c2.wid r2 m2'
    have s1 : ∀ a, stepOf R1 P.length a = r1.getD a 0 := fun a => by unfold stepOf; rw [← e1]; simp [List.getD_eq_getElem?_getD]
    have s2 : ∀ a, stepOf R2 P.length a = r2.getD a 0 := fun a => by unfold stepOf; rw [← e2]; simp [List.getD_eq_getElem?_getD]
    obtain ⟨er, ek, hq'⟩ := same_row c1 c2 r1 r2 k k1 k2 (by rw [w1, w2]) g1 g2 h1.le h2.le hq fun j x y ex ey => by
      have hj : j < b := by rw [← w1]; exact (List.getElem?_eq_some_iff.mp ex).1
      have := (hq P.length i1).step hj
      rw [s1, s2, List.getD_eq_getElem?_getD, List.getD_eq_getElem?_getD, ex, ey] at this
      exact this
    subst er
    subst ek
    obtain ⟨ea, hall⟩ := same_rows c1 c2 A1 A2 (P ++ [r1]) k1 (by simpa using e1) (by simpa using e2) (by simpa using h1) (by simpa using h2) hq'
    exact ⟨by rw [ea], hall⟩
/-- machines in order that tell the same are the same -/
theorem canon_eq (c1 : Canon d R1 m1 b) (c2 : Canon d R2 m2 b) (h : Both b (stepOf R1) (stepOf R2) (mkOf d m1) (mkOf d m2) 0 0) : R1 = R2 ∧ m1 = m2 := by
  obtain ⟨e, hall⟩ := same_rows c1 c2 R1 R2 [] 1 rfl rfl c1.grow c2.grow fun q hq => by
    have : q = 0 := by omega
    subst this
    exact h
  refine ⟨e, ?_⟩
  subst e
  apply List.ext_getElem
  · rw [c1.len, c2.len]
  · intro i h1 h2
    have := hall i (by rw [← c1.len]; exact h1) [] (fun _ h => absurd h List.not_mem_nil)
    have e : mkOf d m1 i = mkOf d m2 i := this
    unfold mkOf at e
    rw [getD_mem h1, getD_mem h2] at e
    exact e
end
end B

namespace B
open PySem L2 MK Hop
/-! ### the states in the order in which they are met -/
section
variable {lt : Nat → Nat}
def addMet (lt : Nat → Nat) (met : List Nat) (s : Nat) : List Nat := if lt s ∈ met.map lt then met else met ++ [s]
def fOf (lt : Nat → Nat) (met : List Nat) (s : Nat) : Nat := idx (met.map lt) (lt s)
theorem idx_lt {ks : List Nat} {m : Nat} (h : m ∈ ks) : idx ks m < ks.length := List.idxOf_lt_length_iff.mpr h
theorem idx_get {ks : List Nat} {m : Nat} (h : m ∈ ks) : ks[idx ks m]? = some m := by
  have := idx_lt h
  rw [List.getElem?_eq_getElem this]
  congr 1
  exact List.getElem_idxOf this
theorem idx_app {ks ext : List Nat} {m : Nat} (h : m ∈ ks) : idx (ks ++ ext) m = idx ks m := by
  unfold idx
  rw [List.idxOf_append, if_pos h]
theorem idx_nd {ks : List Nat} (hn : ks.Nodup) {i : Nat} (h : i < ks.length) : idx ks ks[i] = i := by
  have := hn.idxOf_getElem i h
  unfold idx
  exact this
theorem addMet_ext (met : List Nat) (s : Nat) : ∃ e, addMet lt met s = met ++ e := by
  unfold addMet
  split
  · exact ⟨[], by simp⟩
  · exact ⟨[s], rfl⟩
theorem fold_ext : ∀ (xs met : List Nat), ∃ e, xs.foldl (addMet lt) met = met ++ e
  | [], met => ⟨[], by simp⟩
  | x :: xs, met => by
    obtain ⟨e1, h1⟩ := addMet_ext (lt := lt) met x
    obtain ⟨e2, h2⟩ := fold_ext xs (addMet lt met x)
    exact ⟨e1 ++ e2, by show xs.foldl (addMet lt) (addMet lt met x) = _; rw [h2, h1, List.append_assoc]⟩
theorem fOf_ext {met e : List Nat} {s : Nat} (h : lt s ∈ met.map lt) : fOf lt (met ++ e) s = fOf lt met s := by
  unfold fOf
  rw [List.map_append]
  exact idx_app h
theorem addMet_mem (met : List Nat) (s : Nat) : lt s ∈ (addMet lt met s).map lt := by
  unfold addMet
  split
  · assumption
  · simp
theorem addMet_nd {met : List Nat} (h : (met.map lt).Nodup) (s : Nat) : ((addMet lt met s).map lt).Nodup := by
  unfold addMet
  split
  · exact h
  · rename_i c
    rw [List.map_append]
    refine List.nodup_append.mpr ⟨h, by simp, fun a ha b hb e => ?_⟩
    have : b = lt s := by simpa using hb
    exact c (this ▸ e ▸ ha)
/-- a row is gone through -/
theorem row_grow : ∀ (xs met0 met : List Nat) (ys : List Nat), (met.map lt).Nodup → RG met0.length (ys.map (fOf lt met)) met.length → (∀ y, y ∈ ys → lt y ∈ met.map lt) →
    ((xs.foldl (addMet lt) met).map lt).Nodup ∧ RG met0.length ((ys ++ xs).map (fOf lt (xs.foldl (addMet lt) met))) (xs.foldl (addMet lt) met).length ∧ ∀ y, y ∈ ys ++ xs → lt y ∈ (xs.foldl (addMet lt) met).map lt
  | [], met0, met, ys, hn, hg, hm => ⟨hn, by simpa using hg, fun y hy => hm y (by simpa using hy)⟩
  | x :: xs, met0, met, ys, hn, hg, hm => by
    have step : RG met0.length ((ys ++ [x]).map (fOf lt (addMet lt met x))) (addMet lt met x).length := by
      obtain ⟨e, he⟩ := addMet_ext (lt := lt) met x
      have same : ys.map (fOf lt (addMet lt met x)) = ys.map (fOf lt met) := by
        apply List.map_congr_left
        intro y hy
        rw [he]
        exact fOf_ext (hm y hy)
      rw [List.map_append, same]
      by_cases c : lt x ∈ met.map lt
      · have e1 : addMet lt met x = met := if_pos c
        rw [e1]
        refine RG.snoc hg ?_
        have := idx_lt c
        rw [List.length_map] at this
        exact this
      · have e1 : addMet lt met x = met ++ [x] := if_neg c
        have e2 : fOf lt (met ++ [x]) x = met.length := by
          unfold fOf
          rw [List.map_append]
          unfold idx
          rw [List.idxOf_append, if_neg c]
          simp
        rw [e1]
        show RG _ (_ ++ [fOf lt (met ++ [x]) x]) _
        rw [e2]
        simpa using RG.snocN hg
    have hm' : ∀ y, y ∈ ys ++ [x] → lt y ∈ (addMet lt met x).map lt := by
      intro y hy
      rcases List.mem_append.mp hy with q | q
      · obtain ⟨e, he⟩ := addMet_ext (lt := lt) met x
        rw [he, List.map_append]
        exact List.mem_append_left _ (hm y q)
      · rw [List.mem_singleton.mp q]
        exact addMet_mem met x
    have := row_grow xs met0 (addMet lt met x) (ys ++ [x]) (addMet_nd hn x) step hm'
    simpa using this
end
structure InO (lt : Nat → Nat) (rows : List (List Nat)) (n at_ : Nat) (met : List Nat) : Prop where
  nd : (met.map lt).Nodup
  mem : ∀ s, s ∈ met → s < n
  zero : met[0]? = some 0
  le : at_ ≤ met.length
  grow : RGR 0 1 ((met.take at_).map fun s => (rows.getD s []).map (fOf lt met)) met.length
  closed : ∀ s, s ∈ met.take at_ → ∀ t, t ∈ rows.getD s [] → lt t ∈ met.map lt
theorem InO.start {lt : Nat → Nat} {rows : List (List Nat)} {n : Nat} (h : 0 < n) : InO lt rows n 0 [0] :=
  ⟨by simp, fun s hs => by rw [List.mem_singleton.mp hs]; exact h, rfl, Nat.zero_le _, rfl, fun s hs => by simp at hs⟩
theorem InO.next {lt : Nat → Nat} {rows : List (List Nat)} {n at_ b : Nat} {met : List Nat} (m : Mach rows n b) (h : InO lt rows n at_ met) {s : Nat} (hs : met[at_]? = some s) : InO lt rows n (at_ + 1) ((rows.getD s []).foldl (addMet lt) met) := by
  have hat : at_ < met.length := (List.getElem?_eq_some_iff.mp hs).1
  obtain ⟨e, he⟩ := fold_ext (lt := lt) (rows.getD s []) met
  obtain ⟨h1, h2, h3⟩ := row_grow (lt := lt) (rows.getD s []) met met [] h.nd rfl (fun y hy => absurd hy List.not_mem_nil)
  rw [List.nil_append] at h2 h3
  have sm : s < n := h.mem s (List.mem_of_getElem? hs)
  have rowm : ∀ t, t ∈ rows.getD s [] → t < n := by
    intro t ht
    have hsl : s < rows.length := by rw [m.len]; exact sm
    rw [getD_mem hsl] at ht
    exact (m.row _ (List.getElem_mem hsl)).2 t ht
  have tk : (met ++ e).take (at_ + 1) = met.take at_ ++ [s] := by
    rw [List.take_append_of_le_length (by omega), take_snoc hs]
  refine ⟨h1, ?_, ?_, ?_, ?_, ?_⟩
  · have key : ∀ (xs mt : List Nat), (∀ t, t ∈ xs → t < n) → (∀ t, t ∈ mt → t < n) → ∀ t, t ∈ xs.foldl (addMet lt) mt → t < n := by
      intro xs
      induction xs with
      | nil => intro mt _ h2 t ht; exact h2 t ht
      | cons x xs ih =>
        intro mt h1 h2
        refine ih (addMet lt mt x) (fun t ht => h1 t (List.mem_cons_of_mem _ ht)) fun t ht => ?_
        unfold addMet at ht
        split at ht
        · exact h2 t ht
        · rcases List.mem_append.mp ht with q | q
          · exact h2 t q
          · rw [List.mem_singleton.mp q]; exact h1 x List.mem_cons_self
    exact key _ met rowm h.mem
  · rw [he, List.getElem?_append_left (by omega)]; exact h.zero
  · rw [he, List.length_append]; omega
  · rw [he] at h2 h3 ⊢
    rw [tk, List.map_append]
    have same : (met.take at_).map (fun s => (rows.getD s []).map (fOf lt (met ++ e))) = (met.take at_).map fun s => (rows.getD s []).map (fOf lt met) := by
      apply List.map_congr_left
      intro z hz
      apply List.map_congr_left
      intro t ht
      exact fOf_ext (h.closed z hz t ht)
    rw [same]
    refine RGR.snoc h.grow ?_ h2
    rw [List.length_map, List.length_take]
    omega
  · rw [he] at h3 ⊢
    rw [tk]
    intro z hz t ht
    rcases List.mem_append.mp hz with q | q
    · rw [List.map_append]
      exact List.mem_append_left _ (h.closed z q t ht)
    · rw [List.mem_singleton.mp q] at ht
      exact h3 t ht
/-- the machine that is read off -/
def newRows (lt : Nat → Nat) (rows : List (List Nat)) (met : List Nat) : List (List Nat) := met.map fun s => (rows.getD s []).map (fOf lt met)
def newMarks (ms : List (Option Bool)) (met : List Nat) : List (Option Bool) := met.map fun s => ms.getD s none
section
variable {rows : List (List Nat)} {ms : List (Option Bool)} {b most : Nat} {ls met : List Nat}
theorem in_order_step (m : Mach rows ms.length b) (io : InO (fun s => ls.getD s 0) rows ms.length met.length met) {i a : Nat} (hi : i < met.length) (ha : a < b) :
    stepOf (newRows (fun s => ls.getD s 0) rows met) i a < met.length ∧ ls.getD (met.getD (stepOf (newRows (fun s => ls.getD s 0) rows met) i a) 0) 0 = ls.getD (stepOf rows (met.getD i 0) a) 0 := by
  have sm : met[i] < ms.length := io.mem _ (List.getElem_mem hi)
  have hsl : met[i] < rows.length := by rw [m.len]; exact sm
  have wr := (m.row _ (List.getElem_mem hsl)).1
  have e0 : met.getD i 0 = met[i] := getD_mem hi
  have ha' : a < (rows[met[i]]).length := by rw [wr]; exact ha
  have e1 : stepOf rows (met.getD i 0) a = (rows[met[i]])[a] := by
    unfold stepOf
    rw [e0, getD_mem hsl, getD_mem ha']
  have e2 : stepOf (newRows (fun s => ls.getD s 0) rows met) i a = fOf (fun s => ls.getD s 0) met ((rows[met[i]])[a]) := by
    unfold stepOf newRows
    have l1 : i < (met.map fun s => (rows.getD s []).map (fOf (fun s => ls.getD s 0) met)).length := by rw [List.length_map]; exact hi
    rw [getD_mem l1, List.getElem_map, getD_mem hsl]
    have l2 : a < ((rows[met[i]]).map (fOf (fun s => ls.getD s 0) met)).length := by rw [List.length_map]; exact ha'
    rw [getD_mem l2, List.getElem_map]
  have cl : (fun s => ls.getD s 0) ((rows[met[i]])[a]) ∈ met.map (fun s => ls.getD s 0) := by
    refine io.closed met[i] (by rw [List.take_length]; exact List.getElem_mem hi) _ ?_
    rw [getD_mem hsl]
    exact List.getElem_mem ha'
  rw [e1, e2]
  have il := idx_lt cl
  rw [List.length_map] at il
  refine ⟨il, ?_⟩
  have ig := idx_get cl
  rw [List.getElem?_map, List.getElem?_eq_getElem il] at ig
  have ig2 := Option.some.inj ig
  unfold fOf
  rw [getD_mem il]
  exact ig2
theorem in_order_runs (m : Mach rows ms.length b) (io : InO (fun s => ls.getD s 0) rows ms.length met.length met) (lo : LotsOk rows ms b most ls) : ∀ (w : List Nat) (i s : Nat), i < met.length → s < ms.length → ls.getD (met.getD i 0) 0 = ls.getD s 0 → (∀ a, a ∈ w → a < b) →
    mkOf none (newMarks ms met) (runs (stepOf (newRows (fun s => ls.getD s 0) rows met)) i w) = markOf ms (runs (stepOf rows) s w)
  | [], i, s, hi, hs, e, _ => by
    have sm : met[i] < ms.length := io.mem _ (List.getElem_mem hi)
    show mkOf none (newMarks ms met) i = markOf ms s
    have e0 : met.getD i 0 = met[i] := getD_mem hi
    rw [e0] at e
    have al := (lo.2.1 _ _ sm hs).mp e [] (fun _ h => absurd h List.not_mem_nil)
    have e1 : mkOf none (newMarks ms met) i = markOf ms met[i] := by
      unfold mkOf newMarks markOf
      have l1 : i < (met.map fun s => ms.getD s none).length := by rw [List.length_map]; exact hi
      rw [getD_mem l1, List.getElem_map]
    rw [e1]
    exact al
  | a :: w, i, s, hi, hs, e, hw => by
    have ha := hw a List.mem_cons_self
    obtain ⟨h1, h2⟩ := in_order_step m io hi ha
    have sm : met[i] < ms.length := io.mem _ (List.getElem_mem hi)
    have e0 : met.getD i 0 = met[i] := getD_mem hi
    refine in_order_runs m io lo w _ (stepOf rows s a) h1 (m.step hs ha) ?_ fun x hx => hw x (List.mem_cons_of_mem _ hx)
    rw [h2, e0]
    rw [e0] at e
    exact (lo.2.1 _ _ (m.step sm ha) (m.step hs ha)).mpr (((lo.2.1 _ _ sm hs).mp e).step ha)
theorem in_order_canon (m : Mach rows ms.length b) (hn : 0 < ms.length) (io : InO (fun s => ls.getD s 0) rows ms.length met.length met) (lo : LotsOk rows ms b most ls) :
    Canon none (newRows (fun s => ls.getD s 0) rows met) (newMarks ms met) b ∧ Both b (stepOf (newRows (fun s => ls.getD s 0) rows met)) (stepOf rows) (mkOf none (newMarks ms met)) (markOf ms) 0 0 := by
  have ml : 0 < met.length := (List.getElem?_eq_some_iff.mp io.zero).1
  have nl : (newRows (fun s => ls.getD s 0) rows met).length = met.length := by simp [newRows]
  constructor
  · refine ⟨by simp [newRows, newMarks], fun r hr => ?_, ?_, fun i j hi hj al => ?_⟩
    · obtain ⟨s, hs, e⟩ := List.mem_map.mp hr
      subst e
      rw [List.length_map]
      have hsl : s < rows.length := by rw [m.len]; exact io.mem s hs
      rw [getD_mem hsl]
      exact (m.row _ (List.getElem_mem hsl)).1
    · have := io.grow
      rw [List.take_length] at this
      rw [nl]
      exact this
    · rw [nl] at hi hj
      have si : met[i] < ms.length := io.mem _ (List.getElem_mem hi)
      have sj : met[j] < ms.length := io.mem _ (List.getElem_mem hj)
      have ei : met.getD i 0 = met[i] := getD_mem hi
      have ej : met.getD j 0 = met[j] := getD_mem hj
      have al2 : Alike b (stepOf rows) (markOf ms) met[i] met[j] := fun w hw => by
        rw [← in_order_runs m io lo w i met[i] hi si (by rw [ei]) hw, ← in_order_runs m io lo w j met[j] hj sj (by rw [ej]) hw]
        exact al w hw
      have e := (lo.2.1 _ _ si sj).mpr al2
      exact nd_ix io.nd (x := ls.getD met[i] 0) (by rw [List.getElem?_map, List.getElem?_eq_getElem hi]; rfl) (by rw [List.getElem?_map, List.getElem?_eq_getElem hj, e]; rfl)
  · intro w hw
    have z : met.getD 0 0 = 0 := by rw [List.getD_eq_getElem?_getD, io.zero]; rfl
    exact in_order_runs m io lo w 0 0 ml hn (by rw [z]) hw
theorem InO.len_le {n at_ k : Nat} (io : InO (fun s => ls.getD s 0) rows n at_ met) (h : ∀ s, s < n → ls.getD s 0 < k) : met.length ≤ k := by
  have := nodup_sub_len io.nd (k := List.range k) fun x hx => by
    obtain ⟨s, hs, e⟩ := List.mem_map.mp hx
    rw [List.mem_range, ← e]
    exact h s (io.mem s hs)
  simpa using this
end
end B

namespace B
open PySem L2 MK Hop
def numD (ks : List Nat) : List (Key × V) := ks.zipIdx.map fun p => (Sum.inl (p.1 : Int), V.int (p.2 : Int))
theorem numD_len (ks : List Nat) : (numD ks).length = ks.length := by simp [numD]
theorem numD_snoc (ks : List Nat) (m : Nat) : numD (ks ++ [m]) = numD ks ++ [(Sum.inl (m : Int), V.int (ks.length : Nat))] := by simp [numD, List.zipIdx_append]
theorem valV_numD0 : ∀ (ks : List Nat) (o : Nat) (m : Nat), valV ((ks.zipIdx o).map fun p => ((Sum.inl (p.1 : Int) : Key), V.int (p.2 : Int))) (Sum.inl (m : Int)) = if m ∈ ks then some (V.int ((o + idx ks m : Nat) : Int)) else none
  | [], o, m => by simp [valV]
  | k :: ks, o, m => by
    rw [List.zipIdx_cons, List.map_cons]
    by_cases e : k = m
    · subst e
      rw [valV_pos rfl, idx_cons, if_pos rfl]
      simp
    · rw [valV_neg (fun z => e (by have := Sum.inl.inj z; omega)), valV_numD0 ks (o + 1) m]
      have e' : ¬ m = k := fun z => e z.symm
      by_cases c : m ∈ ks
      · rw [if_pos c, if_pos (List.mem_cons_of_mem _ c), idx_cons, if_neg e]
        congr 2
        omega
      · rw [if_neg c, if_neg (by simp [e', c])]
theorem valV_numD (ks : List Nat) (m : Nat) : valV (numD ks) (Sum.inl (m : Int)) = if m ∈ ks then some (V.int (idx ks m : Nat)) else none := by
  have := valV_numD0 ks 0 m
  simpa [numD] using this
theorem nodup_of_map {α β : Type} {f : α → β} : ∀ {l : List α}, (l.map f).Nodup → l.Nodup
  | [], _ => List.nodup_nil
  | a :: l, h => by
    have h' := List.nodup_cons.mp (show (f a :: l.map f).Nodup from h)
    exact List.nodup_cons.mpr ⟨fun m => h'.1 (List.mem_map_of_mem m), nodup_of_map h'.2⟩
def rTupOf (K : PySem.W.Frag) : List V → Hp → VK → Prop := fun xs H Q => ∃ p ys, xs = [.ref p] ∧ ((SqL K H p ys ∧ ∀ l, H l = none → Q (.ref l) (upd H l (.tup ys))) ∨ (SqT K H p ys ∧ Q (.ref p) H))
/-- a tuple of tuples of numbers -/
structure RowsT (K : PySem.W.Frag) (H : Hp) (a : Addr) (rows : List (List Nat)) : Prop where
  ex : ∃ rs : List Addr, SqT K H a (rs.map V.ref) ∧ rs.length = rows.length ∧ ∀ (i : Nat) (r : Addr), rs[i]? = some r → SqT K H r (nv (rows.getD i []))
def spIno (K : PySem.W.Frag) : Sp := fun vs H Q _ => ∃ (st mk lo : Addr) (rows : List (List Nat)) (ms : List (Option Bool)) (ls : List Nat) (b most : Nat), vs = [.ref st, .ref mk, .ref lo] ∧ RowsL K H st rows ∧ SqL K H mk (ms.map mV) ∧ SqL K H lo (nv ls) ∧ Mach rows ms.length b ∧ 0 < ms.length ∧ ms.length ≤ 50000 ∧ b ≤ 100 ∧ LotsOk rows ms b most ls ∧
  ∀ (p a c : Addr) (H' : Hp) (met : List Nat), H p = none → Same H H' → H' p = some (.tup [.ref a, .ref c]) → RowsT K H' a (newRows (fun s => ls.getD s 0) rows met) → SqT K H' c ((newMarks ms met).map mV) → InO (fun s => ls.getD s 0) rows ms.length met.length met → Q (.ref p) H'
section
variable {P : Program} {w : World} {K : PySem.W.Frag} {mg : Str → Option Value} {base : Heap}
theorem ok_ino {f : Addr} {fd : FuncData} (F : Fun K "in_order" "in_order" s_in_order f fd) (g_len : mg "len" = none) (g_tuple : mg "tuple" = none) : FnOk P w K mg base CX0 1 f fd ["steps", "marks", "lots"] (spIno K) := by
  refine F.ok sc_in_order (fun vs H Q E h => ?_) (fun cdv A outer s H vs Q E hr h => ?_)
  · obtain ⟨st, mk, lo, rows, ms, ls, b, most, rfl, _⟩ := h
    rfl
  · obtain ⟨st, mk, lo, rows, ms, ls, b, most, rfl, R, hK, hL, hM, hn0, hn, hb, LO, q⟩ := h
    have nd := sc_in_order.nd
    have hu := hu_of hr
    refine ⟨_, (pss_cons (ps_set (i := 3) nd rfl (Or.inr rfl) (pe_disp (pps_cons (pe_ix ix_list (pv 2) pe_int (fun _ _ => rfl)) pe_int pps_nil) (by rfl) (by rfl) (fun z => by cases z) (by decide)))
      (pss_cons (ps_set (i := 4) nd rfl (Or.inl rfl) (pe_lst (pa_cons pe_int pa_nil)))
      (pss_cons (ps_set (i := 5) nd rfl (Or.inl rfl) pe_int)
      (pss_cons (ps_while PassesOwn.never (pt_cmpR op_lt (pv 5) (pe_callB call_len (by rfl) g_len PySem.boot_len (pa_cons (pv 4) pa_nil)) (nomark _)) (pss_cons (ps_set (i := 6) nd rfl (Or.inl rfl) (pe_ix ix_list (pv 0) (pe_ix ix_list (pv 4) (pv 5) (fun _ _ => rfl)) (fun _ _ => rfl)))
      (pss_cons (ps_aug (i := 5) nd rfl (.inl rfl) pe_int ip_add)
      (pss_one (ps_for PassesOwn.never rfl (pi_list (pv 6)) (pg_name (i := 7) nd rfl (Or.inl rfl)) (pss_one (ps_if (pt_cmp (pc_dnotin hu (pe_ix ix_list (pv 2) (pv 7) (fun _ _ => rfl)) (pv 3))) (pss_cons (ps_dput hu (pv 3) (pe_ix ix_list (pv 2) (pv 7) (fun _ _ => rfl)) (pe_callB call_len (by rfl) g_len PySem.boot_len (pa_cons (pv 4) pa_nil)) rfl)
      (pss_one (ps_expr (pe_bm PySem.F.plainAttrs_list PySem.F.slot_list_append PySem.F.type_list_append mt_append (pv 4) (pa_cons (pv 7) pa_nil))))) pss_nil)))))))
      (pss_cons (ps_setLc (i := 8) (own := [("one", 9)]) (g := gName 9) (tt := tYes) (by rfl) nd rfl rfl (sw_true rfl rfl rfl (by decide +kernel)) (pi_list (pv 4)) (blkOk_by (own := [("one", 9)]) (N := ["steps", "marks", "lots", "numbers", "met", "at", "row", "state", "rows", "one"]) (sc := defScope s_in_order) (by decide +kernel)) (fun _ _ _ _ _ => (pg_name (i := 9) nd rfl (Or.inl rfl))) (fun _ _ _ _ _ => pts_nil) (fun _ _ _ _ _ => (pe_callTy (show CallR _ _ (rTupOf K) from call_tuple_of) (by rfl) g_tuple (by decide +kernel) (pa_cons (pe_lc (own := [("state", 7)]) (g := gName 7) (tt := tYes) (by rfl) nd (show PI _ _ _ (iList K _) from (pi_list (pe_ix (show IxR _ (rIxL K) from ix_list) (pv 0) (pv 9) (fun _ _ => rfl)))) (blkOk_by (own := [("state", 7)]) (N := ["steps", "marks", "lots", "numbers", "met", "at", "row", "state", "rows", "one"]) (by kernel_rfl)) (fun _ _ _ _ _ => (pg_name (i := 7) nd rfl (Or.inl rfl))) (fun _ _ _ _ _ => pts_nil) (fun _ _ _ _ _ => (pe_dget hu (pv 3) (pe_ix (show IxR _ (rIxL K) from ix_list) (pv 2) (pv 7) (fun _ _ => rfl)) (fun _ _ => rfl)))) pa_nil))))
      (pss_one (ps_ret (pe_tup (pa_cons (pe_callTy call_tuple_of (by rfl) g_tuple (by decide +kernel) (pa_cons (pv 8) pa_nil)) (pa_cons (pe_callTy call_tuple_of (by rfl) g_tuple (by decide +kernel) (pa_cons (pe_lc (own := [("one", 9)]) (g := gName 9) (tt := tYes) (by rfl) nd (pi_list (pv 4)) (blkOk_by (own := [("one", 9)]) (N := ["steps", "marks", "lots", "numbers", "met", "at", "row", "state", "rows", "one"]) (sc := defScope s_in_order) (by decide +kernel)) (fun _ _ _ _ _ => (pg_name (i := 9) nd rfl (Or.inl rfl))) (fun _ _ _ _ _ => pts_nil) (fun _ _ _ _ _ => (pe_ix (show IxR _ (rIxL K) from ix_list) (pv 1) (pv 9) (fun _ _ => rfl)))) pa_nil)) pa_nil)))))))))), ?_⟩
    have hst : ∀ s a, s < ms.length → a < b → stepOf rows s a < ms.length := fun s a h1 h2 => hM.step h1 h2
    have hrl : rows.length = ms.length := hM.len
    have hll : ls.length = ms.length := LO.1
    obtain ⟨xs, hS, hxl, hxr⟩ := R.row
    have lget : ∀ s, s < ms.length → ls[s]? = some (ls.getD s 0) := fun s hs => by rw [getD_mem (by omega)]; exact List.getElem?_eq_getElem (by omega)
    -- numbers = {lots[0]: 0}; met = [0]; at = 0
    intro d hd
    have sd : Same H (upd H d (.dK [])) := fun x o e => by rw [upd_ne (ne_of_none e hd)]; exact e
    refine ⟨_, rfl, lo, _, _, _, rfl, rfl, sd.seq hL, atI_nat (j := 0) (nv_get (lget 0 hn0)), upd_same, [(Sum.inl ((ls.getD 0 0 : Nat) : Int), .int 0)], rfl, (by simp), ?_⟩
    refine ⟨by show 1 ≤ sizeLine; decide, fun me hme => ?_⟩
    have dme : d ≠ me := ne_of_none (H := upd (upd H d (.dK [])) d (.dK (mergeK [] [(Sum.inl ((ls.getD 0 0 : Nat) : Int), .int 0)]))) upd_same hme
    have meH : H me = none := by
      have := hme
      rw [upd_ne dme.symm, upd_ne dme.symm] at this
      exact this
    generalize hH1 : upd (upd (upd H d (.dK [])) d (.dK (mergeK [] [(Sum.inl ((ls.getD 0 0 : Nat) : Int), .int 0)]))) me (.lst [.int 0]) = H1
    have s1 : Same H H1 := fun x o e => by
      rw [← hH1, upd_ne (ne_of_none e meH), upd_ne (ne_of_none e hd), upd_ne (ne_of_none e hd)]
      exact e
    have d1 : H1 d = some (.dK (numD ([0].map fun s => ls.getD s 0))) := by rw [← hH1, upd_ne dme, upd_same]; rfl
    have m1 : H1 me = some (.lst (nv [0])) := by rw [← hH1, upd_same]; rfl
    have mlen : ∀ {at_ : Nat} {met : List Nat}, InO (fun s => ls.getD s 0) rows ms.length at_ met → met.length ≤ ms.length := fun io => by
      have := nodup_sub_len (nodup_of_map io.nd) (k := List.range ms.length) fun s hs => List.mem_range.mpr (io.mem s hs)
      rw [List.length_range] at this
      exact this
    refine ⟨fun m σ Hx => ∃ (at_ : Nat) (met : List Nat) (v6 v7 v8 v9 : Option V), σ = [some (.ref st), some (.ref mk), some (.ref lo), some (.ref d), some (.ref me), some (.int at_), v6, v7, v8, v9] ∧ InO (fun s => ls.getD s 0) rows ms.length at_ met ∧ Hx me = some (.lst (nv met)) ∧ Hx d = some (.dK (numD (met.map fun s => ls.getD s 0))) ∧ Same H Hx ∧ m = ms.length + 1 - at_,
      ⟨_, 0, [0], none, none, none, none, rfl, InO.start hn0, m1, d1, s1, rfl⟩, ?_⟩
    rintro m σ Hx ⟨at_, met, v6, v7, v8, v9, rfl, io, hme1, hd1, sx, rfl⟩
    have ml := mlen io
    refine ⟨_, rfl, _, rfl, _, met.length, rfl, .inl ⟨_, SqL.of hme1, (nv_len _).symm⟩, _, _, rfl, rfl, _, rfl, ?_⟩
    by_cases c : at_ < met.length
    · rw [decide_eq_true (show (at_ : Int) < ((met.length : Nat) : Int) by omega)]
      refine iteT ⟨fun σ' H' => ∃ m', m' < ms.length + 1 - at_ ∧ ∃ (at_ : Nat) (met : List Nat) (v6 v7 v8 v9 : Option V), σ' = [some (.ref st), some (.ref mk), some (.ref lo), some (.ref d), some (.ref me), some (.int at_), v6, v7, v8, v9] ∧ InO (fun s => ls.getD s 0) rows ms.length at_ met ∧ H' me = some (.lst (nv met)) ∧ H' d = some (.dK (numD (met.map fun s => ls.getD s 0))) ∧ Same H H' ∧ m' = ms.length + 1 - at_, fun _ _ h => h, ?_⟩
      have hs := List.getElem?_eq_getElem c
      have sm := io.mem _ (List.mem_of_getElem? hs)
      obtain ⟨r, hr1, hr2⟩ := hxr met[at_] (by omega)
      have rowm : ∀ t, t ∈ rows.getD met[at_] [] → t < ms.length := by
        intro t ht
        have hsl : met[at_] < rows.length := by omega
        rw [getD_mem hsl] at ht
        exact (hM.row _ (List.getElem_mem hsl)).2 t ht
      refine ⟨_, rfl, _, rfl, _, rfl, me, _, _, _, rfl, rfl, SqL.of hme1, atI_nat (nv_get hs), st, _, _, V.ref r, rfl, rfl, sx.seq hS, atI_nat hr1, ?_⟩
      refine ⟨_, rfl, _, _, rfl, rfl, ?_⟩
      -- for state in row
      refine ⟨_, rfl, r, rfl, ⟨_, sx.seq hr2⟩, for_list (K := K) (a := r) (xs := nv (rows.getD met[at_] [])) (fun j σ' H' => ∃ (v7 : Option V), σ' = [some (.ref st), some (.ref mk), some (.ref lo), some (.ref d), some (.ref me), some (.int ((at_ : Int) + 1)), some (.ref r), v7, v8, v9] ∧ H' me = some (.lst (nv (((rows.getD met[at_] []).take j).foldl (addMet fun s => ls.getD s 0) met))) ∧ H' d = some (.dK (numD ((((rows.getD met[at_] []).take j).foldl (addMet fun s => ls.getD s 0) met).map fun s => ls.getD s 0))) ∧ Same H H')
        ⟨v7, rfl, hme1, hd1, sx⟩ (fun j σ' H' _ ⟨_, _, _, _, s2⟩ => s2.seq hr2) ?_ ?_⟩
      · rintro j y σ' H' hj ⟨v7', rfl, hme2, hd2, s2⟩
        obtain ⟨t, ht, rfl⟩ := nv_at hj
        have htn := rowm t (List.mem_of_getElem? ht)
        have et : (rows.getD met[at_] []).take (j + 1) = (rows.getD met[at_] []).take j ++ [t] := take_snoc ht
        generalize hmt : ((rows.getD met[at_] []).take j).foldl (addMet fun s => ls.getD s 0) met = mt at hme2 hd2
        have en : ((rows.getD met[at_] []).take (j + 1)).foldl (addMet fun s => ls.getD s 0) met = addMet (fun s => ls.getD s 0) mt t := by rw [et, List.foldl_append, hmt]; rfl
        have mtl : mt.length ≤ ms.length := by
          obtain ⟨h1, _, _⟩ := row_grow (lt := fun s => ls.getD s 0) ((rows.getD met[at_] []).take j) met met [] io.nd rfl (fun y hy => absurd hy List.not_mem_nil)
          rw [hmt] at h1
          have mm : ∀ s, s ∈ mt → s < ms.length := by
            have key : ∀ (xs mt : List Nat), (∀ t, t ∈ xs → t < ms.length) → (∀ t, t ∈ mt → t < ms.length) → ∀ t, t ∈ xs.foldl (addMet fun s => ls.getD s 0) mt → t < ms.length := by
              intro xs
              induction xs with
              | nil => intro mt _ h2 t ht; exact h2 t ht
              | cons x xs ih =>
                intro mt h1 h2
                refine ih (addMet _ mt x) (fun t ht => h1 t (List.mem_cons_of_mem _ ht)) fun t ht => ?_
                unfold addMet at ht
                split at ht
                · exact h2 t ht
                · rcases List.mem_append.mp ht with q | q
                  · exact h2 t q
                  · rw [List.mem_singleton.mp q]; exact h1 x List.mem_cons_self
            rw [← hmt]
            exact key _ met (fun t ht => rowm t (List.mem_of_mem_take ht)) io.mem
          have := nodup_sub_len (nodup_of_map h1) (k := List.range ms.length) fun s hs => List.mem_range.mpr (mm s hs)
          rw [List.length_range] at this
          exact this
        have vD := valV_numD (mt.map fun s => ls.getD s 0) (ls.getD t 0)
        refine ⟨_, rfl, _, rfl, lo, _, _, _, rfl, rfl, s2.seq hL, atI_nat (nv_get (lget t htn)), _, rfl, d, _, rfl, DGet.k (k := Sum.inl ((ls.getD t 0 : Nat) : Int)) hd2, _, rfl, ?_⟩
        by_cases cm : ls.getD t 0 ∈ mt.map fun s => ls.getD s 0
        · rw [vD, if_pos cm]
          refine iteF ⟨some (.int t), rfl, ?_, ?_, s2⟩
          · rw [en, addMet, if_pos cm]; exact hme2
          · rw [en, addMet, if_pos cm]; exact hd2
        · rw [vD, if_neg cm]
          refine iteT ?_
          refine ⟨_, rfl, _, mt.length, rfl, .inl ⟨_, SqL.of hme2, (nv_len _).symm⟩, _, rfl, _, rfl, _, rfl, lo, _, _, _, rfl, rfl, s2.seq hL, atI_nat (nv_get (lget t htn)), d, _, rfl, DPut.k (k := Sum.inl ((ls.getD t 0 : Nat) : Int)) hd2 (by rw [numD_len, List.length_map, sizeLine_eq]; omega), ?_⟩
          have hme3 : upd H' d (.dK (putK (numD (mt.map fun s => ls.getD s 0)) (Sum.inl ((ls.getD t 0 : Nat) : Int)) (.int (mt.length : Nat)))) me = some (.lst (nv mt)) := by rw [upd_ne dme.symm]; exact hme2
          refine ⟨_, rfl, .inl ⟨rfl, _, SqL.of hme3⟩, _, rfl, me, _, _, rfl, rfl, hme3, by rw [nv_len, sizeLine_eq]; omega, some (.int t), rfl, ?_, ?_, fun x o e => ?_⟩
          · rw [upd_same, nv_snoc, en, addMet, if_neg cm]
          · rw [upd_ne dme, upd_same, putK_new _ (by rw [vD, if_neg cm]), en, addMet, if_neg cm, List.map_append, List.map_singleton, numD_snoc, List.length_map]
          · rw [upd_ne (ne_of_none e meH), upd_ne (ne_of_none e hd)]
            exact s2 x o e
      · rintro σ' H' ⟨v7', rfl, hme2, hd2, s2⟩
        rw [nv_len, List.take_length] at hme2 hd2
        refine ⟨_, ?_, at_ + 1, _, some (.ref r), v7', v8, v9, by simp, io.next hM hs, hme2, hd2, s2, rfl⟩
        omega
    · rw [decide_eq_false (show ¬ (at_ : Int) < ((met.length : Nat) : Int) by omega)]
      refine iteF ?_
      have eat : at_ = met.length := by have := io.le; omega
      subst eat
      have fval : ∀ s, s ∈ met → ∀ t, t ∈ rows.getD s [] → valV (numD (met.map fun s => ls.getD s 0)) (Sum.inl ((ls.getD t 0 : Nat) : Int)) = some (.int (fOf (fun s => ls.getD s 0) met t : Nat)) := by
        intro s hs t ht
        rw [valV_numD, if_pos (io.closed s (by rw [List.take_length]; exact hs) t ht)]
        rfl
      -- rows
      refine ⟨_, rfl, me, rfl, ⟨_, SqL.of hme1⟩, fun D hD => ?_⟩
      have Dn : ∀ {x : Addr} {o : HO}, Hx x = some o → x ≠ D := fun e => ne_of_none e hD
      refine lc_list (K := K) (a := me) (xs := nv met) (fun i H' => (∀ x o, x ≠ D → Hx x = some o → H' x = some o) ∧ ∃ ts : List Addr, H' D = some (.lst (ts.map V.ref)) ∧ ts.length = i ∧ ∀ (j : Nat) (t : Addr), ts[j]? = some t → t ≠ D ∧ H' t = some (.tup (nv ((rows.getD (met.getD j 0) []).map (fOf (fun s => ls.getD s 0) met)))))
        ⟨fun x o hx e => by rw [upd_ne hx]; exact e, [], upd_same, rfl, fun j t e => by simp at e⟩ (fun i H' _ ⟨kp, _⟩ => SqL.of (kp _ _ (Dn hme1) hme1)) ?_ ?_
      · rintro i y H' hi ⟨kp, ts, hD', htl, hts⟩
        obtain ⟨s, hs, rfl⟩ := nv_at hi
        have hsm := List.mem_of_getElem? hs
        have sm := io.mem s hsm
        have il : i < met.length := (List.getElem?_eq_some_iff.mp hs).1
        have egd : met.getD i 0 = s := by rw [List.getD_eq_getElem?_getD, hs]; rfl
        obtain ⟨r, hr1, hr2⟩ := hxr s (by omega)
        have rowl : (rows.getD s []).length = b := by
          rw [getD_mem (show s < rows.length by omega)]
          exact (hM.row _ (List.getElem_mem _)).1
        have rowm : ∀ t, t ∈ rows.getD s [] → t < ms.length := by
          intro t ht
          have hsl : s < rows.length := by omega
          rw [getD_mem hsl] at ht
          exact (hM.row _ (List.getElem_mem hsl)).2 t ht
        refine ⟨rfl, ?_⟩
        refine yes_i ?_
        have sH' : ∀ {x : Addr} {o : HO}, H x = some o → H' x = some o := fun {x o} e => kp x o (Dn (sx _ _ e)) (sx _ _ e)
        have sqH' : ∀ {x : Addr} {zs : List V}, SqL K H x zs → SqL K H' x zs := fun h => (show Same H H' from fun x o e => sH' e).seq h
        refine ⟨_, rfl, _, rfl, st, _, _, V.ref r, rfl, rfl, sqH' hS, atI_nat hr1, r, rfl, ⟨_, sqH' hr2⟩, fun T hT => ?_⟩
        have Tn : ∀ {x : Addr} {o : HO}, H' x = some o → x ≠ T := fun e => ne_of_none e hT
        refine lc_list (K := K) (a := r) (xs := nv (rows.getD s [])) (fun j H2 => (∀ x o, x ≠ T → H' x = some o → H2 x = some o) ∧ H2 T = some (.lst (nv (((rows.getD s []).take j).map (fOf (fun s => ls.getD s 0) met)))))
          ⟨fun x o hx e => by rw [upd_ne hx]; exact e, upd_same⟩ (fun j H2 _ ⟨kp2, _⟩ => (show Same H H2 from fun x o e => kp2 x o (Tn (sH' e)) (sH' e)).seq hr2) ?_ ?_
        · rintro j y H2 hj ⟨kp2, hT2⟩
          obtain ⟨t, ht, rfl⟩ := nv_at hj
          have htm := List.mem_of_getElem? ht
          have htn := rowm t htm
          have sq2 : ∀ {x : Addr} {zs : List V}, SqL K H x zs → SqL K H2 x zs := fun h => (show Same H H2 from fun x o e => kp2 x o (Tn (sH' e)) (sH' e)).seq h
          have hd2 : H2 d = some (.dK (numD (met.map fun s => ls.getD s 0))) := kp2 _ _ (Tn (kp _ _ (Dn hd1) hd1)) (kp _ _ (Dn hd1) hd1)
          refine ⟨rfl, ?_⟩
          refine yes_i ?_
          have hg := DGet.k (k := Sum.inl ((ls.getD t 0 : Nat) : Int)) hd2
          rw [fval s hsm t htm] at hg
          refine ⟨_, rfl, _, rfl, _, rfl, lo, _, _, _, rfl, rfl, sq2 hL, atI_nat (nv_get (lget t htn)), d, _, rfl, hg, _, hT2, by rw [nv_len, List.length_map, List.length_take, sizeLine_eq]; have := hb; omega, fun x o hx e => by rw [upd_ne hx]; exact kp2 x o hx e, ?_⟩
          · rw [upd_same, nv_snoc, take_snoc ht, List.map_append]; rfl
        · rintro H2 ⟨kp2, hT2⟩
          rw [nv_len, List.take_length] at hT2
          refine ⟨T, _, rfl, .inl ⟨SqL.of hT2, fun t ht => ?_⟩⟩
          have hD2 := kp2 _ _ (Tn hD') hD'
          have DT : D ≠ T := Tn hD'
          have Dt : D ≠ t := ne_of_none hD2 ht
          refine ⟨_, by rw [upd_ne Dt]; exact hD2, by rw [List.length_map, htl, sizeLine_eq]; omega, fun x o hx e => ?_, ts ++ [t], by rw [upd_same]; simp, by simp [htl], fun j t' e => ?_⟩
          · have h1 := kp x o hx e
            have h2 := kp2 x o (Tn h1) h1
            rw [upd_ne hx, upd_ne (ne_of_none h2 ht)]
            exact h2
          · by_cases cj : j < ts.length
            · rw [List.getElem?_append_left cj] at e
              obtain ⟨x1, x2⟩ := hts j t' e
              have x3 := kp2 _ _ (Tn x2) x2
              exact ⟨x1, by rw [upd_ne x1, upd_ne (ne_of_none x3 ht)]; exact x3⟩
            · rw [List.getElem?_append_right (by omega)] at e
              have e0 : j - ts.length = 0 := by
                by_cases z : j - ts.length = 0
                · exact z
                · rw [List.getElem?_eq_none (by simp; omega)] at e; cases e
              rw [e0] at e
              have := Option.some.inj e
              subst this
              have ej : j = i := by omega
              subst ej
              exact ⟨Dt.symm, by rw [upd_ne Dt.symm, upd_same, egd]⟩
      · rintro H3 ⟨kp3, ts, hD3, htl, hts⟩
        rw [nv_len] at htl
        have s3 : Same H H3 := fun x o e => kp3 x o (Dn (sx _ _ e)) (sx _ _ e)
        have me3 := kp3 _ _ (Dn hme1) hme1
        -- tuple(rows)
        refine ⟨_, rfl, D, _, rfl, .inl ⟨SqL.of hD3, fun a ha => ?_⟩⟩
        have an : ∀ {x : Addr} {o : HO}, H3 x = some o → x ≠ a := fun e => ne_of_none e ha
        have me4 : upd H3 a (.tup (ts.map V.ref)) me = some (.lst (nv met)) := by rw [upd_ne (an me3)]; exact me3
        -- tuple([marks[one] for one in met])
        refine ⟨_, rfl, me, rfl, ⟨_, SqL.of me4⟩, fun G hG => ?_⟩
        have Gn : ∀ {x : Addr} {o : HO}, upd H3 a (.tup (ts.map V.ref)) x = some o → x ≠ G := fun e => ne_of_none e hG
        refine lc_list (K := K) (a := me) (xs := nv met) (fun i H' => (∀ x o, x ≠ G → upd H3 a (.tup (ts.map V.ref)) x = some o → H' x = some o) ∧ H' G = some (.lst ((newMarks ms (met.take i)).map mV)))
          ⟨fun x o hx e => by rw [upd_ne hx]; exact e, upd_same⟩ (fun i H' _ ⟨kp, _⟩ => SqL.of (kp _ _ (Gn me4) me4)) ?_ ?_
        · rintro i y H' hi ⟨kp, hG'⟩
          obtain ⟨s, hs, rfl⟩ := nv_at hi
          have il : i < met.length := (List.getElem?_eq_some_iff.mp hs).1
          have sm := io.mem s (List.mem_of_getElem? hs)
          have hms : (ms.map mV)[s]? = some (mV (ms.getD s none)) := by rw [List.getElem?_map, getD_mem sm, List.getElem?_eq_getElem sm]; rfl
          have sq4 : Same H H' := fun x o e => by
            have h1 : upd H3 a (.tup (ts.map V.ref)) x = some o := by rw [upd_ne (an (s3 _ _ e))]; exact s3 _ _ e
            exact kp x o (Gn h1) h1
          refine ⟨rfl, ?_⟩
          refine yes_i ?_
          refine ⟨_, rfl, _, rfl, mk, _, _, _, rfl, rfl, sq4.seq hK, atI_nat hms, _, hG', by rw [List.length_map, newMarks, List.length_map, List.length_take, sizeLine_eq]; omega, fun x o hx e => by rw [upd_ne hx]; exact kp x o hx e, ?_⟩
          rw [upd_same, take_snoc hs]
          simp [newMarks]
        · rintro H5 ⟨kp5, hG5⟩
          rw [nv_len, List.take_length] at hG5
          refine ⟨G, _, rfl, .inl ⟨SqL.of hG5, fun c hc => ⟨by show 2 ≤ sizeLine; decide, fun p hp => ?_⟩⟩⟩
          have a5 : H5 a = some (.tup (ts.map V.ref)) := kp5 _ _ (Gn upd_same) upd_same
          have cn : ∀ {x : Addr} {o : HO}, H5 x = some o → x ≠ c := fun e => ne_of_none e hc
          have a6 : upd H5 c (.tup ((newMarks ms met).map mV)) a = some (.tup (ts.map V.ref)) := by rw [upd_ne (cn a5)]; exact a5
          have pc : c ≠ p := ne_of_none upd_same hp
          have s5 : Same H H5 := fun x o e => by
            have h1 : upd H3 a (.tup (ts.map V.ref)) x = some o := by rw [upd_ne (an (s3 _ _ e))]; exact s3 _ _ e
            exact kp5 x o (Gn h1) h1
          have s7 : Same H (upd (upd H5 c (.tup ((newMarks ms met).map mV))) p (.tup [.ref a, .ref c])) := fun x o e => by
            have h1 : upd H5 c (.tup ((newMarks ms met).map mV)) x = some o := by rw [upd_ne (cn (s5 _ _ e))]; exact s5 _ _ e
            rw [upd_ne (ne_of_none h1 hp)]
            exact h1
          refine q p a c _ met ?_ s7 upd_same ⟨ts, ?_, by simp [newRows, htl], fun i r e => ?_⟩ ?_ io
          · cases e : H p with
            | none => rfl
            | some o =>
              have h1 : upd H5 c (.tup ((newMarks ms met).map mV)) p = some o := by rw [upd_ne (cn (s5 _ _ e))]; exact s5 _ _ e
              rw [h1] at hp; cases hp
          · exact SqT.of (by rw [upd_ne (ne_of_none a6 hp)]; exact a6)
          · obtain ⟨x1, x2⟩ := hts i r e
            have il : i < met.length := by rw [← htl]; exact (List.getElem?_eq_some_iff.mp e).1
            have h4 : upd H3 a (.tup (ts.map V.ref)) r = some (.tup (nv ((rows.getD (met.getD i 0) []).map (fOf (fun s => ls.getD s 0) met)))) := by rw [upd_ne (an x2)]; exact x2
            have h5 := kp5 _ _ (Gn h4) h4
            have h6 : upd H5 c (.tup ((newMarks ms met).map mV)) r = some (.tup (nv ((rows.getD (met.getD i 0) []).map (fOf (fun s => ls.getD s 0) met)))) := by rw [upd_ne (cn h5)]; exact h5
            have eR : (newRows (fun s => ls.getD s 0) rows met).getD i [] = (rows.getD (met.getD i 0) []).map (fOf (fun s => ls.getD s 0) met) := by
              show (met.map fun s => (rows.getD s []).map (fOf (fun s => ls.getD s 0) met)).getD i [] = _
              rw [getD_mem (show i < (met.map fun s => (rows.getD s []).map (fOf (fun s => ls.getD s 0) met)).length by rw [List.length_map]; exact il), List.getElem_map, getD_mem il]
            rw [eR]
            exact SqT.of (by rw [upd_ne (ne_of_none h6 hp)]; exact h6)
          · exact SqT.of (by rw [upd_ne pc, upd_same])
end
end B

namespace B
open PySem L2 MK Hop
/-- the machine that least_machine makes of rows and marks: told by its lists -/
def Least (rows : List (List Nat)) (ms : List (Option Bool)) (b most : Nat) (R : List (List Nat)) (M : List (Option Bool)) : Prop :=
  Canon none R M b ∧ Both b (stepOf R) (stepOf rows) (mkOf none M) (markOf ms) 0 0 ∧ R.length ≤ most
def spLm (K : PySem.W.Frag) : Sp := fun vs H Q _ => ∃ (st mk : Addr) (rows : List (List Nat)) (ms : List (Option Bool)) (b most : Nat), vs = [.ref st, .ref mk, .int (most : Nat)] ∧ RowsL K H st rows ∧ SqL K H mk (ms.map mV) ∧ Mach rows ms.length b ∧ 0 < b ∧ 0 < ms.length ∧ ms.length ≤ 50000 ∧ b ≤ 100 ∧
  (∀ H', Same H H' → Wide rows ms b (most + 1) → Q .non H') ∧
  ∀ (p a c : Addr) (H' : Hp) (R : List (List Nat)) (M : List (Option Bool)), H p = none → Same H H' → H' p = some (.tup [.ref a, .ref c]) → RowsT K H' a R → SqT K H' c (M.map mV) → Least rows ms b (most + 1) R M → Q (.ref p) H'
section
variable {P : Program} {w : World} {K : PySem.W.Frag} {mg : Str → Option Value} {base : Heap}
theorem ok_lm {f : Addr} {fd : FuncData} (F : Fun K "least_machine" "least_machine" s_least_machine f fd)
    (D1 : Df P w K mg base CX0 2 "lots_of_states" ["steps", "marks", "most"] (spLos K)) (D2 : Df P w K mg base CX0 1 "in_order" ["steps", "marks", "lots"] (spIno K)) : FnOk P w K mg base CX0 3 f fd ["steps", "marks", "most"] (spLm K) := by
  obtain ⟨_, _, G_lots_of_states, g_lots_of_states, k_lots_of_states, b_lots_of_states⟩ := D1
  obtain ⟨_, _, G_in_order, g_in_order, k_in_order, b_in_order⟩ := D2
  refine F.ok sc_least_machine (fun vs H Q E h => ?_) (fun cdv A outer s H vs Q E hr h => ?_)
  · obtain ⟨st, mk, rows, ms, b, most, rfl, _⟩ := h
    rfl
  · obtain ⟨st, mk, rows, ms, b, most, rfl, R, hK, hM, hb0, hn0, hn, hb, qN, qR⟩ := h
    have nd := sc_least_machine.nd
    have hu := hu_of hr
    refine ⟨_, (pss_cons (ps_set (i := 3) nd rfl (Or.inl rfl) (pe_call G_lots_of_states (hr.mono (by decide)) (by rfl) g_lots_of_states k_lots_of_states b_lots_of_states .nil pass0 (pa_cons (pv 0) (pa_cons (pv 1) (pa_cons (pe_op op_add (pv 2) pe_int) pa_nil)))))
      (pss_cons (ps_if (pt_cmpR op_isN (pv 3) pe_non (nomark _)) (pss_one (ps_ret pe_non)) pss_nil)
      (pss_one (ps_ret (pe_call G_in_order (hr.mono (by decide)) (by rfl) g_in_order k_in_order b_in_order .nil pass0 (pa_cons (pv 0) (pa_cons (pv 1) (pa_cons (pv 3) pa_nil)))))))), ?_⟩
    refine ⟨_, rfl, _, rfl, _, rfl, _, _, rfl, rfl, st, mk, rows, ms, b, most + 1, rfl, R, hK, hM, hb0, hn0, hn, hb, fun H1 s1 wd => ?_, fun p ls H1 hp s1 e1 lo => ?_⟩
    · refine ⟨_, rfl, rfl, _, rfl, iteT ?_⟩
      exact qN H1 s1 wd
    · refine ⟨_, rfl, rfl, _, rfl, iteF ?_⟩
      have p1 : ∀ {x : Addr}, H1 x = none → H x = none := fun {x} e => by
        cases h : H x with
        | none => rfl
        | some o => rw [s1 _ _ h] at e; cases e
      refine ⟨_, rfl, _, rfl, _, rfl, st, mk, p, rows, ms, ls, b, most + 1, rfl, R.same s1, s1.seq hK, SqL.of e1, hM, hn0, hn, hb, lo, fun q a c H2 met hq s2 e2 ra mc io => ?_⟩
      · obtain ⟨c1, c2⟩ := in_order_canon hM hn0 io lo
        obtain ⟨k, hk, hlt, _⟩ := lo.2.2
        have hl := io.len_le hlt
        refine qR q a c H2 _ _ (p1 hq) (s1.trans s2) e2 ra mc ⟨c1, c2, ?_⟩
        show (met.map _).length ≤ _
        rw [List.length_map]
        omega
end
end B

namespace B
open PySem L2 MK Hop
/-- the figures of n in the base b, the foremost first -/
def figs (b n : Nat) : List Nat := if h : n = 0 ∨ b < 2 then [] else figs b (n / b) ++ [n % b]
termination_by n
decreasing_by exact Nat.div_lt_self (by omega) (by omega)
theorem figs_zero {b : Nat} : figs b 0 = [] := by rw [figs]; simp
theorem figs_pos {b n : Nat} (h : 0 < n) (hb : 2 ≤ b) : figs b n = figs b (n / b) ++ [n % b] := by
  rw [figs, dif_neg (by omega)]
theorem figs_lt {b : Nat} (hb : 2 ≤ b) : ∀ (n : Nat) (a : Nat), a ∈ figs b n → a < b := by
  intro n
  induction n using Nat.strongRecOn with
  | ind n ih =>
    intro a ha
    by_cases h : n = 0
    · subst h; rw [figs_zero] at ha; exact absurd ha List.not_mem_nil
    · rw [figs_pos (by omega) hb] at ha
      rcases List.mem_append.mp ha with q | q
      · exact ih (n / b) (Nat.div_lt_self (by omega) (by omega)) a q
      · rw [List.mem_singleton.mp q]; exact Nat.mod_lt _ (by omega)
theorem figs_len {b : Nat} (hb : 2 ≤ b) : ∀ {k n : Nat}, n < 2 ^ k → (figs b n).length ≤ k := by
  intro k
  induction k with
  | zero =>
    intro n h
    have : n = 0 := by simp at h; exact h
    subst this
    rw [figs_zero]; simp
  | succ k ih =>
    intro n h
    by_cases h0 : n = 0
    · subst h0; rw [figs_zero]; simp
    · rw [figs_pos (by omega) hb, List.length_append]
      have h1 : n / b ≤ n / 2 := Nat.div_le_div_left hb (by omega)
      have h2 : n / 2 < 2 ^ k := by rw [Nat.pow_succ] at h; omega
      have := ih (Nat.lt_of_le_of_lt h1 h2)
      simp only [List.length_singleton]
      omega
/-- all stands but what lies at a -/
def Kp1 (a : Addr) (H H' : Hp) : Prop := ∀ (x : Addr) (o : HO), H x = some o → x ≠ a → H' x = some o
def spFig : Sp := fun vs H Q _ => ∃ (n b : Nat), vs = [.int (n : Nat), .int (b : Nat)] ∧ 2 ≤ b ∧ b ≤ 100 ∧ n < 2 ^ 4000 ∧ ∀ p H', H p = none → Same H H' → H' p = some (.lst (nv (figs b n))) → Q (.ref p) H'
section
variable {P : Program} {w : World} {K : PySem.W.Frag} {mg : Str → Option Value} {base : Heap}
theorem ok_fig {f : Addr} {fd : FuncData} (F : Fun K "figures" "figures" s_figures f fd) (g_divmod : mg "divmod" = none) : FnOk P w K mg base CX0 1 f fd ["number", "base"] spFig := by
  refine F.ok sc_figures (fun vs H Q E h => ?_) (fun cdv A outer s H vs Q E hr h => ?_)
  · obtain ⟨n, b, rfl, _⟩ := h
    rfl
  · obtain ⟨n, b, rfl, hb2, hb, hn, q⟩ := h
    have nd := sc_figures.nd
    have hu := hu_of hr
    refine ⟨_, (pss_cons (ps_set (i := 2) nd rfl (Or.inl rfl) (pe_lst pa_nil))
      (pss_cons (ps_while PassesOwn.never (pt_cmpR op_gt (pv 0) pe_int (nomark _)) (pss_cons (ps_asg (pe_callB call_divmodW (by rfl) g_divmod (by decide +kernel) (pa_cons (pv 0) (pa_cons (pv 1) pa_nil))) (pg_tup rfl (pgs_cons (pg_name (i := 0) nd rfl (Or.inl rfl)) (pgs_cons (pg_name (i := 3) nd rfl (Or.inl rfl)) pgs_nil))))
      (pss_one (ps_expr (pe_bm PySem.F.plainAttrs_list PySem.F.slot_list_append PySem.F.type_list_append mt_append (pv 2) (pa_cons (pv 3) pa_nil))))))
      (pss_one (ps_ret (pe_revL (pv 2)))))), ?_⟩
    have b0 : (0 : Int) < (b : Nat) := by omega
    refine ⟨by show 0 ≤ sizeLine; exact Nat.zero_le _, fun fo hfo => ?_⟩
    have sd : Same H (upd H fo (.lst [])) := fun x o e => by rw [upd_ne (ne_of_none e hfo)]; exact e
    refine ⟨fun m σ Hx => ∃ (k : Nat) (ys : List Nat) (v3 : Option V), σ = [some (.int (k : Nat)), some (.int (b : Nat)), some (.ref fo), v3] ∧ figs b n = figs b k ++ ys.reverse ∧ k ≤ n ∧ Hx fo = some (.lst (nv ys)) ∧ Kp1 fo H Hx ∧ m = k, ⟨_, n, [], none, rfl, by simp, Nat.le_refl _, upd_same, fun x o e hx => by rw [upd_ne hx]; exact e, rfl⟩, ?_⟩
    rintro m σ Hx ⟨k, ys, v3, rfl, hfg, hkn, hfo1, kp, em⟩
    have hlen : (figs b k).length + ys.length = (figs b n).length := by rw [hfg]; simp
    have hl4 := figs_len hb2 hn
    refine ⟨_, rfl, _, _, rfl, rfl, _, rfl, ?_⟩
    by_cases c : 0 < k
    · rw [decide_eq_true (show (0 : Int) < ((k : Nat) : Int) by omega)]
      refine iteT ⟨_, fun _ _ h => h, ?_⟩
      refine ⟨_, rfl, _, rfl, _, _, rfl, divp_ok b0 ?_, fun p hp => ?_⟩
      · have h1 := bits_le (i := ((k : Nat) : Int)) (n := 4000) (by show k < _; omega)
        omega
      · have pf : p ≠ fo := fun e => by rw [e, hfo1] at hp; cases hp
        have hfo2 : upd Hx p (.tup [V.int (↑k / ↑b), V.int (↑k % ↑b)]) fo = some (.lst (nv ys)) := by rw [upd_ne pf.symm]; exact hfo1
        refine ⟨p, _, rfl, SqT.of upd_same, rfl, _, _, rfl, _, _, rfl, rfl, _, rfl, .inl ⟨rfl, _, SqL.of hfo2⟩, _, rfl, fo, nv ys, _, rfl, rfl, hfo2, ?_, ?_⟩
        · rw [nv_len, sizeLine_eq]; omega
        · refine ⟨k / b, by rw [em]; exact Nat.div_lt_self c hb2, k / b, ys ++ [k % b], _, rfl, ?_, ?_, ?_, ?_, rfl⟩
          · rw [hfg, figs_pos c hb2]; simp
          · exact Nat.le_trans (Nat.div_le_self _ _) hkn
          · rw [upd_same, ← nv_snoc]; rfl
          · intro x o e hx
            rw [upd_ne hx]
            have e1 := kp x o e hx
            rw [upd_ne (ne_of_none e1 hp)]
            exact e1
    · rw [decide_eq_false (show ¬ (0 : Int) < ((k : Nat) : Int) by omega)]
      refine iteF ?_
      have k0 : k = 0 := by omega
      subst k0
      rw [figs_zero, List.nil_append] at hfg
      refine ⟨_, rfl, fo, _, rfl, SqL.of hfo1, fun r hr => q r _ ?_ ?_ ?_⟩
      · cases e : H r with
        | none => rfl
        | some o => rw [kp r o e (fun z => by rw [z, hfo] at e; cases e)] at hr; cases hr
      · intro x o e
        have e1 := kp x o e (fun z => by rw [z, hfo] at e; cases e)
        rw [upd_ne (ne_of_none e1 hr)]
        exact e1
      · rw [upd_same, hfg]; simp [nv]
end
end B

namespace B
open PySem L2 MK Hop

def spSb (K : PySem.W.Frag) : Sp := fun vs H Q _ => ∃ (st : Addr) (rows : List (List Nat)) (n N b : Nat), vs = [.ref st, .int (n : Nat)] ∧ RowsT K H st rows ∧ Mach rows N b ∧ 0 < N ∧ 2 ≤ b ∧ b ≤ 100 ∧ n < 2 ^ 4000 ∧ ∀ H', Same H H' → Q (.int (runs (stepOf rows) 0 (figs b n) : Nat)) H'
section
variable {P : Program} {w : World} {K : PySem.W.Frag} {mg : Str → Option Value} {base : Heap}
theorem ok_sb {f : Addr} {fd : FuncData} (F : Fun K "state_behind" "state_behind" s_state_behind f fd) (D1 : Df P w K mg base CX0 1 "figures" ["number", "base"] spFig) (g_len : mg "len" = none) : FnOk P w K mg base CX0 2 f fd ["steps", "number"] (spSb K) := by
  obtain ⟨_, _, G_figures, g_figures, k_figures, b_figures⟩ := D1
  refine F.ok sc_state_behind (fun vs H Q E h => ?_) (fun cdv A outer s H vs Q E hr h => ?_)
  · obtain ⟨st, rows, n, N, b, rfl, _⟩ := h
    rfl
  · obtain ⟨st, rows, n, N, b, rfl, hR, hM, h0, hb2, hb, hn, q⟩ := h
    have nd := sc_state_behind.nd
    have hu := hu_of hr
    refine ⟨_, (pss_cons (ps_set (i := 2) nd rfl (Or.inl rfl) pe_int)
      (pss_cons (ps_for PassesOwn.never rfl (pi_list (pe_call G_figures (hr.mono (by decide)) (by rfl) g_figures k_figures b_figures .nil pass0 (pa_cons (pv 1) (pa_cons (pe_callB call_len (by rfl) g_len PySem.boot_len (pa_cons (pe_ix ix_tup (pv 0) pe_int (fun _ _ => rfl)) pa_nil)) pa_nil)))) (pg_name (i := 3) nd rfl (Or.inl rfl)) (pss_one (ps_set (i := 2) nd rfl (Or.inl rfl) (pe_ix ix_tup (pe_ix ix_tup (pv 0) (pv 2) (fun _ _ => rfl)) (pv 3) (fun _ _ => rfl)))))
      (pss_one (ps_ret (pv 2))))), ?_⟩
    obtain ⟨rs, hT, hTl, hTr⟩ := hR.ex
    have row0 : ∀ i, i < rows.length → ∃ r, (rs.map V.ref)[i]? = some (.ref r) ∧ SqT K H r (nv (rows.getD i [])) := fun i hi => by
      have e := List.getElem?_eq_getElem (l := rs) (i := i) (by omega)
      exact ⟨rs[i]'(by omega), by rw [List.getElem?_map, e]; rfl, hTr _ _ e⟩
    obtain ⟨r0, hr0, hs0⟩ := row0 0 (by have := hM.len; omega)
    have rl : ∀ i, i < N → (rows.getD i []).length = b := fun i hi => by
      have hsl : i < rows.length := by rw [hM.len]; exact hi
      rw [getD_mem hsl]
      exact (hM.row _ (List.getElem_mem hsl)).1
    refine ⟨_, rfl, _, rfl, st, _, _, _, rfl, rfl, hT, atI_nat (j := 0) hr0, _, b, rfl, .inr ⟨_, hs0, by rw [nv_len, rl 0 h0]⟩, n, b, rfl, hb2, hb, hn, fun p H1 hp s1 e1 => ?_⟩
    have flt := figs_lt hb2 n
    have run_lt : ∀ (w : List Nat), (∀ a, a ∈ w → a < b) → ∀ s, s < N → runs (stepOf rows) s w < N := by
      intro w
      induction w with
      | nil => intro _ s hs; exact hs
      | cons a w ih => intro hw s hs; exact ih (fun x hx => hw x (List.mem_cons_of_mem _ hx)) _ (hM.step hs (hw a List.mem_cons_self))
    refine ⟨p, rfl, ⟨_, SqL.of e1⟩, for_list (K := K) (a := p) (xs := nv (figs b n)) (fun j σ' H' => ∃ (v3 : Option V), σ' = [some (.ref st), some (.int (n : Nat)), some (.int (runs (stepOf rows) 0 ((figs b n).take j) : Nat)), v3] ∧ H' = H1) ⟨none, rfl, rfl⟩ (fun j σ' H' _ ⟨_, _, e⟩ => e ▸ SqL.of e1) ?_ ?_⟩
    · rintro j y σ' H' hj ⟨v3, rfl, rfl⟩
      obtain ⟨a, ha, rfl⟩ := nv_at hj
      have hab : a < b := flt a (List.mem_of_getElem? ha)
      have hsN := run_lt ((figs b n).take j) (fun x hx => flt x (List.mem_of_mem_take hx)) 0 h0
      obtain ⟨r, hr1, hr2⟩ := row0 (runs (stepOf rows) 0 ((figs b n).take j)) (by rw [hM.len]; exact hsN)
      have hg : (rows.getD (runs (stepOf rows) 0 ((figs b n).take j)) [])[a]? = some (stepOf rows (runs (stepOf rows) 0 ((figs b n).take j)) a) := by
        have l1 : a < (rows.getD (runs (stepOf rows) 0 ((figs b n).take j)) []).length := by rw [rl _ hsN]; exact hab
        show _ = some ((rows.getD (runs (stepOf rows) 0 ((figs b n).take j)) []).getD a 0)
        rw [getD_mem l1]
        exact List.getElem?_eq_getElem l1
      refine ⟨_, rfl, _, rfl, st, _, _, V.ref r, rfl, rfl, hT.ext s1, atI_nat hr1, _, rfl, r, _, _, _, rfl, rfl, hr2.ext s1, atI_nat (nv_get hg), ?_⟩
      refine ⟨some (.int (a : Nat)), ?_, rfl⟩
      rw [take_snoc ha]
      unfold runs
      rw [List.foldl_append]
      rfl
    · rintro σ' H' ⟨v3, rfl, rfl⟩
      refine ⟨_, rfl, ?_⟩
      rw [nv_len, List.take_length]
      exact q _ s1
end
end B

namespace B
open PySem L2 MK Hop
/-- a value that is no whole number: its type's name -/
def NoInt (K : PySem.W.Frag) (H : Hp) (x : V) : Prop := ∃ t : String, TyX K H x (.type t) ∧ (t = "bool" ∨ t = "NoneType" ∨ t = "str" ∨ t = "list" ∨ t = "tuple" ∨ t = "dict")
theorem NoInt.kit {K : PySem.W.Frag} {H : Hp} {x : V} (h : NoInt K H x) : ∃ (t : Value) (a b : Bool), TyX K H x t ∧ PySem.W.kitOne K t (.type "int") = some a ∧ PySem.W.kitOne K t (.type "bool") = some b ∧ (a = true → b = true) := by
  obtain ⟨t, h1, h2⟩ := h
  rcases h2 with rfl | rfl | rfl | rfl | rfl | rfl
  · exact ⟨_, true, true, h1, kit_ty (by decide +kernel), kit_ty (by decide +kernel), fun _ => rfl⟩
  all_goals exact ⟨_, false, false, h1, kit_ty (by decide +kernel), kit_ty (by decide +kernel), fun z => nomatch z⟩
def spIw (K : PySem.W.Frag) : Sp := fun vs H Q _ => (∃ i : Int, vs = [.int i] ∧ Q (.bl true) H) ∨ ∃ x, vs = [x] ∧ NoInt K H x ∧ Q (.bl false) H
def spIb (K : PySem.W.Frag) : Sp := fun vs H Q _ => (∃ i lo hi : Int, vs = [.int i, .int lo, .int hi] ∧ Q (.bl (decide (lo ≤ i) && decide (i ≤ hi))) H) ∨ ∃ x lo hi, vs = [x, .int lo, .int hi] ∧ NoInt K H x ∧ Q (.bl false) H
/-- a check of one number that passes -/
def spCk1 (lo hi : Int) : Sp := fun vs H Q _ => ∃ i : Int, vs = [.int i] ∧ lo ≤ i ∧ i ≤ hi ∧ Q .non H
/-- a check of a number by another one that passes -/
def spCk2 : Sp := fun vs H Q _ => ∃ i j : Int, vs = [.int i, .int j] ∧ 0 ≤ i ∧ i < j ∧ Q .non H
section
variable {P : Program} {w : World} {K : PySem.W.Frag} {mg : Str → Option Value} {base : Heap}
theorem ok_iw {f : Addr} {fd : FuncData} (F : Fun K "is_whole" "is_whole" s_is_whole f fd) (g_isinstance : mg "isinstance" = none) (g_int : mg "int" = none) (g_bool : mg "bool" = none) : FnOk P w K mg base CX0 1 f fd ["value"] (spIw K) := by
  refine F.ok sc_is_whole (fun vs H Q E h => ?_) (fun cdv A outer s H vs Q E hr h => ?_)
  · rcases h with ⟨i, rfl, _⟩ | ⟨x, rfl, _⟩ <;> rfl
  · have nd := sc_is_whole.nd
    have hu := hu_of hr
    refine ⟨_, (pss_one (ps_ret (pe_and (pe_callB call_isi (by rfl) g_isinstance (by decide +kernel) (pa_cons (pv 0) (pa_cons (pe_bltn (v := .ty "int") (by rfl) g_int (by decide +kernel) rfl) pa_nil))) (pe_one (pe_not (pe_callB call_isi (by rfl) g_isinstance (by decide +kernel) (pa_cons (pv 0) (pa_cons (pe_bltn (v := .ty "bool") (by rfl) g_bool (by decide +kernel) rfl) pa_nil)))))))), ?_⟩
    rcases h with ⟨i, rfl, q⟩ | ⟨x, rfl, h, q⟩
    · refine ⟨_, rfl, _, _, _, _, true, rfl, .ty "int", .base (.int i), kit_ty (by decide +kernel), true, rfl, ?_⟩
      rw [if_pos rfl]
      refine ⟨_, rfl, _, _, _, _, false, rfl, .ty "bool", .base (.int i), kit_ty (by decide +kernel), false, rfl, q⟩
    · obtain ⟨t, a, b, ht, ka, kb, ab⟩ := h.kit
      refine ⟨_, rfl, _, _, _, _, a, rfl, .ty "int", ht, ka, a, rfl, ?_⟩
      cases a with
      | false => exact q
      | true =>
        rw [if_pos rfl]
        rw [ab rfl] at kb
        refine ⟨_, rfl, _, _, _, _, true, rfl, .ty "bool", ht, kb, true, rfl, q⟩

theorem ok_ib {f : Addr} {fd : FuncData} (F : Fun K "is_between" "is_between" s_is_between f fd) (D1 : Df P w K mg base CX0 1 "is_whole" ["value"] (spIw K)) : FnOk P w K mg base CX0 2 f fd ["value", "low", "high"] (spIb K) := by
  obtain ⟨_, _, G_is_whole, g_is_whole, k_is_whole, b_is_whole⟩ := D1
  refine F.ok sc_is_between (fun vs H Q E h => ?_) (fun cdv A outer s H vs Q E hr h => ?_)
  · rcases h with ⟨i, lo, hi, rfl, _⟩ | ⟨x, lo, hi, rfl, _⟩ <;> rfl
  · have nd := sc_is_between.nd
    have hu := hu_of hr
    refine ⟨_, (pss_one (ps_ret (pe_and (pe_call G_is_whole (hr.mono (by decide)) (by rfl) g_is_whole k_is_whole b_is_whole .nil pass0 (pa_cons (pv 0) pa_nil)) (pe_one (pe_chain op_le op_le (pv 1) (pv 0) (pv 2)))))), ?_⟩
    rcases h with ⟨i, lo, hi, rfl, q⟩ | ⟨x, lo, hi, rfl, h, q⟩
    · refine ⟨_, rfl, .inl ⟨i, rfl, true, rfl, ?_⟩⟩
      rw [if_pos rfl]
      refine ⟨_, rfl, _, rfl, _, _, rfl, rfl, _, rfl, ?_⟩
      by_cases c : lo ≤ i
      · rw [decide_eq_true c] at q
        rw [decide_eq_true c]
        rw [if_pos rfl]
        exact ⟨_, rfl, _, _, rfl, rfl, q⟩
      · rw [decide_eq_false c] at q
        rw [decide_eq_false c]
        exact q
    · exact ⟨_, rfl, .inr ⟨x, rfl, h, false, rfl, q⟩⟩
theorem ok_check_base {f : Addr} {fd : FuncData} (F : Fun K "check_base" "check_base" s_check_base f fd) (D1 : Df P w K mg base CX0 2 "is_between" ["value", "low", "high"] (spIb K)) : FnOk P w K mg base CX0 3 f fd ["value"] (spCk1 2 16) := by
  obtain ⟨_, _, G_is_between, g_is_between, k_is_between, b_is_between⟩ := D1
  refine F.ok sc_check_base (fun vs H Q E h => ?_) (fun cdv A outer s H vs Q E hr h => ?_)
  · obtain ⟨i, rfl, _⟩ := h
    rfl
  · obtain ⟨i, rfl, h1, h2, q⟩ := h
    have nd := sc_check_base.nd
    have hu := hu_of hr
    refine ⟨_, (pss_one (ps_if (pt_not (pt_val (pe_call G_is_between (hr.mono (by decide)) (by rfl) g_is_between k_is_between b_is_between .nil pass0 (pa_cons (pv 0) (pa_cons pe_int (pa_cons pe_int pa_nil)))))) (pss_one ps_never) pss_nil)), ?_⟩
    refine ⟨_, rfl, .inl ⟨i, _, _, rfl, ?_⟩⟩
    rw [decide_eq_true h1, decide_eq_true h2]
    exact ⟨_, rfl, iteF q⟩
theorem ok_check_divisor {f : Addr} {fd : FuncData} (F : Fun K "check_divisor" "check_divisor" s_check_divisor f fd) (D1 : Df P w K mg base CX0 2 "is_between" ["value", "low", "high"] (spIb K)) : FnOk P w K mg base CX0 3 f fd ["value"] (spCk1 2 12) := by
  obtain ⟨_, _, G_is_between, g_is_between, k_is_between, b_is_between⟩ := D1
  refine F.ok sc_check_divisor (fun vs H Q E h => ?_) (fun cdv A outer s H vs Q E hr h => ?_)
  · obtain ⟨i, rfl, _⟩ := h
    rfl
  · obtain ⟨i, rfl, h1, h2, q⟩ := h
    have nd := sc_check_divisor.nd
    have hu := hu_of hr
    refine ⟨_, (pss_one (ps_if (pt_not (pt_val (pe_call G_is_between (hr.mono (by decide)) (by rfl) g_is_between k_is_between b_is_between .nil pass0 (pa_cons (pv 0) (pa_cons pe_int (pa_cons pe_int pa_nil)))))) (pss_one ps_never) pss_nil)), ?_⟩
    refine ⟨_, rfl, .inl ⟨i, _, _, rfl, ?_⟩⟩
    rw [decide_eq_true h1, decide_eq_true h2]
    exact ⟨_, rfl, iteF q⟩
theorem ok_check_rest {f : Addr} {fd : FuncData} (F : Fun K "check_rest" "check_rest" s_check_rest f fd) (D1 : Df P w K mg base CX0 2 "is_between" ["value", "low", "high"] (spIb K)) : FnOk P w K mg base CX0 3 f fd ["value", "divisor"] spCk2 := by
  obtain ⟨_, _, G_is_between, g_is_between, k_is_between, b_is_between⟩ := D1
  refine F.ok sc_check_rest (fun vs H Q E h => ?_) (fun cdv A outer s H vs Q E hr h => ?_)
  · obtain ⟨i, j, rfl, _⟩ := h
    rfl
  · obtain ⟨i, j, rfl, h1, h2, q⟩ := h
    have nd := sc_check_rest.nd
    have hu := hu_of hr
    refine ⟨_, (pss_one (ps_if (pt_not (pt_val (pe_call G_is_between (hr.mono (by decide)) (by rfl) g_is_between k_is_between b_is_between .nil pass0 (pa_cons (pv 0) (pa_cons pe_int (pa_cons (pe_op op_sub (pv 1) pe_int) pa_nil)))))) (pss_one ps_never) pss_nil)), ?_⟩
    refine ⟨_, rfl, _, rfl, _, _, rfl, rfl, .inl ⟨i, _, _, rfl, ?_⟩⟩
    rw [decide_eq_true h1, decide_eq_true (show i ≤ j - 1 by omega)]
    exact ⟨_, rfl, iteF q⟩
theorem ok_check_figure {f : Addr} {fd : FuncData} (F : Fun K "check_figure" "check_figure" s_check_figure f fd) (D1 : Df P w K mg base CX0 2 "is_between" ["value", "low", "high"] (spIb K)) : FnOk P w K mg base CX0 3 f fd ["value", "base"] spCk2 := by
  obtain ⟨_, _, G_is_between, g_is_between, k_is_between, b_is_between⟩ := D1
  refine F.ok sc_check_figure (fun vs H Q E h => ?_) (fun cdv A outer s H vs Q E hr h => ?_)
  · obtain ⟨i, j, rfl, _⟩ := h
    rfl
  · obtain ⟨i, j, rfl, h1, h2, q⟩ := h
    have nd := sc_check_figure.nd
    have hu := hu_of hr
    refine ⟨_, (pss_one (ps_if (pt_not (pt_val (pe_call G_is_between (hr.mono (by decide)) (by rfl) g_is_between k_is_between b_is_between .nil pass0 (pa_cons (pv 0) (pa_cons pe_int (pa_cons (pe_op op_sub (pv 1) pe_int) pa_nil)))))) (pss_one ps_never) pss_nil)), ?_⟩
    refine ⟨_, rfl, _, rfl, _, _, rfl, rfl, .inl ⟨i, _, _, rfl, ?_⟩⟩
    rw [decide_eq_true h1, decide_eq_true (show i ≤ j - 1 by omega)]
    exact ⟨_, rfl, iteF q⟩
end
end B

namespace B
open PySem L2 MK Hop
def tTru (K : PySem.W.Frag) (ta : TE) : TT := fun σ H Q => ta σ H fun x H' => ∃ k, TruV K x H' k ∧ Q k H'
theorem pt_tru {X : Cx} {a : Expr} {ta : TE} (ha : PE X a ta) (he : ∀ whole, isTrue a X.env whole = (do let v ← whole; standAt a.pos; holding [v] (truthy v))) : PT X a (tTru X.K ta) := pt_truth ha he
/-- what is asked of the class of kinds -/
structure KC (K : PySem.W.Frag) (C : Addr) : Prop where
  cls : Cls K C
  steps : NoAttr K C "steps"
  marks : NoAttr K C "marks"
  ways : NoAttr K C "_ways"
/-- an instance that holds a machine -/
def bitOf : Option Bool → Nat
  | some true => 1
  | _ => 0
def KindO (C : Addr) (H : Hp) (x st mk wy : Addr) : Prop := ∃ (dx : Addr), H x = some (.ins C dx [("steps", .ref st), ("marks", .ref mk), ("_ways", .ref wy)])
theorem sqT_kp {K : PySem.W.Frag} {H H' : Hp} {a x C dx : Addr} {xs : List V} {fs : List (Str × V)} (h : SqT K H a xs) (hx : H x = some (.ins C dx fs)) (k : Kp1 x H H') : SqT K H' a xs := by
  rcases h with h | h
  · left
    rcases h with h | ⟨o, h⟩
    · exact .inl (k _ _ h (fun e => by subst e; rw [h] at hx; cases hx))
    · exact .inr ⟨o, k _ _ h (fun e => by subst e; rw [h] at hx; cases hx)⟩
  · exact .inr h
theorem mv_at {xs : List (Option Bool)} {i : Nat} {y : V} (h : (xs.map mV)[i]? = some y) : ∃ x, xs[i]? = some x ∧ y = mV x := by
  simp only [List.getElem?_map, Option.map_eq_some_iff] at h
  obtain ⟨x, h1, h2⟩ := h
  exact ⟨x, h1, h2.symm⟩
def spInit (K : PySem.W.Frag) (C : Addr) : Sp := fun vs H Q _ => ∃ (x dx st mk : Addr) (ms : List (Option Bool)), vs = [.ref x, .ref st, .ref mk] ∧ H x = some (.ins C dx []) ∧ SqT K H mk (ms.map mV) ∧ ms.length ≤ 50000 ∧
  ∀ H' wy w0, Kp1 x H H' → KindO C H' x st mk wy → H' wy = some (.lst [.ref w0]) → H' w0 = some (.lst (nv (ms.map bitOf))) → Q .non H'
section
variable {P : Program} {w : World} {K : PySem.W.Frag} {mg : Str → Option Value} {base : Heap}
theorem ok_init {C : Addr} (kc : KC K C) {f : Addr} {fd : FuncData} (F : Fun K "__init__" "Kind.__init__" s_Kind___init__ f fd) : FnOk P w K mg base CX0 1 f fd ["self", "steps", "marks"] (spInit K C) := by
  refine F.ok sc_Kind___init__ (fun vs H Q E h => ?_) (fun cdv A outer s H vs Q E hr h => ?_)
  · obtain ⟨x, dx, st, mk, ms, rfl, _⟩ := h
    rfl
  · obtain ⟨x, dx, st, mk, ms, rfl, hx, hK, hn, q⟩ := h
    have nd := sc_Kind___init__.nd
    have hu := hu_of hr
    refine ⟨_, (pss_cons (ps_fld (pv 0) (pv 1) rfl)
      (pss_cons (ps_fld (pv 0) (pv 2) rfl)
      (pss_one (ps_fld (pv 0) (pe_lst (pa_cons (pe_lc (own := [("mark", 3)]) (g := gName 3) (tt := tYes) (by rfl) nd (pi_tup (pv 2)) (blkOk_by (own := [("mark", 3)]) (N := ["self", "steps", "marks", "mark"]) (sc := defScope s_Kind___init__) (by decide +kernel)) (fun _ _ _ _ _ => (pg_name (i := 3) nd rfl (Or.inl rfl))) (fun _ _ _ _ _ => pts_nil) (fun _ _ _ _ _ => (pe_ifExp (show PT _ _ (tTru K _) from pt_tru (pv 3) (by intro _; rfl)) pe_int pe_int))) pa_nil)) rfl)))), ?_⟩
    refine ⟨_, rfl, _, rfl, x, C, dx, [], rfl, hx, kc.cls, kc.steps, by decide, ?_⟩
    refine ⟨_, rfl, _, rfl, x, C, dx, _, rfl, upd_same, kc.cls, kc.marks, (show 1 < 1000 by decide), ?_⟩
    generalize hH1 : upd (upd H x (.ins C dx (putF "steps" (V.ref st) []))) x (.ins C dx (putF "marks" (V.ref mk) (putF "steps" (V.ref st) []))) = H1
    have k1 : Kp1 x H H1 := fun y o e ne => by rw [← hH1, upd_ne ne, upd_ne ne]; exact e
    have x1 : H1 x = some (.ins C dx (putF "marks" (V.ref mk) (putF "steps" (V.ref st) []))) := by rw [← hH1, upd_same]
    have hK1 : SqT K H1 mk (ms.map mV) := sqT_kp hK hx k1
    refine ⟨_, rfl, mk, rfl, ⟨_, hK1⟩, fun D hD => ?_⟩
    have Dn : ∀ {y : Addr} {o : HO}, H1 y = some o → y ≠ D := fun e => ne_of_none e hD
    refine lc_tup (K := K) (a := mk) (xs := ms.map mV) (fun i H' => Kp1 D H1 H' ∧ H' D = some (.lst (nv ((ms.take i).map bitOf)))) ⟨fun y o e ne => by rw [upd_ne ne]; exact e, upd_same⟩ (fun i H' _ ⟨kp, _⟩ => ?_) ?_ ?_
    · exact hK1.ext fun y o e => kp y o e (Dn e)
    · rintro i y H' hi ⟨kp, hD'⟩
      refine ⟨rfl, yes_i ?_⟩
      obtain ⟨m, hm, rfl⟩ := mv_at hi
      have fin : ∀ v : Nat, v = bitOf m → ∃ acc, H' D = some (.lst acc) ∧ acc.length < sizeLine ∧ Kp1 D H1 (upd H' D (.lst (acc ++ [.int (v : Nat)]))) ∧ upd H' D (.lst (acc ++ [.int (v : Nat)])) D = some (.lst (nv ((ms.take (i + 1)).map bitOf))) := by
        rintro v rfl
        refine ⟨_, hD', by rw [nv_len, List.length_map, List.length_take, sizeLine_eq]; omega, fun y o e ne => by rw [upd_ne ne]; exact kp y o e ne, ?_⟩
        rw [upd_same, nv_snoc, take_snoc hm, List.map_append]
        rfl
      cases m with
      | none => exact ⟨_, rfl, false, rfl, fin 0 rfl⟩
      | some b =>
        cases b with
        | false => exact ⟨_, rfl, false, rfl, fin 0 rfl⟩
        | true => exact ⟨_, rfl, true, rfl, fin 1 rfl⟩
    · rintro H' ⟨kp, hD'⟩
      rw [List.length_map, List.take_length] at hD'
      refine ⟨by show 1 ≤ sizeLine; decide, fun W hW => ?_⟩
      have x2 : H' x = some (.ins C dx (putF "marks" (V.ref mk) (putF "steps" (V.ref st) []))) := kp _ _ x1 (Dn x1)
      have Wn : ∀ {y : Addr} {o : HO}, H' y = some o → y ≠ W := fun e => ne_of_none e hW
      refine ⟨_, rfl, x, C, dx, putF "marks" (V.ref mk) (putF "steps" (V.ref st) []), rfl, by rw [upd_ne (Wn x2)]; exact x2, kc.cls, kc.ways, (show 2 < 1000 by decide), ?_⟩
      refine q _ W D (fun y o e ne => ?_) ⟨dx, by rw [upd_same]; rfl⟩ ?_ ?_
      · have e1 := k1 y o e ne
        have e2 := kp y o e1 (Dn e1)
        rw [upd_ne ne, upd_ne (Wn e2)]
        exact e2
      · rw [upd_ne (Wn x2).symm, upd_same]
      · have Dx : D ≠ x := (Dn x1).symm
        rw [upd_ne Dx, upd_ne (Wn hD')]
        exact hD'
end
end B

namespace B
open PySem L2 MK Hop
/-- a kind in the heap: its machine as lists -/
def KindAt (K : PySem.W.Frag) (C : Addr) (H : Hp) (x : Addr) (R : List (List Nat)) (M : List (Option Bool)) : Prop :=
  ∃ st mk wy, KindO C H x st mk wy ∧ RowsT K H st R ∧ SqT K H mk (M.map mV)
theorem RowsT.ext {K : PySem.W.Frag} {H H' : Hp} {a : Addr} {rows : List (List Nat)} (h : RowsT K H a rows) (s : Same H H') : RowsT K H' a rows := by
  obtain ⟨rs, h1, h2, h3⟩ := h.ex
  exact ⟨rs, h1.ext s, h2, fun i r e => (h3 i r e).ext s⟩
theorem RowsT.kp {K : PySem.W.Frag} {H H' : Hp} {a x C dx : Addr} {fs : List (Str × V)} {rows : List (List Nat)} (h : RowsT K H a rows) (hx : H x = some (.ins C dx fs)) (k : Kp1 x H H') : RowsT K H' a rows := by
  obtain ⟨rs, h1, h2, h3⟩ := h.ex
  exact ⟨rs, sqT_kp h1 hx k, h2, fun i r e => sqT_kp (h3 i r e) hx k⟩
/-- the machine with a first state ahead -/
def addStart (rows : List (List Nat)) : List (List Nat) := (0 :: (rows.getD 0 []).tail) :: rows
def addMark (ms : List Bool) : List (Option Bool) := none :: ms.map some
def spKo (K : PySem.W.Frag) (C : Addr) : Sp := fun vs H Q _ => ∃ (r m : Addr) (rows : List (List Nat)) (ms : List Bool) (b : Nat), vs = [.ref r, .ref m] ∧ RowsL K H r rows ∧ SqL K H m (ms.map V.bl) ∧ rows.length = ms.length ∧ 0 < ms.length ∧ ms.length ≤ 40000 ∧ 0 < b ∧ b ≤ 100 ∧
  (∀ r, r ∈ rows → r.length = b ∧ ∀ x, x ∈ r → x < ms.length + 1) ∧
  ∀ (x : Addr) (H' : Hp) (R : List (List Nat)) (M : List (Option Bool)), H x = none → Same H H' → KindAt K C H' x R M → Least (addStart rows) (addMark ms) b (ms.length + 1) R M → Q (.ref x) H'
theorem addStart_mach {rows : List (List Nat)} {ms : List Bool} {b : Nat} (hl : rows.length = ms.length) (h0 : 0 < ms.length) (hb : 0 < b) (h : ∀ r, r ∈ rows → r.length = b ∧ ∀ x, x ∈ r → x < ms.length + 1) : Mach (addStart rows) (addMark ms).length b := by
  have r00 : 0 < rows.length := by omega
  have e : (addMark ms).length = ms.length + 1 := by simp [addMark]
  rw [e]
  refine ⟨by simp [addStart, hl], fun r hr => ?_⟩
  rcases List.mem_cons.mp hr with q | q
  · subst q
    rw [getD_mem r00]
    obtain ⟨h1, h2⟩ := h _ (List.getElem_mem r00)
    refine ⟨by rw [List.length_cons, List.length_tail]; omega, fun x hx => ?_⟩
    rcases List.mem_cons.mp hx with q | q
    · omega
    · exact h2 x (List.mem_of_mem_tail q)
  · exact h r q
theorem not_wide {rows : List (List Nat)} {ms : List (Option Bool)} {b most : Nat} (h : ms.length ≤ most) : ¬ Wide rows ms b most := by
  rintro ⟨ss, h1, h2, h3⟩
  have nd : ss.Nodup := h3.imp fun {s t} n e => n (by subst e; exact fun _ _ => rfl)
  have := nodup_sub_len nd (k := List.range ms.length) fun s hs => List.mem_range.mpr (h2 s hs)
  rw [List.length_range] at this
  omega
section
variable {P : Program} {w : World} {K : PySem.W.Frag} {mg : Str → Option Value} {base : Heap}
theorem ok_ko {C : Addr} (kc : KC K C) {f fi : Addr} {fd fdi : FuncData} (F : Fun K "_kind_of" "_kind_of" s__kind_of f fd) (D1 : Df P w K mg base CX0 3 "least_machine" ["steps", "marks", "most"] (spLm K))
    (G_Kind___init__ : FnOk P w K mg base CX0 1 fi fdi ["self", "steps", "marks"] (spInit K C)) (b_Kind___init__ : Binds K fdi ["self", "steps", "marks"] []) (M_Kind : Mk K C fi) (g_Kind : mg "Kind" = some (.ref C)) (g_len : mg "len" = none) : FnOk P w K mg base CX0 4 f fd ["rows", "marks"] (spKo K C) := by
  obtain ⟨_, _, G_least_machine, g_least_machine, k_least_machine, b_least_machine⟩ := D1
  refine F.ok sc__kind_of (fun vs H Q E h => ?_) (fun cdv A outer s H vs Q E hr h => ?_)
  · obtain ⟨r, m, rows, ms, b, rfl, _⟩ := h
    rfl
  · obtain ⟨r, m, rows, ms, b, rfl, R, hK, hl, h0, hn, hb0, hb, hM, q⟩ := h
    have nd := sc__kind_of.nd
    have hu := hu_of hr
    refine ⟨_, (pss_cons (ps_set (i := 2) nd rfl (Or.inl rfl) (pe_lst (pa_cons pe_int (StX.pa_star (pe_slice sl_list (pe_ix ix_list (pv 0) pe_int (fun _ _ => rfl)) (po_some pe_int) po_none) pa_nil))))
      (pss_cons (ps_asg (pe_call G_least_machine (hr.mono (by decide)) (by rfl) g_least_machine k_least_machine b_least_machine .nil pass0 (pa_cons (pe_lst (pa_cons (pv 2) (StX.pa_star (pv 0) pa_nil))) (pa_cons (pe_lst (pa_cons pe_non (StX.pa_star (pv 1) pa_nil))) (pa_cons (pe_callB call_len (by rfl) g_len PySem.boot_len (pa_cons (pv 0) pa_nil)) pa_nil)))) (pg_tup rfl (pgs_cons (pg_name (i := 3) nd rfl (Or.inl rfl)) (pgs_cons (pg_name (i := 4) nd rfl (Or.inl rfl)) pgs_nil))))
      (pss_one (ps_ret (pe_make M_Kind G_Kind___init__ (hr.mono (by decide)) (by rfl) g_Kind b_Kind___init__ .nil pass0 (pa_cons (pv 3) (pa_cons (pv 4) pa_nil))))))), ?_⟩
    obtain ⟨rs, hS, hSl, hSr⟩ := R.ex
    have r00 : 0 < rows.length := by omega
    obtain ⟨rr, hr0⟩ : ∃ r, rs[0]? = some r := ⟨rs[0]'(by omega), List.getElem?_eq_getElem _⟩
    have hs0 := hSr 0 rr hr0
    have row0 : rows.getD 0 [] = rows[0] := getD_mem r00
    have len0 : (rows.getD 0 []).length = b := by rw [row0]; exact (hM _ (List.getElem_mem r00)).1
    have cut1 : cutV (nv (rows.getD 0 [])) (some 1) none = nv (rows.getD 0 []).tail := by
      unfold cutV
      rw [show HT.sIx (nv (rows.getD 0 [])).length 0 (some 1) = 1 from by rw [nv_len, len0]; have := HT.sIx_nat b 0 1; rw [show ((1 : Nat) : Int) = 1 from rfl] at this; rw [this]; omega, show HT.sIx (nv (rows.getD 0 [])).length (nv (rows.getD 0 [])).length none = b from by rw [nv_len, len0]; rfl]
      rw [List.take_of_length_le (by rw [List.length_drop, nv_len, len0]; exact Nat.le_refl _)]
      simp [nv, List.map_tail]
    have Rn : ∀ {y : Addr} {o : HO} {z : Addr}, H y = some o → H z = none → y ≠ z := fun e1 e2 => ne_of_none e1 e2
    refine ⟨_, rfl, r, _, _, V.ref rr, rfl, rfl, hS, atI_nat (j := 0) (by rw [List.getElem?_map, hr0]; rfl), 1, rfl, rr, _, rfl, hs0, fun t1 ht1 => ?_⟩
    rw [cut1]
    refine ⟨t1, _, rfl, .inr (SqL.of upd_same), by rw [List.append_nil, List.length_cons, nv_len, List.length_tail, len0, sizeLine_eq]; omega, fun fi1 hf1 => ?_⟩
    rw [List.append_nil]
    have e0 : (V.int 0 :: nv (rows.getD 0 []).tail) = nv (0 :: (rows.getD 0 []).tail) := rfl
    rw [e0]
    generalize hH1 : upd (upd H t1 (.lst (nv (rows.getD 0 []).tail))) fi1 (.lst (nv (0 :: (rows.getD 0 []).tail))) = H1
    have s1 : Same H H1 := fun y o e => by
      have h1 : upd H t1 (.lst (nv (rows.getD 0 []).tail)) y = some o := by rw [upd_ne (ne_of_none e ht1)]; exact e
      rw [← hH1, upd_ne (ne_of_none h1 hf1)]
      exact h1
    have f1 : H1 fi1 = some (.lst (nv (0 :: (rows.getD 0 []).tail))) := by rw [← hH1, upd_same]
    -- the two lists
    refine ⟨_, rfl, _, rfl, r, _, rfl, .inr (s1.seq hS), by rw [List.append_nil, List.length_cons, List.length_map, hSl, sizeLine_eq]; omega, fun l1 hl1 => ?_⟩
    rw [List.append_nil]
    have s2 : Same H (upd H1 l1 (.lst (V.ref fi1 :: rs.map V.ref))) := fun y o e => by rw [upd_ne (ne_of_none (s1 _ _ e) hl1)]; exact s1 _ _ e
    refine ⟨_, rfl, m, _, rfl, .inr (s2.seq hK), by rw [List.append_nil, List.length_cons, List.length_map, sizeLine_eq]; omega, fun l2 hl2 => ?_⟩
    rw [List.append_nil]
    have e1 : (V.non :: ms.map V.bl) = (addMark ms).map mV := by
      show _ = mV none :: (ms.map some).map mV
      rw [List.map_map]
      rfl
    rw [e1]
    generalize hH2 : upd (upd H1 l1 (.lst (V.ref fi1 :: rs.map V.ref))) l2 (.lst ((addMark ms).map mV)) = H2
    have s3 : Same (upd H1 l1 (.lst (V.ref fi1 :: rs.map V.ref))) H2 := fun y o e => by rw [← hH2, upd_ne (ne_of_none e hl2)]; exact e
    have s4 : Same H H2 := fun y o e => s3 _ _ (s2 _ _ e)
    have f2 : H2 fi1 = some (.lst (nv (0 :: (rows.getD 0 []).tail))) := s3 _ _ (by rw [upd_ne (ne_of_none f1 hl1)]; exact f1)
    have m2 : H2 l2 = some (.lst ((addMark ms).map mV)) := by rw [← hH2, upd_same]
    have a2 : H2 l1 = some (.lst (V.ref fi1 :: rs.map V.ref)) := s3 _ _ upd_same
    have RA : RowsL K H2 l1 (addStart rows) := by
      refine ⟨fi1 :: rs, SqL.of a2, by simp [addStart, hSl], fun i q e => ?_⟩
      cases i with
      | zero =>
        cases e
        exact SqL.of f2
      | succ i => exact s4.seq (hSr i q e)
    have la : (addMark ms).length = ms.length + 1 := by simp [addMark]
    have MA := addStart_mach hl h0 hb0 hM
    refine ⟨_, rfl, _, ms.length, rfl, .inl ⟨_, s4.seq hS, by rw [List.length_map, hSl, hl]⟩, l1, l2, addStart rows, addMark ms, b, ms.length, rfl, RA, SqL.of m2, MA, hb0, by omega, by omega, hb, fun H3 _ wd => absurd wd (not_wide (by omega)), fun p a c H3 Rn Mn hp s5 e3 ra mc le => ?_⟩
    -- unpacking, and the kind
    refine ⟨p, _, rfl, SqT.of e3, rfl, _, _, rfl, _, _, rfl, rfl, ?_⟩
    refine ⟨_, rfl, _, rfl, fun x dx hx hdx ne => ?_⟩
    generalize hH4 : upd (upd H3 dx (.own x)) x (.ins C dx []) = H4
    have s6 : Same H3 H4 := fun y o e => by rw [← hH4, upd_ne (ne_of_none e hx), upd_ne (ne_of_none e hdx)]; exact e
    have x4 : H4 x = some (.ins C dx []) := by rw [← hH4, upd_same]
    have ml : Mn.length ≤ ms.length + 1 := by rw [le.1.len]; exact le.2.2
    refine ⟨x, dx, a, c, Mn, rfl, x4, mc.ext s6, by omega, fun H5 wy w0 kp ko hw hw0 => ⟨rfl, q x H5 Rn Mn ?_ (fun y o e => ?_) ⟨a, c, wy, ko, (ra.ext s6).kp x4 kp, sqT_kp (mc.ext s6) x4 kp⟩ le⟩⟩
    · cases e : H x with
      | none => rfl
      | some o => rw [s5 _ _ (s4 _ _ e)] at hx; cases hx
    · have e' := s5 _ _ (s4 _ _ e)
      exact kp _ _ (s6 _ _ e') (ne_of_none e' hx)
end
end B

namespace B
open PySem L2 MK Hop
/-! ### figures and values -/
def valN (b : Nat) (w : List Nat) : Nat := w.foldl (fun v a => v * b + a) 0
theorem valN_snoc (b : Nat) (w : List Nat) (a : Nat) : valN b (w ++ [a]) = valN b w * b + a := by simp [valN, List.foldl_append]
theorem valN_figs {b : Nat} (hb : 2 ≤ b) : ∀ n : Nat, valN b (figs b n) = n := by
  intro n
  induction n using Nat.strongRecOn with
  | ind n ih =>
    by_cases h : n = 0
    · subst h; rw [figs_zero]; rfl
    · rw [figs_pos (by omega) hb, valN_snoc, ih (n / b) (Nat.div_lt_self (by omega) (by omega))]
      have := Nat.div_add_mod n b
      rw [Nat.mul_comm b] at this
      exact this
theorem figs_valN {b : Nat} (hb : 2 ≤ b) : ∀ (w : List Nat), (∀ a, a ∈ w → a < b) → (∀ a, w.head? = some a → a ≠ 0) → figs b (valN b w) = w := by
  have key : ∀ (k : Nat) (w : List Nat), w.length = k → (∀ a, a ∈ w → a < b) → (∀ a, w.head? = some a → a ≠ 0) → figs b (valN b w) = w := by
    intro k
    induction k with
    | zero =>
      intro w hk _ _
      have : w = [] := List.length_eq_zero_iff.mp hk
      subst this
      exact figs_zero
    | succ k ih =>
      intro w hk hw hh
      have hne : w ≠ [] := fun e => by subst e; simp at hk
      have ew : w = w.dropLast ++ [w.getLast hne] := (List.dropLast_concat_getLast hne).symm
      generalize hu : w.dropLast = u at ew
      generalize ha : w.getLast hne = a at ew
      have ul : u.length = k := by rw [← hu, List.length_dropLast]; omega
      have ab : a < b := hw a (by rw [ew]; simp)
      have ub : ∀ x, x ∈ u → x < b := fun x hx => hw x (by rw [ew]; simp [hx])
      rw [ew, valN_snoc]
      by_cases hu0 : u = []
      · subst hu0
        have a0 : a ≠ 0 := hh a (by rw [ew]; rfl)
        have e0 : valN b [] * b + a = a := by simp [valN]
        rw [e0, figs_pos (by omega) hb, Nat.div_eq_of_lt ab, Nat.mod_eq_of_lt ab, figs_zero]
      · have hh' : ∀ x, u.head? = some x → x ≠ 0 := fun x hx => hh x (by
          rw [ew, List.head?_append, hx]; rfl)
        have e := ih u ul ub hh'
        have v0 : valN b u ≠ 0 := fun z => hu0 (by rw [← e, z, figs_zero])
        have p0 : 0 < valN b u * b + a := by
          have : 0 < valN b u * b := Nat.mul_pos (by omega) (by omega)
          omega
        rw [figs_pos p0 hb]
        have d1 : (valN b u * b + a) / b = valN b u := by
          rw [Nat.add_comm, Nat.add_mul_div_right _ _ (by omega), Nat.div_eq_of_lt ab, Nat.zero_add]
        have d2 : (valN b u * b + a) % b = a := by
          rw [Nat.add_comm, Nat.add_mul_mod_self_right, Nat.mod_eq_of_lt ab]
        rw [d1, d2, e]
  exact fun w hw hh => key _ w rfl hw hh
theorem figs_ne {b n : Nat} (hb : 2 ≤ b) (h : 0 < n) : figs b n ≠ [] := by
  rw [figs_pos h hb]; simp
theorem figs_head {b : Nat} (hb : 2 ≤ b) : ∀ (n : Nat) (a : Nat), (figs b n).head? = some a → a ≠ 0 := by
  intro n
  induction n using Nat.strongRecOn with
  | ind n ih =>
    intro a ha
    by_cases h : n = 0
    · subst h; rw [figs_zero] at ha; cases ha
    · rw [figs_pos (by omega) hb, List.head?_append] at ha
      by_cases q : n / b = 0
      · rw [q, figs_zero] at ha
        have e : n % b = a := by simpa using ha
        have : n < b := by
          rcases Nat.lt_or_ge n b with z | z
          · exact z
          · have := Nat.div_pos z (by omega); omega
        rw [Nat.mod_eq_of_lt this] at e
        omega
      · have hne := figs_ne (n := n / b) hb (Nat.pos_of_ne_zero q)
        have : (figs b (n / b)).head? = some a := by
          cases hc : figs b (n / b) with
          | nil => exact absurd hc hne
          | cons x xs => rw [hc] at ha; exact ha
        exact ih (n / b) (Nat.div_lt_self (by omega) (by omega)) a this
/-! ### the machine of a kind -/
structure KMach (b : Nat) (R : List (List Nat)) (M : List (Option Bool)) (f : Nat → Bool) : Prop where
  canon : Canon none R M b
  b2 : 2 ≤ b
  b16 : b ≤ 16
  small : R.length ≤ 201
  pos : 0 < R.length
  zero : stepOf R 0 0 = 0
  start : mkOf none M 0 = none
  has : ∀ n, 0 < n → mkOf none M (runs (stepOf R) 0 (figs b n)) = some (f n)
theorem runs_zero {R : List (List Nat)} (h : stepOf R 0 0 = 0) (w : List Nat) : runs (stepOf R) 0 (0 :: w) = runs (stepOf R) 0 w := by
  show runs (stepOf R) (stepOf R 0 0) w = _
  rw [h]
/-- what the machine tells of a word -/
theorem KMach.word {b : Nat} {R : List (List Nat)} {M : List (Option Bool)} {f : Nat → Bool} (k : KMach b R M f) : ∀ (w : List Nat), (∀ a, a ∈ w → a < b) → mkOf none M (runs (stepOf R) 0 w) = if valN b w = 0 then none else some (f (valN b w))
  | [], _ => by
    show mkOf none M 0 = _
    rw [k.start]
    rfl
  | a :: w, hw => by
    by_cases h : a = 0
    · subst h
      rw [runs_zero k.zero, k.word w fun x hx => hw x (List.mem_cons_of_mem _ hx)]
      have e : valN b (0 :: w) = valN b w := by simp [valN]
      rw [e]
    · have e := figs_valN k.b2 (a :: w) hw (fun x hx => by cases hx; exact h)
      have v0 : valN b (a :: w) ≠ 0 := fun z => by rw [z, figs_zero] at e; cases e
      rw [if_neg v0]
      have := k.has (valN b (a :: w)) (by omega)
      rw [e] at this
      exact this
theorem kmach_eq {b : Nat} {R1 R2 : List (List Nat)} {M1 M2 : List (Option Bool)} {f g : Nat → Bool} (k1 : KMach b R1 M1 f) (k2 : KMach b R2 M2 g) (h : ∀ n, 0 < n → f n = g n) : R1 = R2 ∧ M1 = M2 := by
  refine canon_eq k1.canon k2.canon fun w hw => ?_
  rw [k1.word w hw, k2.word w hw]
  by_cases v : valN b w = 0
  · rw [if_pos v, if_pos v]
  · rw [if_neg v, if_neg v, h _ (by omega)]
/-- of different bases, or of different numbers: not the same -/
theorem kmach_ne {b : Nat} {R1 R2 : List (List Nat)} {M1 M2 : List (Option Bool)} {f g : Nat → Bool} (k1 : KMach b R1 M1 f) (k2 : KMach b R2 M2 g) (e : R1 = R2) (e' : M1 = M2) : ∀ n, 0 < n → f n = g n := by
  subst e; subst e'
  intro n hn
  have := (k1.has n hn).symm.trans (k2.has n hn)
  exact Option.some.inj this
theorem kmach_base {b c : Nat} {R : List (List Nat)} {M M2 : List (Option Bool)} {f g : Nat → Bool} (k1 : KMach b R M f) (k2 : KMach c R M2 g) : b = c := by
  have p := k1.pos
  rw [← k1.canon.wid _ (List.getElem_mem p), k2.canon.wid _ (List.getElem_mem p)]
/-- the machine that comes out of _kind_of -/
theorem of_least {b most : Nat} {rows : List (List Nat)} {ms : List Bool} {R : List (List Nat)} {M : List (Option Bool)} {f : Nat → Bool} (hb : 2 ≤ b) (hb' : b ≤ 16) (hm : most ≤ 201) (le : Least (addStart rows) (addMark ms) b most R M) (hr : ∀ r, r ∈ rows → r.length = b) (h0 : 0 < rows.length)
    (h : ∀ n, 0 < n → markOf (addMark ms) (runs (stepOf (addStart rows)) 1 (figs b n)) = some (f n)) : KMach b R M f := by
  obtain ⟨c, bo, l⟩ := le
  have z1 : stepOf (addStart rows) 0 0 = 0 := rfl
  have p : 0 < R.length := by
    rcases Nat.eq_zero_or_pos R.length with z | z
    · have g := c.grow
      have : R = [] := List.length_eq_zero_iff.mp z
      subst this
      have e : (1 : Nat) = 0 := g
      omega
    · exact z
  have st : mkOf none M 0 = none := bo [] (fun _ h => absurd h List.not_mem_nil)
  have hs0 : stepOf R 0 0 < R.length := c.mach.step p (by omega)
  have zr : stepOf R 0 0 = 0 := by
    refine c.min _ _ hs0 p fun w hw => ?_
    have e1 := bo (0 :: w) (fun a ha => by
      rcases List.mem_cons.mp ha with q | q
      · omega
      · exact hw a q)
    have e2 := bo w hw
    rw [show runs (stepOf (addStart rows)) 0 (0 :: w) = runs (stepOf (addStart rows)) 0 w from runs_zero z1 w] at e1
    exact e1.trans e2.symm
  refine ⟨c, hb, hb', by omega, p, zr, st, fun n hn => ?_⟩
  rw [bo (figs b n) (figs_lt hb n), ← h n hn]
  cases hf : figs b n with
  | nil => exact absurd hf (figs_ne hb hn)
  | cons a w =>
    have a0 : a ≠ 0 := figs_head hb n a (by rw [hf]; rfl)
    show markOf (addMark ms) (runs _ (stepOf (addStart rows) 0 a) w) = markOf (addMark ms) (runs _ (stepOf (addStart rows) 1 a) w)
    have e : stepOf (addStart rows) 0 a = stepOf (addStart rows) 1 a := by
      obtain ⟨r, rs, rfl⟩ : ∃ r rs, rows = r :: rs := by
        cases rows with
        | nil => simp at h0
        | cons r rs => exact ⟨r, rs, rfl⟩
      show (0 :: r.tail).getD a 0 = r.getD a 0
      cases a with
      | zero => exact absurd rfl a0
      | succ a =>
        cases r with
        | nil => rfl
        | cons x xs => rfl
    rw [e]
end B

namespace B
open PySem L2 MK Hop
/-! ### the machines of the six functions -/
def rowIs (b f : Nat) : List Nat := (List.range b).map fun one => if one = f then 2 else 1
def rowsRest (b m g : Nat) : List (List Nat) := (List.range m).map fun s => (List.range b).map fun a => (s * g + a) % m + 1
def marksRest (m r : Nat) : List Bool := (List.range m).map fun s => decide (s = r)
theorem rowIs_get {b f a : Nat} (h : a < b) : (rowIs b f).getD a 0 = if a = f then 2 else 1 := by
  rw [getD_mem (by simp [rowIs, h])]
  simp [rowIs]
theorem rep_get {b v a : Nat} (h : a < b) : (List.replicate b v).getD a 0 = v := by
  rw [getD_mem (by simp [h])]
  simp
theorem runs_snoc (step : Nat → Nat → Nat) (s : Nat) (w : List Nat) (a : Nat) : runs step s (w ++ [a]) = step (runs step s w) a := by
  unfold runs
  rw [List.foldl_append]
  rfl
theorem runs_bears {b f : Nat} : ∀ (w : List Nat), (∀ a, a ∈ w → a < b) → runs (stepOf (addStart [rowIs b f, List.replicate b 2])) 1 w = if f ∈ w then 2 else 1 := by
  have two : ∀ (w : List Nat), (∀ a, a ∈ w → a < b) → runs (stepOf (addStart [rowIs b f, List.replicate b 2])) 2 w = 2 := by
    intro w
    induction w with
    | nil => intro _; rfl
    | cons a w ih =>
      intro hw
      show runs _ (stepOf (addStart [rowIs b f, List.replicate b 2]) 2 a) w = 2
      have : stepOf (addStart [rowIs b f, List.replicate b 2]) 2 a = 2 := rep_get (hw a List.mem_cons_self)
      rw [this]
      exact ih fun x hx => hw x (List.mem_cons_of_mem _ hx)
  intro w
  induction w with
  | nil => intro _; rfl
  | cons a w ih =>
    intro hw
    show runs _ (stepOf (addStart [rowIs b f, List.replicate b 2]) 1 a) w = _
    have : stepOf (addStart [rowIs b f, List.replicate b 2]) 1 a = if a = f then 2 else 1 := rowIs_get (hw a List.mem_cons_self)
    rw [this]
    have hw' : ∀ x, x ∈ w → x < b := fun x hx => hw x (List.mem_cons_of_mem _ hx)
    by_cases c : a = f
    · rw [if_pos c, two w hw', if_pos (by simp [c])]
    · rw [if_neg c, ih hw']
      by_cases d : f ∈ w
      · rw [if_pos d, if_pos (List.mem_cons_of_mem _ d)]
      · rw [if_neg d, if_neg (by simp only [List.mem_cons, not_or]; exact ⟨fun e => c e.symm, d⟩)]
theorem has_bears {b f : Nat} (hb : 2 ≤ b) (n : Nat) : markOf (addMark [false, true]) (runs (stepOf (addStart [rowIs b f, List.replicate b 2])) 1 (figs b n)) = some (decide (f ∈ figs b n)) := by
  rw [runs_bears _ (figs_lt hb n)]
  by_cases c : f ∈ figs b n
  · rw [if_pos c, decide_eq_true c]; rfl
  · rw [if_neg c, decide_eq_false c]; rfl
theorem has_ends {b f : Nat} (hb : 2 ≤ b) (n : Nat) (hn : 0 < n) : markOf (addMark [false, true]) (runs (stepOf (addStart [rowIs b f, rowIs b f])) 1 (figs b n)) = some (decide (n % b = f)) := by
  have lt := figs_lt hb (n / b)
  have two : ∀ (w : List Nat), (∀ a, a ∈ w → a < b) → ∀ s, (s = 1 ∨ s = 2) → (runs (stepOf (addStart [rowIs b f, rowIs b f])) s w = 1 ∨ runs (stepOf (addStart [rowIs b f, rowIs b f])) s w = 2) := by
    intro w
    induction w with
    | nil => intro _ s hs; exact hs
    | cons a w ih =>
      intro hw s hs
      refine ih (fun x hx => hw x (List.mem_cons_of_mem _ hx)) _ ?_
      have e : stepOf (addStart [rowIs b f, rowIs b f]) s a = if a = f then 2 else 1 := by
        rcases hs with rfl | rfl <;> exact rowIs_get (hw a List.mem_cons_self)
      rw [e]
      by_cases c : a = f
      · rw [if_pos c]; exact .inr rfl
      · rw [if_neg c]; exact .inl rfl
  rw [figs_pos hn hb, runs_snoc]
  have hs := two (figs b (n / b)) lt 1 (.inl rfl)
  have e : stepOf (addStart [rowIs b f, rowIs b f]) (runs (stepOf (addStart [rowIs b f, rowIs b f])) 1 (figs b (n / b))) (n % b) = if n % b = f then 2 else 1 := by
    rcases hs with h | h <;> rw [h] <;> exact rowIs_get (Nat.mod_lt _ (by omega))
  rw [e]
  by_cases c : n % b = f
  · rw [if_pos c, decide_eq_true c]; rfl
  · rw [if_neg c, decide_eq_false c]; rfl
theorem has_every {b : Nat} (hb : 2 ≤ b) (n : Nat) : markOf (addMark [true]) (runs (stepOf (addStart [List.replicate b 1])) 1 (figs b n)) = some true := by
  have two : ∀ (w : List Nat), (∀ a, a ∈ w → a < b) → runs (stepOf (addStart [List.replicate b 1])) 1 w = 1 := by
    intro w
    induction w with
    | nil => intro _; rfl
    | cons a w ih =>
      intro hw
      show runs _ (stepOf (addStart [List.replicate b 1]) 1 a) w = 1
      have : stepOf (addStart [List.replicate b 1]) 1 a = 1 := rep_get (hw a List.mem_cons_self)
      rw [this]
      exact ih fun x hx => hw x (List.mem_cons_of_mem _ hx)
  rw [two _ (figs_lt hb n)]
  rfl
def remOf (m g s : Nat) (w : List Nat) : Nat := w.foldl (fun s a => (s * g + a) % m) s
theorem remOf_lt {m g : Nat} (hm : 0 < m) : ∀ (w : List Nat) (s : Nat), s < m → remOf m g s w < m
  | [], _, h => h
  | a :: w, s, _ => remOf_lt hm w _ (Nat.mod_lt _ hm)
theorem rest_step {b m g s a : Nat} (hs : s < m) (ha : a < b) : stepOf (addStart (rowsRest b m g)) (s + 1) a = (s * g + a) % m + 1 := by
  show ((rowsRest b m g).getD s []).getD a 0 = _
  rw [getD_mem (show s < (rowsRest b m g).length by simp [rowsRest, hs])]
  have e : (rowsRest b m g)[s]'(by simp [rowsRest, hs]) = (List.range b).map fun a => (s * g + a) % m + 1 := by simp [rowsRest]
  rw [e, getD_mem (by simp [ha])]
  simp
theorem runs_rest {b m g : Nat} (hm : 0 < m) : ∀ (w : List Nat), (∀ a, a ∈ w → a < b) → ∀ s, s < m → runs (stepOf (addStart (rowsRest b m g))) (s + 1) w = remOf m g s w + 1
  | [], _, s, _ => rfl
  | a :: w, hw, s, hs => by
    show runs _ (stepOf (addStart (rowsRest b m g)) (s + 1) a) w = _
    rw [rest_step hs (hw a List.mem_cons_self)]
    exact runs_rest hm w (fun x hx => hw x (List.mem_cons_of_mem _ hx)) _ (Nat.mod_lt _ hm)
theorem has_byrest {b m g r : Nat} (hb : 2 ≤ b) (hm : 0 < m) (n : Nat) : markOf (addMark (marksRest m r)) (runs (stepOf (addStart (rowsRest b m g))) 1 (figs b n)) = some (decide (remOf m g 0 (figs b n) = r)) := by
  have h := runs_rest (b := b) (g := g) hm (figs b n) (figs_lt hb n) 0 hm
  rw [Nat.zero_add] at h
  rw [h]
  have l := remOf_lt (g := g) hm (figs b n) 0 hm
  generalize remOf m g 0 (figs b n) = s at l ⊢
  show ((marksRest m r).map some).getD s none = _
  rw [getD_mem (by simp [marksRest, l])]
  simp [marksRest]
theorem remOf_val {b m : Nat} (hm : 0 < m) : ∀ (w : List Nat) (s v : Nat), s = v % m → remOf m b s w = (w.foldl (fun v a => v * b + a) v) % m
  | [], s, v, h => h
  | a :: w, s, v, h => by
    refine remOf_val hm w _ _ ?_
    show (s * b + a) % m = (v * b + a) % m
    rw [h, Nat.add_mod, Nat.mod_mul_mod, ← Nat.add_mod]
theorem remOf_sum {m : Nat} (hm : 0 < m) : ∀ (w : List Nat) (s v : Nat), s = v % m → remOf m 1 s w = (v + w.sum) % m
  | [], s, v, h => by simpa [remOf] using h
  | a :: w, s, v, h => by
    have := remOf_sum hm w ((s * 1 + a) % m) (v + a) (by rw [h, Nat.mul_one, Nat.mod_add_mod])
    rw [List.sum_cons, ← Nat.add_assoc]
    exact this
theorem has_rest {b m r : Nat} (hb : 2 ≤ b) (hm : 0 < m) (n : Nat) : markOf (addMark (marksRest m r)) (runs (stepOf (addStart (rowsRest b m b))) 1 (figs b n)) = some (decide (n % m = r)) := by
  rw [has_byrest hb hm]
  have := remOf_val (b := b) hm (figs b n) 0 0 (Nat.zero_mod m).symm
  rw [this]
  have e := valN_figs hb n
  unfold valN at e
  rw [e]
theorem has_sum {b m r : Nat} (hb : 2 ≤ b) (hm : 0 < m) (n : Nat) : markOf (addMark (marksRest m r)) (runs (stepOf (addStart (rowsRest b m 1))) 1 (figs b n)) = some (decide ((figs b n).sum % m = r)) := by
  rw [has_byrest hb hm]
  have := remOf_sum hm (figs b n) 0 0 (Nat.zero_mod m).symm
  rw [this, Nat.zero_add]
end B

namespace B
open PySem L2 MK Hop
def KindHas (K : PySem.W.Frag) (C : Addr) (H : Hp) (x : Addr) (b : Nat) (f : Nat → Bool) : Prop := ∃ R M, KindAt K C H x R M ∧ KMach b R M f
def Gets (K : PySem.W.Frag) (C : Addr) (H : Hp) (Q : VK) (b : Nat) (f : Nat → Bool) : Prop := ∀ (x : Addr) (H' : Hp), H x = none → Same H H' → KindHas K C H' x b f → Q (.ref x) H'
def spEvery (K : PySem.W.Frag) (C : Addr) : Sp := fun vs H Q _ => ∃ b : Nat, vs = [.int (b : Nat)] ∧ 2 ≤ b ∧ b ≤ 16 ∧ Gets K C H Q b fun _ => true
def spEnds (K : PySem.W.Frag) (C : Addr) : Sp := fun vs H Q _ => ∃ b f : Nat, vs = [.int (b : Nat), .int (f : Nat)] ∧ 2 ≤ b ∧ b ≤ 16 ∧ f < b ∧ Gets K C H Q b fun n => decide (n % b = f)
def spBears (K : PySem.W.Frag) (C : Addr) : Sp := fun vs H Q _ => ∃ b f : Nat, vs = [.int (b : Nat), .int (f : Nat)] ∧ 2 ≤ b ∧ b ≤ 16 ∧ f < b ∧ Gets K C H Q b fun n => decide (f ∈ figs b n)
theorem same_new {H : Hp} {a : Addr} {o : HO} (h : H a = none) : Same H (upd H a o) := fun x u e => by rw [upd_ne (ne_of_none e h)]; exact e
/-- from what _kind_of promises -/
theorem gets_ko {K : PySem.W.Frag} {C : Addr} {H H1 : Hp} {Q : VK} {b : Nat} {f : Nat → Bool} {rows : List (List Nat)} {ms : List Bool} (g : Gets K C H Q b f) (s1 : Same H H1) (hb : 2 ≤ b) (hb' : b ≤ 16) (hm : ms.length ≤ 200) (hr : ∀ r, r ∈ rows → r.length = b) (h0 : 0 < rows.length)
    (h : ∀ n, 0 < n → markOf (addMark ms) (runs (stepOf (addStart rows)) 1 (figs b n)) = some (f n)) :
    ∀ (x : Addr) (H' : Hp) (R : List (List Nat)) (M : List (Option Bool)), H1 x = none → Same H1 H' → KindAt K C H' x R M → Least (addStart rows) (addMark ms) b (ms.length + 1) R M → Q (.ref x) H' := fun x H' R M hx s2 ka le => g x H' (by
      cases e : H x with
      | none => rfl
      | some o => rw [s1 _ _ e] at hx; cases hx) (fun y o e => s2 _ _ (s1 _ _ e)) ⟨R, M, ka, of_least hb hb' (by omega) le hr h0 h⟩
section
variable {P : Program} {w : World} {K : PySem.W.Frag} {mg : Str → Option Value} {base : Heap}
theorem ok_every {C : Addr} {f : Addr} {fd : FuncData} (F : Fun K "every" "every" s_every f fd) (D1 : Df P w K mg base CX0 4 "_kind_of" ["rows", "marks"] (spKo K C)) (Db : Df P w K mg base CX0 3 "check_base" ["value"] (spCk1 2 16)) : FnOk P w K mg base CX0 5 f fd ["base"] (spEvery K C) := by
  obtain ⟨_, _, G__kind_of, g__kind_of, k__kind_of, b__kind_of⟩ := D1
  obtain ⟨_, _, G_check_base, g_check_base, k_check_base, b_check_base⟩ := Db
  refine F.ok sc_every (fun vs H Q E h => ?_) (fun cdv A outer s H vs Q E hr h => ?_)
  · obtain ⟨b, rfl, _⟩ := h
    rfl
  · obtain ⟨b, rfl, hb2, hb16, q⟩ := h
    have nd := sc_every.nd
    have hu := hu_of hr
    refine ⟨_, (pss_cons (ps_expr (pe_call G_check_base (hr.mono (by decide)) (by rfl) g_check_base k_check_base b_check_base .nil pass0 (pa_cons (pv 0) pa_nil)))
      (pss_one (ps_ret (pe_call G__kind_of (hr.mono (by decide)) (by rfl) g__kind_of k__kind_of b__kind_of .nil pass0 (pa_cons (pe_lst (pa_cons (pe_op op_rep (pe_lst (pa_cons pe_int pa_nil)) (pv 0)) pa_nil)) (pa_cons (pe_lst (pa_cons pe_bl pa_nil)) pa_nil)))))), ?_⟩
    have lz : ∀ {n : Nat}, n ≤ 1000 → n ≤ sizeLine := fun h => by rw [sizeLine_eq]; omega
    refine ⟨_, rfl, (b : Int), rfl, by omega, by omega, ?_⟩
    refine ⟨lz (by simp), fun l hl => ⟨_, rfl, l, b, _, rfl, rfl, upd_same, by omega, by omega, lz (by simp; omega), fun p hp => ?_⟩⟩
    refine ⟨lz (by simp), fun r hr => ⟨lz (by simp), fun m hm => ?_⟩⟩
    have e1 : (List.replicate ((b : Int)).toNat [V.int 1]).flatten = nv (List.replicate b 1) := by
      rw [Int.toNat_natCast]
      simp [nv]
    rw [e1] at hr hm ⊢
    generalize hH1 : upd (upd (upd (upd H l (.lst [.int 1])) p (.lst (nv (List.replicate b 1)))) r (.lst [.ref p])) m (.lst [.bl true]) = H1
    have sA : Same (upd H l (.lst [.int 1])) (upd (upd H l (.lst [.int 1])) p (.lst (nv (List.replicate b 1)))) := same_new hp
    have sB := same_new (o := .lst [.ref p]) hr
    have sC := same_new (o := .lst [.bl true]) hm
    rw [hH1] at sC
    have s1 : Same H H1 := ((same_new hl).trans sA).trans (sB.trans sC)
    have m1 : H1 m = some (.lst [.bl true]) := by rw [← hH1, upd_same]
    have r1 : H1 r = some (.lst [.ref p]) := sC _ _ upd_same
    have p1 : H1 p = some (.lst (nv (List.replicate b 1))) := sC _ _ (sB _ _ upd_same)
    refine ⟨r, m, [List.replicate b 1], [true], b, rfl, ⟨[p], SqL.of r1, rfl, fun i q e => ?_⟩, SqL.of m1, rfl, by decide, by decide, by omega, by omega, fun r hr => ?_, gets_ko q s1 hb2 hb16 (by decide) (fun r hr => ?_) (by simp) fun n _ => has_every hb2 n⟩
    · cases i with
      | zero => cases e; exact SqL.of p1
      | succ i => simp at e
    · rw [List.mem_singleton.mp hr]
      exact ⟨by simp, fun x hx => by rw [(List.mem_replicate.mp hx).2]; decide⟩
    · rw [List.mem_singleton.mp hr]
      simp
theorem ok_ends {C : Addr} {fa : Addr} {fd : FuncData} (F : Fun K "ends" "ends" s_ends fa fd) (D1 : Df P w K mg base CX0 4 "_kind_of" ["rows", "marks"] (spKo K C)) (Db : Df P w K mg base CX0 3 "check_base" ["value"] (spCk1 2 16)) (Df1 : Df P w K mg base CX0 3 "check_figure" ["value", "base"] spCk2) (g_range : mg "range" = none) : FnOk P w K mg base CX0 5 fa fd ["base", "figure"] (spEnds K C) := by
  obtain ⟨_, _, G__kind_of, g__kind_of, k__kind_of, b__kind_of⟩ := D1
  obtain ⟨_, _, G_check_base, g_check_base, k_check_base, b_check_base⟩ := Db
  obtain ⟨_, _, G_check_figure, g_check_figure, k_check_figure, b_check_figure⟩ := Df1
  refine F.ok sc_ends (fun vs H Q E h => ?_) (fun cdv A outer s H vs Q E hr h => ?_)
  · obtain ⟨b, f, rfl, _⟩ := h
    rfl
  · obtain ⟨b, f, rfl, hb2, hb16, hf, q⟩ := h
    have nd := sc_ends.nd
    have hu := hu_of hr
    refine ⟨_, (pss_cons (ps_expr (pe_call G_check_base (hr.mono (by decide)) (by rfl) g_check_base k_check_base b_check_base .nil pass0 (pa_cons (pv 0) pa_nil)))
      (pss_cons (ps_expr (pe_call G_check_figure (hr.mono (by decide)) (by rfl) g_check_figure k_check_figure b_check_figure .nil pass0 (pa_cons (pv 1) (pa_cons (pv 0) pa_nil))))
      (pss_cons (ps_setLc (i := 2) (own := [("one", 3)]) (g := gName 3) (tt := tYes) (by rfl) nd rfl rfl (sw_true rfl rfl rfl (by decide +kernel)) (pi_range1 (by rfl) g_range (pa_cons (pv 0) pa_nil)) (blkOk_by (own := [("one", 3)]) (N := ["base", "figure", "row", "one"]) (sc := defScope s_ends) (by decide +kernel)) (fun _ _ _ _ _ => (pg_name (i := 3) nd rfl (Or.inl rfl))) (fun _ _ _ _ _ => pts_nil) (fun _ _ _ _ _ => (pe_ifExp (pt_cmpR op_eq (pv 3) (pv 1) (nomark _)) pe_int pe_int)))
      (pss_one (ps_ret (pe_call G__kind_of (hr.mono (by decide)) (by rfl) g__kind_of k__kind_of b__kind_of .nil pass0 (pa_cons (pe_lst (pa_cons (pv 2) (pa_cons (pv 2) pa_nil))) (pa_cons (pe_lst (pa_cons pe_bl (pa_cons pe_bl pa_nil))) pa_nil)))))))), ?_⟩
    have lz : ∀ {n : Nat}, n ≤ 1000 → n ≤ sizeLine := fun h => by rw [sizeLine_eq]; omega
    refine ⟨_, rfl, (b : Int), rfl, by omega, by omega, _, rfl, _, rfl, (f : Int), (b : Int), rfl, by omega, by omega, ?_⟩
    refine ⟨_, rfl, (b : Int), rfl, by omega, by omega, fun D hD => ?_⟩
    refine lc_range (lo := 0) (n := b) (fun i H' => Kp1 D H H' ∧ H' D = some (.lst (nv ((rowIs b f).take i)))) ⟨fun y o e ne => by rw [upd_ne ne]; exact e, upd_same⟩ ?_ ?_
    · rintro i H' hi ⟨kp, hD'⟩
      refine ⟨rfl, yes_i ?_⟩
      have gi : (rowIs b f)[i]? = some (if i = f then 2 else 1) := by
        rw [List.getElem?_eq_getElem (by simp [rowIs, hi])]
        simp [rowIs]
      have fin : ∀ v : Nat, v = (if i = f then 2 else 1) → ∃ acc, H' D = some (.lst acc) ∧ acc.length < sizeLine ∧ Kp1 D H (upd H' D (.lst (acc ++ [.int (v : Nat)]))) ∧ upd H' D (.lst (acc ++ [.int (v : Nat)])) D = some (.lst (nv ((rowIs b f).take (i + 1)))) := by
        intro v hv
        refine ⟨_, hD', by rw [nv_len, List.length_take, sizeLine_eq]; omega, fun y o e ne => by rw [upd_ne ne]; exact kp y o e ne, ?_⟩
        rw [upd_same, nv_snoc, hv, take_snoc gi]
      refine ⟨_, rfl, _, rfl, rfl, _, rfl, ?_⟩
      rw [dec_int]
      by_cases c : i = f
      · rw [show (((0 : Int) + (i : Nat)) == ((f : Nat) : Int)) = true from beq_iff_eq.mpr (by omega)]
        exact fin 2 (if_pos c).symm
      · rw [show (((0 : Int) + (i : Nat)) == ((f : Nat) : Int)) = false from beq_eq_false_iff_ne.mpr (by omega)]
        exact fin 1 (if_neg c).symm
    · rintro H3 ⟨kp, hD3⟩
      rw [show (rowIs b f).take b = rowIs b f from List.take_of_length_le (by simp [rowIs])] at hD3
      have sD : Same H H3 := fun y o e => kp y o e (ne_of_none e hD)
      refine ⟨_, rfl, _, rfl, lz (by simp), fun r hr => ⟨lz (by simp), fun m hm => ?_⟩⟩
      have sB : Same H3 (upd H3 r (.lst [.ref D, .ref D])) := same_new hr
      have sC := same_new (o := .lst [.bl false, .bl true]) hm
      generalize hH1 : upd (upd H3 r (.lst [.ref D, .ref D])) m (.lst [.bl false, .bl true]) = H1 at sC
      have s1 : Same H H1 := sD.trans (sB.trans sC)
      have m1 : H1 m = some (.lst [.bl false, .bl true]) := by rw [← hH1, upd_same]
      have r1 : H1 r = some (.lst [.ref D, .ref D]) := sC _ _ upd_same
      have d1 : H1 D = some (.lst (nv (rowIs b f))) := sC _ _ (sB _ _ hD3)
      have row : ∀ r, r ∈ [rowIs b f, rowIs b f] → r = rowIs b f := fun r hr => by simpa using hr
      refine ⟨r, m, [rowIs b f, rowIs b f], [false, true], b, rfl, ⟨[D, D], SqL.of r1, rfl, fun i q e => ?_⟩, SqL.of m1, rfl, by decide, by decide, by omega, by omega, fun r hr => ?_, gets_ko q s1 hb2 hb16 (by decide) (fun r hr => ?_) (by simp) fun n hn => has_ends hb2 n hn⟩
      · match i, e with
        | 0, e => cases e; exact SqL.of d1
        | 1, e => cases e; exact SqL.of d1
      · rw [row r hr]
        refine ⟨by simp [rowIs], fun x hx => ?_⟩
        obtain ⟨a, _, e⟩ := List.mem_map.mp hx
        subst e
        show (if a = f then 2 else 1) < 3
        split <;> decide
      · rw [row r hr]
        simp [rowIs]
theorem ok_bears {C : Addr} {fa : Addr} {fd : FuncData} (F : Fun K "bears" "bears" s_bears fa fd) (D1 : Df P w K mg base CX0 4 "_kind_of" ["rows", "marks"] (spKo K C)) (Db : Df P w K mg base CX0 3 "check_base" ["value"] (spCk1 2 16)) (Df1 : Df P w K mg base CX0 3 "check_figure" ["value", "base"] spCk2) (g_range : mg "range" = none) : FnOk P w K mg base CX0 5 fa fd ["base", "figure"] (spBears K C) := by
  obtain ⟨_, _, G__kind_of, g__kind_of, k__kind_of, b__kind_of⟩ := D1
  obtain ⟨_, _, G_check_base, g_check_base, k_check_base, b_check_base⟩ := Db
  obtain ⟨_, _, G_check_figure, g_check_figure, k_check_figure, b_check_figure⟩ := Df1
  refine F.ok sc_bears (fun vs H Q E h => ?_) (fun cdv A outer s H vs Q E hr h => ?_)
  · obtain ⟨b, f, rfl, _⟩ := h
    rfl
  · obtain ⟨b, f, rfl, hb2, hb16, hf, q⟩ := h
    have nd := sc_bears.nd
    have hu := hu_of hr
    refine ⟨_, (pss_cons (ps_expr (pe_call G_check_base (hr.mono (by decide)) (by rfl) g_check_base k_check_base b_check_base .nil pass0 (pa_cons (pv 0) pa_nil)))
      (pss_cons (ps_expr (pe_call G_check_figure (hr.mono (by decide)) (by rfl) g_check_figure k_check_figure b_check_figure .nil pass0 (pa_cons (pv 1) (pa_cons (pv 0) pa_nil))))
      (pss_one (ps_ret (pe_call G__kind_of (hr.mono (by decide)) (by rfl) g__kind_of k__kind_of b__kind_of .nil pass0 (pa_cons (pe_lst (pa_cons (pe_lc (own := [("one", 2)]) (g := gName 2) (tt := tYes) (by rfl) nd (pi_range1 (by rfl) g_range (pa_cons (pv 0) pa_nil)) (blkOk_by (own := [("one", 2)]) (N := ["base", "figure", "one"]) (sc := defScope s_bears) (by decide +kernel)) (fun _ _ _ _ _ => (pg_name (i := 2) nd rfl (Or.inl rfl))) (fun _ _ _ _ _ => pts_nil) (fun _ _ _ _ _ => (pe_ifExp (pt_cmpR op_eq (pv 2) (pv 1) (nomark _)) pe_int pe_int))) (pa_cons (pe_op op_rep (pe_lst (pa_cons pe_int pa_nil)) (pv 0)) pa_nil))) (pa_cons (pe_lst (pa_cons pe_bl (pa_cons pe_bl pa_nil))) pa_nil))))))), ?_⟩
    have lz : ∀ {n : Nat}, n ≤ 1000 → n ≤ sizeLine := fun h => by rw [sizeLine_eq]; omega
    refine ⟨_, rfl, (b : Int), rfl, by omega, by omega, _, rfl, _, rfl, (f : Int), (b : Int), rfl, by omega, by omega, ?_⟩
    refine ⟨_, rfl, (b : Int), rfl, by omega, by omega, fun D hD => ?_⟩
    refine lc_range (lo := 0) (n := b) (fun i H' => Kp1 D H H' ∧ H' D = some (.lst (nv ((rowIs b f).take i)))) ⟨fun y o e ne => by rw [upd_ne ne]; exact e, upd_same⟩ ?_ ?_
    · rintro i H' hi ⟨kp, hD'⟩
      refine ⟨rfl, yes_i ?_⟩
      have gi : (rowIs b f)[i]? = some (if i = f then 2 else 1) := by
        rw [List.getElem?_eq_getElem (by simp [rowIs, hi])]
        simp [rowIs]
      have fin : ∀ v : Nat, v = (if i = f then 2 else 1) → ∃ acc, H' D = some (.lst acc) ∧ acc.length < sizeLine ∧ Kp1 D H (upd H' D (.lst (acc ++ [.int (v : Nat)]))) ∧ upd H' D (.lst (acc ++ [.int (v : Nat)])) D = some (.lst (nv ((rowIs b f).take (i + 1)))) := by
        intro v hv
        refine ⟨_, hD', by rw [nv_len, List.length_take, sizeLine_eq]; omega, fun y o e ne => by rw [upd_ne ne]; exact kp y o e ne, ?_⟩
        rw [upd_same, nv_snoc, hv, take_snoc gi]
      refine ⟨_, rfl, _, rfl, rfl, _, rfl, ?_⟩
      rw [dec_int]
      by_cases c : i = f
      · rw [show (((0 : Int) + (i : Nat)) == ((f : Nat) : Int)) = true from beq_iff_eq.mpr (by omega)]
        exact fin 2 (if_pos c).symm
      · rw [show (((0 : Int) + (i : Nat)) == ((f : Nat) : Int)) = false from beq_eq_false_iff_ne.mpr (by omega)]
        exact fin 1 (if_neg c).symm
    · rintro H3 ⟨kp, hD3⟩
      rw [show (rowIs b f).take b = rowIs b f from List.take_of_length_le (by simp [rowIs])] at hD3
      have sD : Same H H3 := fun y o e => kp y o e (ne_of_none e hD)
      refine ⟨lz (by simp), fun l hl => ⟨_, rfl, l, b, _, rfl, rfl, upd_same, by omega, by omega, lz (by simp; omega), fun p hp => ?_⟩⟩
      refine ⟨lz (by simp), fun r hr => ⟨lz (by simp), fun m hm => ?_⟩⟩
      have e1 : (List.replicate ((b : Int)).toNat [V.int 2]).flatten = nv (List.replicate b 2) := by
        rw [Int.toNat_natCast]
        simp [nv]
      rw [e1] at hr hm ⊢
      have sA : Same (upd H3 l (.lst [.int 2])) (upd (upd H3 l (.lst [.int 2])) p (.lst (nv (List.replicate b 2)))) := same_new hp
      have sB := same_new (o := .lst [.ref D, .ref p]) hr
      have sC := same_new (o := .lst [.bl false, .bl true]) hm
      generalize hH1 : upd (upd (upd (upd H3 l (.lst [.int 2])) p (.lst (nv (List.replicate b 2)))) r (.lst [.ref D, .ref p])) m (.lst [.bl false, .bl true]) = H1 at sC
      have s0 : Same H3 H1 := ((same_new hl).trans sA).trans (sB.trans sC)
      have s1 : Same H H1 := sD.trans s0
      have m1 : H1 m = some (.lst [.bl false, .bl true]) := by rw [← hH1, upd_same]
      have r1 : H1 r = some (.lst [.ref D, .ref p]) := sC _ _ upd_same
      have p1 : H1 p = some (.lst (nv (List.replicate b 2))) := sC _ _ (sB _ _ upd_same)
      have d1 : H1 D = some (.lst (nv (rowIs b f))) := s0 _ _ hD3
      have lens : ∀ r, r ∈ [rowIs b f, List.replicate b 2] → r.length = b := fun r hr => by
        rcases List.mem_cons.mp hr with e | e
        · subst e; simp [rowIs]
        · rw [List.mem_singleton.mp e]; simp
      refine ⟨r, m, [rowIs b f, List.replicate b 2], [false, true], b, rfl, ⟨[D, p], SqL.of r1, rfl, fun i q e => ?_⟩, SqL.of m1, rfl, by decide, by decide, by omega, by omega, fun r hr => ⟨lens r hr, fun x hx => ?_⟩, gets_ko q s1 hb2 hb16 (by decide) lens (by simp) fun n hn => has_bears hb2 n⟩
      · match i, e with
        | 0, e => cases e; exact SqL.of d1
        | 1, e => cases e; exact SqL.of p1
      · rcases List.mem_cons.mp hr with e | e
        · subst e
          obtain ⟨a, _, e⟩ := List.mem_map.mp hx
          subst e
          show (if a = f then 2 else 1) < 3
          split <;> decide
        · rw [List.mem_singleton.mp e] at hx
          rw [(List.mem_replicate.mp hx).2]
          decide
end
end B

namespace B
open PySem L2 MK Hop
theorem Gets.congr {K : PySem.W.Frag} {C : Addr} {H : Hp} {Q : VK} {b : Nat} {f g : Nat → Bool} (h : Gets K C H Q b f) (e : ∀ n, 0 < n → g n = f n) : Gets K C H Q b g := fun x H' hx s ⟨R, M, ka, km⟩ => h x H' hx s ⟨R, M, ka, { km with has := fun n hn => by rw [km.has n hn, e n hn] }⟩
def spByRest (K : PySem.W.Frag) (C : Addr) : Sp := fun vs H Q _ => ∃ b m r g : Nat, vs = [.int (b : Nat), .int (m : Nat), .int (r : Nat), .int (g : Nat)] ∧ 2 ≤ b ∧ b ≤ 16 ∧ 2 ≤ m ∧ m ≤ 12 ∧ r < m ∧ g ≤ 16 ∧ Gets K C H Q b fun n => decide (remOf m g 0 (figs b n) = r)
def spRest (K : PySem.W.Frag) (C : Addr) : Sp := fun vs H Q _ => ∃ b m r : Nat, vs = [.int (b : Nat), .int (m : Nat), .int (r : Nat)] ∧ 2 ≤ b ∧ b ≤ 16 ∧ 2 ≤ m ∧ m ≤ 12 ∧ r < m ∧ Gets K C H Q b fun n => decide (n % m = r)
def spSum (K : PySem.W.Frag) (C : Addr) : Sp := fun vs H Q _ => ∃ b m r : Nat, vs = [.int (b : Nat), .int (m : Nat), .int (r : Nat)] ∧ 2 ≤ b ∧ b ≤ 16 ∧ 2 ≤ m ∧ m ≤ 12 ∧ r < m ∧ Gets K C H Q b fun n => decide ((figs b n).sum % m = r)
def spMul (K : PySem.W.Frag) (C : Addr) : Sp := fun vs H Q _ => ∃ b m : Nat, vs = [.int (b : Nat), .int (m : Nat)] ∧ 2 ≤ b ∧ b ≤ 16 ∧ 2 ≤ m ∧ m ≤ 12 ∧ Gets K C H Q b fun n => decide (n % m = 0)
section
variable {P : Program} {w : World} {K : PySem.W.Frag} {mg : Str → Option Value} {base : Heap}
theorem ok_byrest {C : Addr} {f : Addr} {fd : FuncData} (F : Fun K "_by_rest" "_by_rest" s__by_rest f fd) (D1 : Df P w K mg base CX0 4 "_kind_of" ["rows", "marks"] (spKo K C)) (g_range : mg "range" = none) : FnOk P w K mg base CX0 5 f fd ["base", "number", "rest", "factor"] (spByRest K C) := by
  obtain ⟨_, _, G__kind_of, g__kind_of, k__kind_of, b__kind_of⟩ := D1
  refine F.ok sc__by_rest (fun vs H Q E h => ?_) (fun cdv A outer s H vs Q E hr h => ?_)
  · obtain ⟨b, m, r, g, rfl, _⟩ := h
    rfl
  · obtain ⟨b, m, r, g, rfl, hb2, hb16, hm2, hm12, hr0, hg, q⟩ := h
    have nd := sc__by_rest.nd
    have hu := hu_of hr
    refine ⟨_, (pss_cons (ps_setLc (i := 4) (own := [("found", 6)]) (g := gName 6) (tt := tYes) (by rfl) nd rfl rfl (sw_true rfl rfl rfl (by decide +kernel)) (pi_range1 (by rfl) g_range (pa_cons (pv 1) pa_nil)) (blkOk_by (own := [("found", 6)]) (N := ["base", "number", "rest", "factor", "rows", "figure", "found"]) (sc := defScope s__by_rest) (by decide +kernel)) (fun _ _ _ _ _ => (pg_name (i := 6) nd rfl (Or.inr rfl))) (fun _ _ _ _ _ => pts_nil) (fun _ _ _ _ _ => (pe_lc (own := [("figure", 5)]) (g := gName 5) (tt := tYes) (by rfl) nd (pi_range1 (by rfl) g_range (pa_cons (pv 0) pa_nil)) (blkOk_by (own := [("figure", 5)]) (N := ["base", "number", "rest", "factor", "rows", "figure", "found"]) (by kernel_rfl)) (fun _ _ _ _ _ => (pg_name (i := 5) nd rfl (Or.inl rfl))) (fun _ _ _ _ _ => pts_nil) (fun _ _ _ _ _ => (pe_op op_add (pe_op op_mod (pe_op op_add (pe_op op_mulW (pv 6) (pv 3)) (pv 5)) (pv 1)) pe_int)))))
      (pss_one (ps_ret (pe_call G__kind_of (hr.mono (by decide)) (by rfl) g__kind_of k__kind_of b__kind_of .nil pass0 (pa_cons (pv 4) (pa_cons (pe_lc (own := [("found", 6)]) (g := gName 6) (tt := tYes) (by rfl) nd (pi_range1 (by rfl) g_range (pa_cons (pv 1) pa_nil)) (blkOk_by (own := [("found", 6)]) (N := ["base", "number", "rest", "factor", "rows", "figure", "found"]) (sc := defScope s__by_rest) (by decide +kernel)) (fun _ _ _ _ _ => (pg_name (i := 6) nd rfl (Or.inl rfl))) (fun _ _ _ _ _ => pts_nil) (fun _ _ _ _ _ => (pe_cmpR op_eq (pv 6) (pv 2) (nomark _)))) pa_nil)))))), ?_⟩
    have lz : ∀ {n : Nat}, n ≤ 1000 → n ≤ sizeLine := fun h => by rw [sizeLine_eq]; omega
    refine ⟨_, rfl, (m : Int), rfl, by omega, by omega, fun D hD => ?_⟩
    have Dn : ∀ {y : Addr} {o : HO}, H y = some o → y ≠ D := fun e => ne_of_none e hD
    refine lc_range (lo := 0) (n := m) (fun i H' => Kp1 D H H' ∧ ∃ rs : List Addr, H' D = some (.lst (rs.map V.ref)) ∧ rs.length = i ∧ ∀ (j : Nat) (t : Addr), rs[j]? = some t → t ≠ D ∧ H' t = some (.lst (nv ((rowsRest b m g).getD j []))))
      ⟨fun y o e ne => by rw [upd_ne ne]; exact e, [], upd_same, rfl, fun j t e => by simp at e⟩ ?_ ?_
    · rintro i H' hi ⟨kp, rs, hD', hrl, hrs⟩
      refine ⟨rfl, yes_i ?_⟩
      refine ⟨_, rfl, (b : Int), rfl, by omega, by omega, fun T hT => ?_⟩
      have Tn : ∀ {y : Addr} {o : HO}, H' y = some o → y ≠ T := fun e => ne_of_none e hT
      have rowi : (rowsRest b m g).getD i [] = (List.range b).map fun a => (i * g + a) % m + 1 := by
        rw [getD_mem (by simp [rowsRest, hi])]
        simp [rowsRest]
      refine lc_range (lo := 0) (n := b) (fun j H2 => Kp1 T H' H2 ∧ H2 T = some (.lst (nv (((rowsRest b m g).getD i []).take j)))) ⟨fun y o e ne => by rw [upd_ne ne]; exact e, upd_same⟩ ?_ ?_
      · rintro j H2 hj ⟨kp2, hT2⟩
        refine ⟨rfl, yes_i ?_⟩
        have gj : ((rowsRest b m g).getD i [])[j]? = some ((i * g + j) % m + 1) := by
          rw [rowi, List.getElem?_eq_getElem (by simp [hj])]
          simp
        have ev : ((0 : Int) + (i : Nat)) * (g : Nat) + ((0 : Int) + (j : Nat)) = ((i * g + j : Nat) : Int) := by rw [Int.zero_add, Int.zero_add]; push_cast; rfl
        refine ⟨_, rfl, _, rfl, _, _, rfl, rfl, wide_mul (a := 30) (b := 30) ?_ ?_ (by decide) (by decide) (by decide), _, rfl, _, _, rfl, rfl, _, rfl, _, _, rfl, rfl, by omega, _, _, rfl, rfl, ?_⟩
        · rw [show (2 : Nat) ^ 30 = 1073741824 by decide]; omega
        · rw [show (2 : Nat) ^ 30 = 1073741824 by decide]; omega
        rw [ev]
        have ev2 : ((i * g + j : Nat) : Int) % (m : Nat) + 1 = (((i * g + j) % m + 1 : Nat) : Int) := by push_cast; rfl
        show (fun y H4 => ∃ acc, H4 T = some (.lst acc) ∧ acc.length < sizeLine ∧ Kp1 T H' (upd H4 T (.lst (acc ++ [y]))) ∧ upd H4 T (.lst (acc ++ [y])) T = some (.lst (nv (((rowsRest b m g).getD i []).take (j + 1))))) (V.int (((i * g + j : Nat) : Int) % (m : Nat) + 1)) H2
        rw [ev2]
        refine ⟨_, hT2, by rw [nv_len, List.length_take, sizeLine_eq]; omega, fun y o e ne => by rw [upd_ne ne]; exact kp2 y o e ne, ?_⟩
        rw [upd_same, nv_snoc, take_snoc gj]
      · rintro H3 ⟨kp3, hT3⟩
        rw [show ((rowsRest b m g).getD i []).take b = (rowsRest b m g).getD i [] from List.take_of_length_le (by rw [rowi]; simp)] at hT3
        have D3 := kp3 _ _ hD' (Tn hD')
        have DT : D ≠ T := Tn hD'
        refine ⟨_, D3, by rw [List.length_map, hrl, sizeLine_eq]; omega, fun y o e ne => ?_, rs ++ [T], by rw [upd_same]; simp, by simp [hrl], fun j t e => ?_⟩
        · have h1 := kp y o e ne
          rw [upd_ne ne]
          exact kp3 _ _ h1 (Tn h1)
        · by_cases cj : j < rs.length
          · rw [List.getElem?_append_left cj] at e
            obtain ⟨x1, x2⟩ := hrs j t e
            refine ⟨x1, ?_⟩
            rw [upd_ne x1]
            exact kp3 _ _ x2 (Tn x2)
          · rw [List.getElem?_append_right (by omega)] at e
            have e0 : j - rs.length = 0 := by
              rcases Nat.eq_zero_or_pos (j - rs.length) with z | z
              · exact z
              · rw [List.getElem?_eq_none (by simp; omega)] at e; cases e
            rw [e0] at e
            cases e
            have ej : j = i := by omega
            subst ej
            refine ⟨DT.symm, ?_⟩
            rw [upd_ne DT.symm]
            exact hT3
    · rintro H3 ⟨kp, rs, hD3, hrl, hrs⟩
      have s1 : Same H H3 := fun y o e => kp y o e (Dn e)
      have ml : (rowsRest b m g).length = m := by simp [rowsRest]
      refine ⟨_, rfl, _, rfl, (m : Int), rfl, by omega, by omega, fun W hW => ?_⟩
      have Wn : ∀ {y : Addr} {o : HO}, H3 y = some o → y ≠ W := fun e => ne_of_none e hW
      refine lc_range (lo := 0) (n := m) (fun i H' => Kp1 W H3 H' ∧ H' W = some (.lst (((marksRest m r).take i).map V.bl))) ⟨fun y o e ne => by rw [upd_ne ne]; exact e, upd_same⟩ ?_ ?_
      · rintro i H' hi ⟨kp2, hW'⟩
        refine ⟨rfl, yes_i ?_⟩
        have gi : (marksRest m r)[i]? = some (decide (i = r)) := by
          rw [List.getElem?_eq_getElem (by simp [marksRest, hi])]
          simp [marksRest]
        refine ⟨_, rfl, _, rfl, rfl, ?_⟩
        rw [dec_int]
        have ed : (((0 : Int) + (i : Nat)) == ((r : Nat) : Int)) = decide (i = r) := by
          by_cases c : i = r
          · rw [decide_eq_true c]; exact beq_iff_eq.mpr (by omega)
          · rw [decide_eq_false c]; exact beq_eq_false_iff_ne.mpr (by omega)
        rw [ed]
        refine ⟨_, hW', by rw [List.length_map, List.length_take, sizeLine_eq]; omega, fun y o e ne => by rw [upd_ne ne]; exact kp2 y o e ne, ?_⟩
        rw [upd_same, take_snoc gi, List.map_append]
        rfl
      · rintro H4 ⟨kp4, hW4⟩
        rw [show (marksRest m r).take m = marksRest m r from List.take_of_length_le (by simp [marksRest])] at hW4
        have s2 : Same H3 H4 := fun y o e => kp4 y o e (Wn e)
        have mml : (marksRest m r).length = m := by simp [marksRest]
        have rown : ∀ row, row ∈ rowsRest b m g → row.length = b ∧ ∀ x, x ∈ row → x < m + 1 := by
          intro row hrow
          obtain ⟨a, _, e⟩ := List.mem_map.mp hrow
          subst e
          refine ⟨by simp, fun x hx => ?_⟩
          obtain ⟨c, _, e⟩ := List.mem_map.mp hx
          subst e
          have := Nat.mod_lt (a * g + c) (show 0 < m by omega)
          omega
        refine ⟨D, W, rowsRest b m g, marksRest m r, b, rfl, ⟨rs, SqL.of (s2 _ _ hD3), by omega, fun i t e => SqL.of (s2 _ _ (hrs i t e).2)⟩, SqL.of hW4, by omega, by omega, by omega, by omega, by omega, by rw [mml]; exact rown, gets_ko q (s1.trans s2) hb2 hb16 (by omega) (fun row hrow => (rown row hrow).1) (by omega) fun n _ => has_byrest hb2 (by omega) n⟩
theorem ok_rest {C : Addr} {f : Addr} {fd : FuncData} (F : Fun K "rest" "rest" s_rest f fd) (Db : Df P w K mg base CX0 3 "check_base" ["value"] (spCk1 2 16)) (Dd : Df P w K mg base CX0 3 "check_divisor" ["value"] (spCk1 2 12)) (Dr : Df P w K mg base CX0 3 "check_rest" ["value", "divisor"] spCk2) (Dy : Df P w K mg base CX0 5 "_by_rest" ["base", "number", "rest", "factor"] (spByRest K C)) : FnOk P w K mg base CX0 6 f fd ["base", "number", "rest"] (spRest K C) := by
  obtain ⟨_, _, G_check_base, g_check_base, k_check_base, b_check_base⟩ := Db
  obtain ⟨_, _, G_check_divisor, g_check_divisor, k_check_divisor, b_check_divisor⟩ := Dd
  obtain ⟨_, _, G_check_rest, g_check_rest, k_check_rest, b_check_rest⟩ := Dr
  obtain ⟨_, _, G__by_rest, g__by_rest, k__by_rest, b__by_rest⟩ := Dy
  refine F.ok sc_rest (fun vs H Q E h => ?_) (fun cdv A outer s H vs Q E hr h => ?_)
  · obtain ⟨b, m, r, rfl, _⟩ := h
    rfl
  · obtain ⟨b, m, r, rfl, hb2, hb16, hm2, hm12, hr0, q⟩ := h
    have nd := sc_rest.nd
    have hu := hu_of hr
    refine ⟨_, (pss_cons (ps_expr (pe_call G_check_base (hr.mono (by decide)) (by rfl) g_check_base k_check_base b_check_base .nil pass0 (pa_cons (pv 0) pa_nil)))
      (pss_cons (ps_expr (pe_call G_check_divisor (hr.mono (by decide)) (by rfl) g_check_divisor k_check_divisor b_check_divisor .nil pass0 (pa_cons (pv 1) pa_nil)))
      (pss_cons (ps_expr (pe_call G_check_rest (hr.mono (by decide)) (by rfl) g_check_rest k_check_rest b_check_rest .nil pass0 (pa_cons (pv 2) (pa_cons (pv 1) pa_nil))))
      (pss_one (ps_ret (pe_call G__by_rest (hr.mono (by decide)) (by rfl) g__by_rest k__by_rest b__by_rest .nil pass0 (pa_cons (pv 0) (pa_cons (pv 1) (pa_cons (pv 2) (pa_cons (pv 0) pa_nil)))))))))), ?_⟩
    refine ⟨_, rfl, (b : Int), rfl, by omega, by omega, _, rfl, (m : Int), rfl, by omega, by omega, _, rfl, _, rfl, (r : Int), (m : Int), rfl, by omega, by omega, ?_⟩
    refine ⟨_, rfl, _, rfl, _, rfl, _, rfl, b, m, r, b, rfl, hb2, hb16, hm2, hm12, hr0, hb16, q.congr fun n _ => ?_⟩
    have := remOf_val (b := b) (show 0 < m by omega) (figs b n) 0 0 (Nat.zero_mod m).symm
    have e := valN_figs hb2 n
    unfold valN at e
    rw [this, e]
theorem ok_fsum {C : Addr} {f : Addr} {fd : FuncData} (F : Fun K "figure_sum" "figure_sum" s_figure_sum f fd) (Db : Df P w K mg base CX0 3 "check_base" ["value"] (spCk1 2 16)) (Dd : Df P w K mg base CX0 3 "check_divisor" ["value"] (spCk1 2 12)) (Dr : Df P w K mg base CX0 3 "check_rest" ["value", "divisor"] spCk2) (Dy : Df P w K mg base CX0 5 "_by_rest" ["base", "number", "rest", "factor"] (spByRest K C)) : FnOk P w K mg base CX0 6 f fd ["base", "number", "rest"] (spSum K C) := by
  obtain ⟨_, _, G_check_base, g_check_base, k_check_base, b_check_base⟩ := Db
  obtain ⟨_, _, G_check_divisor, g_check_divisor, k_check_divisor, b_check_divisor⟩ := Dd
  obtain ⟨_, _, G_check_rest, g_check_rest, k_check_rest, b_check_rest⟩ := Dr
  obtain ⟨_, _, G__by_rest, g__by_rest, k__by_rest, b__by_rest⟩ := Dy
  refine F.ok sc_figure_sum (fun vs H Q E h => ?_) (fun cdv A outer s H vs Q E hr h => ?_)
  · obtain ⟨b, m, r, rfl, _⟩ := h
    rfl
  · obtain ⟨b, m, r, rfl, hb2, hb16, hm2, hm12, hr0, q⟩ := h
    have nd := sc_figure_sum.nd
    have hu := hu_of hr
    refine ⟨_, (pss_cons (ps_expr (pe_call G_check_base (hr.mono (by decide)) (by rfl) g_check_base k_check_base b_check_base .nil pass0 (pa_cons (pv 0) pa_nil)))
      (pss_cons (ps_expr (pe_call G_check_divisor (hr.mono (by decide)) (by rfl) g_check_divisor k_check_divisor b_check_divisor .nil pass0 (pa_cons (pv 1) pa_nil)))
      (pss_cons (ps_expr (pe_call G_check_rest (hr.mono (by decide)) (by rfl) g_check_rest k_check_rest b_check_rest .nil pass0 (pa_cons (pv 2) (pa_cons (pv 1) pa_nil))))
      (pss_one (ps_ret (pe_call G__by_rest (hr.mono (by decide)) (by rfl) g__by_rest k__by_rest b__by_rest .nil pass0 (pa_cons (pv 0) (pa_cons (pv 1) (pa_cons (pv 2) (pa_cons pe_int pa_nil)))))))))), ?_⟩
    refine ⟨_, rfl, (b : Int), rfl, by omega, by omega, _, rfl, (m : Int), rfl, by omega, by omega, _, rfl, _, rfl, (r : Int), (m : Int), rfl, by omega, by omega, ?_⟩
    refine ⟨_, rfl, _, rfl, _, rfl, b, m, r, 1, rfl, hb2, hb16, hm2, hm12, hr0, by decide, q.congr fun n _ => ?_⟩
    have := remOf_sum (show 0 < m by omega) (figs b n) 0 0 (Nat.zero_mod m).symm
    rw [this, Nat.zero_add]
theorem ok_mul {C : Addr} {f : Addr} {fd : FuncData} (F : Fun K "multiple" "multiple" s_multiple f fd) (Dz : Df P w K mg base CX0 6 "rest" ["base", "number", "rest"] (spRest K C)) : FnOk P w K mg base CX0 7 f fd ["base", "number"] (spMul K C) := by
  obtain ⟨_, _, G_rest, g_rest, k_rest, b_rest⟩ := Dz
  refine F.ok sc_multiple (fun vs H Q E h => ?_) (fun cdv A outer s H vs Q E hr h => ?_)
  · obtain ⟨b, m, rfl, _⟩ := h
    rfl
  · obtain ⟨b, m, rfl, hb2, hb16, hm2, hm12, q⟩ := h
    have nd := sc_multiple.nd
    have hu := hu_of hr
    refine ⟨_, (pss_one (ps_ret (pe_call G_rest (hr.mono (by decide)) (by rfl) g_rest k_rest b_rest .nil pass0 (pa_cons (pv 0) (pa_cons (pv 1) (pa_cons pe_int pa_nil)))))), ?_⟩
    exact ⟨_, rfl, _, rfl, b, m, 0, rfl, hb2, hb16, hm2, hm12, by omega, q⟩
end
end B

namespace B
open PySem L2 MK Hop
/-! ### machines as data: == -/
def dMark : Option Bool → PyData
  | none => .none
  | some b => .bool b
def dRow (r : List Nat) : PyData := .tuple (r.map fun n => .int (n : Nat))
def dRows (R : List (List Nat)) : PyData := .tuple (R.map dRow)
def dMarks (M : List (Option Bool)) : PyData := .tuple (M.map dMark)
section
variable {K : PySem.W.Frag} {H : Hp}
theorem dpAll_of {α : Type} {g : α → V} {d : α → PyData} (h : ∀ x, Dp K H (g x) (d x)) : ∀ xs : List α, DpAll K H (xs.map g) (xs.map d)
  | [] => .nil
  | x :: xs => .cons (h x) (dpAll_of h xs)
theorem dp_row {a : Addr} {r : List Nat} (h : SqT K H a (nv r)) : Dp K H (.ref a) (dRow r) := .tup h (dpAll_of (fun n => .int (n : Nat)) r)
theorem dp_marks {a : Addr} {M : List (Option Bool)} (h : SqT K H a (M.map mV)) : Dp K H (.ref a) (dMarks M) := .tup h (dpAll_of (fun m => match m with
  | none => .non
  | some b => .bl b) M)
theorem dp_rowsL : ∀ (rs : List Addr) (R : List (List Nat)), rs.length = R.length → (∀ (i : Nat) (r : Addr), rs[i]? = some r → SqT K H r (nv (R.getD i []))) → DpAll K H (rs.map V.ref) (R.map dRow)
  | [], [], _, _ => .nil
  | [], _ :: _, h, _ => by simp at h
  | _ :: _, [], h, _ => by simp at h
  | q :: rs, r :: R, h, h3 => .cons (dp_row (h3 0 q rfl)) (dp_rowsL rs R (by simpa using h) fun i q' e => h3 (i + 1) q' e)
theorem dp_rows {a : Addr} {R : List (List Nat)} (h : RowsT K H a R) : Dp K H (.ref a) (dRows R) := by
  obtain ⟨rs, h1, h2, h3⟩ := h.ex
  exact .tup h1 (dp_rowsL rs R h2 h3)
end
theorem canLayAll_of {α : Type} {d : α → PyData} (h : ∀ x, (d x).canLay0 = true) : ∀ xs : List α, PyData.canLayAll0 (xs.map d) = true
  | [] => rfl
  | x :: xs => by
    show ((d x).canLay0 && PyData.canLayAll0 (xs.map d)) = true
    rw [h x, canLayAll_of h xs]
    rfl
theorem depthAll_le {α : Type} {d : α → PyData} {k : Nat} (h : ∀ x, (d x).depth ≤ k) : ∀ xs : List α, PyData.depthAll (xs.map d) ≤ k
  | [] => Nat.zero_le _
  | x :: xs => by
    show max (d x).depth (PyData.depthAll (xs.map d)) ≤ k
    exact Nat.max_le.mpr ⟨h x, depthAll_le h xs⟩
theorem shaped_row (r : List Nat) : SeqAt.shaped (dRow r) = true := by
  unfold SeqAt.shaped
  rw [Bool.and_eq_true_iff]
  refine ⟨canLayAll_of (fun _ => rfl) r, decide_eq_true ?_⟩
  have : PyData.depthAll (r.map fun n : Nat => PyData.int (n : Nat)) ≤ 0 := depthAll_le (d := fun n : Nat => PyData.int (n : Nat)) (k := 0) (fun x => by show 0 ≤ 0; exact Nat.le_refl _) r
  show PyData.depthAll (r.map fun n : Nat => PyData.int (n : Nat)) + 1 ≤ 64
  omega
theorem shaped_rows (R : List (List Nat)) : SeqAt.shaped (dRows R) = true := by
  unfold SeqAt.shaped
  rw [Bool.and_eq_true_iff]
  refine ⟨canLayAll_of (fun r => SeqAt.canLay_of_shaped (shaped_row r)) R, decide_eq_true ?_⟩
  have : PyData.depthAll (R.map dRow) ≤ 1 := depthAll_le (fun r => by
    have : PyData.depthAll (r.map fun n : Nat => PyData.int (n : Nat)) ≤ 0 := depthAll_le (d := fun n : Nat => PyData.int (n : Nat)) (k := 0) (fun x => by show 0 ≤ 0; exact Nat.le_refl _) r
    show PyData.depthAll (r.map fun n : Nat => PyData.int (n : Nat)) + 1 ≤ 1
    omega) R
  show PyData.depthAll (R.map dRow) + 1 ≤ 64
  omega
theorem shaped_marks (M : List (Option Bool)) : SeqAt.shaped (dMarks M) = true := by
  unfold SeqAt.shaped
  rw [Bool.and_eq_true_iff]
  refine ⟨canLayAll_of (fun m => by cases m <;> rfl) M, decide_eq_true ?_⟩
  have : PyData.depthAll (M.map dMark) ≤ 0 := depthAll_le (fun m => by cases m <;> exact Nat.le_refl _) M
  show PyData.depthAll (M.map dMark) + 1 ≤ 64
  omega
theorem eqvAll_of {α : Type} [DecidableEq α] {d : α → PyData} (h : ∀ x y, (d x).eqv (d y) = decide (x = y)) : ∀ xs ys : List α, PyData.eqvAll (xs.map d) (ys.map d) = decide (xs = ys)
  | [], [] => rfl
  | [], _ :: _ => rfl
  | _ :: _, [] => rfl
  | x :: xs, y :: ys => by
    show ((d x).eqv (d y) && PyData.eqvAll (xs.map d) (ys.map d)) = _
    rw [h x y, eqvAll_of h xs ys]
    by_cases a : x = y <;> by_cases b : xs = ys <;> simp [a, b]
theorem eqv_int (i j : Nat) : (PyData.int (i : Nat)).eqv (.int (j : Nat)) = decide (i = j) := by
  show ((i : Int) == (j : Int)) = _
  by_cases c : i = j
  · rw [decide_eq_true c]; exact beq_iff_eq.mpr (by omega)
  · rw [decide_eq_false c]; exact beq_eq_false_iff_ne.mpr (by omega)
theorem eqv_row (r q : List Nat) : (dRow r).eqv (dRow q) = decide (r = q) := eqvAll_of (d := fun n : Nat => PyData.int (n : Nat)) eqv_int r q
theorem eqv_rows (R S : List (List Nat)) : (dRows R).eqv (dRows S) = decide (R = S) := eqvAll_of eqv_row R S
theorem eqv_mark (m k : Option Bool) : (dMark m).eqv (dMark k) = decide (m = k) := by
  cases m with
  | none => cases k <;> rfl
  | some a =>
    cases k with
    | none => rfl
    | some b => cases a <;> cases b <;> rfl
theorem eqv_marks (M N : List (Option Bool)) : (dMarks M).eqv (dMarks N) = decide (M = N) := eqvAll_of eqv_mark M N
end B

namespace L2
open PySem PySem.Spec PyProof.Rows PySem.W Builtin
/-! ### ==, !=, in by own methods -/
section
variable {X : Cx} {CX : CXT} {n : Nat} {f C : Addr} {fd : FuncData} {ps : List Str} {sp : Sp} {E : XK}
theorem run_sub {A : Around} {pins : List (Addr × Obj)} {σ : L2.St} {H : Hp} {s : Shared} {Q : VK} {us : List Value} {vs : List V} (F : FnOk X.prog X.w X.K X.mg X.base CX n f fd ps sp) (sb : Sub X n A) (hb : Binds X.K fd ps []) (hx : Passes CX X E)
    (I : Inv X pins σ H s) (r : Vals vs us) (h : sp vs H Q E) : wpAny (model X.prog X.w) A (call (.ref f) us) (EP X pins σ Q) X.xe s := by
  have e0 : Env0 X.prog X.w X.K X.mg X.base A X.stack s H := by
    have e := I.env0
    exact ⟨by rw [sb.fr]; exact e.frames, e.mod, e.bs, e.bsz, e.funs, e.frf, e.hok, e.bare⟩
  have hl := F.len _ _ _ _ h
  refine wpAny_call (codeAny_mono (F.run A X.stack s H ⟨us, []⟩ us vs Q E sb.room e0 (by
    have := hb s us I.kIn (by rw [List.append_nil, ← r.length]; exact hl)
    simpa using this) r h) fun r s' hq => ?_)
  cases r with
  | error e => exact hx pins σ H s e s' I hq
  | ok fl =>
    cases fl with
    | ret w => exact I.after hq
    | next => exact False.elim hq
    | brk => exact False.elim hq
    | cont => exact False.elim hq
/-- y in x by x's own __contains__ -/
def rInOwn (C : Addr) (sp : Sp) (E : XK) : R2 := fun x y H Q => ∃ a dx fs, y = .ref a ∧ H a = some (.ins C dx fs) ∧ sp [.ref a, x] H (fun v H' => ∃ b, v = .bl b ∧ Q (.bl b) H') E
theorem op_inOwn (F : FnOk X.prog X.w X.K X.mg X.base CX n f fd ps sp) (hs : findIn X.K (.ref C) "__contains__" = some (some (.ref f))) (hf : isFn X.K (.ref f) = true) (hb : Binds X.K fd ps []) (hx : Passes CX X E) (hr : Room n X.A) : OpR X (compareOp .In) (rInOwn C sp E) := by
  intro pins s σ H x y v u Q I rx ry h
  obtain ⟨a, dx, fs, rfl, ha, hsp⟩ := h
  cases ry
  obtain ⟨mA, J, _⟩ := ins_get I.hok ha
  obtain ⟨od, J, _⟩ := J.look
  obtain ⟨m, hF⟩ := I.fr
  refine in_K hF I.ok.mod.kin J hs hf ?_
  refine wpAny_mono (run_sub (vs := [V.ref a, x]) F ⟨hr, rfl⟩ hb hx I (.cons rfl (.cons rx .nil)) hsp) (fun r s' z => ?_) fun _ _ z => z
  obtain ⟨v', H', I', rv, b, rfl, q⟩ := z
  cases rv
  exact wpAny_truthy_bool ⟨.bl b, H', I', rfl, q⟩
/-- x == y by x's own __eq__, y of the same class -/
def rEqOwn (C : Addr) (sp : Sp) (E : XK) : R2 := fun x y H Q => ∃ a b dx dy fs gs, x = .ref a ∧ y = .ref b ∧ H a = some (.ins C dx fs) ∧ H b = some (.ins C dy gs) ∧ sp [.ref a, .ref b] H (fun v H' => ∃ k, v = .bl k ∧ Q (.bl k) H') E
theorem op_eqOwn (F : FnOk X.prog X.w X.K X.mg X.base CX n f fd ps sp) (hs : findIn X.K (.ref C) "__eq__" = some (some (.ref f))) (hf : isFn X.K (.ref f) = true) (hb : Binds X.K fd ps []) (hx : Passes CX X E) (hr : Room n X.A) : OpR X (compareOp .Eq) (rEqOwn C sp E) := by
  intro pins s σ H x y v u Q I rx ry h
  obtain ⟨a, b, dx, dy, fs, gs, rfl, rfl, ha, hb', hsp⟩ := h
  cases rx
  cases ry
  obtain ⟨mA, J, _⟩ := ins_get I.hok ha
  obtain ⟨mB, J', _⟩ := ins_get I.hok hb'
  obtain ⟨od, J, _⟩ := J.look
  obtain ⟨od', J', _⟩ := J'.look
  obtain ⟨m, hF⟩ := I.fr
  show wpAny (model X.prog X.w) X.A (richCompare .Eq (.ref a) (.ref b)) _ _ _
  refine cmp_K (op := .Eq) (tb := .ref C) hr.units0 hF I.ok.mod.kin J J'.type (by simp [notFirst]) hs hf ?_
  refine wpAny_mono (run_sub (vs := [V.ref a, V.ref b]) F ⟨hr, rfl⟩ hb hx I (.cons rfl (.cons rfl .nil)) hsp) (fun r s' z => ?_) fun _ _ z => z
  obtain ⟨v', H', I', rv, k, rfl, q⟩ := z
  cases rv
  exact ⟨.bl k, H', I', rfl, q⟩
theorem ifBound_B {M : Model} {A : Around} {E : Value → Shared → Prop} {s : Shared} {K : Frag} {x C : Addr} {ox : Obj} {od : Option Obj} {name : Str} {id : String} {args : List Value} {Q : Option Value → Shared → Prop} (X : K.In s.heap) (I : InstAt s.heap x ox C od) (hs : findIn K (.ref C) name = some (some (.builtin id)))
    (hb : ∀ self, bindSpecial (.builtin id) self = pure (.builtin id, [self])) (h : wpAny M A (call (.builtin id) (.ref x :: args)) (fun v => Q (some v)) E s) : wpAny M A (callSpecialIfBound? (.ref x) name args) Q E s := by
  simp only [callSpecialIfBound?, bindSpecialIfBound?]
  refine wpAny_holding (wpAny_bind (wpAny_bind (wpAny_bind (I.type.here ((looks_findIn X hs).here ?_)))))
  refine wpAny_bind (wpAny_askSetting (wpAny_ite ?_))
  have fin : wpAny M A (call (.builtin id) ([.ref x] ++ args) >>= fun v => pure (some v)) Q E s := wpAny_bind (wpAny_mono h (fun v s' h' => wpAny_pure h') fun _ _ h' => h')
  split
  · exact wpAny_bind ((Looks.of_pure (hb _)).here (wpAny_pure (by exact fin)))
  · exact wpAny_tryCatch (wpAny_bind ((Looks.of_pure (hb _)).here (wpAny_pure (by exact fin))))
theorem ne_K {prog : Program} {w : World} {A : Around} {E : Value → Shared → Prop} {s : Shared} {K : Frag} {x C f : Addr} {ox : Obj} {od : Option Obj} {b tb : Value} {Q : Value → Shared → Prop} (hu : A.units + 1 < cLine) (X : K.In s.heap) (I : InstAt s.heap x ox C od) (hb : Looks (model prog w) s.heap (typeOf b) tb) (hn : notFirst K C tb = true)
    (hs : findIn K (.ref C) "__ne__" = some (some (.builtin "object.__ne__"))) (hm : mroIn K C (.type "object") = some true) (he : findIn K (.ref C) "__eq__" = some (some (.ref f))) (hf : isFn K (.ref f) = true)
    (h : wpAny (model prog w) A.in1 (call (.ref f) [.ref x, b]) (fun v s' => ∃ k, v = .bool k ∧ Q (.bool (!k)) s') E s) : wpAny (model prog w) A (richCompare .NotEq (.ref x) b) Q E s := by
  have ne : wpAny (model prog w) A.in1 (Builtin.«object.__ne__» ⟨[.ref x, b], []⟩) (fun fin s' => ∃ k, fin = .done (.ret (.bool k)) ∧ Q (.bool k) s') E s := by
    unfold Builtin.«object.__ne__»
    refine wpAny_bind (m := slotArgs "__ne__" 1 _) (wpAny_pure ?_)
    refine wpAny_bind (m := cRoomFor _ _) (wpAny_cRoomFor (by simpa using hu) ?_)
    refine wpAny_bind (m := callSpecialIfBound? (.ref x) (Str.ofString "__eq__") _) (ifBound_K X I he hf (wpAny_mono h (fun r s' hq => ?_) fun _ _ y => y))
    obtain ⟨k, rfl, q⟩ := hq
    refine wpAny_bind (m := truthy (.bool k)) (wpAny_truthy_bool ?_)
    exact wpAny_pure ⟨_, rfl, q⟩
  have one : wpAny (model prog w) A (tryCompare (.ref x) (cmpInfo .NotEq).2.1 b) (fun r s' => ∃ v, r = some v ∧ Q v s') E s := by
    unfold tryCompare
    refine wpAny_bind (ifBound_B X I hs PySem.F.slot_object_ne.bind ?_)
    refine wpAny_call (codeAny_call_builtin PySem.F.slot_object_ne.plain PySem.F.cmpEntry_ne (check_slot (owner := "object") (n := "__ne__") (by decide +kernel) (by decide +kernel) (I.type.andThen (looks_mroIn X hm)) (PySem.F.cmpArgs_ne _ _) ?_))
    refine wpAny_mono ne (fun r s' z => ?_) fun _ _ z => z
    obtain ⟨k, rfl, q⟩ := z
    exact wpAny_pure ⟨_, rfl, q⟩
  unfold richCompare
  simp only [oneThing_ref]
  refine wpAny_holding (wpAny_bind (wpAny_cRoomFor (Nat.lt_of_succ_lt hu) ?_))
  refine wpAny_bind (I.type.here (wpAny_bind (hb.here ?_)))
  split
  · rename_i q
    have e : subIn K tb (.ref C) = some false := by
      rcases Bool.or_eq_true_iff.mp hn with e | e
      · rw [beq_iff_eq.mp e] at q; simp at q
      · exact beq_iff_eq.mp e
    refine wpAny_bind ((looks_subIn X e).here ?_)
    simp only [Bool.false_eq_true, if_false]
    refine wpAny_bind (wpAny_mono one (fun r s' z => ?_) fun _ _ e => e)
    obtain ⟨v, rfl, hq⟩ := z
    exact wpAny_pure hq
  · refine wpAny_bind (wpAny_pure ?_)
    simp only [Bool.false_eq_true, if_false]
    refine wpAny_bind (wpAny_mono one (fun r s' z => ?_) fun _ _ e => e)
    obtain ⟨v, rfl, hq⟩ := z
    exact wpAny_pure hq
/-- x != y by x's own __eq__, y of the same class -/
def rNeOwn (C : Addr) (sp : Sp) (E : XK) : R2 := fun x y H Q => ∃ a b dx dy fs gs, x = .ref a ∧ y = .ref b ∧ H a = some (.ins C dx fs) ∧ H b = some (.ins C dy gs) ∧ sp [.ref a, .ref b] H (fun v H' => ∃ k, v = .bl k ∧ Q (.bl (!k)) H') E
theorem op_neOwn (F : FnOk X.prog X.w X.K X.mg X.base CX n f fd ps sp) (hn : findIn X.K (.ref C) "__ne__" = some (some (.builtin "object.__ne__"))) (hm : mroIn X.K C (.type "object") = some true) (hs : findIn X.K (.ref C) "__eq__" = some (some (.ref f))) (hf : isFn X.K (.ref f) = true) (hb : Binds X.K fd ps []) (hx : Passes CX X E) (hr : Room (n + 1) X.A) : OpR X (compareOp .NotEq) (rNeOwn C sp E) := by
  intro pins s σ H x y v u Q I rx ry h
  obtain ⟨a, b, dx, dy, fs, gs, rfl, rfl, ha, hb', hsp⟩ := h
  cases rx
  cases ry
  obtain ⟨mA, J, _⟩ := ins_get I.hok ha
  obtain ⟨mB, J', _⟩ := ins_get I.hok hb'
  obtain ⟨od, J, _⟩ := J.look
  obtain ⟨od', J', _⟩ := J'.look
  show wpAny (model X.prog X.w) X.A (richCompare .NotEq (.ref a) (.ref b)) _ _ _
  refine ne_K (tb := .ref C) ?_ I.kIn J J'.type (by simp [notFirst]) hn hm hs hf ?_
  · exact (Sub.in1 (X := X) (n := n) ⟨hr, rfl⟩).room.units0
  refine wpAny_mono (run_sub (vs := [V.ref a, V.ref b]) F (Sub.in1 ⟨hr, rfl⟩) hb hx I (.cons rfl (.cons rfl .nil)) hsp) (fun r s' z => ?_) fun _ _ z => z
  obtain ⟨v', H', I', rv, k, rfl, q⟩ := z
  cases rv
  exact ⟨k, rfl, .bl (!k), H', I', rfl, q⟩
end
end L2

namespace B
open PySem L2 MK Hop
/-- isinstance(kind, Kind) -/
structure KCi (K : PySem.W.Frag) (C : Addr) : Prop where
  ha : PySem.W.findIn K (.ref C) "__class__" = some (some (.builtin "object.__class__"))
  hn : PySem.W.specialIn K (.builtin "object.__class__") "__get__" = some (some (.builtin "getset_descriptor.__get__"))
  htk : PySem.W.takesIn K (.builtin "object.__class__") = some true
  hm : PySem.W.mroIn K C (.type "object") = some true
  kit : PySem.W.kitOne K (.ref C) (.ref C) = some true
theorem RowsT.at0 {K : PySem.W.Frag} {H : Hp} {a : Addr} {rows : List (List Nat)} (h : RowsT K H a rows) (p : 0 < rows.length) : ∃ r, (∃ xs, SqT K H a xs ∧ xs.length = rows.length ∧ xs[0]? = some (.ref r)) ∧ SqT K H r (nv (rows.getD 0 [])) := by
  obtain ⟨rs, h1, h2, h3⟩ := h.ex
  have e := List.getElem?_eq_getElem (l := rs) (i := 0) (by omega)
  exact ⟨_, ⟨_, h1, by rw [List.length_map, h2], by rw [List.getElem?_map, e]; rfl⟩, h3 0 _ e⟩
def spBase (K : PySem.W.Frag) (C : Addr) : Sp := fun vs H Q _ => ∃ (x : Addr) (b : Nat) (f : Nat → Bool), vs = [.ref x] ∧ KindHas K C H x b f ∧ Q (.int (b : Nat)) H
def spHas (K : PySem.W.Frag) (C : Addr) : Sp := fun vs H Q _ => ∃ (x : Addr) (b : Nat) (f : Nat → Bool) (y : V), vs = [.ref x, y] ∧ KindHas K C H x b f ∧
  ((∃ n : Nat, y = .int (n : Nat) ∧ 0 < n ∧ n < 2 ^ 4000 ∧ ∀ H', Same H H' → Q (.bl (f n)) H') ∨ ((∃ i : Int, y = .int i ∧ i < 1) ∨ NoInt K H y) ∧ ∀ H', Same H H' → Q (.bl false) H')
def spKeq (K : PySem.W.Frag) (C : Addr) : Sp := fun vs H Q _ => ∃ (x y : Addr) (R S : List (List Nat)) (M N : List (Option Bool)), vs = [.ref x, .ref y] ∧ KindAt K C H x R M ∧ KindAt K C H y S N ∧ Q (.bl (decide (R = S) && decide (M = N))) H
section
variable {P : Program} {w : World} {K : PySem.W.Frag} {mg : Str → Option Value} {base : Heap}
theorem ok_kbase {C : Addr} (kc : KC K C) {fa : Addr} {fd : FuncData} (F : Fun K "base" "Kind.base" s_Kind_base fa fd) (g_len : mg "len" = none) : FnOk P w K mg base CX0 1 fa fd ["self"] (spBase K C) := by
  refine F.ok sc_Kind_base (fun vs H Q E h => ?_) (fun cdv A outer s H vs Q E hr h => ?_)
  · obtain ⟨x, b, f, rfl, _⟩ := h
    rfl
  · obtain ⟨x, b, f, rfl, kh, q⟩ := h
    have nd := sc_Kind_base.nd
    have hu := hu_of hr
    refine ⟨_, (pss_one (ps_ret (pe_callB call_len (by rfl) g_len PySem.boot_len (pa_cons (pe_ix ix_tup (pe_fld (pv 0) rfl) pe_int (fun _ _ => rfl)) pa_nil)))), ?_⟩
    obtain ⟨R, M, ⟨st, mk, wy, ⟨dx, hxo⟩, hR, hK⟩, km⟩ := kh
    obtain ⟨r, hr0, hs0⟩ := hR.at0 km.pos
    have l0 : (R.getD 0 []).length = b := by rw [getD_mem km.pos]; exact km.canon.wid _ (List.getElem_mem km.pos)
    refine ⟨_, rfl, x, C, dx, _, _, rfl, hxo, kc.cls, kc.steps, rfl, ?_⟩
    obtain ⟨xs, hT, hxl, hx0⟩ := hr0
    exact ⟨_, _, _, V.ref r, rfl, rfl, hT, atI_nat (j := 0) hx0, _, b, rfl, .inr ⟨_, hs0, by rw [nv_len, l0]⟩, q⟩
theorem ok_kin {C : Addr} (kc : KC K C) {fa : Addr} {fd : FuncData} (F : Fun K "__contains__" "Kind.__contains__" s_Kind___contains__ fa fd) (D1 : Df P w K mg base CX0 1 "is_whole" ["value"] (spIw K)) (D2 : Df P w K mg base CX0 2 "state_behind" ["steps", "number"] (spSb K)) : FnOk P w K mg base CX0 3 fa fd ["self", "number"] (spHas K C) := by
  obtain ⟨_, _, G_is_whole, g_is_whole, k_is_whole, b_is_whole⟩ := D1
  obtain ⟨_, _, G_state_behind, g_state_behind, k_state_behind, b_state_behind⟩ := D2
  refine F.ok sc_Kind___contains__ (fun vs H Q E h => ?_) (fun cdv A outer s H vs Q E hr h => ?_)
  · obtain ⟨x, b, f, y, rfl, _⟩ := h
    rfl
  · obtain ⟨x, b, f, y, rfl, kh, h⟩ := h
    have nd := sc_Kind___contains__.nd
    have hu := hu_of hr
    refine ⟨_, (pss_cons (ps_if (PW.pt (pw_or (pt_not (pt_val (pe_call G_is_whole (hr.mono (by decide)) (by rfl) g_is_whole k_is_whole b_is_whole .nil pass0 (pa_cons (pv 1) pa_nil)))) (pw_or1 (pt_cmpR op_lt (pv 1) pe_int (nomark _))))) (pss_one (ps_ret pe_bl)) pss_nil)
      (pss_one (ps_ret (pe_ix ix_tup (pe_fld (pv 0) rfl) (pe_call G_state_behind (hr.mono (by decide)) (by rfl) g_state_behind k_state_behind b_state_behind .nil pass0 (pa_cons (pe_fld (pv 0) rfl) (pa_cons (pv 1) pa_nil))) (fun _ _ => rfl))))), ?_⟩
    obtain ⟨R, M, ⟨st, mk, wy, ⟨dx, hxo⟩, hR, hK⟩, km⟩ := kh
    rcases h with ⟨n, rfl, hn0, hn, q⟩ | ⟨(⟨i, rfl, hi⟩ | hy), q⟩
    · refine ⟨_, rfl, .inl ⟨(n : Int), rfl, true, rfl, iteF ?_⟩⟩
      refine ⟨_, rfl, _, _, rfl, rfl, _, rfl, ?_⟩
      rw [decide_eq_false (show ¬ ((n : Nat) : Int) < 1 by omega)]
      refine iteF ?_
      have hM := km.canon.mach
      have hlt : runs (stepOf R) 0 (figs b n) < R.length := by
        have run_lt : ∀ (w : List Nat), (∀ a, a ∈ w → a < b) → ∀ s, s < R.length → runs (stepOf R) s w < R.length := by
          intro w
          induction w with
          | nil => intro _ s hs; exact hs
          | cons a w ih => intro hw s hs; exact ih (fun x hx => hw x (List.mem_cons_of_mem _ hx)) _ (hM.step hs (hw a List.mem_cons_self))
        exact run_lt _ (figs_lt km.b2 n) 0 km.pos
      refine ⟨_, rfl, x, C, dx, _, _, rfl, hxo, kc.cls, kc.marks, rfl, _, rfl, x, C, dx, _, _, rfl, hxo, kc.cls, kc.steps, rfl, _, rfl, st, R, n, R.length, b, rfl, hR, hM, km.pos, km.b2, by have := km.b16; omega, hn, fun H1 s1 => ?_⟩
      have hm := km.has n hn0
      have gm : (M.map mV)[runs (stepOf R) 0 (figs b n)]? = some (.bl (f n)) := by
        have hl : runs (stepOf R) 0 (figs b n) < M.length := by rw [km.canon.len]; exact hlt
        rw [List.getElem?_map, List.getElem?_eq_getElem hl]
        have e : M[runs (stepOf R) 0 (figs b n)] = some (f n) := by
          rw [← hm]
          unfold mkOf
          exact (getD_mem hl).symm
        rw [e]
        rfl
      exact ⟨mk, _, _, _, rfl, rfl, hK.ext s1, atI_nat gm, q H1 s1⟩
    · refine ⟨_, rfl, .inl ⟨i, rfl, true, rfl, iteF ?_⟩⟩
      refine ⟨_, rfl, _, _, rfl, rfl, _, rfl, ?_⟩
      rw [decide_eq_true hi]
      exact iteT (q H fun _ _ e => e)
    · refine ⟨_, rfl, .inr ⟨y, rfl, hy, false, rfl, iteT ?_⟩⟩
      exact iteT (q H fun _ _ e => e)
theorem ok_keq {C : Addr} (kc : KC K C) (ki : KCi K C) {fa : Addr} {fd : FuncData} (F : Fun K "__eq__" "Kind.__eq__" s_Kind___eq__ fa fd) (g_isinstance : mg "isinstance" = none) (g_Kind : mg "Kind" = some (.ref C)) : FnOk P w K mg base CX0 1 fa fd ["self", "other"] (spKeq K C) := by
  refine F.ok sc_Kind___eq__ (fun vs H Q E h => ?_) (fun cdv A outer s H vs Q E hr h => ?_)
  · obtain ⟨x, y, R, S, M, N, rfl, _⟩ := h
    rfl
  · obtain ⟨x, y, R, S, M, N, rfl, kh, kg, q⟩ := h
    have nd := sc_Kind___eq__.nd
    have hu := hu_of hr
    refine ⟨_, (pss_cons (ps_if (pt_not (pt_val (pe_callB call_isi (by rfl) g_isinstance (by decide +kernel) (pa_cons (pv 1) (pa_cons (pe_glob (v := .ref C) rfl g_Kind rfl) pa_nil))))) (pss_one (ps_ret pe_bl)) pss_nil)
      (pss_one (ps_ret (pe_and (pe_cmpR (op_eqD hr.units) (pe_fld (pv 0) rfl) (pe_fld (pv 1) rfl) (nomark _)) (pe_one (pe_cmpR (op_eqD hr.units) (pe_fld (pv 0) rfl) (pe_fld (pv 1) rfl) (nomark _))))))), ?_⟩
    obtain ⟨st, mk, wy, ⟨dx, hxo⟩, hR, hK⟩ := kh
    obtain ⟨st2, mk2, wy2, ⟨dy, hyo⟩, hR2, hK2⟩ := kg
    refine ⟨_, rfl, _, _, _, _, true, rfl, .own C, .base (.ins hyo kc.cls ki.ha ki.hn ki.htk ki.hm), ki.kit, true, rfl, iteF ?_⟩
    refine ⟨_, rfl, x, C, dx, _, _, rfl, hxo, kc.cls, kc.steps, rfl, _, rfl, y, C, dy, _, _, rfl, hyo, kc.cls, kc.steps, rfl, _, _, dp_rows hR, dp_rows hR2, shaped_rows _, shaped_rows _, _, rfl, ?_⟩
    rw [eqv_rows]
    by_cases c : R = S
    · rw [decide_eq_true c] at q ⊢
      rw [if_pos rfl]
      refine ⟨_, rfl, x, C, dx, _, _, rfl, hxo, kc.cls, kc.marks, rfl, _, rfl, y, C, dy, _, _, rfl, hyo, kc.cls, kc.marks, rfl, _, _, dp_marks hK, dp_marks hK2, shaped_marks _, shaped_marks _, ?_⟩
      rw [eqv_marks]
      exact q
    · rw [decide_eq_false c] at q ⊢
      exact q
end
end B

namespace B
open PySem L2 MK Hop
theorem bag_kp {H : Hp} {p : Addr} {o : HO} : Kp1 p H (upd H p o) := fun x u e ne => by rw [upd_ne ne]; exact e
theorem bag_at {H : Hp} {p : Addr} {o : HO} {n : Nat} (h : BagO n o) : Bag (upd H p o) p n := ⟨o, upd_same, h⟩
theorem Kp1.trans {a : Addr} {H H1 H2 : Hp} (h : Kp1 a H H1) (k : Kp1 a H1 H2) : Kp1 a H H2 := fun x o e ne => k x o (h x o e ne) ne
theorem Kp1.rfl' {a : Addr} {H : Hp} : Kp1 a H H := fun _ _ e _ => e
def spPower : Sp := fun vs H Q _ => ∃ r t : Nat, vs = [.int (r : Nat), .int (t : Nat)] ∧ r ≤ 16 ∧ t ≤ 60 ∧ Q (.int (r ^ t : Nat)) H
def spGreat : Sp := fun vs H Q _ => ∃ (p : Addr) (L n : Nat), vs = [.ref p, .int (L : Nat)] ∧ 0 < L ∧ L < 2 ^ 300 ∧ Bag H p n ∧ n ≤ 900000 ∧
  ∀ (v : Nat) (H' : Hp), 0 < v → v ≤ L → Kp1 p H H' → Bag H' p (n + 3) → Q (.int (v : Nat)) H'
section
variable {P : Program} {w : World} {K : PySem.W.Frag} {mg : Str → Option Value} {base : Heap}
theorem ok_power {fa : Addr} {fd : FuncData} (F : Fun K "_law_power" "_law_power" s__law_power fa fd) (g_range : mg "range" = none) : FnOk P w K mg base CX0 1 fa fd ["root", "times"] spPower := by
  refine F.ok sc__law_power (fun vs H Q E h => ?_) (fun cdv A outer s H vs Q E hr h => ?_)
  · obtain ⟨r, t, rfl, _⟩ := h
    rfl
  · obtain ⟨r, t, rfl, hr16, ht, q⟩ := h
    have nd := sc__law_power.nd
    have hu := hu_of hr
    refine ⟨_, (pss_cons (ps_set (i := 2) nd rfl (Or.inl rfl) pe_int)
      (pss_cons (ps_for PassesOwn.never rfl (pi_range1 (by rfl) g_range (pa_cons (pv 1) pa_nil)) (pg_name (i := 3) nd rfl (Or.inl rfl)) (pss_one (ps_set (i := 2) nd rfl (Or.inl rfl) (pe_op op_mulW (pv 2) (pv 0)))))
      (pss_one (ps_ret (pv 2))))), ?_⟩
    refine ⟨_, rfl, (t : Int), rfl, by omega, by omega, for_range (lo := 0) (n := t) (fun i σ H' => ∃ v3 : Option V, σ = [some (.int (r : Nat)), some (.int (t : Nat)), some (.int (r ^ i : Nat)), v3] ∧ H' = H) ⟨none, rfl, rfl⟩ ?_ ?_⟩
    · rintro i σ H' hi ⟨v3, rfl, rfl⟩
      refine ⟨_, rfl, _, rfl, _, _, rfl, rfl, wide_mul (a := 250) (b := 30) ?_ ?_ (by decide) (by decide) (by decide), ?_⟩
      · show r ^ i < 2 ^ 250
        calc r ^ i ≤ 16 ^ i := Nat.pow_le_pow_left hr16 i
          _ ≤ 16 ^ 60 := Nat.pow_le_pow_right (by decide) (by omega)
          _ < 2 ^ 250 := by decide
      · rw [show (2 : Nat) ^ 30 = 1073741824 by decide]; omega
      refine ⟨some (.int ((0 : Int) + (i : Nat))), ?_, rfl⟩
      have e : ((r ^ i : Nat) : Int) * (r : Nat) = ((r ^ (i + 1) : Nat) : Int) := by rw [Nat.pow_succ]; push_cast; rfl
      show [some (.int (r : Nat)), some (.int (t : Nat)), some (V.int (((r ^ i : Nat) : Int) * (r : Nat))), some (.int ((0 : Int) + (i : Nat)))] = _
      rw [e]
    · rintro σ H' ⟨v3, rfl, rfl⟩
      exact ⟨_, rfl, q⟩
theorem ok_great {fa : Addr} {fd : FuncData} (F : Fun K "_law_great" "_law_great" s__law_great fa fd) (D1 : Df P w K mg base CX0 1 "_law_draw" ["bag", "many"] spDraw) (g_int : mg "int" = none) (g_min : mg "min" = none) : FnOk P w K mg base CX0 2 fa fd ["bag", "limit"] spGreat := by
  obtain ⟨_, _, G__law_draw, g__law_draw, k__law_draw, b__law_draw⟩ := D1
  refine F.ok sc__law_great (fun vs H Q E h => ?_) (fun cdv A outer s H vs Q E hr h => ?_)
  · obtain ⟨p, L, n, rfl, _⟩ := h
    rfl
  · obtain ⟨p, L, n, rfl, hL0, hL, hB, hn, q⟩ := h
    have nd := sc__law_great.nd
    have hu := hu_of hr
    refine ⟨_, (pss_cons (ps_set (i := 2) nd rfl (Or.inl rfl) (pe_op op_add (pe_op op_mulW (pe_call G__law_draw (hr.mono (by decide)) (by rfl) g__law_draw k__law_draw b__law_draw .nil pass0 (pa_cons (pv 0) (pa_cons (pe_op op_powW pe_int pe_int) pa_nil))) (pe_op op_powW pe_int pe_int)) (pe_call G__law_draw (hr.mono (by decide)) (by rfl) g__law_draw k__law_draw b__law_draw .nil pass0 (pa_cons (pv 0) (pa_cons (pe_op op_powW pe_int pe_int) pa_nil)))))
      (pss_cons (ps_set (i := 3) nd rfl (Or.inl rfl) (pe_call G__law_draw (hr.mono (by decide)) (by rfl) g__law_draw k__law_draw b__law_draw .nil pass0 (pa_cons (pv 0) (pa_cons pe_int pa_nil))))
      (pss_cons (ps_if (pt_cmpR op_eq (pv 3) pe_int (nomark _)) (pss_one (ps_ret (pe_op op_add pe_int (pe_op op_mod (pe_callTy call_int1 (by rfl) g_int (by decide +kernel) (pa_cons (pv 2) pa_nil)) (pe_callB (call_min2 rfl) (by rfl) g_min (by decide +kernel) (pa_cons (pv 1) (pa_cons pe_int pa_nil))))))) pss_nil)
      (pss_cons (ps_if (pt_cmpR op_eq (pv 3) pe_int (nomark _)) (pss_one (ps_ret (pe_op op_add pe_int (pe_op op_mod (pe_callTy call_int1 (by rfl) g_int (by decide +kernel) (pa_cons (pv 2) pa_nil)) (pe_callB (call_min2 rfl) (by rfl) g_min (by decide +kernel) (pa_cons (pv 1) (pa_cons (pe_op op_powW pe_int pe_int) pa_nil))))))) pss_nil)
      (pss_cons (ps_if (pt_cmpR op_eq (pv 3) pe_int (nomark _)) (pss_one (ps_ret (pe_op op_sub (pv 1) (pe_op op_mod (pe_callTy call_int1 (by rfl) g_int (by decide +kernel) (pa_cons (pv 2) pa_nil)) (pe_callB (call_min2 rfl) (by rfl) g_min (by decide +kernel) (pa_cons (pv 1) (pa_cons pe_int pa_nil))))))) pss_nil)
      (pss_one (ps_ret (pe_op op_add pe_int (pe_op op_mod (pe_callTy call_int1 (by rfl) g_int (by decide +kernel) (pa_cons (pv 2) pa_nil)) (pv 1)))))))))), ?_⟩
    have p20 : CPowW 10 20 := powW_of (n := 4) (m := 20) (by decide) rfl (by decide)
    have t20 : (10 : Int) ^ (20 : Int).toNat = 100000000000000000000 := by decide
    have p9 : CPowW 10 9 := powW_of (n := 4) (m := 9) (by decide) rfl (by decide)
    have t9 : (10 : Int) ^ (9 : Int).toNat = 1000000000 := by decide
    have w67 : (100000000000000000000 : Int).natAbs < 2 ^ 67 := by decide
    have w8 : (100000000000000000000 : Int).natAbs < 2 ^ 8000 := Nat.lt_of_lt_of_le w67 (Nat.pow_le_pow_right (by decide) (by decide))
    have w5 : (5 : Int).natAbs < 2 ^ 8000 := Nat.lt_of_lt_of_le (show 5 < 2 ^ 67 by decide) (Nat.pow_le_pow_right (by decide) (by decide))
    refine ⟨_, rfl, _, _, rfl, rfl, p20, p, _, n, rfl, by rw [t20]; decide, by rw [t20]; exact w8, hB, by omega, fun r1 o1 h10 h11 hb1 => ?_⟩
    rw [t20] at h11
    refine ⟨_, _, rfl, rfl, p20, _, _, rfl, rfl, by rw [t20]; exact wide_mul (a := 67) (b := 67) (by omega) w67 (by decide) (by decide) (by decide), ?_⟩
    refine ⟨_, rfl, _, _, rfl, rfl, p20, p, _, n + 1, rfl, by rw [t20]; decide, by rw [t20]; exact w8, bag_at hb1, by omega, fun r2 o2 h20 h21 hb2 => ?_⟩
    rw [t20] at h21
    refine ⟨_, _, rfl, rfl, ?_⟩
    have k2 : Kp1 p H (upd (upd H p o1) p o2) := bag_kp.trans bag_kp
    have hf : 0 ≤ r1 * (10 : Int) ^ (20 : Int).toNat + r2 := by
      rw [t20]
      have : 0 ≤ r1 * 100000000000000000000 := Int.mul_nonneg h10 (by decide)
      omega
    show gName 2 (V.int (r1 * (10 : Int) ^ (20 : Int).toNat + r2)) _ _ _
    generalize r1 * (10 : Int) ^ (20 : Int).toNat + r2 = far at hf
    -- way
    refine ⟨_, rfl, p, _, n + 2, rfl, by decide, w5, bag_at hb2, by omega, fun way o3 h30 h31 hb3 => ?_⟩
    have k3 : Kp1 p H (upd (upd (upd H p o1) p o2) p o3) := k2.trans bag_kp
    have fin : ∀ v : Int, 0 < v → v ≤ L → Q (.int v) (upd (upd (upd H p o1) p o2) p o3) := fun v h0 h1 => by
      have e : v = ((v.toNat : Nat) : Int) := by omega
      rw [e]
      exact q _ _ (by omega) (by omega) k3 (bag_at hb3)
    have minp : ∀ (c : Int), 0 < c → 0 < (if c < (L : Nat) then c else ((L : Nat) : Int)) ∧ (if c < (L : Nat) then c else ((L : Nat) : Int)) ≤ L := fun c hc => by
      split <;> omega
    refine ⟨_, rfl, rfl, _, rfl, ?_⟩
    rw [dec_int]
    by_cases c0 : way = 0
    · rw [show (way == 0) = true from beq_iff_eq.mpr c0]
      refine iteT ⟨_, rfl, .inl ⟨_, rfl, _, rfl, _, _, rfl, ?_⟩⟩
      obtain ⟨m1, m2⟩ := minp 60 (by decide)
      refine ⟨_, _, rfl, rfl, m1, _, _, rfl, rfl, ?_⟩
      exact fin _ (by have := Int.emod_nonneg far (Int.ne_of_gt m1); omega) (by have := Int.emod_lt_of_pos far m1; omega)
    rw [show (way == 0) = false from beq_eq_false_iff_ne.mpr c0]
    refine iteF ⟨_, rfl, rfl, _, rfl, ?_⟩
    rw [dec_int]
    by_cases c1 : way = 1
    · rw [show (way == 1) = true from beq_iff_eq.mpr c1]
      refine iteT ⟨_, rfl, .inl ⟨_, rfl, _, rfl, _, _, rfl, rfl, p9, _, _, rfl, ?_⟩⟩
      obtain ⟨m1, m2⟩ := minp ((10 : Int) ^ (9 : Int).toNat) (by rw [t9]; decide)
      refine ⟨_, _, rfl, rfl, m1, _, _, rfl, rfl, ?_⟩
      exact fin _ (by have := Int.emod_nonneg far (Int.ne_of_gt m1); omega) (by have := Int.emod_lt_of_pos far m1; omega)
    rw [show (way == 1) = false from beq_eq_false_iff_ne.mpr c1]
    refine iteF ⟨_, rfl, rfl, _, rfl, ?_⟩
    rw [dec_int]
    by_cases c2 : way = 2
    · rw [show (way == 2) = true from beq_iff_eq.mpr c2]
      refine iteT ⟨_, rfl, _, rfl, .inl ⟨_, rfl, _, rfl, _, _, rfl, ?_⟩⟩
      obtain ⟨m1, m2⟩ := minp 3 (by decide)
      refine ⟨_, _, rfl, rfl, m1, _, _, rfl, rfl, ?_⟩
      have a1 := Int.emod_nonneg far (Int.ne_of_gt m1)
      have a2 := Int.emod_lt_of_pos far m1
      exact fin _ (by omega) (by omega)
    rw [show (way == 2) = false from beq_eq_false_iff_ne.mpr c2]
    refine iteF ⟨_, rfl, .inl ⟨_, rfl, _, rfl, _, _, rfl, rfl, by omega, _, _, rfl, rfl, ?_⟩⟩
    have a1 := Int.emod_nonneg far (show (L : Int) ≠ 0 by omega)
    have a2 := Int.emod_lt_of_pos far (show 0 < (L : Int) by omega)
    exact fin _ (by omega) (by omega)
end
end B

namespace B
open PySem L2 MK Hop
def spLf : Sp := fun vs H Q _ => ∃ n r : Nat, vs = [.int (n : Nat), .int (r : Nat)] ∧ 2 ≤ r ∧ r ≤ 16 ∧ n < 2 ^ 210 ∧ ∀ p H', H p = none → Same H H' → H' p = some (.lst (nv (figs r n).reverse)) → Q (.ref p) H'
section
variable {P : Program} {w : World} {K : PySem.W.Frag} {mg : Str → Option Value} {base : Heap}
theorem ok_lf {fa : Addr} {fd : FuncData} (F : Fun K "_law_figures" "_law_figures" s__law_figures fa fd) (g_range : mg "range" = none) (g_int : mg "int" = none) : FnOk P w K mg base CX0 1 fa fd ["n", "root"] spLf := by
  refine F.ok sc__law_figures (fun vs H Q E h => ?_) (fun cdv A outer s H vs Q E hr h => ?_)
  · obtain ⟨n, r, rfl, _⟩ := h
    rfl
  · obtain ⟨n, r, rfl, hr2, hr16, hn, q⟩ := h
    have nd := sc__law_figures.nd
    have hu := hu_of hr
    refine ⟨_, (pss_cons (ps_set (i := 2) nd rfl (Or.inl rfl) (pe_lst pa_nil))
      (pss_cons (ps_for PassesOwn.never rfl (pi_range1 (by rfl) g_range (pa_cons pe_int pa_nil)) (pg_name (i := 3) nd rfl (Or.inl rfl)) (pss_cons (ps_if (pt_cmpR op_eq (pv 0) pe_int (nomark _)) (pss_one ps_break) pss_nil)
      (pss_cons (ps_expr (pe_bm PySem.F.plainAttrs_list PySem.F.slot_list_append PySem.F.type_list_append mt_append (pv 2) (pa_cons (pe_op op_mod (pe_callTy call_int1 (by rfl) g_int (by decide +kernel) (pa_cons (pv 0) pa_nil)) (pv 1)) pa_nil)))
      (pss_one (ps_set (i := 0) nd rfl (Or.inl rfl) (pe_op op_fdivW (pv 0) (pv 1)))))))
      (pss_one (ps_ret (pv 2))))), ?_⟩
    refine ⟨by show 0 ≤ sizeLine; exact Nat.zero_le _, fun fo hfo => ?_⟩
    have fin : ∀ (ys : List Nat) (Hx : Hp), figs r n = ys.reverse → Hx fo = some (.lst (nv ys)) → Kp1 fo H Hx → Q (.ref fo) Hx := fun ys Hx e1 e2 kp => q fo Hx hfo (fun x o e => kp x o e (ne_of_none e hfo)) (by rw [e1, List.reverse_reverse]; exact e2)
    refine ⟨210, rfl, by decide, by decide, for_range (lo := 0) (n := 210) (fun i σ Hx => ∃ (k : Nat) (ys : List Nat) (v3 : Option V), σ = [some (.int (k : Nat)), some (.int (r : Nat)), some (.ref fo), v3] ∧ figs r n = figs r k ++ ys.reverse ∧ k < 2 ^ (210 - i) ∧ ys.length = i ∧ Hx fo = some (.lst (nv ys)) ∧ Kp1 fo H Hx) ⟨n, [], none, rfl, by simp, hn, rfl, upd_same, fun x o e ne => by rw [upd_ne ne]; exact e⟩ ?_ ?_⟩
    · rintro i σ Hx hi ⟨k, ys, v3, rfl, hfg, hk, hyl, hfo1, kp⟩
      refine ⟨_, rfl, rfl, _, rfl, ?_⟩
      rw [dec_int]
      by_cases c : k = 0
      · subst c
        refine iteT ?_
        rw [figs_zero, List.nil_append] at hfg
        exact ⟨_, rfl, fin ys Hx hfg hfo1 kp⟩
      · rw [show (((k : Nat) : Int) == 0) = false from beq_eq_false_iff_ne.mpr (by omega)]
        refine iteF ?_
        refine ⟨_, rfl, .inl ⟨rfl, _, SqL.of hfo1⟩, _, rfl, .inl ⟨_, rfl, _, rfl, _, _, rfl, rfl, by omega, fo, nv ys, _, rfl, rfl, hfo1, by rw [nv_len, sizeLine_eq]; omega, ?_⟩⟩
        refine ⟨_, rfl, _, rfl, _, _, rfl, rfl, wide_div (b := 30) (by omega) (by rw [show (2 : Nat) ^ 30 = 1073741824 by decide]; omega) (by decide) (by decide), ?_⟩
        refine ⟨k / r, ys ++ [k % r], _, rfl, ?_, ?_, by simp [hyl], ?_, fun x o e ne => by rw [upd_ne ne]; exact kp x o e ne⟩
        · rw [hfg, figs_pos (by omega) hr2]; simp
        · have h1 : k / r ≤ k / 2 := Nat.div_le_div_left hr2 (by omega)
          have h2 : 2 ^ (210 - i) = 2 ^ (210 - (i + 1)) * 2 := by rw [← Nat.pow_succ]; congr 1; omega
          rw [h2] at hk
          omega
        · rw [upd_same, ← nv_snoc]; rfl
    · rintro σ Hx ⟨k, ys, v3, rfl, hfg, hk, hyl, hfo1, kp⟩
      have k0 : k = 0 := by simpa using hk
      subst k0
      rw [figs_zero, List.nil_append] at hfg
      exact ⟨_, rfl, fin ys Hx hfg hfo1 kp⟩
end
end B

namespace B
open PySem L2 MK Hop
inductive Tst where
  | rest (m q : Nat) | mul (m : Nat) | bears (f : Nat) | ends (f : Nat) | sum (m q : Nat) | every
def Tst.vs : Tst → List V
  | .rest m q => [.str "rest", .int (m : Nat), .int (q : Nat)]
  | .mul m => [.str "multiple", .int (m : Nat)]
  | .bears f => [.str "bears", .int (f : Nat)]
  | .ends f => [.str "ends", .int (f : Nat)]
  | .sum m q => [.str "sum", .int (m : Nat), .int (q : Nat)]
  | .every => [.str "every"]
def Tst.hd : Tst → String
  | .rest _ _ => "rest"
  | .mul _ => "multiple"
  | .bears _ => "bears"
  | .ends _ => "ends"
  | .sum _ _ => "sum"
  | .every => "every"
theorem Tst.hd0 (t : Tst) : atI t.vs 0 = some (.str t.hd) := by cases t <;> rfl
theorem Tst.ne_not : ∀ t : Tst, decide (V.str t.hd = V.str "not") = false
  | .rest m q => (by decide +kernel : decide (V.str "rest" = V.str "not") = false)
  | .mul m => (by decide +kernel : decide (V.str "multiple" = V.str "not") = false)
  | .bears f => (by decide +kernel : decide (V.str "bears" = V.str "not") = false)
  | .ends f => (by decide +kernel : decide (V.str "ends" = V.str "not") = false)
  | .sum m q => (by decide +kernel : decide (V.str "sum" = V.str "not") = false)
  | .every => (by decide +kernel : decide (V.str "every" = V.str "not") = false)
theorem Tst.ne_aox : ∀ t : Tst, inV (V.str t.hd) [.str "and", .str "or", .str "xor"] = false
  | .rest m q => (by decide +kernel : inV (V.str "rest") [.str "and", .str "or", .str "xor"] = false)
  | .mul m => (by decide +kernel : inV (V.str "multiple") [.str "and", .str "or", .str "xor"] = false)
  | .bears f => (by decide +kernel : inV (V.str "bears") [.str "and", .str "or", .str "xor"] = false)
  | .ends f => (by decide +kernel : inV (V.str "ends") [.str "and", .str "or", .str "xor"] = false)
  | .sum m q => (by decide +kernel : inV (V.str "sum") [.str "and", .str "or", .str "xor"] = false)
  | .every => (by decide +kernel : inV (V.str "every") [.str "and", .str "or", .str "xor"] = false)
theorem sn_m_rest : decide (V.str "rest" = V.str "multiple") = false := by decide +kernel
theorem sn_m_bears : decide (V.str "bears" = V.str "multiple") = false := by decide +kernel
theorem sn_m_ends : decide (V.str "ends" = V.str "multiple") = false := by decide +kernel
theorem sn_m_sum : decide (V.str "sum" = V.str "multiple") = false := by decide +kernel
theorem sn_m_every : decide (V.str "every" = V.str "multiple") = false := by decide +kernel
theorem sn_r_bears : decide (V.str "bears" = V.str "rest") = false := by decide +kernel
theorem sn_r_ends : decide (V.str "ends" = V.str "rest") = false := by decide +kernel
theorem sn_r_sum : decide (V.str "sum" = V.str "rest") = false := by decide +kernel
theorem sn_r_every : decide (V.str "every" = V.str "rest") = false := by decide +kernel
theorem sn_e_bears : decide (V.str "bears" = V.str "every") = false := by decide +kernel
theorem sn_e_ends : decide (V.str "ends" = V.str "every") = false := by decide +kernel
theorem sn_e_sum : decide (V.str "sum" = V.str "every") = false := by decide +kernel
theorem sn_s_bears : decide (V.str "bears" = V.str "sum") = false := by decide +kernel
theorem sn_s_ends : decide (V.str "ends" = V.str "sum") = false := by decide +kernel
theorem sn_d_bears : decide (V.str "bears" = V.str "ends") = false := by decide +kernel
theorem sn_same (x : V) : decide (x = x) = true := decide_eq_true rfl
def Tst.ok (r : Nat) : Tst → Prop
  | .rest m q => 2 ≤ m ∧ m ≤ 12 ∧ q < m
  | .mul m => 2 ≤ m ∧ m ≤ 12
  | .bears f => f < r
  | .ends f => f < r
  | .sum m q => 2 ≤ m ∧ m ≤ 12 ∧ q < m
  | .every => True
def tst (r : Nat) : Tst → Nat → Bool
  | .rest m q, n => decide (n % m = q)
  | .mul m, n => decide (n % m = 0)
  | .bears f, n => decide (f ∈ figs r n)
  | .ends f, n => decide (n % r = f)
  | .sum m q, n => decide ((figs r n).sum % m = q)
  | .every, _ => true
end B

namespace B
open PySem L2 MK Hop
def spLin (K : PySem.W.Frag) : Sp := fun vs H Q _ => ∃ (r n : Nat) (a : Addr) (t : Tst), vs = [.int (r : Nat), .ref a, .int (n : Nat)] ∧ SqT K H a t.vs ∧ t.ok r ∧ 2 ≤ r ∧ r ≤ 16 ∧ 0 < n ∧ n < 2 ^ 210 ∧ ∀ H', Same H H' → Q (.bl (tst r t n)) H'
section
variable {P : Program} {w : World} {K : PySem.W.Frag} {mg : Str → Option Value} {base : Heap}
theorem ok_lin {fa : Addr} {fd : FuncData} (F : Fun K "_law_in" "_law_in" s__law_in fa fd) (D1 : Df P w K mg base CX0 1 "_law_figures" ["n", "root"] spLf) (g_int : mg "int" = none) (g_sum : mg "sum" = none) : FnOk P w K mg base CX0 2 fa fd ["root", "test", "n"] (spLin K) := by
  obtain ⟨_, _, G__law_figures, g__law_figures, k__law_figures, b__law_figures⟩ := D1
  refine F.ok sc__law_in (fun vs H Q E h => ?_) (fun cdv A outer s H vs Q E hr h => ?_)
  · obtain ⟨r, n, a, t, rfl, _⟩ := h
    rfl
  · obtain ⟨r, n, a, t, rfl, hT, hk, hr2, hr16, hn0, hn, q⟩ := h
    have nd := sc__law_in.nd
    have hu := hu_of hr
    refine ⟨_, (pss_cons (ps_set (i := 3) nd rfl (Or.inl rfl) (pe_ix ix_tup (pv 1) pe_int (fun _ _ => rfl)))
      (pss_cons (ps_if (pt_cmpR op_eq (pv 3) pe_str (nomark _)) (pss_one ps_never) pss_nil)
      (pss_cons (ps_if (pt_cmpR op_in_seq (pv 3) (pe_tup (pa_cons pe_str (pa_cons pe_str (pa_cons pe_str pa_nil)))) (by rfl)) (pss_cons ps_never
      (pss_one ps_never)) pss_nil)
      (pss_cons (ps_if (pt_cmpR op_eq (pv 3) pe_str (nomark _)) (pss_one (ps_ret (pe_cmpR op_eq (pe_op op_mod (pe_callTy call_int1 (by rfl) g_int (by decide +kernel) (pa_cons (pv 2) pa_nil)) (pe_ix ix_tup (pv 1) pe_int (fun _ _ => rfl))) pe_int (nomark _)))) pss_nil)
      (pss_cons (ps_if (pt_cmpR op_eq (pv 3) pe_str (nomark _)) (pss_one (ps_ret (pe_cmpR op_eq (pe_op op_mod (pe_callTy call_int1 (by rfl) g_int (by decide +kernel) (pa_cons (pv 2) pa_nil)) (pe_ix ix_tup (pv 1) pe_int (fun _ _ => rfl))) (pe_ix ix_tup (pv 1) pe_int (fun _ _ => rfl)) (nomark _)))) pss_nil)
      (pss_cons (ps_if (pt_cmpR op_eq (pv 3) pe_str (nomark _)) (pss_one (ps_ret pe_bl)) pss_nil)
      (pss_cons (ps_set (i := 6) nd rfl (Or.inl rfl) (pe_call G__law_figures (hr.mono (by decide)) (by rfl) g__law_figures k__law_figures b__law_figures .nil pass0 (pa_cons (pv 2) (pa_cons (pv 0) pa_nil))))
      (pss_cons (ps_if (pt_cmpR op_eq (pv 3) pe_str (nomark _)) (pss_one (ps_ret (pe_cmpR op_eq (pe_op op_mod (pe_callTy call_int1 (by rfl) g_int (by decide +kernel) (pa_cons (pe_callB (cr_sum rfl) (by rfl) g_sum (by decide +kernel) (pa_cons (pv 6) pa_nil)) pa_nil)) (pe_ix ix_tup (pv 1) pe_int (fun _ _ => rfl))) (pe_ix ix_tup (pv 1) pe_int (fun _ _ => rfl)) (nomark _)))) pss_nil)
      (pss_one (ps_ret (pe_ifExp (pt_cmpR op_eq (pv 3) pe_str (nomark _)) (pe_cmpR op_eq (pe_ix ix_list (pv 6) pe_int (fun _ _ => rfl)) (pe_ix ix_tup (pv 1) pe_int (fun _ _ => rfl)) (nomark _)) (pe_cmpR op_in_seq (pe_ix ix_tup (pv 1) pe_int (fun _ _ => rfl)) (pv 6) (by rfl))))))))))))), ?_⟩
    have lz : ∀ {n : Nat}, n ≤ 1000 → n ≤ sizeLine := fun h => by rw [sizeLine_eq]; omega
    refine ⟨_, rfl, a, _, 0, .str t.hd, rfl, rfl, hT, t.hd0, ?_⟩
    refine ⟨_, rfl, rfl, _, rfl, ?_⟩
    rw [t.ne_not]
    refine iteF ⟨_, rfl, lz (by decide), fun tp htp => ⟨tp, _, rfl, .inr (SqT.of upd_same), rfl, rfl, _, rfl, ?_⟩⟩
    rw [show (if false = true then !inV (V.str t.hd) [.str "and", .str "or", .str "xor"] else inV (V.str t.hd) [.str "and", .str "or", .str "xor"]) = false from t.ne_aox]
    refine iteF ?_
    have s1 : Same H (upd H tp (.tup [.str "and", .str "or", .str "xor"])) := same_new htp
    have hT1 := hT.ext s1
    generalize upd H tp (.tup [.str "and", .str "or", .str "xor"]) = H1 at s1 hT1
    have qq : ∀ {b : Bool} {H' : Hp}, b = tst r t n → Same H1 H' → Q (.bl b) H' := fun e s2 => by subst e; exact q _ (s1.trans s2)
    have same1 : Same H1 H1 := fun _ _ e => e
    have at1 : ∀ {x y : V} {k : List V}, atI (x :: y :: k) 1 = some y := fun {_ _ _} => atI_nat (j := 1) rfl
    have at2 : ∀ {x y z : V} {k : List V}, atI (x :: y :: z :: k) 2 = some z := fun {_ _ _ _} => atI_nat (j := 2) rfl
    have rems : ∀ (m q : Nat), ((((n : Nat) : Int) % (m : Nat)) == ((q : Nat) : Int)) = decide (n % m = q) := fun m q => by
      by_cases c : n % m = q
      · rw [decide_eq_true c]; exact beq_iff_eq.mpr (by omega)
      · rw [decide_eq_false c]; exact beq_eq_false_iff_ne.mpr (by omega)
    cases t with
    | mul m =>
      refine ⟨_, rfl, rfl, _, rfl, ?_⟩
      rw [show decide (V.str (Tst.mul m).hd = V.str "multiple") = true from sn_same _]
      refine iteT ⟨_, rfl, .inl ⟨_, rfl, _, rfl, a, _, _, .int (m : Nat), rfl, rfl, hT1, at1, _, _, rfl, rfl, by have := hk.1; omega, rfl, ?_⟩⟩
      rw [dec_int]
      exact qq (rems m 0) same1
    | rest m q' =>
      refine ⟨_, rfl, rfl, _, rfl, ?_⟩
      rw [show decide (V.str (Tst.rest m q').hd = V.str "multiple") = false from sn_m_rest]
      refine iteF ⟨_, rfl, rfl, _, rfl, ?_⟩
      rw [show decide (V.str (Tst.rest m q').hd = V.str "rest") = true from sn_same _]
      refine iteT ⟨_, rfl, .inl ⟨_, rfl, _, rfl, a, _, _, .int (m : Nat), rfl, rfl, hT1, at1, _, _, rfl, rfl, by have := hk.1; omega, _, rfl, a, _, _, .int (q' : Nat), rfl, rfl, hT1, at2, rfl, ?_⟩⟩
      rw [dec_int]
      exact qq (rems m q') same1
    | every =>
      refine ⟨_, rfl, rfl, _, rfl, ?_⟩
      rw [show decide (V.str Tst.every.hd = V.str "multiple") = false from sn_m_every]
      refine iteF ⟨_, rfl, rfl, _, rfl, ?_⟩
      rw [show decide (V.str Tst.every.hd = V.str "rest") = false from sn_r_every]
      refine iteF ⟨_, rfl, rfl, _, rfl, ?_⟩
      rw [show decide (V.str Tst.every.hd = V.str "every") = true from sn_same _]
      exact iteT (qq rfl same1)
    | bears f =>
      refine ⟨_, rfl, rfl, _, rfl, ?_⟩
      rw [show decide (V.str (Tst.bears f).hd = V.str "multiple") = false from sn_m_bears]
      refine iteF ⟨_, rfl, rfl, _, rfl, ?_⟩
      rw [show decide (V.str (Tst.bears f).hd = V.str "rest") = false from sn_r_bears]
      refine iteF ⟨_, rfl, rfl, _, rfl, ?_⟩
      rw [show decide (V.str (Tst.bears f).hd = V.str "every") = false from sn_e_bears]
      refine iteF ⟨_, rfl, _, rfl, n, r, rfl, hr2, hr16, hn, fun p H2 hp s2 e2 => ?_⟩
      refine ⟨_, rfl, rfl, _, rfl, ?_⟩
      rw [show decide (V.str (Tst.bears f).hd = V.str "sum") = false from sn_s_bears]
      refine iteF ⟨_, rfl, rfl, _, rfl, ?_⟩
      rw [show decide (V.str (Tst.bears f).hd = V.str "ends") = false from sn_d_bears]
      refine iteF ⟨_, rfl, a, _, _, .int (f : Nat), rfl, rfl, hT1.ext s2, at1, _, rfl, p, _, rfl, .inl (SqL.of e2), rfl, ?_, ?_⟩
      · rw [List.all_eq_true]
        intro x hx
        obtain ⟨z, _, e⟩ := List.mem_map.mp hx
        rw [← e]; rfl
      · refine qq ?_ s2
        show inV (V.int (f : Nat)) (nv (figs r n).reverse) = decide (f ∈ figs r n)
        by_cases c : f ∈ figs r n
        · rw [decide_eq_true c]
          unfold inV
          rw [List.any_eq_true]
          refine ⟨V.int (f : Nat), List.mem_map.mpr ⟨f, List.mem_reverse.mpr c, rfl⟩, ?_⟩
          exact beq_self_eq_true _
        · rw [decide_eq_false c]
          unfold inV
          rw [List.any_eq_false]
          intro x hx
          obtain ⟨z, hz, e⟩ := List.mem_map.mp hx
          subst e
          intro he
          have : (z : Int) = (f : Nat) := eq_of_beq he
          have e2 : z = f := by omega
          rw [e2] at hz
          exact c (List.mem_reverse.mp hz)
    | ends f =>
      refine ⟨_, rfl, rfl, _, rfl, ?_⟩
      rw [show decide (V.str (Tst.ends f).hd = V.str "multiple") = false from sn_m_ends]
      refine iteF ⟨_, rfl, rfl, _, rfl, ?_⟩
      rw [show decide (V.str (Tst.ends f).hd = V.str "rest") = false from sn_r_ends]
      refine iteF ⟨_, rfl, rfl, _, rfl, ?_⟩
      rw [show decide (V.str (Tst.ends f).hd = V.str "every") = false from sn_e_ends]
      refine iteF ⟨_, rfl, _, rfl, n, r, rfl, hr2, hr16, hn, fun p H2 hp s2 e2 => ?_⟩
      refine ⟨_, rfl, rfl, _, rfl, ?_⟩
      rw [show decide (V.str (Tst.ends f).hd = V.str "sum") = false from sn_s_ends]
      refine iteF ⟨_, rfl, rfl, _, rfl, ?_⟩
      rw [show decide (V.str (Tst.ends f).hd = V.str "ends") = true from sn_same _]
      have g0 : (nv (figs r n).reverse)[0]? = some (.int ((n % r : Nat) : Int)) := by
        rw [figs_pos hn0 hr2]
        simp [nv]
      refine iteT ⟨_, rfl, p, _, _, _, rfl, rfl, SqL.of e2, atI_nat (j := 0) g0, _, rfl, a, _, _, .int (f : Nat), rfl, rfl, hT1.ext s2, at1, rfl, ?_⟩
      rw [dec_int]
      refine qq ?_ s2
      show _ = decide (n % r = f)
      by_cases c : n % r = f
      · rw [decide_eq_true c]; exact beq_iff_eq.mpr (by omega)
      · rw [decide_eq_false c]; exact beq_eq_false_iff_ne.mpr (by omega)
    | sum m q' =>
      refine ⟨_, rfl, rfl, _, rfl, ?_⟩
      rw [show decide (V.str (Tst.sum m q').hd = V.str "multiple") = false from sn_m_sum]
      refine iteF ⟨_, rfl, rfl, _, rfl, ?_⟩
      rw [show decide (V.str (Tst.sum m q').hd = V.str "rest") = false from sn_r_sum]
      refine iteF ⟨_, rfl, rfl, _, rfl, ?_⟩
      rw [show decide (V.str (Tst.sum m q').hd = V.str "every") = false from sn_e_sum]
      refine iteF ⟨_, rfl, _, rfl, n, r, rfl, hr2, hr16, hn, fun p H2 hp s2 e2 => ?_⟩
      refine ⟨_, rfl, rfl, _, rfl, ?_⟩
      rw [show decide (V.str (Tst.sum m q').hd = V.str "sum") = true from sn_same _]
      have esum : (((figs r n).reverse.map fun z : Nat => (z : Int)).sum) = (((figs r n).sum : Nat) : Int) := by
        rw [List.map_reverse, List.sum_reverse]
        induction figs r n with
        | nil => rfl
        | cons z zs ih => rw [List.map_cons, List.sum_cons, List.sum_cons, ih]; push_cast; rfl
      refine iteT ⟨_, rfl, p, (figs r n).reverse.map fun z : Nat => (z : Int), rfl, SqL.of (by rw [e2]; simp [nv, List.map_map, Function.comp_def]), .inl ⟨_, rfl, _, rfl, a, _, _, .int (m : Nat), rfl, rfl, hT1.ext s2, at1, _, _, rfl, rfl, by have := hk.1; omega, _, rfl, a, _, _, .int (q' : Nat), rfl, rfl, hT1.ext s2, at2, rfl, ?_⟩⟩
      rw [dec_int, esum]
      refine qq ?_ s2
      by_cases c : (figs r n).sum % m = q'
      · show _ = decide ((figs r n).sum % m = q')
        rw [decide_eq_true c]; exact beq_iff_eq.mpr (by omega)
      · show _ = decide ((figs r n).sum % m = q')
        rw [decide_eq_false c]; exact beq_eq_false_iff_ne.mpr (by omega)
end
end B

namespace L2
open PySem PySem.Spec PyProof.Rows
/-! ### f(k = v, ..): keywords alone -/
section
variable {X : Cx} {CX : CXT} {k : Nat} {f : Addr} {fd : FuncData} {ps ks : List Str} {sp : Sp} {E : XK} {x : Str} {p pos : Pos} {kws : List Keyword} {tk : TA} {g : List Value → List Value → List Value} {gV : List V → List V → List V}
def tCallK0 (m : Nat) (sp : Sp) (gV : List V → List V → List V) (E : XK) (tk : TA) : TE := fun σ H Q => tk σ H fun zs H2 => zs.length = m ∧ sp (gV [] zs) H2 Q E
theorem pe_callK0 (F : FnOk X.prog X.w X.K X.mg X.base CX k f fd ps sp) (hr : Room k X.A) (hg : Gl X x) (hm : X.mg x = some (.ref f)) (hk : PySem.W.keepIn X.K (.ref f) = true) (hb : KBn X.K fd ps 0 ks g gV) (hx : Passes CX X E)
    (hkw : PK X kws tk) (hall : (backToKw pos (keywordEach kws X.env)).all (·.1.isSome) = true := by rfl) (hks : (backToKw pos (keywordEach kws X.env)).filterMap (·.1) = ks := by rfl)
    (hdb : (x == ("__debug__" : Str)) = false := by decide)
    (hpl : ((backTo pos (starEach [] X.env)).any (·.1) || (backToKw pos (keywordEach kws X.env)).any (·.1.isNone)) = false := by rfl) :
    PE X (.Call (.Name x p) [] kws pos) (tCallK0 ks.length sp gV E tk) := by
  refine ⟨fun pins s σ H Q I h => ?_⟩
  refine wpAny_Call_Name_kw (ld_glob I hg hm ?_ hdb)
  refine PySem.W.callWith_KW0 (h₀ := X.base) I.ok.mod.kin hk hall ?_ hpl
  refine thn (hkw.run pos pins s σ H _ I h) fun ws s2 ⟨zs, H2, I2, rz, l2, q2⟩ => ⟨I2.kIn, ?_⟩
  rw [hks]
  exact run_fnN (us := []) (vs := []) F hr hb hx I2 .nil rz rfl l2 q2
end
theorem Vals.rev {zs : List V} {ws : List Value} (h : Vals zs ws) : Vals zs.reverse ws.reverse := by
  induction h with
  | nil => exact .nil
  | cons r t ih => rw [List.reverse_cons, List.reverse_cons]; exact ih.append (.cons r .nil)
/-- keywords in the parameters' order turned about -/
theorem Fun.kbnR {K : PySem.W.Frag} {x qual : Str} {st : Stmt} {f : Addr} {fd : FuncData} {ps ks : List Str} (F : Fun K x qual st f fd)
    (h : ∀ (kV doc pm : Value) (an : Option Addr) (cdv ct : Value) (ws : List Value), ws.length = ks.length → bindArgs (PySem.W.fnOf x qual (defArgs st) (defBody st) (defScope st) .none kV doc pm an cdv ct) ⟨[], ks.zip ws⟩ = pure (ps.zip ws.reverse)) : KBn K fd ps 0 ks (fun _ ws => ws.reverse) (fun _ zs => zs.reverse) := by
  obtain ⟨oc, od, kV, doc, pm, an, cdv, ct, osl, rfl, lk, hcd⟩ := F.ex
  refine ⟨fun s us ws X l1 l2 => ?_, fun _ r2 => r2.rev⟩
  have : us = [] := List.length_eq_zero_iff.mp l1
  subst this
  exact .of_eq (h kV doc pm an cdv ct ws l2)
end L2

namespace B
open PySem L2 MK Hop
/-- a def, called by position or by all its names turned about -/
def DfK (P : Program) (w : World) (K : PySem.W.Frag) (mg : Str → Option Value) (base : Heap) (CX : CXT) (k : Nat) (x : Str) (ps : List Str) (sp : Sp) : Prop :=
  ∃ (f : Addr) (fd : FuncData), FnOk P w K mg base CX k f fd ps sp ∧ mg x = some (.ref f) ∧ PySem.W.keepIn K (.ref f) = true ∧ Binds K fd ps [] ∧ KBn K fd ps 0 ps.reverse (fun _ ws => ws.reverse) (fun _ zs => zs.reverse)
theorem KindHas.ext {K : PySem.W.Frag} {C : Addr} {H H' : Hp} {x : Addr} {b : Nat} {f : Nat → Bool} (h : KindHas K C H x b f) (s : Same H H') : KindHas K C H' x b f := by
  obtain ⟨R, M, ⟨st, mk, wy, ⟨dx, hxo⟩, hR, hK⟩, km⟩ := h
  exact ⟨R, M, ⟨st, mk, wy, ⟨dx, s _ _ hxo⟩, hR.ext s, hK.ext s⟩, km⟩
theorem sn_b_ends : decide (V.str "ends" = V.str "bears") = false := by decide +kernel
theorem sn_b_sum : decide (V.str "sum" = V.str "bears") = false := by decide +kernel
theorem sn_b_every : decide (V.str "every" = V.str "bears") = false := by decide +kernel
theorem sn_d_sum : decide (V.str "sum" = V.str "ends") = false := by decide +kernel
theorem sn_d_every : decide (V.str "every" = V.str "ends") = false := by decide +kernel
theorem sn_s_every : decide (V.str "every" = V.str "sum") = false := by decide +kernel
theorem sqT_kpl {K : PySem.W.Frag} {H H' : Hp} {a p : Addr} {xs ys : List V} (h : SqT K H a xs) (hp : H p = some (.lst ys)) (k : Kp1 p H H') : SqT K H' a xs := by
  rcases h with h | h
  · left
    rcases h with h | ⟨o, h⟩
    · exact .inl (k _ _ h (fun e => by subst e; rw [h] at hp; cases hp))
    · exact .inr ⟨o, k _ _ h (fun e => by subst e; rw [h] at hp; cases hp)⟩
  · exact .inr h
theorem KindHas.kpl {K : PySem.W.Frag} {C : Addr} {H H' : Hp} {x p : Addr} {b : Nat} {f : Nat → Bool} {ys : List V} (h : KindHas K C H x b f) (hp : H p = some (.lst ys)) (k : Kp1 p H H') : KindHas K C H' x b f := by
  obtain ⟨R, M, ⟨st, mk, wy, ⟨dx, hxo⟩, hR, hK⟩, km⟩ := h
  refine ⟨R, M, ⟨st, mk, wy, ⟨dx, k _ _ hxo (fun e => by subst e; rw [hxo] at hp; cases hp)⟩, ?_, sqT_kpl hK hp k⟩, km⟩
  obtain ⟨rs, h1, h2, h3⟩ := hR.ex
  exact ⟨rs, sqT_kpl h1 hp k, h2, fun i r e => sqT_kpl (h3 i r e) hp k⟩
/-- what is asked of the class of kinds: its own methods -/
structure KM (P : Program) (w : World) (K : PySem.W.Frag) (mg : Str → Option Value) (base : Heap) (C fi fe fb : Addr) (fdi fde fdb : FuncData) : Prop where
  Gin : FnOk P w K mg base CX0 3 fi fdi ["self", "number"] (spHas K C)
  sin : PySem.W.findIn K (.ref C) "__contains__" = some (some (.ref fi))
  fin : PySem.W.isFn K (.ref fi) = true
  bin : Binds K fdi ["self", "number"] []
  Geq : FnOk P w K mg base CX0 1 fe fde ["self", "other"] (spKeq K C)
  seq : PySem.W.findIn K (.ref C) "__eq__" = some (some (.ref fe))
  sne : PySem.W.findIn K (.ref C) "__ne__" = some (some (.builtin "object.__ne__"))
  hm : PySem.W.mroIn K C (.type "object") = some true
  feq : PySem.W.isFn K (.ref fe) = true
  beq : Binds K fde ["self", "other"] []
  Gb : FnOk P w K mg base CX0 1 fb fdb ["self"] (spBase K C)
  cls : Cls K C
  mb : Meth K C "base" fb
  bb : Binds K fdb ["self"] []
def dBools (bs : List Bool) : PyData := .list (bs.map fun b => .bool b)
theorem dp_bools {K : PySem.W.Frag} {H : Hp} {a : Addr} {bs : List Bool} (h : SqL K H a (bs.map V.bl)) : Dp K H (.ref a) (dBools bs) := .lst h (dpAll_of (g := V.bl) (d := fun b => PyData.bool b) (fun b => .bl b) bs)
theorem shaped_bools (bs : List Bool) : SeqAt.shaped (dBools bs) = true := by
  unfold SeqAt.shaped
  rw [Bool.and_eq_true_iff]
  refine ⟨canLayAll_of (fun _ => rfl) bs, decide_eq_true ?_⟩
  have : PyData.depthAll (bs.map fun b => PyData.bool b) ≤ 0 := depthAll_le (d := fun b : Bool => PyData.bool b) (k := 0) (fun x => by show 0 ≤ 0; exact Nat.le_refl _) bs
  show PyData.depthAll (bs.map fun b => PyData.bool b) + 1 ≤ 64
  omega
theorem eqv_bools (bs : List Bool) : (dBools bs).eqv (dBools bs) = true := by
  have := eqvAll_of (d := fun b : Bool => PyData.bool b) (fun x y => by cases x <;> cases y <;> rfl) bs bs
  show PyData.eqvAll (bs.map fun b => PyData.bool b) (bs.map fun b => PyData.bool b) = true
  rw [this]
  exact decide_eq_true rfl
theorem KindHas.ins {K : PySem.W.Frag} {C : Addr} {H : Hp} {x : Addr} {b : Nat} {f : Nat → Bool} (h : KindHas K C H x b f) : ∃ dx fs, H x = some (.ins C dx fs) ∧ ∀ m : Str, m = "base" → fs.lookup m = none := by
  obtain ⟨R, M, ⟨st, mk, wy, ⟨dx, hxo⟩, hR, hK⟩, km⟩ := h
  exact ⟨dx, _, hxo, fun m e => by subst e; rfl⟩
def OutV (H : Hp) (v : V) : Prop := (∃ i : Int, v = .int i ∧ i < 1) ∨ (∃ b, v = .bl b) ∨ v = .non ∨ (∃ s, v = .str s) ∨ ∃ a, v = .ref a ∧ ((∃ xs, H a = some (.lst xs)) ∨ (∃ xs, H a = some (.tup xs)) ∨ ∃ kvs, H a = some (.dK kvs))
theorem OutV.ext {H H' : Hp} {v : V} (h : OutV H v) (s : Same H H') : OutV H' v := by
  rcases h with h | h | h | h | ⟨a, e, h⟩
  · exact .inl h
  · exact .inr (.inl h)
  · exact .inr (.inr (.inl h))
  · exact .inr (.inr (.inr (.inl h)))
  · refine .inr (.inr (.inr (.inr ⟨a, e, ?_⟩)))
    rcases h with ⟨xs, h⟩ | ⟨xs, h⟩ | ⟨xs, h⟩
    · exact .inl ⟨xs, s _ _ h⟩
    · exact .inr (.inl ⟨xs, s _ _ h⟩)
    · exact .inr (.inr ⟨xs, s _ _ h⟩)
theorem OutV.no {K : PySem.W.Frag} {H : Hp} {v : V} (h : OutV H v) : (∃ i : Int, v = .int i ∧ i < 1) ∨ NoInt K H v := by
  rcases h with h | ⟨b, rfl⟩ | rfl | ⟨s, rfl⟩ | ⟨a, rfl, h⟩
  · exact .inl h
  · exact .inr ⟨_, .base (.bl b), .inl rfl⟩
  · exact .inr ⟨_, .base .non, .inr (.inl rfl)⟩
  · exact .inr ⟨_, .base (.str s), .inr (.inr (.inl rfl))⟩
  · rcases h with ⟨xs, h⟩ | ⟨xs, h⟩ | ⟨xs, h⟩
    · exact .inr ⟨_, .base (.lst h), .inr (.inr (.inr (.inl rfl)))⟩
    · exact .inr ⟨_, .base (.tup h), .inr (.inr (.inr (.inr (.inl rfl))))⟩
    · exact .inr ⟨_, .base (.dK h), .inr (.inr (.inr (.inr (.inr rfl))))⟩
end B

namespace B
open PySem L2 MK Hop
def spTwo (K : PySem.W.Frag) (C : Addr) : Sp := fun vs H Q _ => ∃ (r : Nat) (a : Addr) (t : Tst), vs = [.int (r : Nat), .ref a] ∧ SqT K H a t.vs ∧ t.ok r ∧ 2 ≤ r ∧ r ≤ 16 ∧
  ∀ (l x y : Addr) (H' : Hp), H l = none → Same H H' → H' l = some (.lst [.ref x, .ref y]) → KindHas K C H' x r (tst r t) → KindHas K C H' y r (tst r t) → Q (.ref l) H'
section
variable {P : Program} {w : World} {K : PySem.W.Frag} {mg : Str → Option Value} {base : Heap}
theorem ok_two {C fa : Addr} {fd : FuncData} (F : Fun K "_law_two" "_law_two" s__law_two fa fd) (D0 : DfK P w K mg base CX0 6 "rest" ["base", "number", "rest"] (spRest K C)) (D1 : DfK P w K mg base CX0 7 "multiple" ["base", "number"] (spMul K C)) (D2 : DfK P w K mg base CX0 5 "bears" ["base", "figure"] (spBears K C)) (D3 : DfK P w K mg base CX0 5 "ends" ["base", "figure"] (spEnds K C)) (D4 : DfK P w K mg base CX0 6 "figure_sum" ["base", "number", "rest"] (spSum K C)) (D5 : DfK P w K mg base CX0 5 "every" ["base"] (spEvery K C)) : FnOk P w K mg base CX0 8 fa fd ["root", "test"] (spTwo K C) := by
  obtain ⟨_, _, G_rest, g_rest, k_rest, b_rest, kb_rest⟩ := D0
  obtain ⟨_, _, G_multiple, g_multiple, k_multiple, b_multiple, kb_multiple⟩ := D1
  obtain ⟨_, _, G_bears, g_bears, k_bears, b_bears, kb_bears⟩ := D2
  obtain ⟨_, _, G_ends, g_ends, k_ends, b_ends, kb_ends⟩ := D3
  obtain ⟨_, _, G_figure_sum, g_figure_sum, k_figure_sum, b_figure_sum, kb_figure_sum⟩ := D4
  obtain ⟨_, _, G_every, g_every, k_every, b_every, kb_every⟩ := D5
  refine F.ok sc__law_two (fun vs H Q E h => ?_) (fun cdv A outer s H vs Q E hr h => ?_)
  · obtain ⟨r, a, t, rfl, _⟩ := h
    rfl
  · obtain ⟨r, a, t, rfl, hT, hk, hr2, hr16, q⟩ := h
    have nd := sc__law_two.nd
    have hu := hu_of hr
    refine ⟨_, (pss_cons (ps_set (i := 2) nd rfl (Or.inl rfl) (pe_ix ix_tup (pv 1) pe_int (fun _ _ => rfl)))
      (pss_cons (ps_if (pt_cmpR op_eq (pv 2) pe_str (nomark _)) (pss_one (ps_ret (pe_lst (pa_cons (pe_call G_multiple (hr.mono (by decide)) (by rfl) g_multiple k_multiple b_multiple .nil pass0 (pa_cons (pv 0) (pa_cons (pe_ix ix_tup (pv 1) pe_int (fun _ _ => rfl)) pa_nil))) (pa_cons (pe_callK0 G_multiple (hr.mono (by decide)) (by rfl) g_multiple k_multiple kb_multiple pass0 (pk_cons (pe_ix ix_tup (pv 1) pe_int (fun _ _ => rfl)) (pk_cons (pv 0) pk_nil))) pa_nil))))) pss_nil)
      (pss_cons (ps_if (pt_cmpR op_eq (pv 2) pe_str (nomark _)) (pss_one (ps_ret (pe_lst (pa_cons (pe_call G_rest (hr.mono (by decide)) (by rfl) g_rest k_rest b_rest .nil pass0 (pa_cons (pv 0) (pa_cons (pe_ix ix_tup (pv 1) pe_int (fun _ _ => rfl)) (pa_cons (pe_ix ix_tup (pv 1) pe_int (fun _ _ => rfl)) pa_nil)))) (pa_cons (pe_callK0 G_rest (hr.mono (by decide)) (by rfl) g_rest k_rest kb_rest pass0 (pk_cons (pe_ix ix_tup (pv 1) pe_int (fun _ _ => rfl)) (pk_cons (pe_ix ix_tup (pv 1) pe_int (fun _ _ => rfl)) (pk_cons (pv 0) pk_nil)))) pa_nil))))) pss_nil)
      (pss_cons (ps_if (pt_cmpR op_eq (pv 2) pe_str (nomark _)) (pss_one (ps_ret (pe_lst (pa_cons (pe_call G_bears (hr.mono (by decide)) (by rfl) g_bears k_bears b_bears .nil pass0 (pa_cons (pv 0) (pa_cons (pe_ix ix_tup (pv 1) pe_int (fun _ _ => rfl)) pa_nil))) (pa_cons (pe_callK0 G_bears (hr.mono (by decide)) (by rfl) g_bears k_bears kb_bears pass0 (pk_cons (pe_ix ix_tup (pv 1) pe_int (fun _ _ => rfl)) (pk_cons (pv 0) pk_nil))) pa_nil))))) pss_nil)
      (pss_cons (ps_if (pt_cmpR op_eq (pv 2) pe_str (nomark _)) (pss_one (ps_ret (pe_lst (pa_cons (pe_call G_ends (hr.mono (by decide)) (by rfl) g_ends k_ends b_ends .nil pass0 (pa_cons (pv 0) (pa_cons (pe_ix ix_tup (pv 1) pe_int (fun _ _ => rfl)) pa_nil))) (pa_cons (pe_callK0 G_ends (hr.mono (by decide)) (by rfl) g_ends k_ends kb_ends pass0 (pk_cons (pe_ix ix_tup (pv 1) pe_int (fun _ _ => rfl)) (pk_cons (pv 0) pk_nil))) pa_nil))))) pss_nil)
      (pss_cons (ps_if (pt_cmpR op_eq (pv 2) pe_str (nomark _)) (pss_one (ps_ret (pe_lst (pa_cons (pe_call G_figure_sum (hr.mono (by decide)) (by rfl) g_figure_sum k_figure_sum b_figure_sum .nil pass0 (pa_cons (pv 0) (pa_cons (pe_ix ix_tup (pv 1) pe_int (fun _ _ => rfl)) (pa_cons (pe_ix ix_tup (pv 1) pe_int (fun _ _ => rfl)) pa_nil)))) (pa_cons (pe_callK0 G_figure_sum (hr.mono (by decide)) (by rfl) g_figure_sum k_figure_sum kb_figure_sum pass0 (pk_cons (pe_ix ix_tup (pv 1) pe_int (fun _ _ => rfl)) (pk_cons (pe_ix ix_tup (pv 1) pe_int (fun _ _ => rfl)) (pk_cons (pv 0) pk_nil)))) pa_nil))))) pss_nil)
      (pss_one (ps_ret (pe_lst (pa_cons (pe_call G_every (hr.mono (by decide)) (by rfl) g_every k_every b_every .nil pass0 (pa_cons (pv 0) pa_nil)) (pa_cons (pe_callK0 G_every (hr.mono (by decide)) (by rfl) g_every k_every kb_every pass0 (pk_cons (pv 0) pk_nil)) pa_nil))))))))))), ?_⟩
    refine ⟨_, rfl, a, _, 0, .str t.hd, rfl, rfl, hT, t.hd0, ?_⟩
    have lz : ∀ {n : Nat}, n ≤ 1000 → n ≤ sizeLine := fun h => by rw [sizeLine_eq]; omega
    have at1 : ∀ {x y : V} {k : List V}, atI (x :: y :: k) 1 = some y := fun {_ _ _} => atI_nat (j := 1) rfl
    have at2 : ∀ {x y z : V} {k : List V}, atI (x :: y :: z :: k) 2 = some z := fun {_ _ _ _} => atI_nat (j := 2) rfl
    have fin : ∀ (x : Addr) (H1 : Hp) (y : Addr) (H2 : Hp) (l : Addr), Same H H1 → KindHas K C H1 x r (tst r t) → Same H1 H2 → KindHas K C H2 y r (tst r t) → H2 l = none → Q (.ref l) (upd H2 l (.lst [.ref x, .ref y])) := fun x H1 y H2 l s1 k1 s2 k2 hl => by
      have s3 : Same H2 (upd H2 l (.lst [.ref x, .ref y])) := same_new hl
      refine q l x y _ ?_ (s1.trans (s2.trans s3)) upd_same ((k1.ext s2).ext s3) (k2.ext s3)
      cases e : H l with
      | none => rfl
      | some o => rw [s2 _ _ (s1 _ _ e)] at hl; cases hl
    refine ⟨_, rfl, rfl, _, rfl, ?_⟩
    cases t with
    | mul m =>
      rw [show decide (V.str (Tst.mul m).hd = V.str "multiple") = true from sn_same _]
      refine iteT ⟨_, rfl, _, rfl, a, _, _, .int (m : Nat), rfl, rfl, hT, at1, r, m, rfl, hr2, hr16, hk.1, hk.2, fun x H1 hx s1 k1 => ?_⟩
      exact ⟨_, rfl, a, _, _, .int (m : Nat), rfl, rfl, (hT.ext s1), at1, _, rfl, rfl, r, m, rfl, hr2, hr16, hk.1, hk.2, fun y H2 hy s2 k2 => ⟨lz (by simp), fun l hl => fin x H1 y H2 l s1 k1 s2 k2 hl⟩⟩
    | rest m q' =>
      rw [show decide (V.str (Tst.rest m q').hd = V.str "multiple") = false from sn_m_rest]
      refine iteF ⟨_, rfl, rfl, _, rfl, ?_⟩
      rw [show decide (V.str (Tst.rest m q').hd = V.str "rest") = true from sn_same _]
      refine iteT ⟨_, rfl, _, rfl, a, _, _, .int (m : Nat), rfl, rfl, hT, at1, _, rfl, a, _, _, .int (q' : Nat), rfl, rfl, hT, at2, r, m, q', rfl, hr2, hr16, hk.1, hk.2.1, hk.2.2, fun x H1 hx s1 k1 => ?_⟩
      exact ⟨_, rfl, a, _, _, .int (q' : Nat), rfl, rfl, (hT.ext s1), at2, _, rfl, a, _, _, .int (m : Nat), rfl, rfl, (hT.ext s1), at1, _, rfl, rfl, r, m, q', rfl, hr2, hr16, hk.1, hk.2.1, hk.2.2, fun y H2 hy s2 k2 => ⟨lz (by simp), fun l hl => fin x H1 y H2 l s1 k1 s2 k2 hl⟩⟩
    | bears f =>
      rw [show decide (V.str (Tst.bears f).hd = V.str "multiple") = false from sn_m_bears]
      refine iteF ⟨_, rfl, rfl, _, rfl, ?_⟩
      rw [show decide (V.str (Tst.bears f).hd = V.str "rest") = false from sn_r_bears]
      refine iteF ⟨_, rfl, rfl, _, rfl, ?_⟩
      rw [show decide (V.str (Tst.bears f).hd = V.str "bears") = true from sn_same _]
      refine iteT ⟨_, rfl, _, rfl, a, _, _, .int (f : Nat), rfl, rfl, hT, at1, r, f, rfl, hr2, hr16, hk, fun x H1 hx s1 k1 => ?_⟩
      exact ⟨_, rfl, a, _, _, .int (f : Nat), rfl, rfl, (hT.ext s1), at1, _, rfl, rfl, r, f, rfl, hr2, hr16, hk, fun y H2 hy s2 k2 => ⟨lz (by simp), fun l hl => fin x H1 y H2 l s1 k1 s2 k2 hl⟩⟩
    | ends f =>
      rw [show decide (V.str (Tst.ends f).hd = V.str "multiple") = false from sn_m_ends]
      refine iteF ⟨_, rfl, rfl, _, rfl, ?_⟩
      rw [show decide (V.str (Tst.ends f).hd = V.str "rest") = false from sn_r_ends]
      refine iteF ⟨_, rfl, rfl, _, rfl, ?_⟩
      rw [show decide (V.str (Tst.ends f).hd = V.str "bears") = false from sn_b_ends]
      refine iteF ⟨_, rfl, rfl, _, rfl, ?_⟩
      rw [show decide (V.str (Tst.ends f).hd = V.str "ends") = true from sn_same _]
      refine iteT ⟨_, rfl, _, rfl, a, _, _, .int (f : Nat), rfl, rfl, hT, at1, r, f, rfl, hr2, hr16, hk, fun x H1 hx s1 k1 => ?_⟩
      exact ⟨_, rfl, a, _, _, .int (f : Nat), rfl, rfl, (hT.ext s1), at1, _, rfl, rfl, r, f, rfl, hr2, hr16, hk, fun y H2 hy s2 k2 => ⟨lz (by simp), fun l hl => fin x H1 y H2 l s1 k1 s2 k2 hl⟩⟩
    | sum m q' =>
      rw [show decide (V.str (Tst.sum m q').hd = V.str "multiple") = false from sn_m_sum]
      refine iteF ⟨_, rfl, rfl, _, rfl, ?_⟩
      rw [show decide (V.str (Tst.sum m q').hd = V.str "rest") = false from sn_r_sum]
      refine iteF ⟨_, rfl, rfl, _, rfl, ?_⟩
      rw [show decide (V.str (Tst.sum m q').hd = V.str "bears") = false from sn_b_sum]
      refine iteF ⟨_, rfl, rfl, _, rfl, ?_⟩
      rw [show decide (V.str (Tst.sum m q').hd = V.str "ends") = false from sn_d_sum]
      refine iteF ⟨_, rfl, rfl, _, rfl, ?_⟩
      rw [show decide (V.str (Tst.sum m q').hd = V.str "sum") = true from sn_same _]
      refine iteT ⟨_, rfl, _, rfl, a, _, _, .int (m : Nat), rfl, rfl, hT, at1, _, rfl, a, _, _, .int (q' : Nat), rfl, rfl, hT, at2, r, m, q', rfl, hr2, hr16, hk.1, hk.2.1, hk.2.2, fun x H1 hx s1 k1 => ?_⟩
      exact ⟨_, rfl, a, _, _, .int (q' : Nat), rfl, rfl, (hT.ext s1), at2, _, rfl, a, _, _, .int (m : Nat), rfl, rfl, (hT.ext s1), at1, _, rfl, rfl, r, m, q', rfl, hr2, hr16, hk.1, hk.2.1, hk.2.2, fun y H2 hy s2 k2 => ⟨lz (by simp), fun l hl => fin x H1 y H2 l s1 k1 s2 k2 hl⟩⟩
    | every =>
      rw [show decide (V.str (Tst.every).hd = V.str "multiple") = false from sn_m_every]
      refine iteF ⟨_, rfl, rfl, _, rfl, ?_⟩
      rw [show decide (V.str (Tst.every).hd = V.str "rest") = false from sn_r_every]
      refine iteF ⟨_, rfl, rfl, _, rfl, ?_⟩
      rw [show decide (V.str (Tst.every).hd = V.str "bears") = false from sn_b_every]
      refine iteF ⟨_, rfl, rfl, _, rfl, ?_⟩
      rw [show decide (V.str (Tst.every).hd = V.str "ends") = false from sn_d_every]
      refine iteF ⟨_, rfl, rfl, _, rfl, ?_⟩
      rw [show decide (V.str (Tst.every).hd = V.str "sum") = false from sn_s_every]
      refine iteF ⟨_, rfl, r, rfl, hr2, hr16, fun x H1 hx s1 k1 => ?_⟩
      exact ⟨_, rfl, rfl, r, rfl, hr2, hr16, fun y H2 hy s2 k2 => ⟨lz (by simp), fun l hl => fin x H1 y H2 l s1 k1 s2 k2 hl⟩⟩
end
end B

namespace B
open PySem L2 MK Hop
def spAny (K : PySem.W.Frag) : Sp := fun vs H Q _ => ∃ (p : Addr) (r n : Nat), vs = [.ref p, .int (r : Nat)] ∧ 2 ≤ r ∧ r ≤ 16 ∧ Bag H p n ∧ n ≤ 900000 ∧
  ∀ (a : Addr) (t : Tst) (H' : Hp), t.ok r → SqT K H' a t.vs → Kp1 p H H' → Bag H' p (n + 5) → Q (.ref a) H'
section
variable {P : Program} {w : World} {K : PySem.W.Frag} {mg : Str → Option Value} {base : Heap}
theorem ok_any {fa : Addr} {fd : FuncData} (F : Fun K "_law_any_plain" "_law_any_plain" s__law_any_plain fa fd) (D1 : Df P w K mg base CX0 1 "_law_draw" ["bag", "many"] spDraw) : FnOk P w K mg base CX0 2 fa fd ["bag", "root"] (spAny K) := by
  obtain ⟨_, _, G__law_draw, g__law_draw, k__law_draw, b__law_draw⟩ := D1
  refine F.ok sc__law_any_plain (fun vs H Q E h => ?_) (fun cdv A outer s H vs Q E hr h => ?_)
  · obtain ⟨p, r, n, rfl, _⟩ := h
    rfl
  · obtain ⟨p, r, n, rfl, hr2, hr16, hB, hn, q⟩ := h
    have nd := sc__law_any_plain.nd
    have hu := hu_of hr
    refine ⟨_, (pss_cons (ps_par3 (by rfl) nd (i := 2) (j := 3) (l := 4) rfl rfl rfl (by decide) (by decide) (by decide) rfl rfl rfl (pa_cons (pe_call G__law_draw (hr.mono (by decide)) (by rfl) g__law_draw k__law_draw b__law_draw .nil pass0 (pa_cons (pv 0) (pa_cons pe_int pa_nil))) (pa_cons (pe_op op_add pe_int (pe_call G__law_draw (hr.mono (by decide)) (by rfl) g__law_draw k__law_draw b__law_draw .nil pass0 (pa_cons (pv 0) (pa_cons pe_int pa_nil)))) (pa_cons (pe_call G__law_draw (hr.mono (by decide)) (by rfl) g__law_draw k__law_draw b__law_draw .nil pass0 (pa_cons (pv 0) (pa_cons (pv 1) pa_nil))) pa_nil))) (by rfl))
      (pss_cons (ps_set (i := 5) nd rfl (Or.inl rfl) (pe_lst (pa_cons (pe_tup (pa_cons pe_str (pa_cons (pv 3) (pa_cons (pe_call G__law_draw (hr.mono (by decide)) (by rfl) g__law_draw k__law_draw b__law_draw .nil pass0 (pa_cons (pv 0) (pa_cons (pv 3) pa_nil))) pa_nil)))) (pa_cons (pe_tup (pa_cons pe_str (pa_cons (pv 3) pa_nil))) (pa_cons (pe_tup (pa_cons pe_str (pa_cons (pv 4) pa_nil))) pa_nil)))))
      (pss_one (ps_ret (pe_ix ix_list (pe_op op_cat (pv 5) (pe_lst (pa_cons (pe_tup (pa_cons pe_str (pa_cons (pv 4) pa_nil))) (pa_cons (pe_tup (pa_cons pe_str (pa_cons (pv 3) (pa_cons (pe_call G__law_draw (hr.mono (by decide)) (by rfl) g__law_draw k__law_draw b__law_draw .nil pass0 (pa_cons (pv 0) (pa_cons (pv 3) pa_nil))) pa_nil)))) (pa_cons (pe_tup (pa_cons pe_str pa_nil)) pa_nil))))) (pv 2) (fun _ _ => rfl)))))), ?_⟩
    have lz : ∀ {n : Nat}, n ≤ 1000 → n ≤ sizeLine := fun h => by rw [sizeLine_eq]; omega
    have sm : ∀ {i : Int}, 0 ≤ i → i ≤ 16 → i.natAbs < 2 ^ 8000 := fun h0 h1 => Nat.lt_of_lt_of_le (show _ < 2 ^ 67 by omega) (Nat.pow_le_pow_right (by decide) (by decide))
    refine ⟨_, rfl, p, _, n, rfl, by decide, sm (by decide) (by decide), hB, by omega, fun way o1 w0 w1 hb1 => ?_⟩
    refine ⟨_, rfl, p, _, n + 1, rfl, by decide, sm (by decide) (by decide), bag_at hb1, by omega, fun m' o2 m0 m1 hb2 => ?_⟩
    refine ⟨_, _, rfl, rfl, _, rfl, _, rfl, p, _, n + 2, rfl, by omega, sm (by omega) (by omega), bag_at hb2, by omega, fun f' o3 f0 f1 hb3 => ⟨_, _, _, rfl, ?_⟩⟩
    have k3 : Kp1 p H (upd (upd (upd H p o1) p o2) p o3) := (bag_kp.trans bag_kp).trans bag_kp
    have b3 : Bag (upd (upd (upd H p o1) p o2) p o3) p (n + 3) := bag_at hb3
    generalize upd (upd (upd H p o1) p o2) p o3 = H3 at k3 b3
    obtain ⟨m, hm⟩ : ∃ m : Nat, 2 + m' = (m : Int) := ⟨(2 + m').toNat, by omega⟩
    obtain ⟨f, hf⟩ : ∃ f : Nat, f' = (f : Int) := ⟨f'.toNat, by omega⟩
    show tSeq _ _ _ [some (V.ref p), some (V.int (r : Nat)), some (V.int way), some (V.int (2 + m')), some (V.int f'), none] H3
    rw [hm, hf]
    have hm2 : 2 ≤ m := by omega
    have hm12 : m ≤ 12 := by omega
    have hfr : f < r := by omega
    have bagn : ∀ {Hc : Hp} {k : Nat} {a : Addr} {xs : List V}, Bag Hc p k → Hc a = some (.tup xs) → a ≠ p := fun ⟨o, e1, _, _, _, e2, _⟩ h z => by
      rw [z, e1] at h
      rw [e2] at h
      cases h
    have nnp : ∀ {Hc : Hp} {k : Nat} {a : Addr}, Bag Hc p k → Hc a = none → a ≠ p := fun ⟨o, e1, _⟩ h z => by rw [z, e1] at h; cases h
    have bagK : ∀ {Hc : Hp} {k : Nat} {a : Addr} {o : HO}, Bag Hc p k → a ≠ p → Bag (upd Hc a o) p k := fun ⟨o, e1, e2⟩ ne => ⟨o, by rw [upd_ne ne.symm]; exact e1, e2⟩
    have kpK : ∀ {Hc : Hp} {a : Addr} {o : HO}, Kp1 p H Hc → Hc a = none → Kp1 p H (upd Hc a o) := fun k h x u e ne => by
      have e1 := k x u e ne
      rw [upd_ne (ne_of_none e1 h)]
      exact e1
    have keep : ∀ {Hc : Hp} {a x : Addr} {o u : HO}, Hc x = some u → Hc a = none → upd Hc a o x = some u := fun h1 h2 => by rw [upd_ne (ne_of_none h1 h2)]; exact h1
    have keepp : ∀ {Hc : Hp} {x : Addr} {o : HO} {k : Nat} {xs : List V}, Hc x = some (.tup xs) → Bag Hc p k → upd Hc p o x = some (.tup xs) := fun h1 h2 => by rw [upd_ne (bagn h2 h1)]; exact h1
    -- the first three
    refine ⟨_, rfl, _, rfl, _, rfl, p, _, n + 3, rfl, by omega, sm (by omega) (by omega), b3, by omega, fun r1 o4 r10 r11 hb4 => ?_⟩
    have k4 : Kp1 p H (upd H3 p o4) := k3.trans bag_kp
    have b4 : Bag (upd H3 p o4) p (n + 4) := bag_at hb4
    generalize upd H3 p o4 = H4 at k4 b4
    obtain ⟨q1, hq1⟩ : ∃ q1 : Nat, r1 = (q1 : Int) := ⟨r1.toNat, by omega⟩
    rw [hq1]
    have hq1m : q1 < m := by omega
    refine ⟨lz (by simp), fun a1 ha1 => ?_⟩
    have k5 := kpK (o := .tup [V.str "rest", .int (m : Nat), .int (q1 : Nat)]) k4 ha1
    have b5 := bagK (o := .tup [V.str "rest", .int (m : Nat), .int (q1 : Nat)]) b4 (nnp b4 ha1)
    have t1 : upd H4 a1 (.tup [V.str "rest", .int (m : Nat), .int (q1 : Nat)]) a1 = some (.tup (Tst.rest m q1).vs) := upd_same
    generalize upd H4 a1 (.tup [V.str "rest", .int (m : Nat), .int (q1 : Nat)]) = H5 at k5 b5 t1
    refine ⟨_, rfl, lz (by simp), fun a2 ha2 => ?_⟩
    have k6 := kpK (o := .tup [V.str "multiple", .int (m : Nat)]) k5 ha2
    have b6 := bagK (o := .tup [V.str "multiple", .int (m : Nat)]) b5 (nnp b5 ha2)
    have t2 : upd H5 a2 (.tup [V.str "multiple", .int (m : Nat)]) a2 = some (.tup (Tst.mul m).vs) := upd_same
    have t1 := keep (o := .tup [V.str "multiple", .int (m : Nat)]) t1 ha2
    generalize upd H5 a2 (.tup [V.str "multiple", .int (m : Nat)]) = H6 at k6 b6 t1 t2
    refine ⟨_, rfl, lz (by simp), fun a3 ha3 => ?_⟩
    have k7 := kpK (o := .tup [V.str "bears", .int (f : Nat)]) k6 ha3
    have b7 := bagK (o := .tup [V.str "bears", .int (f : Nat)]) b6 (nnp b6 ha3)
    have t3 : upd H6 a3 (.tup [V.str "bears", .int (f : Nat)]) a3 = some (.tup (Tst.bears f).vs) := upd_same
    have t1 := keep (o := .tup [V.str "bears", .int (f : Nat)]) t1 ha3
    have t2 := keep (o := .tup [V.str "bears", .int (f : Nat)]) t2 ha3
    generalize upd H6 a3 (.tup [V.str "bears", .int (f : Nat)]) = H7 at k7 b7 t1 t2 t3
    refine ⟨lz (by simp), fun l1 hl1 => ?_⟩
    have k8 := kpK (o := .lst [V.ref a1, .ref a2, .ref a3]) k7 hl1
    have b8 := bagK (o := .lst [V.ref a1, .ref a2, .ref a3]) b7 (nnp b7 hl1)
    have t1 := keep (o := .lst [V.ref a1, .ref a2, .ref a3]) t1 hl1
    have t2 := keep (o := .lst [V.ref a1, .ref a2, .ref a3]) t2 hl1
    have t3 := keep (o := .lst [V.ref a1, .ref a2, .ref a3]) t3 hl1
    have l8 : upd H7 l1 (.lst [V.ref a1, .ref a2, .ref a3]) l1 = some (.lst [V.ref a1, .ref a2, .ref a3]) := upd_same
    have lp : l1 ≠ p := nnp b7 hl1
    generalize upd H7 l1 (.lst [V.ref a1, .ref a2, .ref a3]) = H8 at k8 b8 t1 t2 t3 l8
    -- the other three
    refine ⟨_, rfl, _, rfl, lz (by simp), fun a4 ha4 => ?_⟩
    have k9 := kpK (o := .tup [V.str "ends", .int (f : Nat)]) k8 ha4
    have b9 := bagK (o := .tup [V.str "ends", .int (f : Nat)]) b8 (nnp b8 ha4)
    have t4 : upd H8 a4 (.tup [V.str "ends", .int (f : Nat)]) a4 = some (.tup (Tst.ends f).vs) := upd_same
    have t1 := keep (o := .tup [V.str "ends", .int (f : Nat)]) t1 ha4
    have t2 := keep (o := .tup [V.str "ends", .int (f : Nat)]) t2 ha4
    have t3 := keep (o := .tup [V.str "ends", .int (f : Nat)]) t3 ha4
    have l9 := keep (o := .tup [V.str "ends", .int (f : Nat)]) l8 ha4
    generalize upd H8 a4 (.tup [V.str "ends", .int (f : Nat)]) = H9 at k9 b9 t1 t2 t3 t4 l9
    refine ⟨_, rfl, _, rfl, _, rfl, p, _, n + 4, rfl, by omega, sm (by omega) (by omega), b9, by omega, fun r2 o5 r20 r21 hb5 => ?_⟩
    have k10 : Kp1 p H (upd H9 p o5) := k9.trans bag_kp
    have b10 : Bag (upd H9 p o5) p (n + 5) := bag_at hb5
    have t1 := keepp (o := o5) t1 b9
    have t2 := keepp (o := o5) t2 b9
    have t3 := keepp (o := o5) t3 b9
    have t4 := keepp (o := o5) t4 b9
    have l10 : upd H9 p o5 l1 = some (.lst [V.ref a1, .ref a2, .ref a3]) := by rw [upd_ne lp]; exact l9
    generalize upd H9 p o5 = H10 at k10 b10 t1 t2 t3 t4 l10
    obtain ⟨q2, hq2⟩ : ∃ q2 : Nat, r2 = (q2 : Int) := ⟨r2.toNat, by omega⟩
    rw [hq2]
    have hq2m : q2 < m := by omega
    refine ⟨lz (by simp), fun a5 ha5 => ?_⟩
    have k11 := kpK (o := .tup [V.str "sum", .int (m : Nat), .int (q2 : Nat)]) k10 ha5
    have b11 := bagK (o := .tup [V.str "sum", .int (m : Nat), .int (q2 : Nat)]) b10 (nnp b10 ha5)
    have t5 : upd H10 a5 (.tup [V.str "sum", .int (m : Nat), .int (q2 : Nat)]) a5 = some (.tup (Tst.sum m q2).vs) := upd_same
    have t1 := keep (o := .tup [V.str "sum", .int (m : Nat), .int (q2 : Nat)]) t1 ha5
    have t2 := keep (o := .tup [V.str "sum", .int (m : Nat), .int (q2 : Nat)]) t2 ha5
    have t3 := keep (o := .tup [V.str "sum", .int (m : Nat), .int (q2 : Nat)]) t3 ha5
    have t4 := keep (o := .tup [V.str "sum", .int (m : Nat), .int (q2 : Nat)]) t4 ha5
    have l11 := keep (o := .tup [V.str "sum", .int (m : Nat), .int (q2 : Nat)]) l10 ha5
    generalize upd H10 a5 (.tup [V.str "sum", .int (m : Nat), .int (q2 : Nat)]) = H11 at k11 b11 t1 t2 t3 t4 t5 l11
    refine ⟨lz (by simp), fun a6 ha6 => ?_⟩
    have k12 := kpK (o := .tup [V.str "every"]) k11 ha6
    have b12 := bagK (o := .tup [V.str "every"]) b11 (nnp b11 ha6)
    have t6 : upd H11 a6 (.tup [V.str "every"]) a6 = some (.tup Tst.every.vs) := upd_same
    have t1 := keep (o := .tup [V.str "every"]) t1 ha6
    have t2 := keep (o := .tup [V.str "every"]) t2 ha6
    have t3 := keep (o := .tup [V.str "every"]) t3 ha6
    have t4 := keep (o := .tup [V.str "every"]) t4 ha6
    have t5 := keep (o := .tup [V.str "every"]) t5 ha6
    have l12 := keep (o := .tup [V.str "every"]) l11 ha6
    generalize upd H11 a6 (.tup [V.str "every"]) = H12 at k12 b12 t1 t2 t3 t4 t5 t6 l12
    refine ⟨lz (by simp), fun l2 hl2 => ?_⟩
    have k13 := kpK (o := .lst [V.ref a4, .ref a5, .ref a6]) k12 hl2
    have b13 := bagK (o := .lst [V.ref a4, .ref a5, .ref a6]) b12 (nnp b12 hl2)
    have t1 := keep (o := .lst [V.ref a4, .ref a5, .ref a6]) t1 hl2
    have t2 := keep (o := .lst [V.ref a4, .ref a5, .ref a6]) t2 hl2
    have t3 := keep (o := .lst [V.ref a4, .ref a5, .ref a6]) t3 hl2
    have t4 := keep (o := .lst [V.ref a4, .ref a5, .ref a6]) t4 hl2
    have t5 := keep (o := .lst [V.ref a4, .ref a5, .ref a6]) t5 hl2
    have t6 := keep (o := .lst [V.ref a4, .ref a5, .ref a6]) t6 hl2
    have l13 := keep (o := .lst [V.ref a4, .ref a5, .ref a6]) l12 hl2
    have m13 : upd H12 l2 (.lst [V.ref a4, .ref a5, .ref a6]) l2 = some (.lst [V.ref a4, .ref a5, .ref a6]) := upd_same
    generalize upd H12 l2 (.lst [V.ref a4, .ref a5, .ref a6]) = H13 at k13 b13 t1 t2 t3 t4 t5 t6 l13 m13
    refine ⟨l1, l2, _, _, rfl, rfl, l13, m13, lz (by simp), fun l3 hl3 => ?_⟩
    have k14 := kpK (o := .lst [V.ref a1, .ref a2, .ref a3, .ref a4, .ref a5, .ref a6]) k13 hl3
    have b14 := bagK (o := .lst [V.ref a1, .ref a2, .ref a3, .ref a4, .ref a5, .ref a6]) b13 (nnp b13 hl3)
    have t1 := keep (o := .lst [V.ref a1, .ref a2, .ref a3, .ref a4, .ref a5, .ref a6]) t1 hl3
    have t2 := keep (o := .lst [V.ref a1, .ref a2, .ref a3, .ref a4, .ref a5, .ref a6]) t2 hl3
    have t3 := keep (o := .lst [V.ref a1, .ref a2, .ref a3, .ref a4, .ref a5, .ref a6]) t3 hl3
    have t4 := keep (o := .lst [V.ref a1, .ref a2, .ref a3, .ref a4, .ref a5, .ref a6]) t4 hl3
    have t5 := keep (o := .lst [V.ref a1, .ref a2, .ref a3, .ref a4, .ref a5, .ref a6]) t5 hl3
    have t6 := keep (o := .lst [V.ref a1, .ref a2, .ref a3, .ref a4, .ref a5, .ref a6]) t6 hl3
    have m14 : upd H13 l3 (.lst [V.ref a1, .ref a2, .ref a3, .ref a4, .ref a5, .ref a6]) l3 = some (.lst [V.ref a1, .ref a2, .ref a3, .ref a4, .ref a5, .ref a6]) := upd_same
    refine ⟨_, rfl, ?_⟩
    show (rIxL K) _ _ (upd H13 l3 (.lst [V.ref a1, .ref a2, .ref a3, .ref a4, .ref a5, .ref a6])) _
    generalize upd H13 l3 (.lst [V.ref a1, .ref a2, .ref a3, .ref a4, .ref a5, .ref a6]) = H14 at k14 b14 t1 t2 t3 t4 t5 t6 m14
    obtain ⟨j, hj⟩ : ∃ j : Nat, way = (j : Int) := ⟨way.toNat, by omega⟩
    subst hj
    have hj6 : j < 6 := by omega
    match j, hj6 with
    | 0, _ => exact ⟨l3, _, _, _, rfl, rfl, SqL.of m14, rfl, q a1 (.rest m q1) H14 ⟨hm2, hm12, hq1m⟩ (SqT.of t1) k14 b14⟩
    | 1, _ => exact ⟨l3, _, _, _, rfl, rfl, SqL.of m14, rfl, q a2 (.mul m) H14 ⟨hm2, hm12⟩ (SqT.of t2) k14 b14⟩
    | 2, _ => exact ⟨l3, _, _, _, rfl, rfl, SqL.of m14, rfl, q a3 (.bears f) H14 hfr (SqT.of t3) k14 b14⟩
    | 3, _ => exact ⟨l3, _, _, _, rfl, rfl, SqL.of m14, rfl, q a4 (.ends f) H14 hfr (SqT.of t4) k14 b14⟩
    | 4, _ => exact ⟨l3, _, _, _, rfl, rfl, SqL.of m14, rfl, q a5 (.sum m q2) H14 ⟨hm2, hm12, hq2m⟩ (SqT.of t5) k14 b14⟩
    | 5, _ => exact ⟨l3, _, _, _, rfl, rfl, SqL.of m14, rfl, q a6 .every H14 trivial (SqT.of t6) k14 b14⟩
end
end B

namespace B
open PySem L2 MK Hop
def spNums : Sp := fun vs H Q _ => ∃ (p : Addr) (r n : Nat), vs = [.ref p, .int (r : Nat)] ∧ 2 ≤ r ∧ r ≤ 16 ∧ Bag H p n ∧ n ≤ 800000 ∧
  ∀ (l : Addr) (ns : List Nat) (H' : Hp), H l = none → H' l = some (.lst (nv ns)) → (∀ z, z ∈ ns → 0 < z ∧ z < 2 ^ 210) → ns.length ≤ 1000 → Kp1 p H H' → Bag H' p (n + 20) → Q (.ref l) H'
section
variable {P : Program} {w : World} {K : PySem.W.Frag} {mg : Str → Option Value} {base : Heap}
theorem ok_nums {fa : Addr} {fd : FuncData} (F : Fun K "_law_numbers" "_law_numbers" s__law_numbers fa fd) (D1 : Df P w K mg base CX0 1 "_law_draw" ["bag", "many"] spDraw) (D2 : Df P w K mg base CX0 2 "_law_great" ["bag", "limit"] spGreat) (D3 : Df P w K mg base CX0 1 "_law_power" ["root", "times"] spPower) (g_range : mg "range" = none) (g_list : mg "list" = none) : FnOk P w K mg base CX0 3 fa fd ["bag", "root"] spNums := by
  obtain ⟨_, _, G__law_draw, g__law_draw, k__law_draw, b__law_draw⟩ := D1
  obtain ⟨_, _, G__law_great, g__law_great, k__law_great, b__law_great⟩ := D2
  obtain ⟨_, _, G__law_power, g__law_power, k__law_power, b__law_power⟩ := D3
  refine F.ok sc__law_numbers (fun vs H Q E h => ?_) (fun cdv A outer s H vs Q E hr h => ?_)
  · obtain ⟨p, r, n, rfl, _⟩ := h
    rfl
  · obtain ⟨p, r, n, rfl, hr2, hr16, hB, hn, q⟩ := h
    have nd := sc__law_numbers.nd
    have hu := hu_of hr
    refine ⟨_, (pss_cons (ps_set (i := 2) nd rfl (Or.inl rfl) (pe_listRg (by rfl) (by rfl) g_list (prg_2 (by rfl) g_range pe_int pe_int)))
      (pss_cons (ps_for PassesOwn.never rfl (pi_range1 (by rfl) g_range (pa_cons pe_int pa_nil)) (pg_name (i := 3) nd rfl (Or.inl rfl)) (pss_cons (ps_expr (pe_bm PySem.F.plainAttrs_list PySem.F.slot_list_append PySem.F.type_list_append mt_append (pv 2) (pa_cons (pe_call G__law_great (hr.mono (by decide)) (by rfl) g__law_great k__law_great b__law_great .nil pass0 (pa_cons (pv 0) (pa_cons (pe_op op_sub (pe_op op_powW pe_int pe_int) pe_int) pa_nil))) pa_nil)))
      (pss_one (ps_expr (pe_bm PySem.F.plainAttrs_list PySem.F.slot_list_append PySem.F.type_list_append mt_append (pv 2) (pa_cons (pe_op op_sub (pe_op op_add (pe_call G__law_power (hr.mono (by decide)) (by rfl) g__law_power k__law_power b__law_power .nil pass0 (pa_cons (pv 1) (pa_cons (pe_op op_add pe_int (pe_call G__law_draw (hr.mono (by decide)) (by rfl) g__law_draw k__law_draw b__law_draw .nil pass0 (pa_cons (pv 0) (pa_cons pe_int pa_nil)))) pa_nil))) (pe_call G__law_draw (hr.mono (by decide)) (by rfl) g__law_draw k__law_draw b__law_draw .nil pass0 (pa_cons (pv 0) (pa_cons pe_int pa_nil)))) pe_int) pa_nil))))))
      (pss_one (ps_ret (pv 2))))), ?_⟩
    have sm : ∀ {i : Int}, 0 ≤ i → i ≤ 100 → i.natAbs < 2 ^ 8000 := fun h0 h1 => Nat.lt_of_lt_of_le (show _ < 2 ^ 67 by omega) (Nat.pow_le_pow_right (by decide) (by decide))
    refine ⟨1, 41, rfl, rfl, .of_le (by decide) (by decide) (by decide) (by decide), fun fo hfo => ?_⟩
    have e40 : rgV 1 41 = nv ((List.range 40).map fun i => 1 + i) := by
      unfold rgV nv
      rw [List.map_map]
      rfl
    rw [e40]
    have nnp : ∀ {Hc : Hp} {k : Nat} {a : Addr}, Bag Hc p k → Hc a = none → a ≠ p := fun ⟨o, e1, _⟩ h z => by rw [z, e1] at h; cases h
    have fp : fo ≠ p := nnp hB hfo
    have p60 : CPowW 10 60 := powW_of (n := 4) (m := 60) (by decide) rfl (by decide)
    have L0 : 0 < 10 ^ 60 - 1 := by decide
    have L1 : 10 ^ 60 - 1 < 2 ^ 300 := by decide
    have L2 : 10 ^ 60 - 1 < 2 ^ 210 := by decide
    have eL : (10 : Int) ^ (60 : Int).toNat - 1 = ((10 ^ 60 - 1 : Nat) : Int) := by decide
    refine ⟨4, rfl, by decide, by decide, for_range (lo := 0) (n := 4) (fun i σ Hx => ∃ (ys : List Nat) (v3 : Option V), σ = [some (.ref p), some (.int (r : Nat)), some (.ref fo), v3] ∧ ys.length = 40 + 2 * i ∧ (∀ z, z ∈ ys → 0 < z ∧ z < 2 ^ 210) ∧ Hx fo = some (.lst (nv ys)) ∧ Kp1 p H Hx ∧ Bag Hx p (n + 5 * i))
      ⟨_, none, rfl, by simp, ?_, upd_same, ?_, ?_⟩ ?_ ?_⟩
    · intro z hz
      obtain ⟨a, ha, e⟩ := List.mem_map.mp hz
      have := List.mem_range.mp ha
      have h210 : (2 : Nat) ^ 210 > 41 := by decide
      omega
    · intro x o e ne
      rw [upd_ne (ne_of_none e hfo)]
      exact e
    · obtain ⟨o, e1, e2⟩ := hB
      exact ⟨o, by rw [upd_ne fp.symm]; exact e1, e2⟩
    · rintro i σ Hx hi ⟨ys, v3, rfl, hyl, hys, hfo1, kp, hBx⟩
      refine ⟨_, rfl, .inl ⟨rfl, _, SqL.of hfo1⟩, _, rfl, _, _, rfl, rfl, p60, _, _, rfl, rfl, p, 10 ^ 60 - 1, n + 5 * i, congrArg (fun z => [V.ref p, V.int z]) eL, L0, L1, hBx, by omega, fun v H1 v0 v1 kp1 hB1 => ?_⟩
      have f1 : H1 fo = some (.lst (nv ys)) := kp1 _ _ hfo1 fp
      refine ⟨fo, nv ys, _, rfl, rfl, f1, by rw [nv_len, sizeLine_eq]; omega, ?_⟩
      rw [nv_snoc]
      have k2 : Kp1 p H (upd H1 fo (.lst (nv (ys ++ [v])))) := fun x o e ne => by
        have h1 := kp1 x o (kp x o e ne) ne
        rw [upd_ne (ne_of_none e hfo)]
        exact h1
      have b2 : Bag (upd H1 fo (.lst (nv (ys ++ [v])))) p (n + 5 * i + 3) := by
        obtain ⟨o, e1, e2⟩ := hB1
        exact ⟨o, by rw [upd_ne fp.symm]; exact e1, e2⟩
      have f2 : upd H1 fo (.lst (nv (ys ++ [v]))) fo = some (.lst (nv (ys ++ [v]))) := upd_same
      generalize upd H1 fo (.lst (nv (ys ++ [v]))) = H2 at k2 b2 f2
      refine ⟨_, rfl, .inl ⟨rfl, _, SqL.of f2⟩, _, rfl, _, rfl, p, _, _, rfl, by decide, sm (by decide) (by decide), b2, by omega, fun r1 o1 r10 r11 hb1 => ?_⟩
      obtain ⟨t, ht⟩ : ∃ t : Nat, 1 + r1 = (t : Int) := ⟨(1 + r1).toNat, by omega⟩
      refine ⟨_, _, rfl, rfl, r, t, congrArg (fun z => [V.int (r : Nat), V.int z]) ht, hr16, by omega, ?_⟩
      refine ⟨_, rfl, p, _, _, rfl, by decide, sm (by decide) (by decide), bag_at hb1, by omega, fun d o2 d0 d1 hb2 => ?_⟩
      have k3 : Kp1 p H (upd (upd H2 p o1) p o2) := (k2.trans bag_kp).trans bag_kp
      have b3 : Bag (upd (upd H2 p o1) p o2) p (n + 5 * i + 5) := bag_at hb2
      have f3 : upd (upd H2 p o1) p o2 fo = some (.lst (nv (ys ++ [v]))) := by rw [upd_ne fp, upd_ne fp]; exact f2
      have w0 : 0 < r ^ t := Nat.pow_pos (by omega)
      have w1 : r ≤ r ^ t := by
        have : r ^ 1 ≤ r ^ t := Nat.pow_le_pow_right (by omega) (by omega)
        simpa using this
      have w2 : r ^ t ≤ 16 ^ 49 := Nat.le_trans (Nat.pow_le_pow_left hr16 t) (Nat.pow_le_pow_right (by decide) (by omega))
      have w3 : 16 ^ 49 + 5 < 2 ^ 210 := by decide
      obtain ⟨u, hu'⟩ : ∃ u : Nat, ((r ^ t : Nat) : Int) + d - 1 = (u : Int) := ⟨(((r ^ t : Nat) : Int) + d - 1).toNat, by omega⟩
      refine ⟨_, _, rfl, rfl, _, _, rfl, rfl, fo, nv (ys ++ [v]), _, rfl, rfl, f3, by rw [nv_len, List.length_append, sizeLine_eq]; simp; omega, ?_⟩
      refine ⟨ys ++ [v] ++ [u], _, rfl, by simp [hyl]; omega, fun z hz => ?_, ?_, fun x o e ne => ?_, ?_⟩
      · rcases List.mem_append.mp hz with q1 | q1
        · rcases List.mem_append.mp q1 with q2 | q2
          · exact hys z q2
          · rw [List.mem_singleton.mp q2]; exact ⟨v0, Nat.lt_of_le_of_lt v1 L2⟩
        · rw [List.mem_singleton.mp q1]
          generalize 16 ^ 49 = A at w2 w3
          generalize 2 ^ 210 = B at w3 ⊢
          omega
      · rw [upd_same, ← nv_snoc (ys ++ [v]) u]
        show some (HO.lst (nv (ys ++ [v]) ++ [V.int (((r ^ t : Nat) : Int) + d - 1)])) = _
        rw [hu']
      · rw [upd_ne (ne_of_none e hfo)]
        exact k3 x o e ne
      · obtain ⟨o, e1, e2⟩ := b3
        refine ⟨o, by rw [upd_ne fp.symm]; exact e1, ?_⟩
        have : n + 5 * (i + 1) = n + 5 * i + 5 := by omega
        rw [this]
        exact e2
    · rintro σ Hx ⟨ys, v3, rfl, hyl, hys, hfo1, kp, hBx⟩
      exact ⟨_, rfl, q fo ys Hx hfo hfo1 hys (by omega) kp hBx⟩
end
end B

namespace B
open PySem L2 MK Hop
def spRight : Sp := fun vs H Q _ => ∃ (p : Addr), vs = [.ref p] ∧ Bag H p 0 ∧ ∀ H', Kp1 p H H' → Q (.bl true) H'
section
variable {P : Program} {w : World} {K : PySem.W.Frag} {mg : Str → Option Value} {base : Heap}
theorem ok_right {C fi fe fb : Addr} {fdi fde fdb : FuncData} (kc : KM P w K mg base C fi fe fb fdi fde fdb) {fa : Addr} {fd : FuncData} (F : Fun K "_law_right" "_law_right" s__law_right fa fd)
    (D1 : Df P w K mg base CX0 1 "_law_draw" ["bag", "many"] spDraw) (D2 : Df P w K mg base CX0 2 "_law_any_plain" ["bag", "root"] (spAny K)) (D3 : Df P w K mg base CX0 8 "_law_two" ["root", "test"] (spTwo K C)) (D4 : Df P w K mg base CX0 3 "_law_numbers" ["bag", "root"] spNums) (D5 : Df P w K mg base CX0 2 "_law_in" ["root", "test", "n"] (spLin K)) (g_repr : mg "repr" = none) : FnOk P w K mg base CX0 9 fa fd ["bag"] spRight := by
  obtain ⟨_, _, G__law_draw, g__law_draw, k__law_draw, b__law_draw⟩ := D1
  obtain ⟨_, _, G__law_any_plain, g__law_any_plain, k__law_any_plain, b__law_any_plain⟩ := D2
  obtain ⟨_, _, G__law_two, g__law_two, k__law_two, b__law_two⟩ := D3
  obtain ⟨_, _, G__law_numbers, g__law_numbers, k__law_numbers, b__law_numbers⟩ := D4
  obtain ⟨_, _, G__law_in, g__law_in, k__law_in, b__law_in⟩ := D5
  refine F.ok sc__law_right (fun vs H Q E h => ?_) (fun cdv A outer s H vs Q E hr h => ?_)
  · obtain ⟨p, rfl, _⟩ := h
    rfl
  · obtain ⟨p, rfl, hB, q⟩ := h
    have nd := sc__law_right.nd
    have hu := hu_of hr
    refine ⟨_, (pss_cons (ps_set (i := 1) nd rfl (Or.inr rfl) (pe_op op_add pe_int (pe_call G__law_draw (hr.mono (by decide)) (by rfl) g__law_draw k__law_draw b__law_draw .nil pass0 (pa_cons (pv 0) (pa_cons pe_int pa_nil)))))
      (pss_cons (ps_set (i := 2) nd rfl (Or.inr rfl) (pe_call G__law_any_plain (hr.mono (by decide)) (by rfl) g__law_any_plain k__law_any_plain b__law_any_plain .nil pass0 (pa_cons (pv 0) (pa_cons (pv 1) pa_nil))))
      (pss_cons (ps_asg (pe_call G__law_two (hr.mono (by decide)) (by rfl) g__law_two k__law_two b__law_two .nil pass0 (pa_cons (pv 1) (pa_cons (pv 2) pa_nil))) (pg_lst rfl (pgs_cons (pg_name (i := 3) nd rfl (Or.inr rfl)) (pgs_cons (pg_name (i := 4) nd rfl (Or.inr rfl)) pgs_nil))))
      (pss_cons (ps_set (i := 5) nd rfl (Or.inl rfl) (pe_call G__law_numbers (hr.mono (by decide)) (by rfl) g__law_numbers k__law_numbers b__law_numbers .nil pass0 (pa_cons (pv 0) (pa_cons (pv 1) pa_nil))))
      (pss_cons (ps_setLc (i := 6) (own := [("n", 7)]) (g := gName 7) (tt := tYes) (by rfl) nd rfl rfl (sw_true rfl rfl rfl (by decide +kernel)) (pi_list (pv 5)) (blkOk_by (own := [("n", 7)]) (N := ["bag", "root", "test", "one", "two", "numbers", "truths", "n", "far", "value"]) (sc := defScope s__law_right) (by decide +kernel)) (fun _ _ _ _ _ => (pg_name (i := 7) nd rfl (Or.inl rfl))) (fun _ _ _ _ _ => pts_nil) (fun _ _ _ _ _ => (pe_call G__law_in (hr.mono (by decide)) (by rfl) g__law_in k__law_in b__law_in .nil pass0 (pa_cons (pv 1) (pa_cons (pv 2) (pa_cons (pv 7) pa_nil))))))
      (pss_cons (ps_if (PW.pt (pw_or (pt_cmpR (op_neD hr.units) (pe_lc (own := [("n", 7)]) (g := gName 7) (tt := tYes) (by rfl) nd (pi_list (pv 5)) (blkOk_by (own := [("n", 7)]) (N := ["bag", "root", "test", "one", "two", "numbers", "truths", "n", "far", "value"]) (sc := defScope s__law_right) (by decide +kernel)) (fun _ _ _ _ _ => (pg_name (i := 7) nd rfl (Or.inl rfl))) (fun _ _ _ _ _ => pts_nil) (fun _ _ _ _ _ => (pe_cmpR (show OpR _ _ (rInOwn C (spHas K C) E0) from op_inOwn kc.Gin kc.sin kc.fin kc.bin pass0 (hr.mono (by decide))) (pv 7) (pv 3) (by rfl)))) (pv 6) (nomark _)) (pw_or1 (pt_cmpR (op_neD hr.units) (pe_lc (own := [("n", 7)]) (g := gName 7) (tt := tYes) (by rfl) nd (pi_list (pe_revL (pv 5))) (blkOk_by (own := [("n", 7)]) (N := ["bag", "root", "test", "one", "two", "numbers", "truths", "n", "far", "value"]) (sc := defScope s__law_right) (by decide +kernel)) (fun _ _ _ _ _ => (pg_name (i := 7) nd rfl (Or.inl rfl))) (fun _ _ _ _ _ => pts_nil) (fun _ _ _ _ _ => (pe_cmpR (show OpR _ _ (rInOwn C (spHas K C) E0) from op_inOwn kc.Gin kc.sin kc.fin kc.bin pass0 (hr.mono (by decide))) (pv 7) (pv 4) (by rfl)))) (pe_revL (pv 6)) (nomark _))))) (pss_one (ps_ret pe_bl)) pss_nil)
      (pss_cons (ps_set (i := 8) nd rfl (Or.inl rfl) (pe_call G__law_draw (hr.mono (by decide)) (by rfl) g__law_draw k__law_draw b__law_draw .nil pass0 (pa_cons (pv 0) (pa_cons (pe_op op_powW pe_int pe_int) pa_nil))))
      (pss_cons (ps_for PassesOwn.never rfl (pi_list (pe_lst (pa_cons pe_int (pa_cons (pe_un un_neg pe_int) (pa_cons (pe_un un_neg (pv 8)) (pa_cons (pe_op op_sub (pe_un un_neg pe_int) (pv 8)) (pa_cons pe_bl (pa_cons pe_bl (pa_cons pe_non (pa_cons pe_str (pa_cons pe_str (pa_cons (pe_lst (pa_cons pe_int pa_nil)) (pa_cons (pe_tup (pa_cons pe_int pa_nil)) (pa_cons (pe_lst pa_nil) (pa_cons pe_dnewK pa_nil))))))))))))))) (pg_name (i := 9) nd rfl (Or.inl rfl)) (pss_one (ps_if (pt_cmpR (show OpR _ _ (rInOwn C (spHas K C) E0) from op_inOwn kc.Gin kc.sin kc.fin kc.bin pass0 (hr.mono (by decide))) (pv 9) (pv 3) (by rfl)) (pss_one (ps_ret pe_bl)) pss_nil)))
      (pss_cons (ps_if (PW.pt (pw_or (pt_cmpR op_ne (pe_callB SkE.call_repr_int (by rfl) g_repr (by decide +kernel) (pa_cons (pe_meth0 (pv 3) kc.cls kc.mb kc.Gb (hr.mono (by decide)) kc.bb .nil pass0) pa_nil)) (pe_callB SkE.call_repr_int (by rfl) g_repr (by decide +kernel) (pa_cons (pv 1) pa_nil)) (nomark _)) (pw_or1 (pt_cmpR op_ne (pe_callB SkE.call_repr_int (by rfl) g_repr (by decide +kernel) (pa_cons (pe_meth0 (pv 4) kc.cls kc.mb kc.Gb (hr.mono (by decide)) kc.bb .nil pass0) pa_nil)) (pe_callB SkE.call_repr_int (by rfl) g_repr (by decide +kernel) (pa_cons (pv 1) pa_nil)) (nomark _))))) (pss_one (ps_ret pe_bl)) pss_nil)
      (pss_one (ps_ret (pe_and (pe_cmpR op_isBl (pe_cmpR (op_eqOwn kc.Geq kc.seq kc.feq kc.beq pass0 (hr.mono (by decide))) (pv 3) (pv 4) (nomark _)) pe_bl (nomark _)) (pe_one (pe_cmpR op_isBl (pe_cmpR (op_neOwn kc.Geq kc.sne kc.hm kc.seq kc.feq kc.beq pass0 (hr.mono (by decide))) (pv 3) (pv 4) (nomark _)) pe_bl (nomark _))))))))))))))), ?_⟩
    have sm : ∀ {i : Int}, 0 ≤ i → i ≤ 100 → i.natAbs < 2 ^ 8000 := fun h0 h1 => Nat.lt_of_lt_of_le (show _ < 2 ^ 67 by omega) (Nat.pow_le_pow_right (by decide) (by decide))
    have lz : ∀ {n : Nat}, n ≤ 1000 → n ≤ sizeLine := fun h => by rw [sizeLine_eq]; omega
    refine ⟨_, rfl, p, _, 0, rfl, by decide, sm (by decide) (by decide), hB, by omega, fun r' o1 r0 r1 hb1 => ?_⟩
    obtain ⟨r, hr'⟩ : ∃ r : Nat, 2 + r' = (r : Int) := ⟨(2 + r').toNat, by omega⟩
    have hr2 : 2 ≤ r := by omega
    have hr16 : r ≤ 16 := by omega
    refine ⟨_, _, rfl, rfl, ?_⟩
    have k1 : Kp1 p H (upd H p o1) := bag_kp
    have b1 : Bag (upd H p o1) p 1 := bag_at hb1
    generalize upd H p o1 = H1 at k1 b1
    show gName 1 (V.int (2 + r')) _ _ _
    rw [hr']
    -- the test
    refine ⟨_, rfl, _, rfl, p, r, 1, rfl, hr2, hr16, b1, by omega, fun a t H2 ok ta k2 b2 => ?_⟩
    -- the two kinds
    refine ⟨_, rfl, _, rfl, r, a, t, rfl, ta, ok, hr2, hr16, fun l x y H3 hl s3 e3 kx ky => ?_⟩
    refine ⟨l, _, rfl, SqL.of e3, rfl, _, _, rfl, _, _, rfl, rfl, ?_⟩
    have k3 : Kp1 p H H3 := fun z o e ne => s3 _ _ (k2 _ _ (k1 _ _ e ne) ne)
    have b3 : Bag H3 p 6 := by
      obtain ⟨o, e1, e2⟩ := b2
      exact ⟨o, s3 _ _ e1, e2⟩
    -- the numbers
    refine ⟨_, rfl, _, rfl, p, r, 6, rfl, hr2, hr16, b3, by omega, fun nl ns H4 hnl e4 hns nsl k4 b4 => ?_⟩
    have bl3 : ∃ ys, H3 p = some (.lst ys) := by
      obtain ⟨o, e1, _, _, _, e2, _⟩ := b3
      exact ⟨_, by rw [e1, e2]⟩
    obtain ⟨ys3, bp3⟩ := bl3
    have kx4 := kx.kpl bp3 k4
    have ky4 := ky.kpl bp3 k4
    have ta4 := sqT_kpl (ta.ext s3) bp3 k4
    have k4' : Kp1 p H H4 := k3.trans k4
    -- the truths
    refine ⟨_, rfl, nl, rfl, ⟨_, SqL.of e4⟩, fun D1 hD1 => ?_⟩
    have D1n : ∀ {z : Addr} {o : HO}, H4 z = some o → z ≠ D1 := fun e => ne_of_none e hD1
    refine lc_list (K := K) (a := nl) (xs := nv ns) (fun i H' => Kp1 D1 H4 H' ∧ H' D1 = some (.lst (((ns.take i).map (tst r t)).map V.bl))) ⟨fun z o e ne => by rw [upd_ne ne]; exact e, upd_same⟩ (fun i H' _ ⟨kp, _⟩ => SqL.of (kp _ _ e4 (D1n e4))) ?_ ?_
    · rintro i v H' hi ⟨kp, hD'⟩
      obtain ⟨n, hn, rfl⟩ := nv_at hi
      obtain ⟨n0, n1⟩ := hns n (List.mem_of_getElem? hn)
      have s' : Same H4 H' := fun z o e => kp z o e (D1n e)
      refine ⟨rfl, yes_i ⟨_, rfl, _, rfl, _, rfl, r, n, a, t, rfl, ta4.ext s', ok, hr2, hr16, n0, n1, fun H'' s'' => ?_⟩⟩
      refine ⟨_, s'' _ _ hD', by rw [List.length_map, List.length_map, List.length_take, sizeLine_eq]; omega, fun z o e ne => by rw [upd_ne ne]; exact s'' _ _ (kp z o e ne), ?_⟩
      rw [upd_same, take_snoc hn, List.map_append, List.map_append]
      rfl
    rintro H5 ⟨kp5, hD5⟩
    rw [nv_len, List.take_length] at hD5
    have s5 : Same H4 H5 := fun z o e => kp5 z o e (D1n e)
    generalize hbs : ns.map (tst r t) = bs at hD5
    have kx5 := kx4.ext s5
    have ky5 := ky4.ext s5
    have e5 := s5 _ _ e4
    -- first: n in one
    refine ⟨_, rfl, nl, rfl, ⟨_, SqL.of e5⟩, fun D2 hD2 => ?_⟩
    have D2n : ∀ {z : Addr} {o : HO}, H5 z = some o → z ≠ D2 := fun e => ne_of_none e hD2
    refine lc_list (K := K) (a := nl) (xs := nv ns) (fun i H' => Kp1 D2 H5 H' ∧ H' D2 = some (.lst (((ns.take i).map (tst r t)).map V.bl))) ⟨fun z o e ne => by rw [upd_ne ne]; exact e, upd_same⟩ (fun i H' _ ⟨kp, _⟩ => SqL.of (kp _ _ e5 (D2n e5))) ?_ ?_
    · rintro i v H' hi ⟨kp, hD'⟩
      obtain ⟨n, hn, rfl⟩ := nv_at hi
      obtain ⟨n0, n1⟩ := hns n (List.mem_of_getElem? hn)
      have s' : Same H5 H' := fun z o e => kp z o e (D2n e)
      have kx' := kx5.ext s'
      obtain ⟨dx, fs, hx, _⟩ := kx'.ins
      refine ⟨rfl, yes_i ⟨_, rfl, _, rfl, x, dx, fs, rfl, hx, x, r, tst r t, _, rfl, kx', .inl ⟨n, rfl, n0, Nat.lt_of_lt_of_le n1 (Nat.pow_le_pow_right (by decide) (by decide)), fun H'' s'' => ⟨_, rfl, ?_⟩⟩⟩⟩
      refine ⟨_, s'' _ _ hD', by rw [List.length_map, List.length_map, List.length_take, sizeLine_eq]; omega, fun z o e ne => by rw [upd_ne ne]; exact s'' _ _ (kp z o e ne), ?_⟩
      rw [upd_same, take_snoc hn, List.map_append, List.map_append]
      rfl
    rintro H6 ⟨kp6, hD6⟩
    rw [nv_len, List.take_length, hbs] at hD6
    have s6 : Same H5 H6 := fun z o e => kp6 z o e (D2n e)
    have t6 := s6 _ _ hD5
    have e6 := s6 _ _ e5
    refine ⟨_, rfl, _, _, dp_bools (SqL.of hD6), dp_bools (SqL.of t6), shaped_bools _, shaped_bools _, _, rfl, ?_⟩
    rw [eqv_bools]
    refine iteF ?_
    -- then: n in two, turned about
    have kx6 := kx5.ext s6
    have ky6 := ky5.ext s6
    refine ⟨_, rfl, nl, _, rfl, SqL.of e6, fun rl hrl => ?_⟩
    have s7 : Same H6 (upd H6 rl (.lst (nv ns).reverse)) := same_new hrl
    have e7 : upd H6 rl (.lst (nv ns).reverse) rl = some (.lst (nv ns.reverse)) := by rw [upd_same]; simp [nv]
    generalize upd H6 rl (.lst (nv ns).reverse) = H7 at s7 e7
    have ky7 := ky6.ext s7
    have t7 := s7 _ _ t6
    refine ⟨rl, rfl, ⟨_, SqL.of e7⟩, fun D3 hD3 => ?_⟩
    have D3n : ∀ {z : Addr} {o : HO}, H7 z = some o → z ≠ D3 := fun e => ne_of_none e hD3
    refine lc_list (K := K) (a := rl) (xs := nv ns.reverse) (fun i H' => Kp1 D3 H7 H' ∧ H' D3 = some (.lst (((ns.reverse.take i).map (tst r t)).map V.bl))) ⟨fun z o e ne => by rw [upd_ne ne]; exact e, upd_same⟩ (fun i H' _ ⟨kp, _⟩ => SqL.of (kp _ _ e7 (D3n e7))) ?_ ?_
    · rintro i v H' hi ⟨kp, hD'⟩
      obtain ⟨n, hn, rfl⟩ := nv_at hi
      obtain ⟨n0, n1⟩ := hns n (List.mem_reverse.mp (List.mem_of_getElem? hn))
      have s' : Same H7 H' := fun z o e => kp z o e (D3n e)
      have ky' := ky7.ext s'
      obtain ⟨dx, fs, hx, _⟩ := ky'.ins
      refine ⟨rfl, yes_i ⟨_, rfl, _, rfl, y, dx, fs, rfl, hx, y, r, tst r t, _, rfl, ky', .inl ⟨n, rfl, n0, Nat.lt_of_lt_of_le n1 (Nat.pow_le_pow_right (by decide) (by decide)), fun H'' s'' => ⟨_, rfl, ?_⟩⟩⟩⟩
      refine ⟨_, s'' _ _ hD', by rw [List.length_map, List.length_map, List.length_take, List.length_reverse, sizeLine_eq]; omega, fun z o e ne => by rw [upd_ne ne]; exact s'' _ _ (kp z o e ne), ?_⟩
      rw [upd_same, take_snoc hn, List.map_append, List.map_append]
      rfl
    rintro H8 ⟨kp8, hD8⟩
    rw [nv_len, List.take_length, List.map_reverse, hbs] at hD8
    have s8 : Same H7 H8 := fun z o e => kp8 z o e (D3n e)
    have t8 := s8 _ _ t7
    refine ⟨_, rfl, D1, _, rfl, SqL.of t8, fun rt hrt => ?_⟩
    have s9 : Same H8 (upd H8 rt (.lst (bs.map V.bl).reverse)) := same_new hrt
    have e9 : upd H8 rt (.lst (bs.map V.bl).reverse) rt = some (.lst (bs.reverse.map V.bl)) := by rw [upd_same, List.map_reverse]
    generalize upd H8 rt (.lst (bs.map V.bl).reverse) = H9 at s9 e9
    refine ⟨_, _, dp_bools (SqL.of (s9 _ _ hD8)), dp_bools (SqL.of e9), shaped_bools _, shaped_bools _, _, rfl, ?_⟩
    rw [eqv_bools]
    refine iteF ?_
    have s49 : Same H4 H9 := s5.trans (s6.trans (s7.trans (s8.trans s9)))
    have kx9 := kx4.ext s49
    have ky9 := ky4.ext s49
    have b9 : Bag H9 p 26 := by
      obtain ⟨o, e1, e2⟩ := b4
      exact ⟨o, s49 _ _ e1, e2⟩
    have k9 : Kp1 p H H9 := fun z o e ne => s49 _ _ (k4' z o e ne)
    -- far
    have p40 : CPowW 10 40 := powW_of (n := 4) (m := 40) (by decide) rfl (by decide)
    have t40 : (10 : Int) ^ (40 : Int).toNat = 10000000000000000000000000000000000000000 := by decide
    have w40 : (10000000000000000000000000000000000000000 : Int).natAbs < 2 ^ 8000 := Nat.lt_of_lt_of_le (show _ < 2 ^ 140 by decide) (Nat.pow_le_pow_right (by decide) (by decide))
    refine ⟨_, rfl, _, _, rfl, rfl, p40, p, _, 26, rfl, by rw [t40]; decide, by rw [t40]; exact w40, b9, by omega, fun far o2 f0 f1 hb2 => ?_⟩
    have bl9 : ∃ ys, H9 p = some (.lst ys) := by
      obtain ⟨o, e1, _, _, _, e2, _⟩ := b9
      exact ⟨_, by rw [e1, e2]⟩
    obtain ⟨ys9, bp9⟩ := bl9
    have kx10 := kx9.kpl bp9 (bag_kp (o := o2))
    have ky10 := ky9.kpl bp9 (bag_kp (o := o2))
    have k10 : Kp1 p H (upd H9 p o2) := k9.trans bag_kp
    generalize upd H9 p o2 = H10 at kx10 ky10 k10
    -- the values that are none
    refine ⟨_, rfl, _, rfl, _, rfl, _, rfl, _, rfl, _, _, rfl, rfl, ?_⟩
    refine ⟨lz (by simp), fun a7 ha7 => ⟨lz (by simp), fun b7 hb7 => ⟨lz (by simp), fun c7 hc7 => fun d7 hd7 => ⟨lz (by simp), fun vl hvl => ?_⟩⟩⟩⟩
    have sa := same_new (o := .lst [V.int 7]) ha7
    have ea : upd H10 a7 (.lst [V.int 7]) a7 = some (.lst [V.int 7]) := upd_same
    generalize upd H10 a7 (.lst [V.int 7]) = G1 at sa ea hb7 hc7 hd7 hvl ⊢
    have sb := same_new (o := .tup [V.int 7]) hb7
    have eb : upd G1 b7 (.tup [V.int 7]) b7 = some (.tup [V.int 7]) := upd_same
    generalize upd G1 b7 (.tup [V.int 7]) = G2 at sb eb hc7 hd7 hvl ⊢
    have sc := same_new (o := .lst []) hc7
    have ec : upd G2 c7 (.lst []) c7 = some (.lst []) := upd_same
    generalize upd G2 c7 (.lst []) = G3 at sc ec hd7 hvl ⊢
    have sd := same_new (o := .dK []) hd7
    have ed : upd G3 d7 (.dK []) d7 = some (.dK []) := upd_same
    generalize upd G3 d7 (.dK []) = G4 at sd ed hvl ⊢
    generalize hvs : [V.int 0, V.int (-1), V.int (-far), V.int (-1 - far), V.bl true, V.bl false, V.non, V.str "7", V.str "", V.ref a7, V.ref b7, V.ref c7, V.ref d7] = vals at hvl
    have hout : ∀ v, v ∈ vals → OutV G4 v := by
      rw [← hvs]
      intro v hv
      simp only [List.mem_cons, List.not_mem_nil, or_false] at hv
      rcases hv with rfl | rfl | rfl | rfl | rfl | rfl | rfl | rfl | rfl | rfl | rfl | rfl | rfl
      · exact .inl ⟨_, rfl, by decide⟩
      · exact .inl ⟨_, rfl, by decide⟩
      · exact .inl ⟨_, rfl, by omega⟩
      · exact .inl ⟨_, rfl, by omega⟩
      · exact .inr (.inl ⟨_, rfl⟩)
      · exact .inr (.inl ⟨_, rfl⟩)
      · exact .inr (.inr (.inl rfl))
      · exact .inr (.inr (.inr (.inl ⟨_, rfl⟩)))
      · exact .inr (.inr (.inr (.inl ⟨_, rfl⟩)))
      · exact .inr (.inr (.inr (.inr ⟨_, rfl, .inl ⟨_, sd _ _ (sc _ _ (sb _ _ ea))⟩⟩)))
      · exact .inr (.inr (.inr (.inr ⟨_, rfl, .inr (.inl ⟨_, sd _ _ (sc _ _ eb)⟩)⟩)))
      · exact .inr (.inr (.inr (.inr ⟨_, rfl, .inl ⟨_, sd _ _ ec⟩⟩)))
      · exact .inr (.inr (.inr (.inr ⟨_, rfl, .inr (.inr ⟨_, ed⟩)⟩)))
    show ∃ a_2, V.ref vl = V.ref a_2 ∧ _
    refine ⟨vl, rfl, ?_⟩
    have sv := same_new (o := .lst vals) hvl
    have ev : upd G4 vl (.lst vals) vl = some (.lst vals) := upd_same
    generalize upd G4 vl (.lst vals) = G5 at sv ev
    have s105 : Same H10 G5 := sa.trans (sb.trans (sc.trans (sd.trans sv)))
    have kx11 := kx10.ext s105
    have ky11 := ky10.ext s105
    refine ⟨⟨_, SqL.of ev⟩, for_list (K := K) (a := vl) (xs := vals) (fun j σ' H' => ∃ v9 : Option V, σ' = [some (.ref p), some (.int (r : Nat)), some (.ref a), some (.ref x), some (.ref y), some (.ref nl), some (.ref D1), none, some (.int far), v9] ∧ Same G5 H') ⟨none, rfl, fun _ _ e => e⟩ (fun j σ' H' _ ⟨_, _, s'⟩ => SqL.of (s' _ _ ev)) ?_ ?_⟩
    · rintro j v σ' H' hj ⟨v9, rfl, s'⟩
      have hv := ((hout v (List.mem_of_getElem? hj)).ext (sv.trans s')).no (K := K)
      have kx' := kx11.ext s'
      obtain ⟨dx, fs, hx, _⟩ := kx'.ins
      refine ⟨_, rfl, _, rfl, x, dx, fs, rfl, hx, x, r, tst r t, v, rfl, kx', .inr ⟨hv, fun H'' s'' => ⟨_, rfl, _, rfl, iteF ?_⟩⟩⟩
      exact ⟨_, rfl, s'.trans s''⟩
    rintro σ' H11 ⟨v9, rfl, s11⟩
    have kx12 := kx11.ext s11
    have ky12 := ky11.ext s11
    have k12 : Kp1 p H H11 := fun z o e ne => s11 _ _ (s105 _ _ (k10 z o e ne))
    obtain ⟨dx, fs, hx, fx⟩ := kx12.ins
    obtain ⟨dy, gs, hy, fy⟩ := ky12.ins
    have rl : ((r : Nat) : Int).natAbs.log2 < 1920 := by
      have : r.log2 ≤ r := by
        rcases Nat.eq_zero_or_pos r with z | z
        · subst z; decide
        · exact Nat.le_of_lt ((Nat.log2_lt (by omega)).mpr Nat.lt_two_pow_self)
      show r.log2 < 1920
      omega
    have dd : ∀ z : Str, (!decide (V.str z = V.str z)) = false := fun z => by rw [decide_eq_true rfl]; rfl
    refine ⟨_, rfl, x, dx, fs, rfl, hx, fx _ rfl, x, r, tst r t, rfl, kx12, _, rfl, rl, _, rfl, _, rfl, rl, rfl, _, rfl, ?_⟩
    rw [dd]
    refine iteF ⟨_, rfl, y, dy, gs, rfl, hy, fy _ rfl, y, r, tst r t, rfl, ky12, _, rfl, rl, _, rfl, _, rfl, rl, rfl, _, rfl, ?_⟩
    rw [dd]
    refine iteF ?_
    obtain ⟨R, M, kaX, kmX⟩ := kx12
    obtain ⟨S, N, kaY, kmY⟩ := ky12
    obtain ⟨eR, eM⟩ := kmach_eq kmX kmY fun _ _ => rfl
    have dRM : (decide (R = S) && decide (M = N)) = true := by rw [decide_eq_true eR, decide_eq_true eM]; rfl
    refine ⟨_, rfl, _, rfl, x, y, dx, dy, fs, gs, rfl, rfl, hx, hy, x, y, R, S, M, N, rfl, kaX, kaY, _, rfl, ?_⟩
    rw [dRM]
    refine ⟨true, true, rfl, rfl, _, rfl, ?_⟩
    rw [decide_eq_true rfl, if_pos rfl]
    refine ⟨_, rfl, _, rfl, x, y, dx, dy, fs, gs, rfl, rfl, hx, hy, x, y, R, S, M, N, rfl, kaX, kaY, _, rfl, ?_⟩
    rw [dRM]
    exact ⟨false, false, rfl, rfl, q H11 k12⟩
end
end B

namespace B
open PySem L2 MK Hop
def spLaw (K : PySem.W.Frag) : Sp := fun vs H Q _ => ∃ (a : Addr) (ns : List Int), vs = [.ref a] ∧ SqL K H a (ns.map V.int) ∧ ns.length ≤ 63 ∧ (∀ z ∈ ns, Builtin.Int.intBits z ≤ 1048576) ∧ ∀ H', Q (.bl true) H'
section
variable {P : Program} {w : World} {K : PySem.W.Frag} {mg : Str → Option Value} {base : Heap}
theorem ok_law {fa : Addr} {fd : FuncData} (F : Fun K "law" "law" s_law fa fd)
    (D1 : Df P w K mg base CX0 1 "_law_bag" ["script", "k"] (spBag K)) (D2 : Df P w K mg base CX0 9 "_law_right" ["bag"] spRight) (g_range : mg "range" = none) (g_max : mg "max" = none) (g_min : mg "min" = none) (g_len : mg "len" = none) : FnOk P w K mg base CX0 10 fa fd ["script"] (spLaw K) := by
  obtain ⟨_, _, G__law_bag, g__law_bag, k__law_bag, b__law_bag⟩ := D1
  obtain ⟨_, _, G__law_right, g__law_right, k__law_right, b__law_right⟩ := D2
  refine F.ok sc_law (fun vs H Q E h => ?_) (fun cdv A outer s H vs Q E hr h => ?_)
  · obtain ⟨a, ns, rfl, _⟩ := h
    rfl
  · obtain ⟨a, ns, rfl, hS, hl, hb, q⟩ := h
    have nd := sc_law.nd
    have hu := hu_of hr
    refine ⟨_, (pss_cons (ps_for PassesOwn.never rfl (pi_range1 (by rfl) g_range (pa_cons (pe_callB (call_max2 rfl) (by rfl) g_max (by decide +kernel) (pa_cons pe_int (pa_cons (pe_callB (call_min2 rfl) (by rfl) g_min (by decide +kernel) (pa_cons pe_int (pa_cons (pe_callB call_len (by rfl) g_len PySem.boot_len (pa_cons (pv 0) pa_nil)) pa_nil))) pa_nil))) pa_nil)) (pg_name (i := 1) nd rfl (Or.inl rfl)) (pss_one (ps_if (pt_not (pt_val (pe_call G__law_right (hr.mono (by decide)) (by rfl) g__law_right k__law_right b__law_right .nil pass0 (pa_cons (pe_call G__law_bag (hr.mono (by decide)) (by rfl) g__law_bag k__law_bag b__law_bag .nil pass0 (pa_cons (pv 0) (pa_cons (pv 1) pa_nil))) pa_nil)))) (pss_one (ps_ret pe_bl)) pss_nil)))
      (pss_one (ps_ret pe_bl))), ?_⟩
    refine ⟨_, rfl, _, ns.length, rfl, .inl ⟨_, hS, by rw [List.length_map]⟩, 6, (ns.length : Int), rfl, 1, _, rfl, ?_⟩
    obtain ⟨m, hm, hm6⟩ : ∃ m : Nat, (if (if ((ns.length : Nat) : Int) < 6 then ((ns.length : Nat) : Int) else 6) > (1 : Int) then (if ((ns.length : Nat) : Int) < 6 then ((ns.length : Nat) : Int) else 6) else 1) = (m : Int) ∧ m ≤ 6 := by
      refine ⟨(if (if ((ns.length : Nat) : Int) < 6 then ((ns.length : Nat) : Int) else 6) > (1 : Int) then (if ((ns.length : Nat) : Int) < 6 then ((ns.length : Nat) : Int) else 6) else 1).toNat, ?_, ?_⟩
      · split <;> split <;> omega
      · split <;> split <;> omega
    refine ⟨(m : Int), congrArg (fun z => [V.int z]) hm, by omega, by omega, for_range (lo := 0) (n := m) (fun i σ Hx => ∃ v1 : Option V, σ = [some (.ref a), v1] ∧ Same H Hx) ⟨none, rfl, fun _ _ e => e⟩ ?_ ?_⟩
    · rintro i σ Hx hi ⟨v1, rfl, sx⟩
      refine ⟨_, rfl, _, rfl, a, ns, i, congrArg (fun z => [V.ref a, V.int z]) (by omega), hS.ext sx, hb, by omega, by omega, fun p o hp hbo => ?_⟩
      refine ⟨p, rfl, bag_at hbo, fun H' kp => ⟨true, rfl, iteF ?_⟩⟩
      exact ⟨_, rfl, fun z u e => kp z u (by rw [upd_ne (ne_of_none (sx _ _ e) hp)]; exact sx _ _ e) (ne_of_none (sx _ _ e) hp)⟩
    · rintro σ Hx ⟨v1, rfl, sx⟩
      exact q Hx
end
end B

namespace B
open PySem L2 MK Hop
theorem all_mk {l : PySem.W.OpenLaw} {w : World} {K : PySem.W.Frag} {h : Heap} {mg : Str → Option Value} {fa C : Addr} (X : K.In h) (G : h.Ns mainGlobals mg) (hfa : mg "law" = some (.ref fa))
    {f0 : Addr} {od0 an0 : Option Addr} {sl0 : Array (Option Value)} {oc0 kV0 dc0 pm0 cd0 ct0 : Value}
    {f1 : Addr} {od1 an1 : Option Addr} {sl1 : Array (Option Value)} {oc1 kV1 dc1 pm1 cd1 ct1 : Value}
    {f2 : Addr} {od2 an2 : Option Addr} {sl2 : Array (Option Value)} {oc2 kV2 dc2 pm2 cd2 ct2 : Value}
    {f3 : Addr} {od3 an3 : Option Addr} {sl3 : Array (Option Value)} {oc3 kV3 dc3 pm3 cd3 ct3 : Value}
    {f4 : Addr} {od4 an4 : Option Addr} {sl4 : Array (Option Value)} {oc4 kV4 dc4 pm4 cd4 ct4 : Value}
    {f5 : Addr} {od5 an5 : Option Addr} {sl5 : Array (Option Value)} {oc5 kV5 dc5 pm5 cd5 ct5 : Value}
    {f6 : Addr} {od6 an6 : Option Addr} {sl6 : Array (Option Value)} {oc6 kV6 dc6 pm6 cd6 ct6 : Value}
    {f7 : Addr} {od7 an7 : Option Addr} {sl7 : Array (Option Value)} {oc7 kV7 dc7 pm7 cd7 ct7 : Value}
    {f8 : Addr} {od8 an8 : Option Addr} {sl8 : Array (Option Value)} {oc8 kV8 dc8 pm8 cd8 ct8 : Value}
    {f9 : Addr} {od9 an9 : Option Addr} {sl9 : Array (Option Value)} {oc9 kV9 dc9 pm9 cd9 ct9 : Value}
    {f10 : Addr} {od10 an10 : Option Addr} {sl10 : Array (Option Value)} {oc10 kV10 dc10 pm10 cd10 ct10 : Value}
    {f11 : Addr} {od11 an11 : Option Addr} {sl11 : Array (Option Value)} {oc11 kV11 dc11 pm11 cd11 ct11 : Value}
    {f12 : Addr} {od12 an12 : Option Addr} {sl12 : Array (Option Value)} {oc12 kV12 dc12 pm12 cd12 ct12 : Value}
    {f13 : Addr} {od13 an13 : Option Addr} {sl13 : Array (Option Value)} {oc13 kV13 dc13 pm13 cd13 ct13 : Value}
    {f14 : Addr} {od14 an14 : Option Addr} {sl14 : Array (Option Value)} {oc14 kV14 dc14 pm14 cd14 ct14 : Value}
    {f15 : Addr} {od15 an15 : Option Addr} {sl15 : Array (Option Value)} {oc15 kV15 dc15 pm15 cd15 ct15 : Value}
    {f16 : Addr} {od16 an16 : Option Addr} {sl16 : Array (Option Value)} {oc16 kV16 dc16 pm16 cd16 ct16 : Value}
    {f17 : Addr} {od17 an17 : Option Addr} {sl17 : Array (Option Value)} {oc17 kV17 dc17 pm17 cd17 ct17 : Value}
    {f18 : Addr} {od18 an18 : Option Addr} {sl18 : Array (Option Value)} {oc18 kV18 dc18 pm18 cd18 ct18 : Value}
    {f19 : Addr} {od19 an19 : Option Addr} {sl19 : Array (Option Value)} {oc19 kV19 dc19 pm19 cd19 ct19 : Value}
    {f20 : Addr} {od20 an20 : Option Addr} {sl20 : Array (Option Value)} {oc20 kV20 dc20 pm20 cd20 ct20 : Value}
    {f21 : Addr} {od21 an21 : Option Addr} {sl21 : Array (Option Value)} {oc21 kV21 dc21 pm21 cd21 ct21 : Value}
    {f22 : Addr} {od22 an22 : Option Addr} {sl22 : Array (Option Value)} {oc22 kV22 dc22 pm22 cd22 ct22 : Value}
    {f23 : Addr} {od23 an23 : Option Addr} {sl23 : Array (Option Value)} {oc23 kV23 dc23 pm23 cd23 ct23 : Value}
    {f24 : Addr} {od24 an24 : Option Addr} {sl24 : Array (Option Value)} {oc24 kV24 dc24 pm24 cd24 ct24 : Value}
    {f25 : Addr} {od25 an25 : Option Addr} {sl25 : Array (Option Value)} {oc25 kV25 dc25 pm25 cd25 ct25 : Value}
    {f26 : Addr} {od26 an26 : Option Addr} {sl26 : Array (Option Value)} {oc26 kV26 dc26 pm26 cd26 ct26 : Value}
    {f27 : Addr} {od27 an27 : Option Addr} {sl27 : Array (Option Value)} {oc27 kV27 dc27 pm27 cd27 ct27 : Value}
    {f28 : Addr} {od28 an28 : Option Addr} {sl28 : Array (Option Value)} {oc28 kV28 dc28 pm28 cd28 ct28 : Value}
    {f29 : Addr} {od29 an29 : Option Addr} {sl29 : Array (Option Value)} {oc29 kV29 dc29 pm29 cd29 ct29 : Value}
    {f30 : Addr} {od30 an30 : Option Addr} {sl30 : Array (Option Value)} {oc30 kV30 dc30 pm30 cd30 ct30 : Value}
    {f31 : Addr} {od31 an31 : Option Addr} {sl31 : Array (Option Value)} {oc31 kV31 dc31 pm31 cd31 ct31 : Value}
    {f32 : Addr} {od32 an32 : Option Addr} {sl32 : Array (Option Value)} {oc32 kV32 dc32 pm32 cd32 ct32 : Value}
    {f33 : Addr} {od33 an33 : Option Addr} {sl33 : Array (Option Value)} {oc33 kV33 dc33 pm33 cd33 ct33 : Value}
    {f34 : Addr} {od34 an34 : Option Addr} {sl34 : Array (Option Value)} {oc34 kV34 dc34 pm34 cd34 ct34 : Value}
    {f35 : Addr} {od35 an35 : Option Addr} {sl35 : Array (Option Value)} {oc35 kV35 dc35 pm35 cd35 ct35 : Value}
    {f36 : Addr} {od36 an36 : Option Addr} {sl36 : Array (Option Value)} {oc36 kV36 dc36 pm36 cd36 ct36 : Value}
    {f37 : Addr} {od37 an37 : Option Addr} {sl37 : Array (Option Value)} {oc37 kV37 dc37 pm37 cd37 ct37 : Value}
    {f38 : Addr} {od38 an38 : Option Addr} {sl38 : Array (Option Value)} {oc38 kV38 dc38 pm38 cd38 ct38 : Value}
    (aK : PySem.W.nsIn K mainGlobals "Kind" = some (some (.ref C)))
    (a0 : PySem.W.nsIn K mainGlobals "is_whole" = some (some (.ref f0)))
    (l0 : K.lookup f0 = some ⟨oc0, od0, .func (PySem.W.fnOf "is_whole" "is_whole" (defArgs s_is_whole) (defBody s_is_whole) (defScope s_is_whole) .none kV0 dc0 pm0 an0 cd0 ct0), sl0⟩)
    (c0 : PySem.W.codeIn K cd0 "is_whole" = true)
    (k0 : PySem.W.keepIn K (.ref f0) = true)
    (a1 : PySem.W.nsIn K mainGlobals "is_between" = some (some (.ref f1)))
    (l1 : K.lookup f1 = some ⟨oc1, od1, .func (PySem.W.fnOf "is_between" "is_between" (defArgs s_is_between) (defBody s_is_between) (defScope s_is_between) .none kV1 dc1 pm1 an1 cd1 ct1), sl1⟩)
    (c1 : PySem.W.codeIn K cd1 "is_between" = true)
    (k1 : PySem.W.keepIn K (.ref f1) = true)
    (a2 : PySem.W.nsIn K mainGlobals "check_base" = some (some (.ref f2)))
    (l2 : K.lookup f2 = some ⟨oc2, od2, .func (PySem.W.fnOf "check_base" "check_base" (defArgs s_check_base) (defBody s_check_base) (defScope s_check_base) .none kV2 dc2 pm2 an2 cd2 ct2), sl2⟩)
    (c2 : PySem.W.codeIn K cd2 "check_base" = true)
    (k2 : PySem.W.keepIn K (.ref f2) = true)
    (a3 : PySem.W.nsIn K mainGlobals "check_divisor" = some (some (.ref f3)))
    (l3 : K.lookup f3 = some ⟨oc3, od3, .func (PySem.W.fnOf "check_divisor" "check_divisor" (defArgs s_check_divisor) (defBody s_check_divisor) (defScope s_check_divisor) .none kV3 dc3 pm3 an3 cd3 ct3), sl3⟩)
    (c3 : PySem.W.codeIn K cd3 "check_divisor" = true)
    (k3 : PySem.W.keepIn K (.ref f3) = true)
    (a4 : PySem.W.nsIn K mainGlobals "check_rest" = some (some (.ref f4)))
    (l4 : K.lookup f4 = some ⟨oc4, od4, .func (PySem.W.fnOf "check_rest" "check_rest" (defArgs s_check_rest) (defBody s_check_rest) (defScope s_check_rest) .none kV4 dc4 pm4 an4 cd4 ct4), sl4⟩)
    (c4 : PySem.W.codeIn K cd4 "check_rest" = true)
    (k4 : PySem.W.keepIn K (.ref f4) = true)
    (a5 : PySem.W.nsIn K mainGlobals "check_figure" = some (some (.ref f5)))
    (l5 : K.lookup f5 = some ⟨oc5, od5, .func (PySem.W.fnOf "check_figure" "check_figure" (defArgs s_check_figure) (defBody s_check_figure) (defScope s_check_figure) .none kV5 dc5 pm5 an5 cd5 ct5), sl5⟩)
    (c5 : PySem.W.codeIn K cd5 "check_figure" = true)
    (k5 : PySem.W.keepIn K (.ref f5) = true)
    (a6 : PySem.W.nsIn K mainGlobals "figures" = some (some (.ref f6)))
    (l6 : K.lookup f6 = some ⟨oc6, od6, .func (PySem.W.fnOf "figures" "figures" (defArgs s_figures) (defBody s_figures) (defScope s_figures) .none kV6 dc6 pm6 an6 cd6 ct6), sl6⟩)
    (c6 : PySem.W.codeIn K cd6 "figures" = true)
    (k6 : PySem.W.keepIn K (.ref f6) = true)
    (a7 : PySem.W.nsIn K mainGlobals "state_behind" = some (some (.ref f7)))
    (l7 : K.lookup f7 = some ⟨oc7, od7, .func (PySem.W.fnOf "state_behind" "state_behind" (defArgs s_state_behind) (defBody s_state_behind) (defScope s_state_behind) .none kV7 dc7 pm7 an7 cd7 ct7), sl7⟩)
    (c7 : PySem.W.codeIn K cd7 "state_behind" = true)
    (k7 : PySem.W.keepIn K (.ref f7) = true)
    (a8 : PySem.W.nsIn K mainGlobals "least_machine" = some (some (.ref f8)))
    (l8 : K.lookup f8 = some ⟨oc8, od8, .func (PySem.W.fnOf "least_machine" "least_machine" (defArgs s_least_machine) (defBody s_least_machine) (defScope s_least_machine) .none kV8 dc8 pm8 an8 cd8 ct8), sl8⟩)
    (c8 : PySem.W.codeIn K cd8 "least_machine" = true)
    (k8 : PySem.W.keepIn K (.ref f8) = true)
    (a9 : PySem.W.nsIn K mainGlobals "in_order" = some (some (.ref f9)))
    (l9 : K.lookup f9 = some ⟨oc9, od9, .func (PySem.W.fnOf "in_order" "in_order" (defArgs s_in_order) (defBody s_in_order) (defScope s_in_order) .none kV9 dc9 pm9 an9 cd9 ct9), sl9⟩)
    (c9 : PySem.W.codeIn K cd9 "in_order" = true)
    (k9 : PySem.W.keepIn K (.ref f9) = true)
    (a10 : PySem.W.nsIn K mainGlobals "lots_of_states" = some (some (.ref f10)))
    (l10 : K.lookup f10 = some ⟨oc10, od10, .func (PySem.W.fnOf "lots_of_states" "lots_of_states" (defArgs s_lots_of_states) (defBody s_lots_of_states) (defScope s_lots_of_states) .none kV10 dc10 pm10 an10 cd10 ct10), sl10⟩)
    (c10 : PySem.W.codeIn K cd10 "lots_of_states" = true)
    (k10 : PySem.W.keepIn K (.ref f10) = true)
    (a11 : PySem.W.nsIn K mainGlobals "lots_by_marks" = some (some (.ref f11)))
    (l11 : K.lookup f11 = some ⟨oc11, od11, .func (PySem.W.fnOf "lots_by_marks" "lots_by_marks" (defArgs s_lots_by_marks) (defBody s_lots_by_marks) (defScope s_lots_by_marks) .none kV11 dc11 pm11 an11 cd11 ct11), sl11⟩)
    (c11 : PySem.W.codeIn K cd11 "lots_by_marks" = true)
    (k11 : PySem.W.keepIn K (.ref f11) = true)
    (a12 : PySem.W.nsIn K mainGlobals "members_of" = some (some (.ref f12)))
    (l12 : K.lookup f12 = some ⟨oc12, od12, .func (PySem.W.fnOf "members_of" "members_of" (defArgs s_members_of) (defBody s_members_of) (defScope s_members_of) .none kV12 dc12 pm12 an12 cd12 ct12), sl12⟩)
    (c12 : PySem.W.codeIn K cd12 "members_of" = true)
    (k12 : PySem.W.keepIn K (.ref f12) = true)
    (a13 : PySem.W.nsIn K mainGlobals "all_but_a_widest" = some (some (.ref f13)))
    (l13 : K.lookup f13 = some ⟨oc13, od13, .func (PySem.W.fnOf "all_but_a_widest" "all_but_a_widest" (defArgs s_all_but_a_widest) (defBody s_all_but_a_widest) (defScope s_all_but_a_widest) .none kV13 dc13 pm13 an13 cd13 ct13), sl13⟩)
    (c13 : PySem.W.codeIn K cd13 "all_but_a_widest" = true)
    (k13 : PySem.W.keepIn K (.ref f13) = true)
    (a14 : PySem.W.nsIn K mainGlobals "steps_back" = some (some (.ref f14)))
    (l14 : K.lookup f14 = some ⟨oc14, od14, .func (PySem.W.fnOf "steps_back" "steps_back" (defArgs s_steps_back) (defBody s_steps_back) (defScope s_steps_back) .none kV14 dc14 pm14 an14 cd14 ct14), sl14⟩)
    (c14 : PySem.W.codeIn K cd14 "steps_back" = true)
    (k14 : PySem.W.keepIn K (.ref f14) = true)
    (a15 : PySem.W.nsIn K mainGlobals "hit_by_lot" = some (some (.ref f15)))
    (l15 : K.lookup f15 = some ⟨oc15, od15, .func (PySem.W.fnOf "hit_by_lot" "hit_by_lot" (defArgs s_hit_by_lot) (defBody s_hit_by_lot) (defScope s_hit_by_lot) .none kV15 dc15 pm15 an15 cd15 ct15), sl15⟩)
    (c15 : PySem.W.codeIn K cd15 "hit_by_lot" = true)
    (k15 : PySem.W.keepIn K (.ref f15) = true)
    (a16 : PySem.W.nsIn K mainGlobals "multiple" = some (some (.ref f16)))
    (l16 : K.lookup f16 = some ⟨oc16, od16, .func (PySem.W.fnOf "multiple" "multiple" (defArgs s_multiple) (defBody s_multiple) (defScope s_multiple) .none kV16 dc16 pm16 an16 cd16 ct16), sl16⟩)
    (c16 : PySem.W.codeIn K cd16 "multiple" = true)
    (k16 : PySem.W.keepIn K (.ref f16) = true)
    (a17 : PySem.W.nsIn K mainGlobals "rest" = some (some (.ref f17)))
    (l17 : K.lookup f17 = some ⟨oc17, od17, .func (PySem.W.fnOf "rest" "rest" (defArgs s_rest) (defBody s_rest) (defScope s_rest) .none kV17 dc17 pm17 an17 cd17 ct17), sl17⟩)
    (c17 : PySem.W.codeIn K cd17 "rest" = true)
    (k17 : PySem.W.keepIn K (.ref f17) = true)
    (a18 : PySem.W.nsIn K mainGlobals "bears" = some (some (.ref f18)))
    (l18 : K.lookup f18 = some ⟨oc18, od18, .func (PySem.W.fnOf "bears" "bears" (defArgs s_bears) (defBody s_bears) (defScope s_bears) .none kV18 dc18 pm18 an18 cd18 ct18), sl18⟩)
    (c18 : PySem.W.codeIn K cd18 "bears" = true)
    (k18 : PySem.W.keepIn K (.ref f18) = true)
    (a19 : PySem.W.nsIn K mainGlobals "ends" = some (some (.ref f19)))
    (l19 : K.lookup f19 = some ⟨oc19, od19, .func (PySem.W.fnOf "ends" "ends" (defArgs s_ends) (defBody s_ends) (defScope s_ends) .none kV19 dc19 pm19 an19 cd19 ct19), sl19⟩)
    (c19 : PySem.W.codeIn K cd19 "ends" = true)
    (k19 : PySem.W.keepIn K (.ref f19) = true)
    (a20 : PySem.W.nsIn K mainGlobals "figure_sum" = some (some (.ref f20)))
    (l20 : K.lookup f20 = some ⟨oc20, od20, .func (PySem.W.fnOf "figure_sum" "figure_sum" (defArgs s_figure_sum) (defBody s_figure_sum) (defScope s_figure_sum) .none kV20 dc20 pm20 an20 cd20 ct20), sl20⟩)
    (c20 : PySem.W.codeIn K cd20 "figure_sum" = true)
    (k20 : PySem.W.keepIn K (.ref f20) = true)
    (a21 : PySem.W.nsIn K mainGlobals "every" = some (some (.ref f21)))
    (l21 : K.lookup f21 = some ⟨oc21, od21, .func (PySem.W.fnOf "every" "every" (defArgs s_every) (defBody s_every) (defScope s_every) .none kV21 dc21 pm21 an21 cd21 ct21), sl21⟩)
    (c21 : PySem.W.codeIn K cd21 "every" = true)
    (k21 : PySem.W.keepIn K (.ref f21) = true)
    (a22 : PySem.W.nsIn K mainGlobals "_by_rest" = some (some (.ref f22)))
    (l22 : K.lookup f22 = some ⟨oc22, od22, .func (PySem.W.fnOf "_by_rest" "_by_rest" (defArgs s__by_rest) (defBody s__by_rest) (defScope s__by_rest) .none kV22 dc22 pm22 an22 cd22 ct22), sl22⟩)
    (c22 : PySem.W.codeIn K cd22 "_by_rest" = true)
    (k22 : PySem.W.keepIn K (.ref f22) = true)
    (a23 : PySem.W.nsIn K mainGlobals "_kind_of" = some (some (.ref f23)))
    (l23 : K.lookup f23 = some ⟨oc23, od23, .func (PySem.W.fnOf "_kind_of" "_kind_of" (defArgs s__kind_of) (defBody s__kind_of) (defScope s__kind_of) .none kV23 dc23 pm23 an23 cd23 ct23), sl23⟩)
    (c23 : PySem.W.codeIn K cd23 "_kind_of" = true)
    (k23 : PySem.W.keepIn K (.ref f23) = true)
    (a24 : PySem.W.nsIn K mainGlobals "_law_bag" = some (some (.ref f24)))
    (l24 : K.lookup f24 = some ⟨oc24, od24, .func (PySem.W.fnOf "_law_bag" "_law_bag" (defArgs s__law_bag) (defBody s__law_bag) (defScope s__law_bag) .none kV24 dc24 pm24 an24 cd24 ct24), sl24⟩)
    (c24 : PySem.W.codeIn K cd24 "_law_bag" = true)
    (k24 : PySem.W.keepIn K (.ref f24) = true)
    (a25 : PySem.W.nsIn K mainGlobals "_law_draw" = some (some (.ref f25)))
    (l25 : K.lookup f25 = some ⟨oc25, od25, .func (PySem.W.fnOf "_law_draw" "_law_draw" (defArgs s__law_draw) (defBody s__law_draw) (defScope s__law_draw) .none kV25 dc25 pm25 an25 cd25 ct25), sl25⟩)
    (c25 : PySem.W.codeIn K cd25 "_law_draw" = true)
    (k25 : PySem.W.keepIn K (.ref f25) = true)
    (a26 : PySem.W.nsIn K mainGlobals "_law_power" = some (some (.ref f26)))
    (l26 : K.lookup f26 = some ⟨oc26, od26, .func (PySem.W.fnOf "_law_power" "_law_power" (defArgs s__law_power) (defBody s__law_power) (defScope s__law_power) .none kV26 dc26 pm26 an26 cd26 ct26), sl26⟩)
    (c26 : PySem.W.codeIn K cd26 "_law_power" = true)
    (k26 : PySem.W.keepIn K (.ref f26) = true)
    (a27 : PySem.W.nsIn K mainGlobals "_law_great" = some (some (.ref f27)))
    (l27 : K.lookup f27 = some ⟨oc27, od27, .func (PySem.W.fnOf "_law_great" "_law_great" (defArgs s__law_great) (defBody s__law_great) (defScope s__law_great) .none kV27 dc27 pm27 an27 cd27 ct27), sl27⟩)
    (c27 : PySem.W.codeIn K cd27 "_law_great" = true)
    (k27 : PySem.W.keepIn K (.ref f27) = true)
    (a28 : PySem.W.nsIn K mainGlobals "_law_figures" = some (some (.ref f28)))
    (l28 : K.lookup f28 = some ⟨oc28, od28, .func (PySem.W.fnOf "_law_figures" "_law_figures" (defArgs s__law_figures) (defBody s__law_figures) (defScope s__law_figures) .none kV28 dc28 pm28 an28 cd28 ct28), sl28⟩)
    (c28 : PySem.W.codeIn K cd28 "_law_figures" = true)
    (k28 : PySem.W.keepIn K (.ref f28) = true)
    (a29 : PySem.W.nsIn K mainGlobals "_law_in" = some (some (.ref f29)))
    (l29 : K.lookup f29 = some ⟨oc29, od29, .func (PySem.W.fnOf "_law_in" "_law_in" (defArgs s__law_in) (defBody s__law_in) (defScope s__law_in) .none kV29 dc29 pm29 an29 cd29 ct29), sl29⟩)
    (c29 : PySem.W.codeIn K cd29 "_law_in" = true)
    (k29 : PySem.W.keepIn K (.ref f29) = true)
    (a30 : PySem.W.nsIn K mainGlobals "_law_any_plain" = some (some (.ref f30)))
    (l30 : K.lookup f30 = some ⟨oc30, od30, .func (PySem.W.fnOf "_law_any_plain" "_law_any_plain" (defArgs s__law_any_plain) (defBody s__law_any_plain) (defScope s__law_any_plain) .none kV30 dc30 pm30 an30 cd30 ct30), sl30⟩)
    (c30 : PySem.W.codeIn K cd30 "_law_any_plain" = true)
    (k30 : PySem.W.keepIn K (.ref f30) = true)
    (a31 : PySem.W.nsIn K mainGlobals "_law_two" = some (some (.ref f31)))
    (l31 : K.lookup f31 = some ⟨oc31, od31, .func (PySem.W.fnOf "_law_two" "_law_two" (defArgs s__law_two) (defBody s__law_two) (defScope s__law_two) .none kV31 dc31 pm31 an31 cd31 ct31), sl31⟩)
    (c31 : PySem.W.codeIn K cd31 "_law_two" = true)
    (k31 : PySem.W.keepIn K (.ref f31) = true)
    (a32 : PySem.W.nsIn K mainGlobals "_law_numbers" = some (some (.ref f32)))
    (l32 : K.lookup f32 = some ⟨oc32, od32, .func (PySem.W.fnOf "_law_numbers" "_law_numbers" (defArgs s__law_numbers) (defBody s__law_numbers) (defScope s__law_numbers) .none kV32 dc32 pm32 an32 cd32 ct32), sl32⟩)
    (c32 : PySem.W.codeIn K cd32 "_law_numbers" = true)
    (k32 : PySem.W.keepIn K (.ref f32) = true)
    (a33 : PySem.W.nsIn K mainGlobals "_law_right" = some (some (.ref f33)))
    (l33 : K.lookup f33 = some ⟨oc33, od33, .func (PySem.W.fnOf "_law_right" "_law_right" (defArgs s__law_right) (defBody s__law_right) (defScope s__law_right) .none kV33 dc33 pm33 an33 cd33 ct33), sl33⟩)
    (c33 : PySem.W.codeIn K cd33 "_law_right" = true)
    (k33 : PySem.W.keepIn K (.ref f33) = true)
    (a34 : PySem.W.nsIn K mainGlobals "law" = some (some (.ref f34)))
    (l34 : K.lookup f34 = some ⟨oc34, od34, .func (PySem.W.fnOf "law" "law" (defArgs s_law) (defBody s_law) (defScope s_law) .none kV34 dc34 pm34 an34 cd34 ct34), sl34⟩)
    (c34 : PySem.W.codeIn K cd34 "law" = true)
    (k34 : PySem.W.keepIn K (.ref f34) = true)
    (a35 : PySem.W.findIn K (.ref C) "__init__" = some (some (.ref f35)))
    (i35 : PySem.W.isFn K (.ref f35) = true)
    (l35 : K.lookup f35 = some ⟨oc35, od35, .func (PySem.W.fnOf "__init__" "Kind.__init__" (defArgs s_Kind___init__) (defBody s_Kind___init__) (defScope s_Kind___init__) .none kV35 dc35 pm35 an35 cd35 ct35), sl35⟩)
    (c35 : PySem.W.codeIn K cd35 "Kind.__init__" = true)
    (k35 : PySem.W.keepIn K (.ref f35) = true)
    (a36 : PySem.W.findIn K (.ref C) "__eq__" = some (some (.ref f36)))
    (i36 : PySem.W.isFn K (.ref f36) = true)
    (l36 : K.lookup f36 = some ⟨oc36, od36, .func (PySem.W.fnOf "__eq__" "Kind.__eq__" (defArgs s_Kind___eq__) (defBody s_Kind___eq__) (defScope s_Kind___eq__) .none kV36 dc36 pm36 an36 cd36 ct36), sl36⟩)
    (c36 : PySem.W.codeIn K cd36 "Kind.__eq__" = true)
    (k36 : PySem.W.keepIn K (.ref f36) = true)
    (a37 : PySem.W.findIn K (.ref C) "__contains__" = some (some (.ref f37)))
    (i37 : PySem.W.isFn K (.ref f37) = true)
    (l37 : K.lookup f37 = some ⟨oc37, od37, .func (PySem.W.fnOf "__contains__" "Kind.__contains__" (defArgs s_Kind___contains__) (defBody s_Kind___contains__) (defScope s_Kind___contains__) .none kV37 dc37 pm37 an37 cd37 ct37), sl37⟩)
    (c37 : PySem.W.codeIn K cd37 "Kind.__contains__" = true)
    (k37 : PySem.W.keepIn K (.ref f37) = true)
    (a38 : PySem.W.findIn K (.ref C) "base" = some (some (.ref f38)))
    (i38 : PySem.W.isFn K (.ref f38) = true)
    (l38 : K.lookup f38 = some ⟨oc38, od38, .func (PySem.W.fnOf "base" "Kind.base" (defArgs s_Kind_base) (defBody s_Kind_base) (defScope s_Kind_base) .none kV38 dc38 pm38 an38 cd38 ct38), sl38⟩)
    (c38 : PySem.W.codeIn K cd38 "Kind.base" = true)
    (k38 : PySem.W.keepIn K (.ref f38) = true)
    (z_len : PySem.W.nsIn K mainGlobals "len" = some none)
    (z_range : PySem.W.nsIn K mainGlobals "range" = some none)
    (z_list : PySem.W.nsIn K mainGlobals "list" = some none)
    (z_tuple : PySem.W.nsIn K mainGlobals "tuple" = some none)
    (z_max : PySem.W.nsIn K mainGlobals "max" = some none)
    (z_min : PySem.W.nsIn K mainGlobals "min" = some none)
    (z_abs : PySem.W.nsIn K mainGlobals "abs" = some none)
    (z_int : PySem.W.nsIn K mainGlobals "int" = some none)
    (z_bool : PySem.W.nsIn K mainGlobals "bool" = some none)
    (z_isinstance : PySem.W.nsIn K mainGlobals "isinstance" = some none)
    (z_divmod : PySem.W.nsIn K mainGlobals "divmod" = some none)
    (z_sum : PySem.W.nsIn K mainGlobals "sum" = some none)
    (z_repr : PySem.W.nsIn K mainGlobals "repr" = some none)
    (z_enumerate : PySem.W.nsIn K mainGlobals "enumerate" = some none)
    (z_sorted : PySem.W.nsIn K mainGlobals "sorted" = some none)
    (pg : PySem.W.plainGet K C Str.empty = true)
    (hd : PySem.W.hasDictIn K C = true)
    (po : PySem.W.plainOver K C = true)
    (sa : PySem.W.findIn K (.ref C) "__setattr__" = some (some (.builtin "object.__setattr__")))
    (mk : PySem.W.makesIn K C = true)
    (kk : PySem.W.keepIn K (.ref C) = true)
    (nS : PySem.W.findIn K (.ref C) "steps" = some none)
    (nM : PySem.W.findIn K (.ref C) "marks" = some none)
    (nW : PySem.W.findIn K (.ref C) "_ways" = some none)
    (ha : PySem.W.findIn K (.ref C) "__class__" = some (some (.builtin "object.__class__")))
    (hn : PySem.W.specialIn K (.builtin "object.__class__") "__get__" = some (some (.builtin "getset_descriptor.__get__")))
    (htk : PySem.W.takesIn K (.builtin "object.__class__") = some true)
    (hm : PySem.W.mroIn K C (.type "object") = some true)
    (sne : PySem.W.findIn K (.ref C) "__ne__" = some (some (.builtin "object.__ne__"))) :
    ∃ fd : FuncData, (∀ (s : Shared) (v : Value), BindsTo s fd ⟨[v], []⟩ [("script", v)]) ∧ ∀ base : Heap, K.In base → base.Ns mainGlobals mg → FnOk l.prog w K mg base CX0 10 fa fd ["script"] (spLaw K) := by
  refine ⟨PySem.W.fnOf "law" "law" (defArgs s_law) (defBody s_law) (defScope s_law) .none kV34 dc34 pm34 an34 cd34 ct34, fun s v => .of_eq rfl, fun base _ _ => ?_⟩
  have e := hfa.symm.trans (PySem.W.mg_of X G a34)
  cases e
  have g_len : mg "len" = none := PySem.W.mg_none_of X G z_len
  have g_range : mg "range" = none := PySem.W.mg_none_of X G z_range
  have g_list : mg "list" = none := PySem.W.mg_none_of X G z_list
  have g_tuple : mg "tuple" = none := PySem.W.mg_none_of X G z_tuple
  have g_max : mg "max" = none := PySem.W.mg_none_of X G z_max
  have g_min : mg "min" = none := PySem.W.mg_none_of X G z_min
  have g_abs : mg "abs" = none := PySem.W.mg_none_of X G z_abs
  have g_int : mg "int" = none := PySem.W.mg_none_of X G z_int
  have g_bool : mg "bool" = none := PySem.W.mg_none_of X G z_bool
  have g_isinstance : mg "isinstance" = none := PySem.W.mg_none_of X G z_isinstance
  have g_divmod : mg "divmod" = none := PySem.W.mg_none_of X G z_divmod
  have g_sum : mg "sum" = none := PySem.W.mg_none_of X G z_sum
  have g_repr : mg "repr" = none := PySem.W.mg_none_of X G z_repr
  have g_enumerate : mg "enumerate" = none := PySem.W.mg_none_of X G z_enumerate
  have g_sorted : mg "sorted" = none := PySem.W.mg_none_of X G z_sorted
  have g_Kind : mg "Kind" = some (.ref C) := PySem.W.mg_of X G aK
  have F0 := fun_mk (st := s_is_whole) l0 c0 k0
  have b0 := F0.binds (ps := ["value"]) fun _ _ _ _ _ _ us hl => match us, hl with | [_], _ => rfl
  have F1 := fun_mk (st := s_is_between) l1 c1 k1
  have b1 := F1.binds (ps := ["value", "low", "high"]) fun _ _ _ _ _ _ us hl => match us, hl with | [_, _, _], _ => rfl
  have F2 := fun_mk (st := s_check_base) l2 c2 k2
  have b2 := F2.binds (ps := ["value"]) fun _ _ _ _ _ _ us hl => match us, hl with | [_], _ => rfl
  have F3 := fun_mk (st := s_check_divisor) l3 c3 k3
  have b3 := F3.binds (ps := ["value"]) fun _ _ _ _ _ _ us hl => match us, hl with | [_], _ => rfl
  have F4 := fun_mk (st := s_check_rest) l4 c4 k4
  have b4 := F4.binds (ps := ["value", "divisor"]) fun _ _ _ _ _ _ us hl => match us, hl with | [_, _], _ => rfl
  have F5 := fun_mk (st := s_check_figure) l5 c5 k5
  have b5 := F5.binds (ps := ["value", "base"]) fun _ _ _ _ _ _ us hl => match us, hl with | [_, _], _ => rfl
  have F6 := fun_mk (st := s_figures) l6 c6 k6
  have b6 := F6.binds (ps := ["number", "base"]) fun _ _ _ _ _ _ us hl => match us, hl with | [_, _], _ => rfl
  have F7 := fun_mk (st := s_state_behind) l7 c7 k7
  have b7 := F7.binds (ps := ["steps", "number"]) fun _ _ _ _ _ _ us hl => match us, hl with | [_, _], _ => rfl
  have F8 := fun_mk (st := s_least_machine) l8 c8 k8
  have b8 := F8.binds (ps := ["steps", "marks", "most"]) fun _ _ _ _ _ _ us hl => match us, hl with | [_, _, _], _ => rfl
  have F9 := fun_mk (st := s_in_order) l9 c9 k9
  have b9 := F9.binds (ps := ["steps", "marks", "lots"]) fun _ _ _ _ _ _ us hl => match us, hl with | [_, _, _], _ => rfl
  have F10 := fun_mk (st := s_lots_of_states) l10 c10 k10
  have b10 := F10.binds (ps := ["steps", "marks", "most"]) fun _ _ _ _ _ _ us hl => match us, hl with | [_, _, _], _ => rfl
  have F11 := fun_mk (st := s_lots_by_marks) l11 c11 k11
  have b11 := F11.binds (ps := ["marks"]) fun _ _ _ _ _ _ us hl => match us, hl with | [_], _ => rfl
  have F12 := fun_mk (st := s_members_of) l12 c12 k12
  have b12 := F12.binds (ps := ["lots"]) fun _ _ _ _ _ _ us hl => match us, hl with | [_], _ => rfl
  have F13 := fun_mk (st := s_all_but_a_widest) l13 c13 k13
  have b13 := F13.binds (ps := ["members"]) fun _ _ _ _ _ _ us hl => match us, hl with | [_], _ => rfl
  have F14 := fun_mk (st := s_steps_back) l14 c14 k14
  have b14 := F14.binds (ps := ["steps", "figure"]) fun _ _ _ _ _ _ us hl => match us, hl with | [_, _], _ => rfl
  have F15 := fun_mk (st := s_hit_by_lot) l15 c15 k15
  have b15 := F15.binds (ps := ["targets", "back", "lots"]) fun _ _ _ _ _ _ us hl => match us, hl with | [_, _, _], _ => rfl
  have F16 := fun_mk (st := s_multiple) l16 c16 k16
  have b16 := F16.binds (ps := ["base", "number"]) fun _ _ _ _ _ _ us hl => match us, hl with | [_, _], _ => rfl
  have kb16 := F16.kbnR (ps := ["base", "number"]) (ks := ["number", "base"]) fun _ _ _ _ _ _ us hl => match us, hl with | [_, _], _ => rfl
  have F17 := fun_mk (st := s_rest) l17 c17 k17
  have b17 := F17.binds (ps := ["base", "number", "rest"]) fun _ _ _ _ _ _ us hl => match us, hl with | [_, _, _], _ => rfl
  have kb17 := F17.kbnR (ps := ["base", "number", "rest"]) (ks := ["rest", "number", "base"]) fun _ _ _ _ _ _ us hl => match us, hl with | [_, _, _], _ => rfl
  have F18 := fun_mk (st := s_bears) l18 c18 k18
  have b18 := F18.binds (ps := ["base", "figure"]) fun _ _ _ _ _ _ us hl => match us, hl with | [_, _], _ => rfl
  have kb18 := F18.kbnR (ps := ["base", "figure"]) (ks := ["figure", "base"]) fun _ _ _ _ _ _ us hl => match us, hl with | [_, _], _ => rfl
  have F19 := fun_mk (st := s_ends) l19 c19 k19
  have b19 := F19.binds (ps := ["base", "figure"]) fun _ _ _ _ _ _ us hl => match us, hl with | [_, _], _ => rfl
  have kb19 := F19.kbnR (ps := ["base", "figure"]) (ks := ["figure", "base"]) fun _ _ _ _ _ _ us hl => match us, hl with | [_, _], _ => rfl
  have F20 := fun_mk (st := s_figure_sum) l20 c20 k20
  have b20 := F20.binds (ps := ["base", "number", "rest"]) fun _ _ _ _ _ _ us hl => match us, hl with | [_, _, _], _ => rfl
  have kb20 := F20.kbnR (ps := ["base", "number", "rest"]) (ks := ["rest", "number", "base"]) fun _ _ _ _ _ _ us hl => match us, hl with | [_, _, _], _ => rfl
  have F21 := fun_mk (st := s_every) l21 c21 k21
  have b21 := F21.binds (ps := ["base"]) fun _ _ _ _ _ _ us hl => match us, hl with | [_], _ => rfl
  have kb21 := F21.kbnR (ps := ["base"]) (ks := ["base"]) fun _ _ _ _ _ _ us hl => match us, hl with | [_], _ => rfl
  have F22 := fun_mk (st := s__by_rest) l22 c22 k22
  have b22 := F22.binds (ps := ["base", "number", "rest", "factor"]) fun _ _ _ _ _ _ us hl => match us, hl with | [_, _, _, _], _ => rfl
  have F23 := fun_mk (st := s__kind_of) l23 c23 k23
  have b23 := F23.binds (ps := ["rows", "marks"]) fun _ _ _ _ _ _ us hl => match us, hl with | [_, _], _ => rfl
  have F24 := fun_mk (st := s__law_bag) l24 c24 k24
  have b24 := F24.binds (ps := ["script", "k"]) fun _ _ _ _ _ _ us hl => match us, hl with | [_, _], _ => rfl
  have F25 := fun_mk (st := s__law_draw) l25 c25 k25
  have b25 := F25.binds (ps := ["bag", "many"]) fun _ _ _ _ _ _ us hl => match us, hl with | [_, _], _ => rfl
  have F26 := fun_mk (st := s__law_power) l26 c26 k26
  have b26 := F26.binds (ps := ["root", "times"]) fun _ _ _ _ _ _ us hl => match us, hl with | [_, _], _ => rfl
  have F27 := fun_mk (st := s__law_great) l27 c27 k27
  have b27 := F27.binds (ps := ["bag", "limit"]) fun _ _ _ _ _ _ us hl => match us, hl with | [_, _], _ => rfl
  have F28 := fun_mk (st := s__law_figures) l28 c28 k28
  have b28 := F28.binds (ps := ["n", "root"]) fun _ _ _ _ _ _ us hl => match us, hl with | [_, _], _ => rfl
  have F29 := fun_mk (st := s__law_in) l29 c29 k29
  have b29 := F29.binds (ps := ["root", "test", "n"]) fun _ _ _ _ _ _ us hl => match us, hl with | [_, _, _], _ => rfl
  have F30 := fun_mk (st := s__law_any_plain) l30 c30 k30
  have b30 := F30.binds (ps := ["bag", "root"]) fun _ _ _ _ _ _ us hl => match us, hl with | [_, _], _ => rfl
  have F31 := fun_mk (st := s__law_two) l31 c31 k31
  have b31 := F31.binds (ps := ["root", "test"]) fun _ _ _ _ _ _ us hl => match us, hl with | [_, _], _ => rfl
  have F32 := fun_mk (st := s__law_numbers) l32 c32 k32
  have b32 := F32.binds (ps := ["bag", "root"]) fun _ _ _ _ _ _ us hl => match us, hl with | [_, _], _ => rfl
  have F33 := fun_mk (st := s__law_right) l33 c33 k33
  have b33 := F33.binds (ps := ["bag"]) fun _ _ _ _ _ _ us hl => match us, hl with | [_], _ => rfl
  have F34 := fun_mk (st := s_law) l34 c34 k34
  have b34 := F34.binds (ps := ["script"]) fun _ _ _ _ _ _ us hl => match us, hl with | [_], _ => rfl
  have F35 := fun_mk (st := s_Kind___init__) l35 c35 k35
  have b35 := F35.binds (ps := ["self", "steps", "marks"]) fun _ _ _ _ _ _ us hl => match us, hl with | [_, _, _], _ => rfl
  have F36 := fun_mk (st := s_Kind___eq__) l36 c36 k36
  have b36 := F36.binds (ps := ["self", "other"]) fun _ _ _ _ _ _ us hl => match us, hl with | [_, _], _ => rfl
  have F37 := fun_mk (st := s_Kind___contains__) l37 c37 k37
  have b37 := F37.binds (ps := ["self", "number"]) fun _ _ _ _ _ _ us hl => match us, hl with | [_, _], _ => rfl
  have F38 := fun_mk (st := s_Kind_base) l38 c38 k38
  have b38 := F38.binds (ps := ["self"]) fun _ _ _ _ _ _ us hl => match us, hl with | [_], _ => rfl
  have kit : PySem.W.kitOne K (.ref C) (.ref C) = some true := by
    unfold PySem.W.kitOne
    exact if_pos (by simp)
  have cl : Cls K C := ⟨pg, hd, po, sa⟩
  have kc : KC K C := ⟨cl, nS, nM, nW⟩
  have ki : KCi K C := ⟨ha, hn, htk, hm, kit⟩
  have TD : TxtD mg := ⟨g_len, g_abs, g_max, g_int⟩
  have D_is_whole : Df l.prog w K mg base CX0 1 "is_whole" ["value"] (spIw K) := ⟨_, _, ok_iw F0 g_isinstance g_int g_bool, PySem.W.mg_of X G a0, k0, b0⟩
  have D_is_between : Df l.prog w K mg base CX0 2 "is_between" ["value", "low", "high"] (spIb K) := ⟨_, _, ok_ib F1 D_is_whole, PySem.W.mg_of X G a1, k1, b1⟩
  have D_check_base : Df l.prog w K mg base CX0 3 "check_base" ["value"] (spCk1 2 16) := ⟨_, _, ok_check_base F2 D_is_between, PySem.W.mg_of X G a2, k2, b2⟩
  have D_check_divisor : Df l.prog w K mg base CX0 3 "check_divisor" ["value"] (spCk1 2 12) := ⟨_, _, ok_check_divisor F3 D_is_between, PySem.W.mg_of X G a3, k3, b3⟩
  have D_check_rest : Df l.prog w K mg base CX0 3 "check_rest" ["value", "divisor"] spCk2 := ⟨_, _, ok_check_rest F4 D_is_between, PySem.W.mg_of X G a4, k4, b4⟩
  have D_check_figure : Df l.prog w K mg base CX0 3 "check_figure" ["value", "base"] spCk2 := ⟨_, _, ok_check_figure F5 D_is_between, PySem.W.mg_of X G a5, k5, b5⟩
  have D_figures : Df l.prog w K mg base CX0 1 "figures" ["number", "base"] spFig := ⟨_, _, ok_fig F6 g_divmod, PySem.W.mg_of X G a6, k6, b6⟩
  have D_state_behind : Df l.prog w K mg base CX0 2 "state_behind" ["steps", "number"] (spSb K) := ⟨_, _, ok_sb F7 D_figures g_len, PySem.W.mg_of X G a7, k7, b7⟩
  have D_lots_by_marks : Df l.prog w K mg base CX0 1 "lots_by_marks" ["marks"] (spLbm K) := ⟨_, _, ok_lbm F11 g_len, PySem.W.mg_of X G a11, k11, b11⟩
  have D_members_of : Df l.prog w K mg base CX0 1 "members_of" ["lots"] (spMem K) := ⟨_, _, ok_mem F12 g_max g_range g_enumerate, PySem.W.mg_of X G a12, k12, b12⟩
  have D_steps_back : Df l.prog w K mg base CX0 1 "steps_back" ["steps", "figure"] (spBack K) := ⟨_, _, ok_back F14 g_enumerate, PySem.W.mg_of X G a14, k14, b14⟩
  have D_hit_by_lot : Df l.prog w K mg base CX0 1 "hit_by_lot" ["targets", "back", "lots"] (spHit K) := ⟨_, _, ok_hit F15 , PySem.W.mg_of X G a15, k15, b15⟩
  have D_all_but_a_widest : Df l.prog w K mg base CX0 1 "all_but_a_widest" ["members"] (spWid K) := ⟨_, _, ok_wid F13 g_sorted g_len g_range, PySem.W.mg_of X G a13, k13, b13⟩
  have D_lots_of_states : Df l.prog w K mg base CX0 2 "lots_of_states" ["steps", "marks", "most"] (spLos K) := ⟨_, _, ok_los F10 D_lots_by_marks D_members_of D_steps_back D_hit_by_lot D_all_but_a_widest g_list g_len g_range, PySem.W.mg_of X G a10, k10, b10⟩
  have D_in_order : Df l.prog w K mg base CX0 1 "in_order" ["steps", "marks", "lots"] (spIno K) := ⟨_, _, ok_ino F9 g_len g_tuple, PySem.W.mg_of X G a9, k9, b9⟩
  have D_least_machine : Df l.prog w K mg base CX0 3 "least_machine" ["steps", "marks", "most"] (spLm K) := ⟨_, _, ok_lm F8 D_lots_of_states D_in_order, PySem.W.mg_of X G a8, k8, b8⟩
  have D__kind_of : Df l.prog w K mg base CX0 4 "_kind_of" ["rows", "marks"] (spKo K C) := ⟨_, _, ok_ko kc F23 D_least_machine (ok_init kc F35) b35 ⟨mk, a35, i35, kk⟩ g_Kind g_len, PySem.W.mg_of X G a23, k23, b23⟩
  have E_every : DfK l.prog w K mg base CX0 5 "every" ["base"] (spEvery K C) := ⟨_, _, ok_every F21 D__kind_of D_check_base, PySem.W.mg_of X G a21, k21, b21, kb21⟩
  have E_ends : DfK l.prog w K mg base CX0 5 "ends" ["base", "figure"] (spEnds K C) := ⟨_, _, ok_ends F19 D__kind_of D_check_base D_check_figure g_range, PySem.W.mg_of X G a19, k19, b19, kb19⟩
  have E_bears : DfK l.prog w K mg base CX0 5 "bears" ["base", "figure"] (spBears K C) := ⟨_, _, ok_bears F18 D__kind_of D_check_base D_check_figure g_range, PySem.W.mg_of X G a18, k18, b18, kb18⟩
  have D__by_rest : Df l.prog w K mg base CX0 5 "_by_rest" ["base", "number", "rest", "factor"] (spByRest K C) := ⟨_, _, ok_byrest F22 D__kind_of g_range, PySem.W.mg_of X G a22, k22, b22⟩
  have D_rest : Df l.prog w K mg base CX0 6 "rest" ["base", "number", "rest"] (spRest K C) := ⟨_, _, ok_rest F17 D_check_base D_check_divisor D_check_rest D__by_rest, PySem.W.mg_of X G a17, k17, b17⟩
  have E_rest : DfK l.prog w K mg base CX0 6 "rest" ["base", "number", "rest"] (spRest K C) := ⟨_, _, ok_rest F17 D_check_base D_check_divisor D_check_rest D__by_rest, PySem.W.mg_of X G a17, k17, b17, kb17⟩
  have E_figure_sum : DfK l.prog w K mg base CX0 6 "figure_sum" ["base", "number", "rest"] (spSum K C) := ⟨_, _, ok_fsum F20 D_check_base D_check_divisor D_check_rest D__by_rest, PySem.W.mg_of X G a20, k20, b20, kb20⟩
  have E_multiple : DfK l.prog w K mg base CX0 7 "multiple" ["base", "number"] (spMul K C) := ⟨_, _, ok_mul F16 D_rest, PySem.W.mg_of X G a16, k16, b16, kb16⟩
  have D__law_bag : Df l.prog w K mg base CX0 1 "_law_bag" ["script", "k"] (spBag K) := ⟨_, _, ok_bag F24 TD, PySem.W.mg_of X G a24, k24, b24⟩
  have D__law_draw : Df l.prog w K mg base CX0 1 "_law_draw" ["bag", "many"] spDraw := ⟨_, _, ok_draw F25 TD, PySem.W.mg_of X G a25, k25, b25⟩
  have D__law_power : Df l.prog w K mg base CX0 1 "_law_power" ["root", "times"] spPower := ⟨_, _, ok_power F26 g_range, PySem.W.mg_of X G a26, k26, b26⟩
  have D__law_great : Df l.prog w K mg base CX0 2 "_law_great" ["bag", "limit"] spGreat := ⟨_, _, ok_great F27 D__law_draw g_int g_min, PySem.W.mg_of X G a27, k27, b27⟩
  have D__law_figures : Df l.prog w K mg base CX0 1 "_law_figures" ["n", "root"] spLf := ⟨_, _, ok_lf F28 g_range g_int, PySem.W.mg_of X G a28, k28, b28⟩
  have D__law_in : Df l.prog w K mg base CX0 2 "_law_in" ["root", "test", "n"] (spLin K) := ⟨_, _, ok_lin F29 D__law_figures g_int g_sum, PySem.W.mg_of X G a29, k29, b29⟩
  have D__law_any_plain : Df l.prog w K mg base CX0 2 "_law_any_plain" ["bag", "root"] (spAny K) := ⟨_, _, ok_any F30 D__law_draw, PySem.W.mg_of X G a30, k30, b30⟩
  have D__law_two : Df l.prog w K mg base CX0 8 "_law_two" ["root", "test"] (spTwo K C) := ⟨_, _, ok_two F31 E_rest E_multiple E_bears E_ends E_figure_sum E_every, PySem.W.mg_of X G a31, k31, b31⟩
  have D__law_numbers : Df l.prog w K mg base CX0 3 "_law_numbers" ["bag", "root"] spNums := ⟨_, _, ok_nums F32 D__law_draw D__law_great D__law_power g_range g_list, PySem.W.mg_of X G a32, k32, b32⟩
  have km : KM l.prog w K mg base C f37 f36 f38 _ _ _ := ⟨ok_kin kc F37 D_is_whole D_state_behind, a37, i37, b37, ok_keq kc ki F36 g_isinstance g_Kind, a36, sne, hm, i36, b36, ok_kbase kc F38 g_len, cl, ⟨a38, i38, k38⟩, b38⟩
  have D__law_right : Df l.prog w K mg base CX0 9 "_law_right" ["bag"] spRight := ⟨_, _, ok_right km F33 D__law_draw D__law_any_plain D__law_two D__law_numbers D__law_in g_repr, PySem.W.mg_of X G a33, k33, b33⟩
  exact ok_law F34 D__law_bag D__law_right g_range g_max g_min g_len
theorem walk {l : PySem.W.OpenLaw} {q : Program} {loose : List Str} {XP : (Str → Option Value) → Heap → Prop} {YP : World → Heap → Prop} {d : DefRec} {K : Params → PySem.W.Frag} (hn : l.most = some 63) (hdf : d.params.defaults = [])
    (hY : ∀ (w : World) (h : Heap), YP w h → (K w.params).In h)
    (F : ∀ (w : World) (mg : Str → Option Value) (fa : Addr) (h : Heap), (K w.params).In h → h.Ns mainGlobals mg → mg d.name = some (.ref fa) →
      ∃ fd : FuncData, (∀ (s : Shared) (u : Value), BindsTo s fd ⟨[u], []⟩ [("script", u)]) ∧ ∀ base : Heap, (K w.params).In base → base.Ns mainGlobals mg → FnOk l.prog w (K w.params) mg base CX0 10 fa fd ["script"] (spLaw (K w.params))) :
    PySem.W.WalkO q loose XP YP l.row.toRowW d [] (fun f vs => PySem.call f vs) :=
  L2.walk_ofB (n := 63) (k := 10) (x := "script") (CX := fun _ => CX0) (sp := fun w => spLaw (K w.params)) hn (by decide) hdf ⟨rfl, by decide, by decide⟩ hY F (fun _ _ a ns hl hb _ hS => ⟨a, ns, rfl, hS, hl, hb, fun _ => rfl⟩) fun _ _ _ _ _ z => z
end B

open PySem PySem.W PyProof.Rows
set_option maxRecDepth 100000 in
set_option maxHeartbeats 0 in
open_top head for PySem.Challenge.rw_buzzround_k01_plain_kinds

open PySem PySem.W PyProof.Rows
set_option maxRecDepth 100000 in
set_option maxHeartbeats 0 in
theorem PySem.Challenge.cw_buzzround_k01_plain_kinds_holds : PySem.Challenge.rw_buzzround_k01_plain_kinds.Holds :=
  head (by
  k_fill
  refine B.walk (l := PySem.Challenge.rw_buzzround_k01_plain_kinds) rfl rfl (fun w h Y => PySem.W.kIn_of Y) ?F
  case F =>
    intro w mg fa h KX G hmg
    refine' B.all_mk KX G hmg ?aK ?a0 ?l0 ?c0 ?k0 ?a1 ?l1 ?c1 ?k1 ?a2 ?l2 ?c2 ?k2 ?a3 ?l3 ?c3 ?k3 ?a4 ?l4 ?c4 ?k4 ?a5 ?l5 ?c5 ?k5 ?a6 ?l6 ?c6 ?k6 ?a7 ?l7 ?c7 ?k7 ?a8 ?l8 ?c8 ?k8 ?a9 ?l9 ?c9 ?k9 ?a10 ?l10 ?c10 ?k10 ?a11 ?l11 ?c11 ?k11 ?a12 ?l12 ?c12 ?k12 ?a13 ?l13 ?c13 ?k13 ?a14 ?l14 ?c14 ?k14 ?a15 ?l15 ?c15 ?k15 ?a16 ?l16 ?c16 ?k16 ?a17 ?l17 ?c17 ?k17 ?a18 ?l18 ?c18 ?k18 ?a19 ?l19 ?c19 ?k19 ?a20 ?l20 ?c20 ?k20 ?a21 ?l21 ?c21 ?k21 ?a22 ?l22 ?c22 ?k22 ?a23 ?l23 ?c23 ?k23 ?a24 ?l24 ?c24 ?k24 ?a25 ?l25 ?c25 ?k25 ?a26 ?l26 ?c26 ?k26 ?a27 ?l27 ?c27 ?k27 ?a28 ?l28 ?c28 ?k28 ?a29 ?l29 ?c29 ?k29 ?a30 ?l30 ?c30 ?k30 ?a31 ?l31 ?c31 ?k31 ?a32 ?l32 ?c32 ?k32 ?a33 ?l33 ?c33 ?k33 ?a34 ?l34 ?c34 ?k34 ?a35 ?i35 ?l35 ?c35 ?k35 ?a36 ?i36 ?l36 ?c36 ?k36 ?a37 ?i37 ?l37 ?c37 ?k37 ?a38 ?i38 ?l38 ?c38 ?k38 ?z_len ?z_range ?z_list ?z_tuple ?z_max ?z_min ?z_abs ?z_int ?z_bool ?z_isinstance ?z_divmod ?z_sum ?z_repr ?z_enumerate ?z_sorted ?pg ?hd ?po ?sa ?mk ?kk ?nS ?nM ?nW ?ha ?hn ?htk ?hm ?sne
    (case aK => k_is)
    (case a0 => k_is)
    (case l0 => k_is)
    (case c0 => k_is)
    (case k0 => k_is)
    (case a1 => k_is)
    (case l1 => k_is)
    (case c1 => k_is)
    (case k1 => k_is)
    (case a2 => k_is)
    (case l2 => k_is)
    (case c2 => k_is)
    (case k2 => k_is)
    (case a3 => k_is)
    (case l3 => k_is)
    (case c3 => k_is)
    (case k3 => k_is)
    (case a4 => k_is)
    (case l4 => k_is)
    (case c4 => k_is)
    (case k4 => k_is)
    (case a5 => k_is)
    (case l5 => k_is)
    (case c5 => k_is)
    (case k5 => k_is)
    (case a6 => k_is)
    (case l6 => k_is)
    (case c6 => k_is)
    (case k6 => k_is)
    (case a7 => k_is)
    (case l7 => k_is)
    (case c7 => k_is)
    (case k7 => k_is)
    (case a8 => k_is)
    (case l8 => k_is)
    (case c8 => k_is)
    (case k8 => k_is)
    (case a9 => k_is)
    (case l9 => k_is)
    (case c9 => k_is)
    (case k9 => k_is)
    (case a10 => k_is)
    (case l10 => k_is)
    (case c10 => k_is)
    (case k10 => k_is)
    (case a11 => k_is)
    (case l11 => k_is)
    (case c11 => k_is)
    (case k11 => k_is)
    (case a12 => k_is)
    (case l12 => k_is)
    (case c12 => k_is)
    (case k12 => k_is)
    (case a13 => k_is)
    (case l13 => k_is)
    (case c13 => k_is)
    (case k13 => k_is)
    (case a14 => k_is)
    (case l14 => k_is)
    (case c14 => k_is)
    (case k14 => k_is)
    (case a15 => k_is)
    (case l15 => k_is)
    (case c15 => k_is)
    (case k15 => k_is)
    (case a16 => k_is)
    (case l16 => k_is)
    (case c16 => k_is)
    (case k16 => k_is)
    (case a17 => k_is)
    (case l17 => k_is)
    (case c17 => k_is)
    (case k17 => k_is)
    (case a18 => k_is)
    (case l18 => k_is)
    (case c18 => k_is)
    (case k18 => k_is)
    (case a19 => k_is)
    (case l19 => k_is)
    (case c19 => k_is)
    (case k19 => k_is)
    (case a20 => k_is)
    (case l20 => k_is)
    (case c20 => k_is)
    (case k20 => k_is)
    (case a21 => k_is)
    (case l21 => k_is)
    (case c21 => k_is)
    (case k21 => k_is)
    (case a22 => k_is)
    (case l22 => k_is)
    (case c22 => k_is)
    (case k22 => k_is)
    (case a23 => k_is)
    (case l23 => k_is)
    (case c23 => k_is)
    (case k23 => k_is)
    (case a24 => k_is)
    (case l24 => k_is)
    (case c24 => k_is)
    (case k24 => k_is)
    (case a25 => k_is)
    (case l25 => k_is)
    (case c25 => k_is)
    (case k25 => k_is)
    (case a26 => k_is)
    (case l26 => k_is)
    (case c26 => k_is)
    (case k26 => k_is)
    (case a27 => k_is)
    (case l27 => k_is)
    (case c27 => k_is)
    (case k27 => k_is)
    (case a28 => k_is)
    (case l28 => k_is)
    (case c28 => k_is)
    (case k28 => k_is)
    (case a29 => k_is)
    (case l29 => k_is)
    (case c29 => k_is)
    (case k29 => k_is)
    (case a30 => k_is)
    (case l30 => k_is)
    (case c30 => k_is)
    (case k30 => k_is)
    (case a31 => k_is)
    (case l31 => k_is)
    (case c31 => k_is)
    (case k31 => k_is)
    (case a32 => k_is)
    (case l32 => k_is)
    (case c32 => k_is)
    (case k32 => k_is)
    (case a33 => k_is)
    (case l33 => k_is)
    (case c33 => k_is)
    (case k33 => k_is)
    (case a34 => k_is)
    (case l34 => k_is)
    (case c34 => k_is)
    (case k34 => k_is)
    (case a35 => k_is)
    (case i35 => k_is)
    (case l35 => k_is)
    (case c35 => k_is)
    (case k35 => k_is)
    (case a36 => k_is)
    (case i36 => k_is)
    (case l36 => k_is)
    (case c36 => k_is)
    (case k36 => k_is)
    (case a37 => k_is)
    (case i37 => k_is)
    (case l37 => k_is)
    (case c37 => k_is)
    (case k37 => k_is)
    (case a38 => k_is)
    (case i38 => k_is)
    (case l38 => k_is)
    (case c38 => k_is)
    (case k38 => k_is)
    (case z_len => k_is)
    (case z_range => k_is)
    (case z_list => k_is)
    (case z_tuple => k_is)
    (case z_max => k_is)
    (case z_min => k_is)
    (case z_abs => k_is)
    (case z_int => k_is)
    (case z_bool => k_is)
    (case z_isinstance => k_is)
    (case z_divmod => k_is)
    (case z_sum => k_is)
    (case z_repr => k_is)
    (case z_enumerate => k_is)
    (case z_sorted => k_is)
    (case pg => k_is)
    (case hd => k_is)
    (case po => k_is)
    (case sa => k_is)
    (case mk => k_is)
    (case kk => k_is)
    (case nS => k_is)
    (case nM => k_is)
    (case nW => k_is)
    (case ha => k_is)
    (case hn => k_is)
    (case htk => k_is)
    (case hm => k_is)
    (case sne => k_is))

#print axioms PySem.Challenge.cw_buzzround_k01_plain_kinds_holds
