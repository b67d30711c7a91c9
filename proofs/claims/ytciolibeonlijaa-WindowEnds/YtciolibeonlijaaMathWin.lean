/- What a window knows: the numbers that were taken, and the 64 bits in which the landed code keeps them (stage 11). -/
import Derived.Test.YtciolibeonlijaaMath2
namespace Go.Proofs.Ytciolibeonlijaa
set_option linter.unusedVariables false

/-- The greatest one. -/
def wTop : List Nat → Nat
  | [] => 0
  | x :: l => max x (wTop l)
def wFresh (L : List Nat) (n : Nat) : Bool := decide (n ≠ 18446744073709551615 ∧ wTop L < n + 64 ∧ n ∉ L)
def wTake (L : List Nat) (n : Nat) : List Nat := if wFresh L n = true then L ++ [n] else L
theorem wTop_snoc (n : Nat) : ∀ L : List Nat, wTop (L ++ [n]) = max (wTop L) n
  | [] => by simp [wTop]
  | x :: l => by
    have := wTop_snoc n l
    rw [List.cons_append, wTop, wTop, this]
    omega
theorem le_wTop {x : Nat} : ∀ L : List Nat, x ∈ L → x ≤ wTop L
  | [], h => by cases h
  | y :: l, h => by
    rw [wTop]
    rcases List.mem_cons.1 h with rfl | h
    · omega
    · have := le_wTop l h; omega
theorem wTop_mem : ∀ L : List Nat, L ≠ [] → wTop L ∈ L
  | [], h => absurd rfl h
  | [x], _ => by simp [wTop]
  | x :: y :: l, _ => by
    have h := wTop_mem (y :: l) (by simp)
    rw [wTop]
    rcases Nat.le_total x (wTop (y :: l)) with h1 | h1
    · rw [Nat.max_eq_right h1]; exact List.mem_cons_of_mem _ h
    · rw [Nat.max_eq_left h1]; simp
/-- What T and B know of the numbers that were taken. -/
structure WBits (T B : Nat) (L : List Nat) : Prop where
  top : T = wTop L
  bit : ∀ i, B.testBit i = true ↔ i < 64 ∧ i ≤ T ∧ T - i ∈ L
  lim : ∀ x ∈ L, x < 18446744073709551615
section
variable {T B : Nat} {L : List Nat}
theorem WBits.none : WBits 0 0 [] := ⟨rfl, by simp, by simp⟩
theorem WBits.ltT (h : WBits T B L) : T < 18446744073709551615 := by
  by_cases e : L = []
  · rw [h.top, e, wTop]; decide
  · rw [h.top]; exact h.lim _ (wTop_mem L e)
theorem WBits.ltB (h : WBits T B L) : B < 18446744073709551616 := by
  have : B < 2 ^ 64 := by
    refine Nat.lt_pow_two_of_testBit B fun i hi => ?_
    cases e : B.testBit i with
    | false => rfl
    | true => have := ((h.bit i).1 e).1; omega
  simpa using this
theorem WBits.zero (h : WBits T B L) : B = 0 ↔ L = [] := by
  constructor
  · intro e
    subst e
    refine Classical.byContradiction fun hL => ?_
    have := (h.bit 0).2 ⟨by omega, by omega, by rw [Nat.sub_zero, h.top]; exact wTop_mem L hL⟩
    simp at this
  · intro e
    subst e
    refine Nat.eq_of_testBit_eq fun i => ?_
    cases e : B.testBit i with
    | false => simp
    | true => have := ((h.bit i).1 e).2.2; simp at this
theorem WBits.fresh (h : WBits T B L) (n : Nat) : (if T < n then decide (n ≠ 18446744073709551615) else decide (T - n < 64) && !B.testBit (T - n)) = wFresh L n := by
  have hT := h.ltT
  unfold wFresh
  by_cases hlt : T < n
  · rw [if_pos hlt]
    refine decide_eq_decide.2 ⟨fun e => ⟨e, by rw [← h.top]; omega, fun hm => ?_⟩, fun e => e.1⟩
    have := le_wTop L hm
    rw [← h.top] at this
    omega
  · rw [if_neg hlt, ← h.top]
    have hb := h.bit (T - n)
    rw [show T - (T - n) = n by omega] at hb
    cases e : B.testBit (T - n) with
    | true =>
      have := (hb.1 e).2.2
      simp [this]
    | false =>
      rw [e] at hb
      simp only [Bool.not_false, Bool.and_true]
      refine decide_eq_decide.2 ⟨fun e' => ⟨by omega, by omega, fun hm => ?_⟩, fun e' => by omega⟩
      have := hb.2 ⟨e', by omega, hm⟩
      cases this
theorem WBits.above (h : WBits T B L) (n : Nat) (hlt : T < n) (hf : wFresh L n = true) (hn : n < 18446744073709551616) : WBits n ((B * 2 ^ (min (n - T) 64) % 18446744073709551616) ||| 1) (wTake L n) := by
  unfold wTake
  rw [if_pos hf]
  have hne : n ≠ 18446744073709551615 := by unfold wFresh at hf; exact (of_decide_eq_true hf).1
  have htop : wTop (L ++ [n]) = n := by rw [wTop_snoc, ← h.top]; omega
  refine ⟨htop.symm, fun i => ?_, fun x hx => ?_⟩
  · have e64 : (18446744073709551616 : Nat) = 2 ^ 64 := by decide
    rw [Nat.testBit_or, e64, Nat.testBit_mod_two_pow, Nat.testBit_mul_two_pow]
    rw [Bool.or_eq_true, Bool.and_eq_true, Bool.and_eq_true, Nat.testBit_one_eq_true_iff_self_eq_zero, decide_eq_true_iff, decide_eq_true_iff, h.bit, List.mem_append, List.mem_singleton]
    constructor
    · rintro (⟨h1, h2, h3, h4, h5⟩ | rfl)
      · refine ⟨h1, by omega, .inl ?_⟩
        have : T - (i - min (n - T) 64) = n - i := by omega
        rw [← this]; exact h5
      · exact ⟨by omega, by omega, .inr (by omega)⟩
    · rintro ⟨h1, h2, h3 | h3⟩
      · have hle := le_wTop L h3
        rw [← h.top] at hle
        refine .inl ⟨h1, by omega, by omega, by omega, ?_⟩
        have : T - (i - min (n - T) 64) = n - i := by omega
        rw [this]; exact h3
      · exact .inr (by omega)
  · rcases List.mem_append.1 hx with hx | hx
    · exact h.lim x hx
    · rw [List.mem_singleton.1 hx]; omega
theorem WBits.below (h : WBits T B L) (n : Nat) (hlt : ¬ T < n) (hf : wFresh L n = true) : T - n < 64 ∧ WBits T (B ||| 2 ^ (T - n)) (wTake L n) := by
  unfold wTake
  rw [if_pos hf]
  unfold wFresh at hf
  obtain ⟨f1, f2, f3⟩ := of_decide_eq_true hf
  rw [← h.top] at f2
  have hT := h.ltT
  have htop : wTop (L ++ [n]) = T := by rw [wTop_snoc, ← h.top]; omega
  refine ⟨by omega, htop.symm, fun i => ?_, fun x hx => ?_⟩
  · rw [Nat.testBit_or, Nat.testBit_two_pow, Bool.or_eq_true, decide_eq_true_iff, h.bit, List.mem_append, List.mem_singleton]
    constructor
    · rintro (⟨h1, h2, h3⟩ | rfl)
      · exact ⟨h1, h2, .inl h3⟩
      · exact ⟨by omega, by omega, .inr (by omega)⟩
    · rintro ⟨h1, h2, h3 | h3⟩
      · exact .inl ⟨h1, h2, h3⟩
      · exact .inr (by omega)
  · rcases List.mem_append.1 hx with hx | hx
    · exact h.lim x hx
    · rw [List.mem_singleton.1 hx]; omega
end
theorem and_one (x : Nat) (h : x < 18446744073709551616) : bits .and .u64 (x : Int) 1 = ((x % 2 : Nat) : Int) := by
  have e : (BitVec.ofInt 64 (x : Int) &&& BitVec.ofInt 64 1).toNat = x % 2 := by
    rw [BitVec.toNat_and, BitVec.toNat_ofInt]
    have h7 : (BitVec.ofInt 64 1).toNat = 2 ^ 1 - 1 := by decide
    rw [h7, Nat.and_two_pow_sub_one_eq_mod]
    omega
  show IntKind.u64.wrap ((BitVec.ofInt 64 (x : Int) &&& BitVec.ofInt 64 1).toNat : Int) = _
  rw [e, IntKind.wrap_u64]
  omega
/-- 'b >> d & 1 == 0'. -/
theorem bit_zero (B d : Nat) (h : B < 18446744073709551616) : (bits .and .u64 ((B : Int) / 2 ^ d) 1 == 0) = !B.testBit d := by
  have e1 : (B : Int) / 2 ^ d = ((B / 2 ^ d : Nat) : Int) := by simp
  rw [e1, and_one _ (Nat.lt_of_le_of_lt (Nat.div_le_self _ _) h), Nat.testBit_eq_decide_div_mod_eq]
  have : B / 2 ^ d % 2 = 0 ∨ B / 2 ^ d % 2 = 1 := by omega
  rcases this with e | e <;> rw [e] <;> rfl
end Go.Proofs.Ytciolibeonlijaa
