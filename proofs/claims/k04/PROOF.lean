import PyProof.Rows.All
import Wide.All
import OpenK.AllK
import Wide.FinOn
import HandS.ForMost
import HandS.Wide
import HandS.IsInst
import HandS.Deep
import PyProof.Rows.ReprR
import PyProof.ZipIter
import KE.KItemsList
import HandS.WideMore
import HandS.Walk
import HandS.RevRange
import HandS.WideBits
import HandS.Style
import PySem.Challenge.RW_triplefree_k04_whole_gaps_sums_mirrors
/-! plain mathematics of digits, for all the laws: core Lean alone -/
set_option linter.all false
namespace TM
/-- the digits of n, the least one first; f: at least as many turns as digits -/
def digsF : Nat → Nat → Nat → List Nat
  | 0, _, _ => []
  | f + 1, r, n => if n = 0 then [] else n % r :: digsF f r (n / r)
def digs (r n : Nat) : List Nat := digsF n r n
theorem digsF_more {r : Nat} (hr : 2 ≤ r) : ∀ (f g n : Nat), n ≤ f → n ≤ g → digsF f r n = digsF g r n
  | 0, 0, n, _, _ => rfl
  | 0, g + 1, n, h, _ => by
    have e : n = 0 := by omega
    subst e
    show [] = if (0 : Nat) = 0 then [] else _
    rw [if_pos rfl]
  | f + 1, 0, n, _, h => by
    have e : n = 0 := by omega
    subst e
    show (if (0 : Nat) = 0 then [] else _) = []
    rw [if_pos rfl]
  | f + 1, g + 1, n, h1, h2 => by
    show (if n = 0 then [] else n % r :: digsF f r (n / r)) = if n = 0 then [] else n % r :: digsF g r (n / r)
    by_cases h : n = 0
    · rw [if_pos h, if_pos h]
    · have lt : n / r < n := Nat.div_lt_self (by omega) (by omega)
      rw [if_neg h, if_neg h, digsF_more hr f g (n / r) (by omega) (by omega)]
theorem digs_zero (r : Nat) : digs r 0 = [] := rfl
theorem digs_pos {r n : Nat} (hr : 2 ≤ r) (h : 0 < n) : digs r n = n % r :: digs r (n / r) := by
  obtain ⟨m, rfl⟩ : ∃ m, n = m + 1 := ⟨n - 1, by omega⟩
  have lt : (m + 1) / r < m + 1 := Nat.div_lt_self (by omega) (by omega)
  show (if m + 1 = 0 then [] else (m + 1) % r :: digsF m r ((m + 1) / r)) = (m + 1) % r :: digsF ((m + 1) / r) r ((m + 1) / r)
  rw [if_neg (by omega), digsF_more hr m ((m + 1) / r) ((m + 1) / r) (by omega) (by omega)]
theorem digs_len {r : Nat} (hr : 2 ≤ r) : ∀ (b n : Nat), n < 2 ^ b → (digs r n).length ≤ b
  | 0, n, h => by
    have e : n = 0 := by simpa using h
    subst e
    exact Nat.le_refl _
  | b + 1, n, h => by
    by_cases h0 : n = 0
    · subst h0
      exact Nat.zero_le _
    · rw [digs_pos hr (by omega), List.length_cons]
      have : n / r < 2 ^ b := by
        refine Nat.div_lt_of_lt_mul ?_
        rw [Nat.pow_succ] at h
        have : 2 * 2 ^ b ≤ r * 2 ^ b := Nat.mul_le_mul_right _ hr
        omega
      have := digs_len hr b (n / r) this
      omega
/-- no digit 2 -/
def plain (n : Nat) : Prop := 2 ∉ digs 3 n
instance (n : Nat) : Decidable (plain n) := by unfold plain; infer_instance
theorem plain_zero : plain 0 := by unfold plain; rw [digs_zero]; exact List.not_mem_nil
theorem digs_step {b n : Nat} (hb : b < 3) (h : 0 < b + 3 * n) : digs 3 (b + 3 * n) = b :: digs 3 n := by
  rw [digs_pos (by omega) h, show (b + 3 * n) % 3 = b by omega, show (b + 3 * n) / 3 = n by omega]
theorem plain_step {b n : Nat} (hb : b < 2) : plain (b + 3 * n) ↔ plain n := by
  unfold plain
  by_cases h : 0 < b + 3 * n
  · rw [digs_step (by omega) h, List.mem_cons]
    constructor
    · intro h1 h2
      exact h1 (.inr h2)
    · rintro h1 (h2 | h2)
      · omega
      · exact h1 h2
  · have e1 : b = 0 := by omega
    have e2 : n = 0 := by omega
    subst e1 e2
    exact Iff.rfl
theorem not_plain_two {n : Nat} : ¬ plain (2 + 3 * n) := by
  unfold plain
  rw [digs_step (by omega) (by omega)]
  intro h
  exact h List.mem_cons_self
/-- some place holds the digit 1 in both -/
def common (n m : Nat) : Prop := (1, 1) ∈ (digs 3 n).zip (digs 3 m)
instance (n m : Nat) : Decidable (common n m) := by unfold common; infer_instance
theorem common_step {b c n m : Nat} (hb : b < 3) (hc : c < 3) (h : ¬ (b = 1 ∧ c = 1)) : common (b + 3 * n) (c + 3 * m) → common n m := by
  unfold common
  by_cases h1 : 0 < b + 3 * n
  · by_cases h2 : 0 < c + 3 * m
    · rw [digs_step hb h1, digs_step hc h2, List.zip_cons_cons, List.mem_cons]
      rintro (e | e)
      · cases e
        exact absurd ⟨rfl, rfl⟩ h
      · exact e
    · rw [show c + 3 * m = 0 by omega, digs_zero, List.zip_nil_right]
      intro e
      cases e
  · rw [show b + 3 * n = 0 by omega, digs_zero, List.zip_nil_left]
    intro e
    cases e
/-! ### the pair of a difference -/
def dpF : Nat → Int → Nat × Nat
  | 0, _ => (0, 0)
  | f + 1, d => if d = 0 then (0, 0) else
    ((if d % 3 = 1 then 1 else 0) + 3 * (dpF f ((d + 1) / 3)).1, (if d % 3 = 2 then 1 else 0) + 3 * (dpF f ((d + 1) / 3)).2)
theorem dpF_more : ∀ (f g : Nat) (d : Int), d.natAbs ≤ f → d.natAbs ≤ g → dpF f d = dpF g d
  | 0, 0, d, _, _ => rfl
  | 0, g + 1, d, h, _ => by
    have e : d = 0 := by omega
    show (0, 0) = if d = 0 then (0, 0) else _
    rw [if_pos e]
  | f + 1, 0, d, _, h => by
    have e : d = 0 := by omega
    show (if d = 0 then (0, 0) else _) = (0, 0)
    rw [if_pos e]
  | f + 1, g + 1, d, h1, h2 => by
    show (if d = 0 then (0, 0) else _) = if d = 0 then (0, 0) else _
    by_cases h : d = 0
    · rw [if_pos h, if_pos h]
    · rw [if_neg h, if_neg h, dpF_more f g ((d + 1) / 3) (by omega) (by omega)]
def dp (d : Int) : Nat × Nat := dpF d.natAbs d
def dx (d : Int) : Nat := (dp d).1
def dy (d : Int) : Nat := (dp d).2
theorem dp_zero : dp 0 = (0, 0) := rfl
theorem dp_step {d : Int} (h : d ≠ 0) : dp d = ((if d % 3 = 1 then 1 else 0) + 3 * dx ((d + 1) / 3), (if d % 3 = 2 then 1 else 0) + 3 * dy ((d + 1) / 3)) := by
  unfold dx dy dp
  obtain ⟨f, hf⟩ : ∃ f, d.natAbs = f + 1 := ⟨d.natAbs - 1, by omega⟩
  rw [hf]
  show (if d = 0 then (0, 0) else _) = _
  rw [if_neg h, dpF_more f ((d + 1) / 3).natAbs _ (by omega) (Nat.le_refl _)]
theorem dx_step {d : Int} (h : d ≠ 0) : dx d = (if d % 3 = 1 then 1 else 0) + 3 * dx ((d + 1) / 3) := congrArg Prod.fst (dp_step h)
theorem dy_step {d : Int} (h : d ≠ 0) : dy d = (if d % 3 = 2 then 1 else 0) + 3 * dy ((d + 1) / 3) := congrArg Prod.snd (dp_step h)
theorem bal_ind {P : Int → Prop} (h0 : P 0) (hs : ∀ d : Int, d ≠ 0 → P ((d + 1) / 3) → P d) : ∀ d, P d := by
  have : ∀ (n : Nat) (d : Int), d.natAbs ≤ n → P d := by
    intro n
    induction n with
    | zero => intro d h; have e : d = 0 := by omega
              subst e; exact h0
    | succ n ih =>
      intro d h
      by_cases e : d = 0
      · subst e; exact h0
      · exact hs d e (ih _ (by omega))
  exact fun d => this _ d (Nat.le_refl _)
theorem dp_sub : ∀ d : Int, (dx d : Int) - dy d = d := by
  refine bal_ind rfl fun d h ih => ?_
  rw [dx_step h, dy_step h]
  by_cases h1 : d % 3 = 1
  · rw [if_pos h1, if_neg (by omega)]; omega
  · by_cases h2 : d % 3 = 2
    · rw [if_neg h1, if_pos h2]; omega
    · rw [if_neg h1, if_neg h2]; omega
theorem dx_plain : ∀ d : Int, plain (dx d) := by
  refine bal_ind plain_zero fun d h ih => ?_
  rw [dx_step h]
  refine (plain_step ?_).mpr ih
  split <;> omega
theorem dy_plain : ∀ d : Int, plain (dy d) := by
  refine bal_ind plain_zero fun d h ih => ?_
  rw [dy_step h]
  refine (plain_step ?_).mpr ih
  split <;> omega
theorem dp_common : ∀ d : Int, ¬ common (dx d) (dy d) := by
  refine bal_ind (by decide) fun d h ih => ?_
  rw [dx_step h, dy_step h]
  intro hc
  refine ih (common_step (by split <;> omega) (by split <;> omega) ?_ hc)
  rintro ⟨e1, e2⟩
  split at e1 <;> split at e2 <;> omega
theorem dp_neg : ∀ d : Int, dx (-d) = dy d ∧ dy (-d) = dx d := by
  refine bal_ind ⟨rfl, rfl⟩ fun d h ih => ?_
  have e : (-d + 1) / 3 = -((d + 1) / 3) := by omega
  have h1 : ((-d) % 3 = 1) ↔ (d % 3 = 2) := by omega
  have h2 : ((-d) % 3 = 2) ↔ (d % 3 = 1) := by omega
  rw [dx_step (show -d ≠ 0 by omega), dy_step (show -d ≠ 0 by omega), e, ih.1, ih.2, dx_step h, dy_step h]
  simp only [h1, h2, and_self]
theorem plain_add : ∀ (p n : Nat), plain n → n / 3 ^ p % 3 = 0 → plain (n + 3 ^ p)
  | 0, n, h, h0 => by
    rw [Nat.pow_zero, Nat.div_one] at h0
    have e : n = 0 + 3 * (n / 3) := by omega
    rw [e] at h
    have h2 := (plain_step (by omega)).mp h
    rw [Nat.pow_zero, show n + 1 = 1 + 3 * (n / 3) by omega]
    exact (plain_step (by omega)).mpr h2
  | p + 1, n, h, h0 => by
    have hb : n % 3 < 2 := by
      rcases Nat.lt_or_ge (n % 3) 2 with q | q
      · exact q
      · have e : n = 2 + 3 * (n / 3) := by omega
        rw [e] at h
        exact absurd h not_plain_two
    have e : n = n % 3 + 3 * (n / 3) := by omega
    have hp : plain (n / 3) := by
      rw [e] at h
      exact (plain_step hb).mp h
    have h1 : n / 3 / 3 ^ p % 3 = 0 := by
      rw [Nat.div_div_eq_div_mul, show 3 * 3 ^ p = 3 ^ (p + 1) by rw [Nat.pow_succ]; omega]
      exact h0
    have ih := plain_add p (n / 3) hp h1
    rw [show n + 3 ^ (p + 1) = n % 3 + 3 * (n / 3 + 3 ^ p) by rw [Nat.pow_succ]; omega]
    exact (plain_step hb).mpr ih
/-- the least members -/
def plains : List Nat := (List.range 730).filter fun n => decide (plain n)
end TM
namespace TM
theorem dp_lt : ∀ (j : Nat) (d : Int), d.natAbs < 2 ^ j → dx d < 3 ^ j ∧ dy d < 3 ^ j
  | 0, d, h => by
    have e : d = 0 := by rw [Nat.pow_zero] at h; omega
    subst e
    exact ⟨by decide, by decide⟩
  | j + 1, d, h => by
    by_cases h0 : d = 0
    · subst h0
      exact ⟨Nat.lt_of_le_of_lt (Nat.zero_le _) (Nat.pow_pos (by decide)), Nat.lt_of_le_of_lt (Nat.zero_le _) (Nat.pow_pos (by decide))⟩
    · have h2 : ((d + 1) / 3).natAbs < 2 ^ j := by
        rw [Nat.pow_succ] at h
        omega
      obtain ⟨a, b⟩ := dp_lt j _ h2
      rw [dx_step h0, dy_step h0, Nat.pow_succ]
      constructor
      · split <;> omega
      · split <;> omega
end TM

/-! members of the base set, their gaps, sums and mirrors: core Lean -/
namespace TM
theorem digs_cons {r b n : Nat} (hr : 2 ≤ r) (hb : b < r) (h : 0 < b + r * n) : digs r (b + r * n) = b :: digs r n := by
  rw [digs_pos hr h]
  have h1 : (b + r * n) % r = b := by rw [Nat.add_mul_mod_self_left, Nat.mod_eq_of_lt hb]
  have h2 : (b + r * n) / r = n := by rw [Nat.add_mul_div_left _ _ (by omega), Nat.div_eq_of_lt hb, Nat.zero_add]
  rw [h1, h2]
/-- digits read in a radix, the least one first -/
def rd (r : Nat) : List Nat → Nat
  | [] => 0
  | d :: l => d + r * rd r l
theorem rd_digs {r : Nat} (hr : 2 ≤ r) : ∀ (f n : Nat), n ≤ f → rd r (digs r n) = n
  | 0, n, h => by
    have e : n = 0 := by omega
    subst e
    rfl
  | f + 1, n, h => by
    by_cases h0 : n = 0
    · subst h0; rfl
    · have lt : n / r < n := Nat.div_lt_self (by omega) (by omega)
      rw [digs_pos hr (by omega)]
      show n % r + r * rd r (digs r (n / r)) = n
      rw [rd_digs hr f (n / r) (by omega)]
      exact Nat.mod_add_div n r
def B (n : Nat) : Nat := rd 3 (digs 2 n)
theorem B_zero : B 0 = 0 := rfl
theorem B_step {b n : Nat} (hb : b < 2) : B (b + 2 * n) = b + 3 * B n := by
  unfold B
  by_cases h : 0 < b + 2 * n
  · rw [digs_cons (by omega) hb h]; rfl
  · have e1 : b = 0 := by omega
    have e2 : n = 0 := by omega
    subst e1 e2
    rfl
theorem B_even (n : Nat) : B (2 * n) = 3 * B n := by
  have := B_step (b := 0) (n := n) (by omega)
  rw [Nat.zero_add, Nat.zero_add] at this
  exact this
theorem B_odd (n : Nat) : B (1 + 2 * n) = 1 + 3 * B n := B_step (by omega)
theorem bin_ind {P : Nat → Prop} (h0 : P 0) (hs : ∀ b n, b < 2 → 0 < b + 2 * n → P n → P (b + 2 * n)) : ∀ n, P n := by
  have : ∀ f n, n ≤ f → P n := by
    intro f
    induction f with
    | zero => intro n h; have e : n = 0 := by omega
              subst e; exact h0
    | succ f ih =>
      intro n h
      by_cases e : n = 0
      · subst e; exact h0
      · have := hs (n % 2) (n / 2) (by omega) (by omega) (ih (n / 2) (by omega))
        rw [show n % 2 + 2 * (n / 2) = n by omega] at this
        exact this
  exact fun n => this n n (Nat.le_refl _)
theorem B_pos {n : Nat} (h : 0 < n) : 0 < B n := by
  revert h
  refine bin_ind (P := fun n => 0 < n → 0 < B n) (fun h => absurd h (by omega)) (fun b n hb h ih _ => ?_) n
  rw [B_step hb]
  by_cases e : 0 < n
  · have := ih e; omega
  · omega
theorem B_digs : ∀ n, digs 3 (B n) = digs 2 n := by
  refine bin_ind rfl fun b n hb h ih => ?_
  have hp := B_pos h
  rw [B_step hb] at hp ⊢
  rw [digs_step (by omega) hp, digs_cons (by omega) hb h, ih]
theorem bits_lt : ∀ n, ∀ d ∈ digs 2 n, d < 2 := by
  refine bin_ind (fun d h => by cases h) fun b n hb h ih d hd => ?_
  rw [digs_cons (by omega) hb h] at hd
  rcases List.mem_cons.mp hd with e | e
  · omega
  · exact ih d e
theorem B_plain (n : Nat) : plain (B n) := by
  unfold plain
  rw [B_digs]
  intro h
  have := bits_lt n 2 h
  omega
/-- a common binary digit 1 -/
def commonB (n m : Nat) : Prop := (1, 1) ∈ (digs 2 n).zip (digs 2 m)
instance (n m : Nat) : Decidable (commonB n m) := by unfold commonB; infer_instance
theorem commonB_step {b c n m : Nat} (hb : b < 2) (hc : c < 2) : commonB (b + 2 * n) (c + 2 * m) ↔ (b = 1 ∧ c = 1) ∨ commonB n m := by
  unfold commonB
  by_cases h1 : 0 < b + 2 * n
  · by_cases h2 : 0 < c + 2 * m
    · rw [digs_cons (by omega) hb h1, digs_cons (by omega) hc h2, List.zip_cons_cons, List.mem_cons]
      constructor
      · rintro (e | e)
        · cases e; exact .inl ⟨rfl, rfl⟩
        · exact .inr e
      · rintro (⟨e1, e2⟩ | e)
        · subst e1 e2; exact .inl rfl
        · exact .inr e
    · have e1 : c = 0 := by omega
      have e2 : m = 0 := by omega
      subst e1 e2
      simp [digs_zero]
  · have e1 : b = 0 := by omega
    have e2 : n = 0 := by omega
    subst e1 e2
    simp [digs_zero]
theorem B_add : ∀ a b : Nat, B a + B b ≤ B (a + b) ∧ (B a + B b = B (a + b) ↔ ¬ commonB a b) := by
  refine bin_ind (P := fun a => ∀ b, B a + B b ≤ B (a + b) ∧ (B a + B b = B (a + b) ↔ ¬ commonB a b)) ?_ ?_
  · intro b
    rw [B_zero, Nat.zero_add, Nat.zero_add]
    refine ⟨Nat.le_refl _, ?_⟩
    have : ¬ commonB 0 b := by unfold commonB; rw [digs_zero, List.zip_nil_left]; exact List.not_mem_nil
    simp [this]
  · intro x a hx _ ih b
    obtain ⟨y, b', hy, rfl⟩ : ∃ y b', y < 2 ∧ b = y + 2 * b' := ⟨b % 2, b / 2, by omega, by omega⟩
    obtain ⟨i1, i2⟩ := ih b'
    rw [B_step hx, B_step hy, commonB_step hx hy]
    by_cases hc : x = 1 ∧ y = 1
    · obtain ⟨rfl, rfl⟩ := hc
      have e : 1 + 2 * a + (1 + 2 * b') = 0 + 2 * (a + b' + 1) := by omega
      rw [e, B_step (by omega)]
      have key : B (a + b') + 1 ≤ B (a + b' + 1) := by
        have : ∀ n, B n + 1 ≤ B (n + 1) := by
          refine bin_ind (by decide) fun z n hz _ ihn => ?_
          rcases (show z = 0 ∨ z = 1 by omega) with rfl | rfl
          · rw [show 0 + 2 * n + 1 = 1 + 2 * n by omega, B_odd, Nat.zero_add, B_even]; omega
          · rw [show 1 + 2 * n + 1 = 2 * (n + 1) by omega, B_odd, B_even]; omega
        exact this _
      refine ⟨by omega, ?_⟩
      constructor
      · intro z; omega
      · intro z; exact absurd (Or.inl ⟨rfl, rfl⟩) z
    · have e : x + 2 * a + (y + 2 * b') = (x + y) + 2 * (a + b') := by omega
      rw [e, B_step (by omega)]
      refine ⟨by omega, ?_⟩
      constructor
      · intro z
        have := i2.mp (by omega)
        rintro (q | q)
        · exact hc q
        · exact this q
      · intro z
        have := i2.mpr fun q => z (.inr q)
        omega
theorem B_mono {m n : Nat} (h : m ≤ n) : B m ≤ B n := by
  have := (B_add m (n - m)).1
  rw [show m + (n - m) = n by omega] at this
  omega
theorem B_lt {m n : Nat} (h : m < n) : B m < B n := by
  have := (B_add m (n - m)).1
  rw [show m + (n - m) = n by omega] at this
  have := B_pos (show 0 < n - m by omega)
  omega
theorem compl_none : ∀ (p a b : Nat), a + b + 1 = 2 ^ p → ¬ commonB a b
  | 0, a, b, h => by
    have e1 : a = 0 := by rw [Nat.pow_zero] at h; omega
    have e2 : b = 0 := by rw [Nat.pow_zero] at h; omega
    subst e1 e2
    decide
  | p + 1, a, b, h => by
    rw [Nat.pow_succ] at h
    rw [show a = a % 2 + 2 * (a / 2) by omega, show b = b % 2 + 2 * (b / 2) by omega, commonB_step (by omega) (by omega)]
    rintro (q | q)
    · omega
    · exact compl_none p (a / 2) (b / 2) (by omega) q
theorem B_compl {p a b : Nat} (h : a + b + 1 = 2 ^ p) : B a + B b = B (2 ^ p - 1) := by
  rw [((B_add a b).2.mpr (compl_none p a b h)), show a + b = 2 ^ p - 1 by omega]
theorem B_full : ∀ p : Nat, 2 * B (2 ^ p - 1) + 1 = 3 ^ p
  | 0 => rfl
  | p + 1 => by
    have hp : 0 < 2 ^ p := Nat.pow_pos (by decide)
    have e : 2 ^ (p + 1) - 1 = 1 + 2 * (2 ^ p - 1) := by rw [Nat.pow_succ]; omega
    have ih := B_full p
    rw [e, B_odd, Nat.pow_succ]
    omega
theorem B_bound {p n : Nat} (h : n < 2 ^ p) : 2 * B n < 3 ^ p := by
  have := B_mono (show n ≤ 2 ^ p - 1 by omega)
  have := B_full p
  omega
/-! ### gaps -/
def GF : Nat → Nat → Nat
  | 0, _ => 1
  | f + 1, n => if n % 2 = 0 then 3 * GF f (n / 2) else 1
def G (n : Nat) : Nat := GF n n
theorem GF_more : ∀ (f g n : Nat), 0 < n → n ≤ f → n ≤ g → GF f n = GF g n
  | 0, _, n, h, h1, _ => by omega
  | _ + 1, 0, n, h, _, h2 => by omega
  | f + 1, g + 1, n, h, h1, h2 => by
    show (if n % 2 = 0 then 3 * GF f (n / 2) else 1) = if n % 2 = 0 then 3 * GF g (n / 2) else 1
    by_cases e : n % 2 = 0
    · rw [if_pos e, if_pos e, GF_more f g (n / 2) (by omega) (by omega) (by omega)]
    · rw [if_neg e, if_neg e]
theorem G_even {n : Nat} (h : 0 < n) (e : n % 2 = 0) : G n = 3 * G (n / 2) := by
  unfold G
  obtain ⟨m, rfl⟩ : ∃ m, n = m + 1 := ⟨n - 1, by omega⟩
  show (if (m + 1) % 2 = 0 then 3 * GF m ((m + 1) / 2) else 1) = _
  rw [if_pos e, GF_more m ((m + 1) / 2) ((m + 1) / 2) (by omega) (by omega) (Nat.le_refl _)]
theorem G_odd {n : Nat} (e : n % 2 = 1) : G n = 1 := by
  unfold G
  obtain ⟨m, rfl⟩ : ∃ m, n = m + 1 := ⟨n - 1, by omega⟩
  show (if (m + 1) % 2 = 0 then 3 * GF m ((m + 1) / 2) else 1) = 1
  rw [if_neg (by omega)]
theorem G_gap : ∀ n : Nat, 0 < n → 2 * B n = 2 * B (n - 1) + (G n + 1) := by
  refine bin_ind (fun h => absurd h (by omega)) fun b n hb h ih _ => ?_
  rcases (show b = 0 ∨ b = 1 by omega) with rfl | rfl
  · have hn : 0 < n := by omega
    have i := ih hn
    rw [Nat.zero_add] at h ⊢
    rw [G_even h (by omega), show 2 * n / 2 = n by omega, show 2 * n - 1 = 1 + 2 * (n - 1) by omega, B_even, B_odd]
    omega
  · rw [G_odd (by omega), show 1 + 2 * n - 1 = 2 * n by omega, B_odd, B_even]
    omega
theorem G_pow : ∀ (p n : Nat), 0 < n → n < 2 ^ p → G n < 3 ^ p
  | 0, n, h, h2 => by rw [Nat.pow_zero] at h2; omega
  | p + 1, n, h, h2 => by
    rcases (show n % 2 = 0 ∨ n % 2 = 1 by omega) with e | e
    · rw [Nat.pow_succ] at h2
      have := G_pow p (n / 2) (by omega) (by omega)
      rw [G_even h e, Nat.pow_succ]
      omega
    · rw [G_odd e]
      have : 0 < 3 ^ p := Nat.pow_pos (by decide)
      rw [Nat.pow_succ]
      omega
/-! ### sums -/
def S : Nat → Nat
  | 0 => 0
  | n + 1 => S n + B n
def sm : Nat → (Nat → Nat) → Nat
  | 0, _ => 0
  | n + 1, f => sm n f + f n
theorem sm_shift (f : Nat → Nat) : ∀ n, sm (n + 1) f = f 0 + sm n fun j => f (j + 1)
  | 0 => by simp [sm]
  | n + 1 => by
    show sm (n + 1) f + f (n + 1) = f 0 + (sm n (fun j => f (j + 1)) + f (n + 1))
    rw [sm_shift f n]; omega
theorem sm_congr {f g : Nat → Nat} : ∀ n, (∀ j, j < n → f j = g j) → sm n f = sm n g
  | 0, _ => rfl
  | n + 1, h => by
    show sm n f + f n = sm n g + g n
    rw [sm_congr n fun j hj => h j (by omega), h n (by omega)]
theorem sm_add (f g : Nat → Nat) : ∀ n, sm n (fun j => f j + g j) = sm n f + sm n g
  | 0 => rfl
  | n + 1 => by
    show sm n (fun j => f j + g j) + (f n + g n) = sm n f + f n + (sm n g + g n)
    rw [sm_add f g n]; omega
theorem sm_mul (c : Nat) (f : Nat → Nat) : ∀ n, sm n (fun j => c * f j) = c * sm n f
  | 0 => rfl
  | n + 1 => by
    show sm n (fun j => c * f j) + c * f n = c * (sm n f + f n)
    rw [sm_mul c f n, Nat.mul_add]
theorem sm_bits : ∀ (L n : Nat), n < 2 ^ L → sm L (fun j => 3 ^ j * (n / 2 ^ j % 2)) = B n
  | 0, n, h => by
    have e : n = 0 := by rw [Nat.pow_zero] at h; omega
    subst e; rfl
  | L + 1, n, h => by
    rw [sm_shift]
    have e : sm L (fun j => 3 ^ (j + 1) * (n / 2 ^ (j + 1) % 2)) = 3 * sm L (fun j => 3 ^ j * (n / 2 / 2 ^ j % 2)) := by
      rw [← sm_mul]
      refine sm_congr L fun j _ => ?_
      rw [Nat.pow_succ 3 j, Nat.pow_succ 2 j, Nat.mul_comm (2 ^ j) 2, ← Nat.div_div_eq_div_mul, Nat.mul_comm (3 ^ j) 3, Nat.mul_assoc]
    rw [Nat.pow_succ] at h
    rw [e, sm_bits L (n / 2) (by omega)]
    simp only [Nat.pow_zero, Nat.one_mul, Nat.div_one]
    rw [← B_step (by omega), show n % 2 + 2 * (n / 2) = n by omega]
/-- how many of the first n numbers have the digit 1 at this place -/
def cn (p n : Nat) : Nat := n / (2 * p) * p + (n % (2 * p) - p)
theorem cn_zero (p : Nat) : cn p 0 = 0 := by unfold cn; simp
theorem cn_step {p : Nat} (hp : 0 < p) (n : Nat) : cn p (n + 1) = cn p n + n / p % 2 := by
  have h2 : 0 < 2 * p := by omega
  have dm := Nat.div_add_mod n (2 * p)
  have lt := Nat.mod_lt n h2
  generalize hq : n / (2 * p) = q at dm
  generalize hr : n % (2 * p) = r at dm lt
  have bit : n / p % 2 = if r < p then 0 else 1 := by
    by_cases h : r < p
    · rw [if_pos h]
      have : n / p = 2 * q := by
        rw [← dm, show 2 * p * q + r = r + p * (2 * q) by rw [Nat.mul_comm 2 p, Nat.mul_assoc]; omega, Nat.add_mul_div_left _ _ hp, Nat.div_eq_of_lt h, Nat.zero_add]
      rw [this]; omega
    · rw [if_neg h]
      have : n / p = 1 + 2 * q := by
        rw [← dm, show 2 * p * q + r = (r - p) + p * (1 + 2 * q) by rw [Nat.mul_add, Nat.mul_one, Nat.mul_comm 2 p, Nat.mul_assoc]; omega, Nat.add_mul_div_left _ _ hp, Nat.div_eq_of_lt (by omega), Nat.zero_add]
      rw [this]; omega
  unfold cn
  rw [hq, hr, bit]
  by_cases h : r + 1 < 2 * p
  · have e1 : (n + 1) / (2 * p) = q := by
      rw [← dm, show 2 * p * q + r + 1 = (r + 1) + 2 * p * q by omega, Nat.add_mul_div_left _ _ h2, Nat.div_eq_of_lt h, Nat.zero_add]
    have e2 : (n + 1) % (2 * p) = r + 1 := by
      rw [← dm, show 2 * p * q + r + 1 = (r + 1) + 2 * p * q by omega, Nat.add_mul_mod_self_left, Nat.mod_eq_of_lt h]
    rw [e1, e2]
    split <;> omega
  · have e0 : r + 1 = 2 * p := by omega
    have e1 : (n + 1) / (2 * p) = q + 1 := by
      rw [← dm, show 2 * p * q + r + 1 = 0 + 2 * p * (q + 1) by rw [Nat.mul_add]; omega, Nat.add_mul_div_left _ _ h2, Nat.zero_div, Nat.zero_add]
    have e2 : (n + 1) % (2 * p) = 0 := by
      rw [← dm, show 2 * p * q + r + 1 = 0 + 2 * p * (q + 1) by rw [Nat.mul_add]; omega, Nat.add_mul_mod_self_left, Nat.zero_mod]
    rw [e1, e2, Nat.add_mul]
    split <;> omega
theorem S_sum {L : Nat} : ∀ n, n ≤ 2 ^ L → sm L (fun j => 3 ^ j * cn (2 ^ j) n) = S n
  | 0, _ => by
    have : ∀ k, sm k (fun j => 3 ^ j * cn (2 ^ j) 0) = 0 := by
      intro k
      induction k with
      | zero => rfl
      | succ k ih => show sm k _ + 3 ^ k * cn (2 ^ k) 0 = 0; rw [ih, cn_zero]; simp
    exact this L
  | n + 1, h => by
    show _ = S n + B n
    rw [← S_sum (L := L) n (by omega), ← sm_bits L n (by omega), ← sm_add]
    refine sm_congr L fun j _ => ?_
    rw [cn_step (Nat.pow_pos (by decide)), Nat.mul_add]
theorem B_high (k m : Nat) (h : m < 2 ^ k) : B (2 ^ k + m) = 3 ^ k + B m := by
  have nc : ∀ (k m : Nat), m < 2 ^ k → ¬ commonB (2 ^ k) m ∧ B (2 ^ k) = 3 ^ k := by
    intro k
    induction k with
    | zero =>
      intro m h
      have e : m = 0 := by rw [Nat.pow_zero] at h; omega
      subst e
      exact ⟨by decide, by decide⟩
    | succ k ih =>
      intro m h
      rw [Nat.pow_succ] at h
      obtain ⟨i1, i2⟩ := ih (m / 2) (by omega)
      have e : 2 ^ (k + 1) = 0 + 2 * 2 ^ k := by rw [Nat.pow_succ]; omega
      refine ⟨?_, ?_⟩
      · rw [e, show m = m % 2 + 2 * (m / 2) by omega, commonB_step (by omega) (by omega)]
        rintro (q | q)
        · omega
        · exact i1 q
      · rw [e, B_step (by omega), i2, Nat.pow_succ]
        omega
  obtain ⟨i1, i2⟩ := nc k m h
  rw [← (B_add (2 ^ k) m).2.mpr i1, i2]
theorem S_split (k : Nat) : ∀ r, r ≤ 2 ^ k → S (2 ^ k + r) = S (2 ^ k) + S r + r * 3 ^ k
  | 0, _ => by simp [S]
  | r + 1, h => by
    show S (2 ^ k + r) + B (2 ^ k + r) = S (2 ^ k) + (S r + B r) + (r + 1) * 3 ^ k
    rw [S_split k r (by omega), B_high k r (by omega), Nat.succ_mul]
    omega
theorem S_pow : ∀ j : Nat, 4 * S (2 ^ j) + 2 ^ j = 2 ^ j * 3 ^ j
  | 0 => rfl
  | j + 1 => by
    have e : 2 ^ (j + 1) = 2 ^ j + 2 ^ j := by rw [Nat.pow_succ]; omega
    have ih := S_pow j
    rw [e, S_split j (2 ^ j) (Nat.le_refl _), Nat.pow_succ 3 j]
    have : (2 ^ j + 2 ^ j) * (3 ^ j * 3) = 6 * (2 ^ j * 3 ^ j) := by
      rw [Nat.add_mul, ← Nat.mul_assoc]; omega
    omega
theorem S_lt {L n : Nat} (h : n ≤ 2 ^ L) : S n ≤ n * 3 ^ L := by
  induction n with
  | zero => exact Nat.zero_le _
  | succ n ih =>
    have := ih (by omega)
    have b := B_bound (p := L) (n := n) (by omega)
    show S n + B n ≤ (n + 1) * 3 ^ L
    rw [Nat.succ_mul]
    omega
end TM

set_option Elab.async false
set_option maxRecDepth 100000
set_option maxHeartbeats 4000000
namespace TF
open PySem PySem.Spec PyProof.Rows L2
/-! ### a def that is only called where no repr is running -/
structure GOk (P : Program) (w : World) (K : PySem.W.Frag) (mg : Str → Option Value) (base : Heap) (k : Nat) (f : Addr)
    (fd : FuncData) (ps : List Str) (sp : Sp) : Prop where
  size : ∀ vs H Q E, sp vs H Q E → vs.length = ps.length
  runs : ∀ (A : Around) (outer : List Env) (s : Shared) (H : Hp) (args : Args) (us : List Value) (vs : List V) (Q : VK) (E : XK),
    Room k A → A.guards = some [] → Env0 P w K mg base A outer s H → BindsTo s fd args (ps.zip us) → Vals vs us → sp vs H Q E →
      codeAny (model P w) A (.call (.ref f) args) (CR CX0 outer P w H s Q E) s
section
variable {X : Cx} {pins : List (Addr × Obj)} {σ : L2.St} {H : Hp} {s : Shared}
/-- repr of data -/
def rRep (K : PySem.W.Frag) : List V → Hp → VK → Prop := fun xs H Q => ∃ (a : Addr) (d : PyData), xs = [.ref a] ∧ Dp K H (.ref a) d ∧
  d.showable = true ∧ d.hasDict = false ∧ d.depth ≤ 60 ∧ d.shown.length ≤ sizeLine ∧ Q (.str d.shown) H
theorem call_rep (hg : X.A.guards = some []) (hu : X.A.units + 64 < cLine) : CallR X (.builtin "repr") (rRep X.K) := by
  intro pins s σ H xs us Q I r h
  obtain ⟨a, d, rfl, hd, hs, hnd, hdp, hz, q⟩ := h
  obtain ⟨u, rfl, ru⟩ := vals1 r
  cases ru
  obtain ⟨as, rd⟩ := Dp.reads I d _ _ hd rfl
  refine repr_of_reads' rd hs (PyData.noDict_hsm hnd) hg (by omega) (fun _ _ e => e) (fun h' u tk hk => ?_) hz
  exact ⟨.str d.shown, H, I.kept hk, ⟨u, rfl⟩, q⟩
end
end TF

namespace TFZ
open PySem PySem.Calls PyProof.Rows PyProof.V PySem.Spec
/-- a zip whose last pair still lives at a -/
abbrev ZipB (h : Heap) (z TI TO a : Addr) (f : Bool) : Prop :=
  h.get? z = some { cls := .type "zip", dict := none, data := .fields #[rawInt a, .bool f, .bool false, .ref TI, .ref TO], slots := #[] }
section
variable {prog : Program} {w : World} {A : Around} {E : Value → Shared → Prop} {s : Shared}
theorem zip_more {z TI TO i1 i2 l1 l2 a : Addr} {f : Bool} {oa : Obj} {k1 k2 : Nat} {xs ys : Array Value} {x y : Value} {Q : Value → Shared → Prop}
    (D : ZipApart z TI TO i1 i2 l1 l2) (hz : ZipB s.heap z TI TO a f) (ha : s.heap.get? a = some oa) (haz : a ≠ z)
    (hTI : IsPair s.heap TI (.ref i1) (.ref i2)) (h1 : s.heap.IsListIter i1 l1 k1) (h2 : s.heap.IsListIter i2 l2 k2)
    (hl1 : s.heap.IsList l1 xs) (hl2 : s.heap.IsList l2 ys) (hx : xs[k1]? = some x) (hy : ys[k2]? = some y)
    (hQ : ∀ h', ZipB h' z TI TO a true → h'.IsListIter i1 l1 (k1 + 1) → h'.IsListIter i2 l2 (k2 + 1) →
      IsPair h' s.heap.objs.size x y → h'.objs.size = s.heap.objs.size + 1 →
      (∀ c o, c ≠ z → c ≠ i1 → c ≠ i2 → s.heap.get? c = some o → h'.get? c = some o) → Q (.ref s.heap.objs.size) { s with heap := h' }) :
    wpAny (model prog w) A (Builtin.«zip.__next__» ⟨[.ref z], []⟩) (fun fin s' => ∃ v, fin = .done (.ret v) ∧ Q v s') E s := by
  obtain ⟨hp, g, dr, tk, os⟩ := s
  replace hz : ZipB hp z TI TO a f := hz
  show wpAny _ _ (field (.ref z) 2 >>= _) _ _ _
  refine wpAny_bind (wpAny_field hz rfl (x := .bool false) rfl ?_)
  show wpAny _ _ (field (.ref z) 3 >>= _) _ _ _
  refine wpAny_bind (wpAny_field hz rfl (x := .ref TI) rfl ?_)
  refine wpAny_bind (wpAny_seqItems hTI rfl ?_)
  show wpAny _ _ (Builtin.SmallTypes.ownedTupleIsFree (.ref z) >>= _) _ _ _
  refine wpAny_bind ?_
  unfold Builtin.SmallTypes.ownedTupleIsFree
  refine wpAny_bind (wpAny_field hz rfl (x := rawInt a) rfl ?_)
  show wpAny _ _ (loadIfAlive ((a : Int).toNat) >>= _) _ _ _
  rw [Int.toNat_natCast]
  refine wpAny_bind (PySem.W.kdx_alive ha ?_)
  simp only [Option.isNone_some, Bool.false_eq_true, if_false]
  refine wpAny_bind (wpAny_field hz rfl (x := .bool f) rfl ?_)
  have fin : ∀ h₁ : Heap, ZipB h₁ z TI TO a true → Heap.SameBut z hp h₁ → ∀ h₃, h₃.IsListIter i1 l1 (k1 + 1) → h₃.IsListIter i2 l2 (k2 + 1) →
      h₃.objs.size = hp.objs.size → ZipB h₃ z TI TO a true → (∀ c o, c ≠ z → c ≠ i1 → c ≠ i2 → hp.get? c = some o → h₃.get? c = some o) →
      wpAny (model prog w) A (newTuple [x, y] >>= fun v => ret v) (fun fin s' => ∃ v, fin = .done (.ret v) ∧ Q v s') E ⟨h₃, g, dr, tk, os⟩ := by
    intro h₁ hz₁ hs₁ h₃ e1 e2 e3 e4 e5
    refine wpAny_bind (wpAny_newTuple ?_)
    refine wpAny_pure ⟨_, rfl, ?_⟩
    show Q (.ref h₃.objs.size) _
    rw [e3]
    refine hQ _ (Heap.get?_push_of_some _ e4) (e1.at fun o e => Heap.get?_push_of_some _ e) (e2.at fun o e => Heap.get?_push_of_some _ e) ?_ (by rw [Heap.size_push, e3]) fun c o c1 c2 c3 e => Heap.get?_push_of_some _ (e5 c o c1 c2 c3 e)
    rw [← e3]
    exact Heap.get?_push_size _ rfl
  have n1 : ∀ h₁ : Heap, ZipB h₁ z TI TO a true → Heap.SameBut z hp h₁ → ∀ R : Value → Shared → Prop,
      (∀ h₂, h₂.IsListIter i1 l1 (k1 + 1) → Heap.SameBut i1 h₁ h₂ → R x ⟨h₂, g, dr, tk, os⟩) → wpAny (model prog w) A (Builtin.SmallTypes.nextOf (.ref i1)) R E ⟨h₁, g, dr, tk, os⟩ :=
    fun h₁ _ hs₁ R q => wpAny_nextOf_list_item (h1.extBut hs₁.extBut D.i1z) (hl1.extBut hs₁.extBut D.l1z) hx q
  have n2 : ∀ h₁ h₂ : Heap, Heap.SameBut z hp h₁ → Heap.SameBut i1 h₁ h₂ → ∀ R : Value → Shared → Prop,
      (∀ h₃, h₃.IsListIter i2 l2 (k2 + 1) → Heap.SameBut i2 h₂ h₃ → R y ⟨h₃, g, dr, tk, os⟩) → wpAny (model prog w) A (Builtin.SmallTypes.nextOf (.ref i2)) R E ⟨h₂, g, dr, tk, os⟩ :=
    fun h₁ h₂ hs₁ hs₂ R q => wpAny_nextOf_list_item ((h2.extBut hs₁.extBut D.i2z).extBut hs₂.extBut D.i12.symm) ((hl2.extBut hs₁.extBut D.l2z).extBut hs₂.extBut D.l2i1) hy q
  cases f with
  | true =>
    rw [if_neg (show ¬ ((Value.bool true != Value.bool true) = true) from Bool.false_ne_true)]
    refine wpAny_pure ?_
    simp only [Bool.false_eq_true, if_false]
    simp only [← Array.forIn_toList, List.forIn_cons, List.forIn_nil]
    refine wpAny_bind (wpAny_bind (wpAny_bind (wpAny_holding ?_)))
    show wpAny _ _ (Builtin.SmallTypes.nextOf (.ref i1) >>= _) _ _ _
    refine wpAny_bind (n1 hp hz (Heap.SameBut.refl _ _) _ fun h₂ h1₂ hs₂ => wpAny_pure (wpAny_pure ?_))
    refine wpAny_bind (wpAny_bind (wpAny_holding ?_))
    show wpAny _ _ (Builtin.SmallTypes.nextOf (.ref i2) >>= _) _ _ _
    refine wpAny_bind (n2 hp h₂ (Heap.SameBut.refl _ _) hs₂ _ fun h₃ h2₃ hs₃ => wpAny_pure (wpAny_pure (wpAny_pure ?_)))
    exact fin hp hz (Heap.SameBut.refl _ _) h₃ (h1₂.extBut hs₃.extBut D.i12) h2₃ (by rw [hs₃.1, hs₂.1]) (hs₃.extBut _ _ D.i2z.symm (hs₂.extBut _ _ D.i1z.symm hz))
      fun c o c1 c2 c3 e => hs₃.extBut _ _ c3 (hs₂.extBut _ _ c2 e)
  | false =>
    rw [if_pos (show (Value.bool false != Value.bool true) = true from rfl)]
    refine wpAny_bind (wpAny_setField_rec hz (by simp) fun h₁ hz₁ hs₁ => wpAny_pure ?_)
    replace hz₁ : ZipB h₁ z TI TO a true := hz₁
    simp only [Bool.false_eq_true, if_false]
    simp only [← Array.forIn_toList, List.forIn_cons, List.forIn_nil]
    refine wpAny_bind (wpAny_bind (wpAny_bind (wpAny_holding ?_)))
    show wpAny _ _ (Builtin.SmallTypes.nextOf (.ref i1) >>= _) _ _ _
    refine wpAny_bind (n1 h₁ hz₁ hs₁ _ fun h₂ h1₂ hs₂ => wpAny_pure (wpAny_pure ?_))
    refine wpAny_bind (wpAny_bind (wpAny_holding ?_))
    show wpAny _ _ (Builtin.SmallTypes.nextOf (.ref i2) >>= _) _ _ _
    refine wpAny_bind (n2 h₁ h₂ hs₁ hs₂ _ fun h₃ h2₃ hs₃ => wpAny_pure (wpAny_pure (wpAny_pure ?_)))
    exact fin h₁ hz₁ hs₁ h₃ (h1₂.extBut hs₃.extBut D.i12) h2₃ (by rw [hs₃.1, hs₂.1, hs₁.1]) (hs₃.extBut _ _ D.i2z.symm (hs₂.extBut _ _ D.i1z.symm hz₁))
      fun c o c1 c2 c3 e => hs₃.extBut _ _ c3 (hs₂.extBut _ _ c2 (hs₁.extBut _ _ c1 e))
/-- its end -/
theorem zip_over {z TI TO i1 i2 l1 l2 a : Addr} {f : Bool} {oa : Obj} {k1 k2 : Nat} {xs ys : Array Value} {Q : Fin → Shared → Prop} (hh : A.handled = none)
    (D : ZipApart z TI TO i1 i2 l1 l2) (hz : ZipB s.heap z TI TO a f) (ha : s.heap.get? a = some oa) (haz : a ≠ z)
    (hTI : IsPair s.heap TI (.ref i1) (.ref i2)) (h1 : s.heap.IsListIter i1 l1 k1) (h2 : s.heap.IsListIter i2 l2 k2)
    (hl1 : s.heap.IsList l1 xs) (hl2 : s.heap.IsList l2 ys) (hend : xs[k1]? = none ∨ ys[k2]? = none)
    (hE : ∀ h' e, (∀ c o, c ≠ z → c ≠ i1 → c ≠ i2 → s.heap.get? c = some o → h'.get? c = some o) → (∃ o, h'.get? e = some o ∧ o.cls = .type "StopIteration") → E (.ref e) { s with heap := h' }) :
    wpAny (model prog w) A (Builtin.«zip.__next__» ⟨[.ref z], []⟩) Q E s := by
  obtain ⟨hp, g, dr, tk, os⟩ := s
  replace hz : ZipB hp z TI TO a f := hz
  show wpAny _ _ (field (.ref z) 2 >>= _) _ _ _
  refine wpAny_bind (wpAny_field hz rfl (x := .bool false) rfl ?_)
  show wpAny _ _ (field (.ref z) 3 >>= _) _ _ _
  refine wpAny_bind (wpAny_field hz rfl (x := .ref TI) rfl ?_)
  refine wpAny_bind (wpAny_seqItems hTI rfl ?_)
  show wpAny _ _ (Builtin.SmallTypes.ownedTupleIsFree (.ref z) >>= _) _ _ _
  refine wpAny_bind ?_
  unfold Builtin.SmallTypes.ownedTupleIsFree
  refine wpAny_bind (wpAny_field hz rfl (x := rawInt a) rfl ?_)
  show wpAny _ _ (loadIfAlive ((a : Int).toNat) >>= _) _ _ _
  rw [Int.toNat_natCast]
  refine wpAny_bind (PySem.W.kdx_alive ha ?_)
  simp only [Option.isNone_some, Bool.false_eq_true, if_false]
  refine wpAny_bind (wpAny_field hz rfl (x := .bool f) rfl ?_)
  have go : ∀ h₁ : Heap, Heap.SameBut z hp h₁ → ∀ R : Value → Shared → Prop, (∀ h₂, h₂.IsListIter i1 l1 (k1 + 1) → Heap.SameBut i1 h₁ h₂ → ∀ x, xs[k1]? = some x → R x ⟨h₂, g, dr, tk, os⟩) →
      wpAny (model prog w) A (Builtin.SmallTypes.nextOf (.ref i1)) R E ⟨h₁, g, dr, tk, os⟩ := fun h₁ hs₁ R q => by
    cases hx : xs[k1]? with
    | none => exact wpAny_nextOf_list_end hh (h1.extBut hs₁.extBut D.i1z) (hl1.extBut hs₁.extBut D.l1z) hx fun h₂ e hs₂ he => hE h₂ e (fun c o c1 c2 c3 x => hs₂ _ _ c2 (hs₁.extBut _ _ c1 x)) he
    | some x => exact wpAny_nextOf_list_item (h1.extBut hs₁.extBut D.i1z) (hl1.extBut hs₁.extBut D.l1z) hx fun h₂ a1 a2 => q h₂ a1 a2 x hx
  have go2 : ∀ h₁ h₂ : Heap, Heap.SameBut z hp h₁ → Heap.SameBut i1 h₁ h₂ → (∃ x, xs[k1]? = some x) → ∀ R : Value → Shared → Prop, 
      wpAny (model prog w) A (Builtin.SmallTypes.nextOf (.ref i2)) R E ⟨h₂, g, dr, tk, os⟩ := fun h₁ h₂ hs₁ hs₂ ⟨x, hx⟩ R => by
    have hy : ys[k2]? = none := by
      rcases hend with h | h
      · rw [h] at hx; cases hx
      · exact h
    exact wpAny_nextOf_list_end hh ((h2.extBut hs₁.extBut D.i2z).extBut hs₂.extBut D.i12.symm) ((hl2.extBut hs₁.extBut D.l2z).extBut hs₂.extBut D.l2i1) hy fun h₃ e hs₃ he =>
      hE h₃ e (fun c o c1 c2 c3 x => hs₃ _ _ c3 (hs₂.extBut _ _ c2 (hs₁.extBut _ _ c1 x))) he
  cases f with
  | true =>
    rw [if_neg (show ¬ ((Value.bool true != Value.bool true) = true) from Bool.false_ne_true)]
    refine wpAny_pure ?_
    simp only [Bool.false_eq_true, if_false]
    simp only [← Array.forIn_toList, List.forIn_cons, List.forIn_nil]
    refine wpAny_bind (wpAny_bind (wpAny_bind (wpAny_holding ?_)))
    show wpAny _ _ (Builtin.SmallTypes.nextOf (.ref i1) >>= _) _ _ _
    refine wpAny_bind (go hp (Heap.SameBut.refl _ _) _ fun h₂ h1₂ hs₂ x hx => wpAny_pure (wpAny_pure ?_))
    refine wpAny_bind (wpAny_bind (wpAny_holding ?_))
    show wpAny _ _ (Builtin.SmallTypes.nextOf (.ref i2) >>= _) _ _ _
    exact wpAny_bind (go2 hp h₂ (Heap.SameBut.refl _ _) hs₂ ⟨x, hx⟩ _)
  | false =>
    rw [if_pos (show (Value.bool false != Value.bool true) = true from rfl)]
    refine wpAny_bind (wpAny_setField_rec hz (by simp) fun h₁ hz₁ hs₁ => wpAny_pure ?_)
    simp only [Bool.false_eq_true, if_false]
    simp only [← Array.forIn_toList, List.forIn_cons, List.forIn_nil]
    refine wpAny_bind (wpAny_bind (wpAny_bind (wpAny_holding ?_)))
    show wpAny _ _ (Builtin.SmallTypes.nextOf (.ref i1) >>= _) _ _ _
    refine wpAny_bind (go h₁ hs₁ _ fun h₂ h1₂ hs₂ x hx => wpAny_pure (wpAny_pure ?_))
    refine wpAny_bind (wpAny_bind (wpAny_holding ?_))
    show wpAny _ _ (Builtin.SmallTypes.nextOf (.ref i2) >>= _) _ _ _
    exact wpAny_bind (go2 h₁ h₂ hs₁ hs₂ ⟨x, hx⟩ _)
theorem pyNext_more {z TI TO i1 i2 l1 l2 a : Addr} {f : Bool} {oa : Obj} {k1 k2 : Nat} {xs ys : Array Value} {x y : Value} {Q : Option Value → Shared → Prop}
    (D : ZipApart z TI TO i1 i2 l1 l2) (hz : ZipB s.heap z TI TO a f) (ha : s.heap.get? a = some oa) (haz : a ≠ z)
    (hTI : IsPair s.heap TI (.ref i1) (.ref i2)) (h1 : s.heap.IsListIter i1 l1 k1) (h2 : s.heap.IsListIter i2 l2 k2)
    (hl1 : s.heap.IsList l1 xs) (hl2 : s.heap.IsList l2 ys) (hx : xs[k1]? = some x) (hy : ys[k2]? = some y)
    (hQ : ∀ h', ZipB h' z TI TO a true → h'.IsListIter i1 l1 (k1 + 1) → h'.IsListIter i2 l2 (k2 + 1) →
      IsPair h' s.heap.objs.size x y → h'.objs.size = s.heap.objs.size + 1 →
      (∀ c o, c ≠ z → c ≠ i1 → c ≠ i2 → s.heap.get? c = some o → h'.get? c = some o) → Q (some (.ref s.heap.objs.size)) { s with heap := h' }) :
    wpAny (model prog w) A (pyNext (.ref z)) Q E s := by
  have hT : s.TypeIs (.ref z) "zip" := ⟨_, hz, rfl⟩
  unfold pyNext
  exact wpAny_bind (wpAny_attempt (wpAny_callSpecial?_slot (name := Str.ofString "__next__") hT PySem.F.slot_zip_next
    (wpAny_call_entry PySem.F.slot_zip_next hT PySem.F.entry_zip_next
      (zip_more D hz ha haz hTI h1 h2 hl1 hl2 hx hy fun h' a1 a2 a3 a4 a5 a6 => wpAny_pure (hQ h' a1 a2 a3 a4 a5 a6)) (PySem.F.args_zip_next_1 _))))
theorem pyNext_over {z TI TO i1 i2 l1 l2 a : Addr} {f : Bool} {oa : Obj} {k1 k2 : Nat} {xs ys : Array Value} {Q : Option Value → Shared → Prop} (hh : A.handled = none)
    (D : ZipApart z TI TO i1 i2 l1 l2) (hz : ZipB s.heap z TI TO a f) (ha : s.heap.get? a = some oa) (haz : a ≠ z)
    (hTI : IsPair s.heap TI (.ref i1) (.ref i2)) (h1 : s.heap.IsListIter i1 l1 k1) (h2 : s.heap.IsListIter i2 l2 k2)
    (hl1 : s.heap.IsList l1 xs) (hl2 : s.heap.IsList l2 ys) (hend : xs[k1]? = none ∨ ys[k2]? = none)
    (hQ : ∀ h', (∀ c o, c ≠ z → c ≠ i1 → c ≠ i2 → s.heap.get? c = some o → h'.get? c = some o) → Q none { s with heap := h' }) :
    wpAny (model prog w) A (pyNext (.ref z)) Q E s := by
  have hT : s.TypeIs (.ref z) "zip" := ⟨_, hz, rfl⟩
  unfold pyNext
  refine wpAny_bind (wpAny_attempt (wpAny_callSpecial?_slot (name := Str.ofString "__next__") hT PySem.F.slot_zip_next
    (wpAny_call_entry PySem.F.slot_zip_next hT PySem.F.entry_zip_next (zip_over hh D hz ha haz hTI h1 h2 hl1 hl2 hend fun h' e hk he => ?_) (PySem.F.args_zip_next_1 _))))
  obtain ⟨o, ho, hc⟩ := he
  refine wpAny_bind (wpAny_isInstance (T := "StopIteration") (b := true) ⟨o, ho, hc⟩ isSubtype_stop ?_)
  exact wpAny_pure (hQ _ hk)
end
end TFZ

namespace TFZ
open PySem PySem.Calls PyProof.Rows PyProof.V PySem.Spec
structure ZSt (h : Heap) (z TI TO i1 i2 l1 l2 S : Addr) (xs ys : Array Value) (i : Nat) : Prop where
  zip : (IsZip h z TI TO .none ∧ ∃ a b, IsPair h TO a b) ∨ ∃ a f oa, ZipB h z TI TO a f ∧ h.get? a = some oa ∧ a ≠ z ∧ a ≠ S ∧ a ≠ i1 ∧ a ≠ i2
  pair : IsPair h TI (.ref i1) (.ref i2)
  one : h.IsListIter i1 l1 i
  two : h.IsListIter i2 l2 i
  left : h.IsList l1 xs
  right : h.IsList l2 ys
/-- where all that belongs to the zip lies: above the two lists, below the new list S -/
structure ZAt (z TI TO i1 i2 l1 l2 S lo : Addr) : Prop where
  ap : ZipApart z TI TO i1 i2 l1 l2
  zS : z < S
  TIS : TI < S
  TOS : TO < S
  i1S : i1 < S
  i2S : i2 < S
  loz : lo ≤ z
  loTI : lo ≤ TI
  loTO : lo ≤ TO
  lo1 : lo ≤ i1
  lo2 : lo ≤ i2
  l1lo : l1 < lo
  l2lo : l2 < lo
theorem ZSt.keep {h h' : Heap} {z TI TO i1 i2 l1 l2 S lo : Addr} {xs ys : Array Value} {i : Nat} (x : ZSt h z TI TO i1 i2 l1 l2 S xs ys i) (P : ZAt z TI TO i1 i2 l1 l2 S lo)
    (hk : ∀ b o, b ≠ S → h.get? b = some o → h'.get? b = some o) : ZSt h' z TI TO i1 i2 l1 l2 S xs ys i := by
  have q : ∀ {b : Addr}, b < S → ∀ o, h.get? b = some o → h'.get? b = some o := fun l o e => hk _ o (Nat.ne_of_lt l) e
  have lo' : lo ≤ S := Nat.le_trans P.loz (Nat.le_of_lt P.zS)
  refine ⟨?_, q P.TIS _ x.pair, x.one.at fun o e => q P.i1S o e, x.two.at fun o e => q P.i2S o e, x.left.at fun o e => q (Nat.lt_of_lt_of_le P.l1lo lo') o e, x.right.at fun o e => q (Nat.lt_of_lt_of_le P.l2lo lo') o e⟩
  rcases x.zip with ⟨e, a, b, e2⟩ | ⟨a, f, oa, e, ha, h1, h2, h3, h4⟩
  · exact .inl ⟨q P.zS _ e, a, b, q P.TOS _ e2⟩
  · exact .inr ⟨a, f, oa, q P.zS _ e, hk a oa h2 ha, h1, h2, h3, h4⟩
section
variable {prog : Program} {w : World} {A : Around} {E : Value → Shared → Prop} {s : Shared} {z TI TO i1 i2 l1 l2 S lo : Addr} {xs ys : Array Value} {i : Nat}
theorem z_item (P : ZAt z TI TO i1 i2 l1 l2 S lo) {x y : Value} {Q : Option Value → Shared → Prop} (st : ZSt s.heap z TI TO i1 i2 l1 l2 S xs ys i) (hS : S < s.heap.objs.size) (hx : xs[i]? = some x) (hy : ys[i]? = some y)
    (hQ : ∀ h', ZSt h' z TI TO i1 i2 l1 l2 S xs ys (i + 1) → IsPair h' s.heap.objs.size x y → h'.objs.size = s.heap.objs.size + 1 →
      (∀ c o, c ≠ z → c ≠ TO → c ≠ i1 → c ≠ i2 → s.heap.get? c = some o → h'.get? c = some o) → Q (some (.ref s.heap.objs.size)) { s with heap := h' }) : wpAny (model prog w) A (pyNext (.ref z)) Q E s := by
  have D := P.ap
  have new : ∀ {b : Addr}, b < S → s.heap.objs.size ≠ b := fun l => Nat.ne_of_gt (Nat.lt_trans l hS)
  rcases st.zip with ⟨e, a, b, e2⟩ | ⟨a, f, oa, e, ha, g1, g2, g3, g4⟩
  · refine wpAny_pyNext_zip_item D e st.pair e2 st.one st.two st.left st.right hx hy fun h' a1 a2 a3 a4 a5 a6 hk => ?_
    refine hQ h' ⟨.inr ⟨_, false, _, a1, a5, new P.zS, Nat.ne_of_gt hS, new P.i1S, new P.i2S⟩, hk _ _ D.TIz D.TITO D.TIi1 D.TIi2 st.pair, a3, a4, st.left.at fun o q => hk _ o D.l1z D.l1TO D.l1i1 D.l1i2 q,
      st.right.at fun o q => hk _ o D.l2z D.l2TO D.l2i1 D.l2i2 q⟩ a5 a6 hk
  · refine pyNext_more D e ha g1 st.pair st.one st.two st.left st.right hx hy fun h' a1 a3 a4 a5 a6 hk => ?_
    refine hQ h' ⟨.inr ⟨a, true, oa, a1, hk a oa g1 g3 g4 ha, g1, g2, g3, g4⟩, hk _ _ D.TIz D.TIi1 D.TIi2 st.pair, a3, a4, st.left.at fun o q => hk _ o D.l1z D.l1i1 D.l1i2 q,
      st.right.at fun o q => hk _ o D.l2z D.l2i1 D.l2i2 q⟩ a5 a6 fun c o c1 _ c3 c4 => hk c o c1 c3 c4
theorem z_done (hh : A.handled = none) (P : ZAt z TI TO i1 i2 l1 l2 S lo) {Q : Option Value → Shared → Prop} (st : ZSt s.heap z TI TO i1 i2 l1 l2 S xs ys i) (hend : xs[i]? = none ∨ ys[i]? = none)
    (hQ : ∀ h', (∀ c o, c ≠ z → c ≠ TO → c ≠ i1 → c ≠ i2 → s.heap.get? c = some o → h'.get? c = some o) → Q none { s with heap := h' }) : wpAny (model prog w) A (pyNext (.ref z)) Q E s := by
  have D := P.ap
  rcases st.zip with ⟨e, a, b, e2⟩ | ⟨a, f, oa, e, ha, g1, g2, g3, g4⟩
  · exact wpAny_pyNext_zip_end hh D e st.pair e2 st.one st.two st.left st.right hend hQ
  · exact pyNext_over hh D e ha g1 st.pair st.one st.two st.left st.right hend fun h' hk => hQ h' fun c o c1 _ c3 c4 => hk c o c1 c3 c4
end
structure ZG (xs ys : Array Value) (lo : Addr) (h : Heap) (as : List Addr) : Prop where
  rise : as.Pairwise (· < ·)
  above : ∀ a ∈ as, lo < a
  pairs : ∀ (j : Nat) (a : Addr), as[j]? = some a → ∃ x y, xs[j]? = some x ∧ ys[j]? = some y ∧ IsPair h a x y
theorem ZG.there {xs ys : Array Value} {lo : Addr} {h : Heap} {as : List Addr} (g : ZG xs ys lo h as) {a : Addr} (ha : a ∈ as) : a < h.objs.size := by
  obtain ⟨j, hj⟩ := List.mem_iff_getElem?.mp ha
  obtain ⟨_, _, _, _, e⟩ := g.pairs j a hj
  exact Heap.lt_size e
abbrev lstAt (h : Heap) (S : Addr) (acc : Array Value) (c : Nat) : Prop := h.get? S = some { cls := .type "list", dict := none, data := .seq acc c, slots := #[] }
section
variable {prog : Program} {w : World} {A : Around} {s : Shared} {R : Result → Shared → Prop} {z TI TO i1 i2 l1 l2 S lo : Addr} {xs ys : Array Value}
theorem z_loop (hh : A.handled = none) (P : ZAt z TI TO i1 i2 l1 l2 S lo) (n : Nat) (hnn : n = min xs.size ys.size) (hn : n ≤ sizeLine) (res : Value) {h₁ : Heap} (hlo : h₁.objs.size ≤ lo)
    (hR : ∀ h' tk acc c as, (∀ b o, h₁.get? b = some o → h'.get? b = some o) → lstAt h' S acc c → as.length = n → ZG xs ys S h' as → acc.toList = as.map Value.ref →
      R (.ok (.ret res)) { s with heap := h', toks := tk }) :
    ∀ (k i : Nat) (h : Heap) (tk c : Nat) (acc : Array Value) (as : List Addr), n - i = k → i ≤ n → ZSt h z TI TO i1 i2 l1 l2 S xs ys i → (∀ b o, h₁.get? b = some o → h.get? b = some o) →
      lstAt h S acc c → acc.toList = as.map Value.ref → as.length = i → ZG xs ys S h as →
      codeAny (model prog w) A (.builtin "list.extend.loop" ⟨[.ref S, .ref z, res], []⟩) R { s with heap := h, toks := tk } := by
  have old : ∀ {b : Addr} {o : Obj}, h₁.get? b = some o → b < lo := fun e => Nat.lt_of_lt_of_le (Heap.lt_size e) hlo
  have loS : lo < S := Nat.lt_of_le_of_lt P.loz P.zS
  intro k
  induction k with
  | zero =>
    intro i h tk c acc as hk hi st hkeep hS hacc hal hG
    have hend : xs[i]? = none ∨ ys[i]? = none := by
      rcases Nat.le_total xs.size ys.size with q | q
      · exact .inl (Array.getElem?_eq_none (by omega))
      · exact .inr (Array.getElem?_eq_none (by omega))
    refine codeAny_builtin PySem.F.entry_extend_loop ?_
    rw [Around.under_plainId PySem.F.plain_extend_loop _]
    show wpAny _ A.in1 (pyNext (.ref z) >>= _) _ _ _
    refine wpAny_bind (z_done (s := { s with heap := h, toks := tk }) (A := A.in1) hh P st hend fun h' he => ?_)
    have up : ∀ b o, S ≤ b → h.get? b = some o → h'.get? b = some o := fun b o l e => he b o (Nat.ne_of_gt (Nat.lt_of_lt_of_le P.zS l)) (Nat.ne_of_gt (Nat.lt_of_lt_of_le P.TOS l)) (Nat.ne_of_gt (Nat.lt_of_lt_of_le P.i1S l)) (Nat.ne_of_gt (Nat.lt_of_lt_of_le P.i2S l)) e
    have dn : ∀ b o, b < lo → h.get? b = some o → h'.get? b = some o := fun b o l e => he b o (Nat.ne_of_lt (Nat.lt_of_lt_of_le l P.loz)) (Nat.ne_of_lt (Nat.lt_of_lt_of_le l P.loTO)) (Nat.ne_of_lt (Nat.lt_of_lt_of_le l P.lo1)) (Nat.ne_of_lt (Nat.lt_of_lt_of_le l P.lo2)) e
    refine wpAny_pure (hR h' tk acc c as (fun b o e => dn b o (old e) (hkeep b o e)) (up S _ (Nat.le_refl _) hS) (by omega) ⟨hG.rise, hG.above, fun j a hj => ?_⟩ hacc)
    obtain ⟨x, y, e1, e2, e3⟩ := hG.pairs j a hj
    exact ⟨x, y, e1, e2, up a _ (Nat.le_of_lt (hG.above a (List.mem_of_getElem? hj))) e3⟩
  | succ k ih =>
    intro i h tk c acc as hk hi st hkeep hS hacc hal hG
    have hx : i < xs.size := by omega
    have hy : i < ys.size := by omega
    have hsz : acc.size = i := by rw [← Array.length_toList, hacc, List.length_map, hal]
    have hSl : S < h.objs.size := Heap.lt_size hS
    refine codeAny_builtin PySem.F.entry_extend_loop ?_
    rw [Around.under_plainId PySem.F.plain_extend_loop _]
    show wpAny _ A.in1 (pyNext (.ref z) >>= _) _ _ _
    refine wpAny_bind (z_item (s := { s with heap := h, toks := tk }) P st hSl (Array.getElem?_eq_getElem hx) (Array.getElem?_eq_getElem hy) fun h' st' ht hz hkp => ?_)
    dsimp only at ht hz hkp ⊢
    have upS : ∀ b o, S ≤ b → h.get? b = some o → h'.get? b = some o := fun b o l e => hkp b o (Nat.ne_of_gt (Nat.lt_of_lt_of_le P.zS l)) (Nat.ne_of_gt (Nat.lt_of_lt_of_le P.TOS l)) (Nat.ne_of_gt (Nat.lt_of_lt_of_le P.i1S l)) (Nat.ne_of_gt (Nat.lt_of_lt_of_le P.i2S l)) e
    have dn : ∀ b o, b < lo → h.get? b = some o → h'.get? b = some o := fun b o l e => hkp b o (Nat.ne_of_lt (Nat.lt_of_lt_of_le l P.loz)) (Nat.ne_of_lt (Nat.lt_of_lt_of_le l P.loTO)) (Nat.ne_of_lt (Nat.lt_of_lt_of_le l P.lo1)) (Nat.ne_of_lt (Nat.lt_of_lt_of_le l P.lo2)) e
    have hS' := upS S _ (Nat.le_refl _) hS
    have up : ∀ b o, b ≠ S → h'.get? b = some o → (h'.update S (Obj.mapSeq (·.push (Value.ref h.objs.size)))).get? b = some o := fun b o hb e => (Heap.get?_update_other _ _ (Ne.symm hb)).trans e
    show wpAny _ A.in1 (updateSeq S (·.push (Value.ref h.objs.size)) >>= _) _ _ _
    refine wpAny_bind ?_
    refine wpAny_updateSeq hS' rfl (wpAny_pure ⟨plainId_quiet PySem.F.plain_extend_loop _, ih (i + 1) _ tk _ (acc.push (Value.ref h.objs.size)) (as ++ [h.objs.size]) (by omega) (by omega) (st'.keep P up)
      (fun b o e => up b o (Nat.ne_of_lt (Nat.lt_trans (old e) loS)) (dn b o (old e) (hkeep b o e))) (Heap.get?_update_self _ hS' rfl) (by rw [Array.toList_push, hacc, List.map_append]; rfl) (by rw [List.length_append, hal]; rfl) ⟨?_, ?_, ?_⟩⟩)
      (by rw [hsz]; omega) (by show (acc.push (Value.ref h.objs.size)).size ≤ sizeLine + 1; rw [Array.size_push, hsz]; omega)
    · refine List.pairwise_append.mpr ⟨hG.rise, List.pairwise_singleton _ _, fun a ha b hb => ?_⟩
      rw [List.mem_singleton.mp hb]
      exact hG.there ha
    · intro a ha
      rcases List.mem_append.mp ha with ha | ha
      · exact hG.above a ha
      · rw [List.mem_singleton.mp ha]; exact hSl
    · intro j b hj
      rcases Nat.lt_trichotomy j as.length with q | q | q
      · rw [List.getElem?_append_left q] at hj
        obtain ⟨x', y', e1, e2, e3⟩ := hG.pairs j b hj
        have hb := hG.above b (List.mem_of_getElem? hj)
        exact ⟨x', y', e1, e2, up b _ (Nat.ne_of_gt hb) (upS b _ (Nat.le_of_lt hb) e3)⟩
      · subst q
        have hb : h.objs.size = b := by simpa using hj
        subst hb
        exact ⟨_, _, by rw [hal]; exact Array.getElem?_eq_getElem hx, by rw [hal]; exact Array.getElem?_eq_getElem hy, up _ _ (Nat.ne_of_gt hSl) ht⟩
      · have hnone : (as ++ [h.objs.size])[j]? = none := List.getElem?_eq_none (by rw [List.length_append, List.length_singleton]; omega)
        rw [hnone] at hj; cases hj
end
theorem zip_no_len : typeLookup (.type "zip") "__len__" = pure none := by rw [typeLookup_type, builtinLookup_eq_fast]; kernel_rfl
theorem zip_no_hint : typeLookup (.type "zip") "__length_hint__" = pure none := by rw [typeLookup_type, builtinLookup_eq_fast]; kernel_rfl
end TFZ

namespace TFZ
open PySem PySem.Calls PyProof.Rows PyProof.V PySem.Spec
theorem ZSt.type {h : Heap} {z TI TO i1 i2 l1 l2 S : Addr} {xs ys : Array Value} {i : Nat} (x : ZSt h z TI TO i1 i2 l1 l2 S xs ys i) {s : Shared} (e : s.heap = h) : s.TypeIs (.ref z) "zip" := by
  rcases x.zip with ⟨q, _⟩ | ⟨_, _, _, q, _⟩
  · exact ⟨_, by rw [e]; exact q, rfl⟩
  · exact ⟨_, by rw [e]; exact q, rfl⟩
section
variable {prog : Program} {w : World} {A : Around} {E : Value → Shared → Prop} {s : Shared} {z TI TO i1 i2 l1 l2 S lo : Addr} {xs ys : Array Value}
theorem z_extend {R : Result → Shared → Prop} (hh : A.handled = none) (P : ZAt z TI TO i1 i2 l1 l2 S lo) (n : Nat) (hnn : n = min xs.size ys.size) (hn : n ≤ sizeLine) (res : Value) {h₁ : Heap} (hlo : h₁.objs.size ≤ lo) (c₀ : Nat)
    (hz0 : IsZip s.heap z TI TO .none) (st : ZSt s.heap z TI TO i1 i2 l1 l2 S xs ys 0) (hkeep : ∀ b o, h₁.get? b = some o → s.heap.get? b = some o) (hS : lstAt s.heap S #[] c₀)
    (hR : ∀ h' tk acc c as, (∀ b o, h₁.get? b = some o → h'.get? b = some o) → lstAt h' S acc c → as.length = n → ZG xs ys S h' as → acc.toList = as.map Value.ref →
      R (.ok (.ret res)) { s with heap := h', toks := tk }) :
    wpAny (model prog w) A.in1 (Builtin.List.listExtendWith (.ref S) (.ref z) res)
      (fun fin s' => match fin with | .done f => R (.ok f) s' | .again c' => c'.quiet = true ∧ codeAny (model prog w) A c' R s') (fun e s' => R (.error e) s') s := by
  have hSz : S ≠ z := Nat.ne_of_gt P.zS
  have loS : lo < S := Nat.lt_of_le_of_lt P.loz P.zS
  have key : ∀ (h : Heap) (c₁ tk : Nat), (∀ b o, b ≠ S → s.heap.get? b = some o → h.get? b = some o) → lstAt h S #[] c₁ →
      codeAny (model prog w) A (.builtin "list.extend.loop" ⟨[.ref S, .ref z, res], []⟩) R { s with heap := h, toks := tk } := fun h c₁ tk hk hS₁ =>
    z_loop (s := s) hh P n hnn hn res hlo hR n 0 h tk c₁ #[] [] (Nat.sub_zero _) (Nat.zero_le _) (st.keep P hk)
      (fun b o e => hk b o (Nat.ne_of_lt (Nat.lt_trans (Nat.lt_of_lt_of_le (Heap.lt_size e) hlo) loS)) (hkeep b o e)) hS₁ rfl rfl ⟨List.Pairwise.nil, (fun _ ha => nomatch ha), (fun j a hj => by simp at hj)⟩
  unfold Builtin.List.listExtendWith
  refine wpAny_bind (wpAny_typeOf (st.type rfl) ?_)
  have e1 : Builtin.List.listSameRef (.ref S) (.ref z) = false := by simp [Builtin.List.listSameRef, hSz]
  have e2 : (Value.type "zip" == Value.type "list") = false := by decide
  have e3 : (Value.type "zip" == Value.type "tuple") = false := by decide
  simp only [e1, e2, e3, Bool.or_false, Bool.false_eq_true, if_false]
  refine wpAny_bind (wpAny_pyIter_zip hz0 ?_)
  refine wpAny_bind (wpAny_holding ?_)
  unfold Builtin.List.listLengthHint
  refine wpAny_bind (wpAny_specialOf (st.type rfl) zip_no_len ?_)
  show wpAny _ A.in1 (specialOf (Value.ref z) (Str.ofString "__length_hint__") >>= _) _ _ _
  refine wpAny_bind (wpAny_specialOf (st.type rfl) zip_no_hint ?_)
  refine wpAny_pure ?_
  show wpAny _ A.in1 (rule "list.extend.makes-room" >>= fun _ => Builtin.List.listTouch (.ref S) >>= fun _ => again (.builtin "list.extend.loop" ⟨[.ref S, .ref z, res], []⟩)) _ _ _
  refine wpAny_bind (wpAny_rule ?_)
  refine wpAny_bind ?_
  show wpAny _ _ (updateSeq S (·.push .none) >>= fun _ => updateSeq S (·.pop)) _ _ _
  refine wpAny_bind (wpAny_updateSeq hS rfl ?_)
  have hS₂ := Heap.get?_update_self (Obj.mapSeq (·.push Value.none)) hS rfl
  refine wpAny_updateSeq (hz := by seq_fits) hS₂ rfl ?_
  have hS₃ := Heap.get?_update_self (Obj.mapSeq (·.pop)) hS₂ rfl
  refine wpAny_pure ⟨plainId_quiet PySem.F.plain_extend_loop _, key _ _ _ (fun b o hb e => ?_) hS₃⟩
  exact (Heap.get?_update_other _ _ (Ne.symm hb)).trans ((Heap.get?_update_other _ _ (Ne.symm hb)).trans e)
theorem z_init {R : Result → Shared → Prop} (hh : A.handled = none) (P : ZAt z TI TO i1 i2 l1 l2 S lo) (n : Nat) (hnn : n = min xs.size ys.size) (hn : n ≤ sizeLine) {h₁ : Heap} (hlo : h₁.objs.size ≤ lo)
    (hz0 : IsZip s.heap z TI TO .none) (st : ZSt s.heap z TI TO i1 i2 l1 l2 S xs ys 0) (hkeep : ∀ b o, h₁.get? b = some o → s.heap.get? b = some o) (hS : s.heap.get? S = some { cls := .type "list", data := .seq #[] })
    (hR : ∀ h' tk acc c as, (∀ b o, h₁.get? b = some o → h'.get? b = some o) → lstAt h' S acc c → as.length = n → ZG xs ys S h' as → acc.toList = as.map Value.ref →
      R (.ok (.ret .none)) { s with heap := h', toks := tk }) :
    wpAny (model prog w) A.in1 (Builtin.«list.__init__» ⟨[.ref S, .ref z], []⟩)
      (fun fin s' => match fin with | .done f => R (.ok f) s' | .again c' => c'.quiet = true ∧ codeAny (model prog w) A c' R s') (fun e s' => R (.error e) s') s := by
  have loS : lo < S := Nat.lt_of_le_of_lt P.loz P.zS
  show wpAny _ _ (do let old ← Builtin.List.listItems (.ref S); Builtin.List.listUpdate (.ref S) (fun _ => #[]); letGo old.toList.reverse; Builtin.List.listExtendWith (.ref S) (.ref z) .none) _ _ s
  refine wpAny_bind ?_
  unfold Builtin.List.listItems
  refine wpAny_bind (wpAny_seqItems hS rfl (wpAny_pure ?_))
  show wpAny _ _ (updateSeq S (fun _ => #[]) >>= fun _ => letGo (#[] : Array Value).toList.reverse >>= fun _ => Builtin.List.listExtendWith (.ref S) (.ref z) .none) _ _ s
  refine wpAny_bind (wpAny_updateSeq hS rfl ?_)
  have hS₂ := Heap.get?_update_self (Obj.mapSeq (fun _ => (#[] : Array Value))) hS rfl
  have oth : ∀ b o, b ≠ S → s.heap.get? b = some o → (s.heap.update S (Obj.mapSeq (fun _ => (#[] : Array Value)))).get? b = some o :=
    fun b o hb e => (Heap.get?_update_other _ _ (Ne.symm hb)).trans e
  refine wpAny_bind (wpAny_letGo ?_)
  exact z_extend hh P n hnn hn .none hlo _ (oth _ _ (Nat.ne_of_lt P.zS) hz0) (st.keep P oth)
    (fun b o e => oth b o (Nat.ne_of_lt (Nat.lt_trans (Nat.lt_of_lt_of_le (Heap.lt_size e) hlo) loS)) (hkeep b o e)) hS₂ hR
/-- list(zip) right behind the zip's making -/
theorem z_call {Q : Value → Shared → Prop} (hh : A.handled = none) (hl1 : s.heap.IsList l1 xs) (hl2 : s.heap.IsList l2 ys) {h₀ : Heap} (hlo : h₀.objs.size + 5 = s.heap.objs.size) (ha : l1 < h₀.objs.size) (hb : l2 < h₀.objs.size)
    (hz : IsZip s.heap (h₀.objs.size + 4) (h₀.objs.size + 2) (h₀.objs.size + 3) .none) (hTI : IsPair s.heap (h₀.objs.size + 2) (.ref h₀.objs.size) (.ref (h₀.objs.size + 1)))
    (hTO : IsPair s.heap (h₀.objs.size + 3) .none .none) (h1 : s.heap.IsListIter h₀.objs.size l1 0) (h2 : s.heap.IsListIter (h₀.objs.size + 1) l2 0) (hk : ∀ b o, h₀.get? b = some o → s.heap.get? b = some o)
    (n : Nat) (hnn : n = min xs.size ys.size) (hn : n ≤ sizeLine)
    (hQ : ∀ h' tk acc c as, (∀ b o, h₀.get? b = some o → h'.get? b = some o) → lstAt h' (h₀.objs.size + 5) acc c → as.length = n → ZG xs ys (h₀.objs.size + 5) h' as → acc.toList = as.map Value.ref →
      Q (.ref (h₀.objs.size + 5)) { s with heap := h', toks := tk }) :
    wpAny (model prog w) A (call (.type "list") [.ref (h₀.objs.size + 4)]) Q E s := by
  refine callType_codes (Q₁ := fun obj s₁ => obj = .ref s.heap.objs.size ∧ s₁ = { s with heap := s.heap.push { cls := .type "list", data := .seq #[] } }) PySem.F.called_list (PySem.F.typeCall_list_1 _) PySem.F.entry_list_init
    (code_list_new _ ⟨rfl, rfl⟩) fun obj s₁ h₁ => ?_
  obtain ⟨rfl, rfl⟩ := h₁
  have hS : (s.heap.push { cls := .type "list", data := .seq #[] }).get? s.heap.objs.size = some { cls := .type "list", data := .seq #[] } := Heap.get?_push_size _ rfl
  have lt5 : ∀ k : Nat, k < 5 → h₀.objs.size + k < s.heap.objs.size := fun k hk => by rw [← hlo]; exact Nat.add_lt_add_left hk _
  have P : ZAt (h₀.objs.size + 4) (h₀.objs.size + 2) (h₀.objs.size + 3) h₀.objs.size (h₀.objs.size + 1) l1 l2 s.heap.objs.size h₀.objs.size :=
    ⟨PySem.W.ktu_apart h₀.objs.size l1 l2 ha hb, lt5 4 (by decide), lt5 2 (by decide), lt5 3 (by decide), lt5 0 (by decide), lt5 1 (by decide), Nat.le_add_right _ _, Nat.le_add_right _ _, Nat.le_add_right _ _, Nat.le_refl _, Nat.le_add_right _ _, ha, hb⟩
  have up : ∀ b o, s.heap.get? b = some o → (s.heap.push { cls := .type "list", data := .seq #[] }).get? b = some o := fun b o e => Heap.get?_push_of_some _ e
  have st : ZSt (s.heap.push { cls := .type "list", data := .seq #[] }) (h₀.objs.size + 4) (h₀.objs.size + 2) (h₀.objs.size + 3) h₀.objs.size (h₀.objs.size + 1) l1 l2 s.heap.objs.size xs ys 0 :=
    ⟨.inl ⟨up _ _ hz, _, _, up _ _ hTO⟩, up _ _ hTI, h1.at fun o e => up _ o e, h2.at fun o e => up _ o e, hl1.at fun o e => up _ o e, hl2.at fun o e => up _ o e⟩
  refine ⟨⟨_, hS, rfl⟩, PySem.F.args_list_init_2 _ _, z_init (A := A.in1) hh P n hnn hn (Nat.le_refl _) (up _ _ hz) st (fun b o e => up b o (hk b o e)) hS (fun h' tk acc c as g1 g2 g3 g4 g5 => ?_)⟩
  rw [← hlo] at g2 g4
  rw [← hlo]
  exact ⟨rfl, hQ h' tk acc c as g1 g2 g3 g4 g5⟩
end
end TFZ

namespace TF
open PySem PySem.Spec PyProof.Rows L2 TFZ
/-- the pairs at their places -/
def putP : Hp → List Addr → List (V × V) → Hp
  | H, a :: as, p :: ps => putP (upd H a (.tup [p.1, p.2])) as ps
  | H, _, _ => H
theorem putP_off {b : Addr} : ∀ (as : List Addr) (ps : List (V × V)) (H : Hp), b ∉ as → putP H as ps b = H b
  | [], _, _, _ => rfl
  | _ :: _, [], _, _ => rfl
  | a :: as, p :: ps, H, h => by
    have h2 : b ≠ a ∧ b ∉ as := ⟨fun z => h (by rw [z]; exact List.mem_cons_self), fun z => h (List.mem_cons_of_mem _ z)⟩
    show putP (upd H a (.tup [p.1, p.2])) as ps b = H b
    rw [putP_off as ps _ h2.2, upd_ne h2.1]
theorem putP_at : ∀ (as : List Addr) (ps : List (V × V)) (H : Hp), as.Nodup → ∀ (j : Nat) (a : Addr) (p : V × V), as[j]? = some a → ps[j]? = some p → putP H as ps a = some (.tup [p.1, p.2])
  | [], _, _, _, j, a, p, h, _ => by simp at h
  | _ :: _, [], _, _, j, a, p, _, h => by simp at h
  | b :: as, q :: ps, H, hn, 0, a, p, h, h' => by
    have e1 : b = a := Option.some.inj h
    have e2 : q = p := Option.some.inj h'
    subst e1 e2
    show putP (upd H b (.tup [q.1, q.2])) as ps b = _
    rw [putP_off as ps _ (List.nodup_cons.mp hn).1, upd_same]
  | b :: as, q :: ps, H, hn, j + 1, a, p, h, h' => putP_at as ps _ (List.nodup_cons.mp hn).2 j a p h h'
section
variable {X : Cx} {pins : List (Addr × Obj)} {σ : L2.St} {H : Hp} {s : Shared}
theorem refs_vals : ∀ as : List Addr, Vals (as.map V.ref) (as.map Value.ref)
  | [] => .nil
  | _ :: as => .cons rfl (refs_vals as)
theorem pairs_laid {h' : Heap} {tk : Nat} {S : Addr} {xs ys : List V} {us ws : List Value} {acc : Array Value} {c : Nat} {as : List Addr} (I : Inv X pins σ H s) (hSz : s.heap.objs.size ≤ S)
    (rx : Vals xs us) (ry : Vals ys ws) (hz : as.length ≤ sizeLine) (hal : as.length = min xs.length ys.length) (hk : ∀ b o, s.heap.get? b = some o → h'.get? b = some o) (hS : lstAt h' S acc c)
    (hG : ZG us.toArray ws.toArray S h' as) (hacc : acc.toList = as.map Value.ref) :
    ∃ H' : Hp, (∀ b o, H b = some o → H' b = some o) ∧ H S = none ∧ H' S = some (.lst (as.map V.ref)) ∧
      (∀ (j : Nat) (a : Addr) (x y : V), as[j]? = some a → xs[j]? = some x → ys[j]? = some y → H' a = some (.tup [x, y])) ∧ Inv X pins σ H' { s with heap := h', toks := tk } := by
  have hSn : S ∉ as := fun z => Nat.lt_irrefl _ (hG.above _ z)
  have nd : as.Nodup := List.Pairwise.imp (fun {a b} (h : a < b) => Nat.ne_of_lt h) hG.rise
  have big : ∀ t ∈ as, s.heap.objs.size ≤ t := fun t ht => Nat.le_of_lt (Nat.lt_of_le_of_lt hSz (hG.above t ht))
  have new : ∀ t ∈ as, H t = none := fun t ht => I.hok.fresh (big t ht)
  have newS : H S = none := I.hok.fresh hSz
  have lz : (xs.zip ys).length = as.length := by rw [List.length_zip, hal]
  have zat : ∀ (j : Nat) (x y : V), xs[j]? = some x → ys[j]? = some y → (xs.zip ys)[j]? = some (x, y) := fun j x y e1 e2 => by
    rw [List.getElem?_zip_eq_some]; exact ⟨e1, e2⟩
  have atP : ∀ (j : Nat) (a : Addr) (x y : V), as[j]? = some a → xs[j]? = some x → ys[j]? = some y → putP (upd H S (.lst (as.map V.ref))) as (xs.zip ys) a = some (.tup [x, y]) :=
    fun j a x y e0 e1 e2 => putP_at as (xs.zip ys) _ nd j a (x, y) e0 (zat j x y e1 e2)
  have off : ∀ b, b ∉ as → b ≠ S → putP (upd H S (.lst (as.map V.ref))) as (xs.zip ys) b = H b := fun b h1 h2 => by rw [putP_off as _ _ h1, upd_ne h2]
  have low : ∀ b o, s.heap.get? b = some o → b ∉ as ∧ b ≠ S := fun b o e => ⟨fun z => absurd (Heap.lt_size e) (Nat.not_lt.mpr (big b z)), Nat.ne_of_lt (Nat.lt_of_lt_of_le (Heap.lt_size e) hSz)⟩
  have kp : ∀ b u, H b = some u → (putP (upd H S (.lst (as.map V.ref))) as (xs.zip ys)) b = some u := fun b u e => by
    rw [off b (fun z => by rw [new b z] at e; cases e) (fun z => by rw [z, newS] at e; cases e)]
    exact e
  have eS : putP (upd H S (.lst (as.map V.ref))) as (xs.zip ys) S = some (.lst (as.map V.ref)) := by rw [putP_off as _ _ hSn, upd_same]
  refine ⟨putP (upd H S (.lst (as.map V.ref))) as (xs.zip ys), kp, newS, eS, atP, ?_⟩
  refine I.call' (ch := []) rfl ⟨fun b o q _ _ _ => hk b o q, fun b o q _ _ _ => ⟨o.slots, hk b o q⟩, fun b o q n _ => ?_, fun b o q _ => ⟨o, hk b o q⟩, fun b xs q => kp b _ q, fun b o u q => kp b _ q, fun b ps q => ⟨#[], by rw [kp b _ q]; simp⟩⟩ (fun b u q => ?_) I.bare fun b z => by simp at z
  · obtain ⟨z1, z2⟩ := low b o q
    rw [off b z1 z2]
    exact n
  · by_cases hb : b ∈ as
    · obtain ⟨j, hj⟩ := List.mem_iff_getElem?.mp hb
      have hjl : j < as.length := (List.getElem?_eq_some_iff.mp hj).1
      have hjx : j < xs.length := by omega
      have hjy : j < ys.length := by omega
      obtain ⟨u1, f1, r1⟩ := rx.get (List.getElem?_eq_getElem hjx)
      obtain ⟨u2, f2, r2⟩ := ry.get (List.getElem?_eq_getElem hjy)
      obtain ⟨a1, a2, g1, g2, g3⟩ := hG.pairs j b hj
      have g1' : us[j]? = some a1 := by simpa using g1
      have g2' : ws[j]? = some a2 := by simpa using g2
      have d1 : u1 = a1 := Option.some.inj (f1.symm.trans g1')
      have d2 : u2 = a2 := Option.some.inj (f2.symm.trans g2')
      subst d1 d2
      rw [atP j b _ _ hj (List.getElem?_eq_getElem hjx) (List.getElem?_eq_getElem hjy)] at q
      cases q
      exact ⟨by show 2 ≤ sizeLine; decide, [u1, u2], .cons r1 (.cons r2 .nil), ⟨_, g3, rfl, _, rfl⟩⟩
    · by_cases hb2 : b = S
      · rw [hb2] at q ⊢
        rw [eS] at q
        cases q
        refine ⟨by rw [List.length_map]; exact hz, acc.toList, c, by rw [hacc]; exact refs_vals as, ?_⟩
        rw [Array.toArray_toList]
        exact hS
      · rw [off b hb hb2] at q
        exact (I.hok b u q).stay (fun d v _ y => hk d v y) (fun d y => kp d _ y) fun d xs y => kp d _ y
/-- list(zip(e, e2)) of two lists -/
def tListZip (K : PySem.W.Frag) (ta : TA) : TE := fun σ H Q => ta σ H fun vs H1 => ∃ (a b : Addr) (xs ys : List V), vs = [.ref a, .ref b] ∧ SqL K H1 a xs ∧ SqL K H1 b ys ∧
  ∀ (H' : Hp) (p : Addr) (ts : List Addr), (∀ b o, H1 b = some o → H' b = some o) → H1 p = none → H' p = some (.lst (ts.map V.ref)) → ts.length = min xs.length ys.length →
    (∀ (j : Nat) (t : Addr) (x y : V), ts[j]? = some t → xs[j]? = some x → ys[j]? = some y → H' t = some (.tup [x, y])) → Q (.ref p) H'
theorem pe_listZip {e e2 : Expr} {ta : TA} {p p2 cpos pos : Pos} (hc : X.calm = true) (hg : Gl X "list") (hm : X.mg "list" = none) (hg2 : Gl X "zip") (hm2 : X.mg "zip" = none) (ha : PA X [e, e2] ta)
    (hv : bootBuiltins "list" = some (.type "list")) (hs2 : starEach [e, e2] X.env = (false, eval e X.env) :: starEach [e2] X.env := by rfl) (hpl : (backTo cpos (starEach [e2] X.env)).any (·.1) = false := by rfl)
    (hs : starEach [.Call (.Name "zip" p2) [e, e2] [] cpos] X.env = (false, eval (.Call (.Name "zip" p2) [e, e2] [] cpos) X.env) :: starEach [] X.env := by rfl) :
    PE X (.Call (.Name "list" p) [.Call (.Name "zip" p2) [e, e2] [] cpos] [] pos) (tListZip X.K ta) := by
  refine ⟨fun pins s σ H Q I hq => ?_⟩
  refine wpAny_Call_Name_kw (ld_blt I hg hm hv ?_)
  refine PyProof.Rows.callWith_type1 ?_ hs rfl
  rw [hs]
  show wpAny _ _ (spliced ((false, eval (.Call (.Name "zip" p2) [e, e2] [] cpos) X.env) :: backTo pos (starEach [] X.env))) _ _ s
  refine Calls.spliced_cons ?_
  refine Call_ (ld_blt I hg2 hm2 PyProof.Rows.boot_zip (PyProof.Rows.callWith_type1 (thn (ha.run cpos pins s σ H _ I hq) fun us s1 ⟨vs, H1, I1, r1, q1⟩ => ?_) hs2 hpl))
  obtain ⟨a, b, xs, ys, ex, hqx, hqy, q⟩ := q1
  subst ex
  cases r1 with
  | cons r rr =>
    cases rr with
    | cons r' rr =>
      cases rr
      cases r
      cases r'
      obtain ⟨its, rv, p1, z1⟩ := I1.list hqx
      obtain ⟨its2, rv2, p2', z2⟩ := I1.list hqy
      have la : a < s1.heap.objs.size := p1.lt
      have lb : b < s1.heap.objs.size := p2'.lt
      refine call_zip_2 p1.isList p2'.isList fun h' hz hTI hTO h1 h2 hsz hk => ?_
      refine Calls.spliced_nil ?_
      have I2 : Inv X pins σ H1 { s1 with heap := h' } := I1.kept (t' := s1.toks) hk
      have lx := rv.length
      have ly := rv2.length
      refine z_call (s := { s1 with heap := h' }) (h₀ := s1.heap) (I1.ok.hd hc) (p1.isList.at fun o e => hk _ o e) (p2'.isList.at fun o e => hk _ o e) (by show _ = h'.objs.size; rw [hsz]) la lb hz hTI hTO h1 h2 hk (min xs.length ys.length) (by rw [List.size_toArray, List.size_toArray, lx, ly]) (Nat.le_trans (Nat.min_le_left _ _) z1)
        fun h3 tk acc c as g1 g2 g3 g4 g5 => ?_
      obtain ⟨H', k1, k2, k3, k4, J⟩ := pairs_laid (tk := tk) I1 (Nat.le_add_right _ 5) rv rv2 (by rw [g3]; exact Nat.le_trans (Nat.min_le_left _ _) z1) g3 g1 g2 g4 g5
      exact ⟨.ref _, H', J, rfl, q H' _ as k1 k2 k3 g3 k4⟩
end
end TF

namespace TF
open PySem PySem.Spec PyProof.Rows L2
section
variable {P : Program} {w : World} {K : PySem.W.Frag} {mg : Str → Option Value} {base : Heap}
theorem GOk.of {k : Nat} {f : Addr} {fd : FuncData} {ps : List Str} {sp : Sp} (F : FnOk P w K mg base CX0 k f fd ps sp) : GOk P w K mg base k f fd ps sp :=
  ⟨F.len, fun A outer s H args us vs Q E hr _ e0 hb r h => F.run A outer s H args us vs Q E hr e0 hb r h⟩
/-- THE RULE for such a def: its body, where no repr is running -/
theorem gok {x qual : Str} {st : Stmt} {f : Addr} {fd : FuncData} {N ps : List Str} {k : Nat} {sp : Sp} (F : Fun K x qual st f fd) (S : FnScope N ps (defScope st))
    (len : ∀ vs H Q E, sp vs H Q E → vs.length = ps.length)
    (hbody : ∀ (cdv : Value) (A : Around) (outer : List Env) (s : Shared) (H : Hp) (vs : List V) (Q : VK) (E : XK),
      Room k (A.deeper (envOfC qual (defScope st) s.heap.objs.size f cdv)) → A.guards = some [] → sp vs H Q E →
      ∃ t, PSs (cxOf CX0 P w K mg base N qual (defScope st) f cdv A outer s H E).nox (defBody st) t ∧ t { nx := fun _ H' => Q .non H', rt := Q } (start N vs) H) :
    GOk P w K mg base (k + 1) f fd ps sp := by
  obtain ⟨oc, od, kV, doc, pm, an, cdv, ct, osl, rfl, lk, hcd⟩ := F.ex
  refine ⟨len, fun A outer s H args us vs Q E hr hg e0 hb r hsp => ?_⟩
  have hl := len _ _ _ _ hsp
  have KX : K.In s.heap := e0.mod.kin.keeps fun b o e => (e0.bs b o e).1
  have lim : s.heap.NoLimit := e0.mod.nolimit.keeps fun b o e => (e0.bs b o e).1
  have kinds : ∀ y ∈ ps.zip us, (defScope st).names.lookup y.1 = some .local ∨
      ((defScope st).names.lookup y.1 = some .cell ∧ ((cellsFrom (s.heap.objs.size + 1) (defScope st).names []).lookup y.1).isSome = true) := by
    rintro ⟨n, v⟩ hy
    rcases S.par n (List.of_mem_zip hy).1 with q | q
    · exact .inl q
    · exact .inr ⟨q, PySem.W.cellsFrom_some _ _ _ (.inl q)⟩
  refine codeAny_call_function hr.depth (KX _ _ lk) rfl S.co S.gen rfl
    (PySem.W.codeRec_of KX hcd) (hb _ _ _ _ ?_)
  refine wpAny_newFunctionEnv_cells S.kind kinds fun env he s1 x => ?_
  subst he
  refine ⟨lim.keeps x.toInCall.keep, codeAny_func ?_⟩
  obtain ⟨t, ht, hq⟩ := hbody cdv A outer s H vs Q E (hr.deeper _) hg hsp
  have I := inv_start (CX := CX0) (E := E) S hr.hd e0 hl r x
  refine wpAny_mono (ht.nox.run [] s1 (start N vs) H _ I hq) (fun fl s' hs => ?_)
    fun e s' hs => hs
  have done : ∀ {σ' : L2.St} {H' : Hp} {v : V} {u : Value}, Inv (cxOf CX0 P w K mg base N qual (defScope st) f cdv A outer s H E) [] σ' H' s' →
      RelV v u → Q v H' → CE outer P w H s Q u s' := by
    intro σ' H' v u J rv q
    exact ⟨v, H', J.os, J.bare, J.base, J.hok, rv, q⟩
  cases fl with
  | ret u => obtain ⟨v, σ', H', J, rv, q⟩ := hs; exact done J rv q
  | next => obtain ⟨σ', H', J, q⟩ := hs; exact done (v := V.non) (u := Value.none) J rfl q
  | brk => obtain ⟨_, _, _, q⟩ := hs; exact q.elim
  | cont => obtain ⟨_, _, _, q⟩ := hs; exact q.elim
end
section
variable {X : Cx} {pins : List (Addr × Obj)} {σ : L2.St} {H : Hp} {s : Shared} {k : Nat} {f : Addr} {fd : FuncData} {ps : List Str} {sp : Sp} {ds : List Value} {dvs : List V} {x : Str} {p pos : Pos} {e : Expr} {es : List Expr} {t : TA} {E : XK}
/-- f(e, ..), f such a def -/
theorem pe_callG (F : GOk X.prog X.w X.K X.mg X.base k f fd ps sp) (hG : X.A.guards = some []) (hr : Room k X.A) (hg : Gl X x) (hm : X.mg x = some (.ref f))
    (hk : PySem.W.keepIn X.K (.ref f) = true) (hb : Binds X.K fd ps ds) (hd : Vals dvs ds) (hx : Passes CX0 X E) (ha : PA X (e :: es) t)
    (hdb : (x == ("__debug__" : Str)) = false := by decide) (he : starEach (e :: es) X.env = (false, eval e X.env) :: starEach es X.env := by rfl)
    (hpl : (backTo pos (starEach es X.env)).any (·.1) = false := by rfl) : PE X (.Call (.Name x p) (e :: es) [] pos) (tCall sp dvs E t) := by
  constructor
  intro pins s σ H Q I h
  refine wpAny_Call_Name_kw (ld_glob I hg hm ?_ hdb)
  refine PySem.W.callWith_K (h₀ := X.base) I.ok.mod.kin hk (thn (ha.run pos pins s σ H _ I h) fun us s1 hh => ?_) he hpl
  obtain ⟨vs, H1, I1, r, q⟩ := hh
  refine ⟨I1.kIn, ?_⟩
  have r2 : Vals (vs ++ dvs) (us ++ ds) := r.append hd
  have hl : (us ++ ds).length = ps.length := by
    rw [← r2.length]
    exact F.size _ _ _ _ q
  refine wpAny_call (codeAny_mono (F.runs X.A X.stack s1 H1 ⟨us, []⟩ (us ++ ds) (vs ++ dvs) Q E hr hG I1.env0 (hb s1 us I1.kIn hl) r2 q) fun r s' hq => ?_)
  cases r with
  | error e => exact hx pins σ H1 s1 e s' I1 hq
  | ok fl =>
    cases fl with
    | ret u => exact I1.after hq
    | next => exact hq.elim
    | brk => exact hq.elim
    | cont => exact hq.elim
/-- xs + ys, either a list to be read -/
def rCatS (K : PySem.W.Frag) : R2 := fun x y H Q => ∃ (l b : Addr) (xs zs : List V), x = .ref l ∧ y = .ref b ∧ SqL K H l xs ∧ SqL K H b zs ∧ xs.length + zs.length ≤ sizeLine ∧ ∀ p, H p = none → Q (.ref p) (upd H p (.lst (xs ++ zs)))
theorem op_catS : OpR X (binaryOp .Add) (rCatS X.K) := by
  intro pins s σ H x y v u Q I rx ry h
  obtain ⟨l, b, xs, zs, rfl, rfl, hH, hB, hz, q⟩ := h
  cases rx
  cases ry
  obtain ⟨its, r, p1, _⟩ := I.list hH
  obtain ⟨its2, r2, p2, _⟩ := I.list hB
  have n1 := r.length
  have n2 := r2.length
  obtain ⟨⟨c1, g1, w1, k1⟩, e1, z1, m1, y1⟩ := p1.isList
  obtain ⟨⟨c2, g2, w2, k2⟩, e2, z2, m2, y2⟩ := p2.isList
  simp only at z1 y1 z2 y2
  subst z1 y1 z2 y2
  have za : its.toArray.size + its2.toArray.size ≤ sizeLine := by
    rw [List.size_toArray, List.size_toArray]
    omega
  refine concat_meets ⟨_, e1, rfl⟩ ⟨_, e2, rfl⟩ noFill_list_add seq_list_add PySem.F.slot_list_add PySem.F.entry_list_add (PySem.F.args_list_add_2 _ _)
    (list_addW l b its.toArray its2.toArray m1 m2 g1 g2 k1 k2 za) ⟨e1, e2, ?_⟩
  rw [show its.toArray ++ its2.toArray = (its ++ its2).toArray by simp]
  exact ⟨.ref _, _, I.lnew (t' := s.toks) (r.append r2) (by rw [List.length_append]; omega), rfl, q _ I.fresh⟩
/-! ### the end of a law whose def is such a one -/
theorem law_callG {P : Program} {w : World} {K : PySem.W.Frag} {mg mb : Str → Option Value} {k : Nat} {fa a : Addr} {fd : FuncData} {x : Str} {sp : Sp} {s₁ : Shared} {vs : List Value} {ns : List Int}
    (KX : K.In s₁.heap) (hns : s₁.heap.Ns mainGlobals mg) (hb : s₁.heap.Ns builtinsNs mb) (hbb : ∀ x : Str, x ≠ "__name__" → mb x = bootBuiltins x)
    (hlim : s₁.heap.NoLimit) (hg : s₁.gens = #[]) (ha : s₁.heap.get? a = some { cls := .type "list", data := .seq vs.toArray })
    (hi : IntsAre vs ns) (hl : ns.length ≤ sizeLine) (hr : Room k callerA)
    (F : ∀ base : Heap, K.In base → base.Ns mainGlobals mg → GOk P w K mg base k fa fd [x] sp)
    (hbind : ∀ (s : Shared) (u : Value), BindsTo s fd ⟨[u], []⟩ [(x, u)])
    (hsp : ∀ H : Hp, Only H → SqL K H a (ns.map V.int) → sp [.ref a] H (fun v _ => v = .bl true) fun _ _ _ => False) :
    codeAny (model P w) callerA (.call (.ref fa) ⟨[.ref a], []⟩)
      (fun r s' => r = .ok (.ret (.bool true)) ∧ OldK s₁.heap s'.heap ∧ s'.os = s₁.os ∧ AllBare s'.gens) s₁ := by
  have big : ∀ H : Hp, Only H → SqL K H a (ns.map V.int) → HOk P w H s₁.heap → (∀ b, H b ≠ none → b = a) → (H a ≠ none → K.lookup a = none) →
      codeAny (model P w) callerA (.call (.ref fa) ⟨[.ref a], []⟩)
        (fun r s' => r = .ok (.ret (.bool true)) ∧ OldK s₁.heap s'.heap ∧ s'.os = s₁.os ∧ AllBare s'.gens) s₁ := by
    intro H hO hS hok hA hK
    have low : ∀ {b : Addr} {o : Obj}, s₁.heap.get? b = some o → H b = none → (hidT s₁.heap H).get? b = some o := hidT_get
    have noD : ∀ {b : Addr} {o : Obj} {es : Array DictEntry} {ep : Nat}, s₁.heap.get? b = some o → o.data = .dict es ep → H b = none := by
      intro b o es ep e d
      cases q : H b with
      | none => rfl
      | some u =>
        have eb : b = a := hA b (by rw [q]; simp)
        rw [eb, ha] at e
        cases e
        exact absurd (show Data.seq vs.toArray _ = Data.dict es ep from d) (by simp)
    have nsK : ∀ {b : Addr} {m : Str → Option Value}, s₁.heap.Ns b m → (hidT s₁.heap H).Ns b m := by
      rintro b m ⟨o, es, ep, e, d, r⟩
      exact ⟨o, es, ep, low e (noD e d), d, r⟩
    have hKb : K.In (hidT s₁.heap H) := by
      intro b o e
      refine low (KX b o e) ?_
      cases q : H b with
      | none => rfl
      | some u =>
        have eb : b = a := hA b (by rw [q]; simp)
        rw [eb, hK (by rw [← eb, q]; simp)] at e
        cases e
    have hM : Mod K mg (hidT s₁.heap H) := ⟨hKb, nsK hns, ⟨mb, nsK hb, hbb⟩, hlim.elim fun mc h => ⟨mc, nsK h.1, h.2⟩⟩
    have e0 : Env0 P w K mg (hidT s₁.heap H) callerA [] s₁ H := by
      refine ⟨rfl, hM, fun b o e => of_hidT e, Nat.le_of_eq (hidT_size _ _), trivial, fun b hb => ?_, hok, .of_eq hg⟩
      exact absurd (show b ∈ ([] : List Addr) from hb) (by simp)
    refine codeAny_mono ((F _ hKb (nsK hns)).runs callerA [] s₁ H ⟨[.ref a], []⟩ [.ref a] [.ref a] _ _ hr rfl e0 (hbind s₁ (.ref a)) (.cons rfl .nil) (hsp H hO hS)) fun r s' h => ?_
    cases r with
    | error e => exact (show False from h).elim
    | ok fl =>
      cases fl with
      | next => exact h.elim
      | brk => exact h.elim
      | cont => exact h.elim
      | ret u =>
        obtain ⟨v, H', os, bare, un, hok', r', q⟩ := h
        have ev : v = .bl true := q
        subst ev
        obtain rfl : u = Value.bool true := r'
        refine ⟨rfl, OldK.of_keep fun b o e => ?_, os, bare⟩
        cases qb : H b with
        | none => exact un.keep b o e qb (fun z => absurd (show b ∈ ([] : List Addr) from z) (by simp)) (by simp)
        | some u =>
          rcases hO b with z | ⟨ob, xs, z⟩
          · rw [qb] at z
            cases z
          · obtain ⟨e1, _⟩ := hok b _ z
            obtain ⟨e2, _⟩ := hok' b _ (un.frzs b ob _ z)
            rw [e] at e1
            cases e1
            exact e2
  have rv := vals_ints hi
  have lenV := hi.length
  cases hk : K.lookup a with
  | some o =>
    have e := KX a o hk
    rw [ha] at e
    cases e
    refine big (fun _ => none) (fun _ => .inl rfl) (.inr ⟨_, vs.toArray, _, hk, rfl, rfl, rfl, by rw [List.size_toArray, lenV]; exact hl, by simpa using rv⟩) ?_ (fun b z => absurd rfl z) fun z => absurd rfl z
    intro b u z
    exact absurd (show (none : Option HO) = some u from z) (by simp)
  | none =>
    refine big (fun b => if b = a then some (.frz { cls := .type "list", data := .seq vs.toArray } (.lst (ns.map V.int))) else none) (fun b => ?_)
      (.inl (.inr ⟨{ cls := .type "list", data := .seq vs.toArray }, if_pos rfl⟩)) (fun b u z => ?_) (fun b z => ?_) fun _ => hk
    · by_cases hb : b = a
      · exact .inr ⟨_, _, if_pos hb⟩
      · exact .inl (if_neg hb)
    · by_cases hb : b = a
      · have z' := (if_pos hb).symm.trans z
        cases z'
        subst hb
        exact ⟨ha, by rw [List.length_map]; exact hl, vs, _, rv, ha⟩
      · have z' := (if_neg hb).symm.trans z
        cases z'
    · by_cases hb : b = a
      · exact hb
      · exact absurd (if_neg hb) z
theorem walk_ofG {l : PySem.W.OpenLaw} {n k : Nat} {q : Program} {loose : List Str} {XP : (Str → Option Value) → Heap → Prop} {YP : World → Heap → Prop} {d : DefRec} {K : Params → PySem.W.Frag} {sp : World → Sp} {x : Str}
    (hn : l.most = some n) (hn2 : n ≤ sizeLine) (hdf : d.params.defaults = []) (hr : Room k callerA)
    (hY : ∀ (w : World) (h : Heap), YP w h → (K w.params).In h)
    (F : ∀ (w : World) (mg : Str → Option Value) (fa : Addr) (h : Heap), (K w.params).In h → h.Ns mainGlobals mg → mg d.name = some (.ref fa) →
      ∃ fd : FuncData, (∀ (s : Shared) (u : Value), BindsTo s fd ⟨[u], []⟩ [(x, u)]) ∧
        ∀ base : Heap, (K w.params).In base → base.Ns mainGlobals mg → GOk l.prog w (K w.params) mg base k fa fd [x] (sp w))
    (hsp : ∀ (w : World) (H : Hp) (a : Addr) (ns : List Int), ns.length ≤ n → Only H → SqL (K w.params) H a (ns.map V.int) → sp w [.ref a] H (fun v _ => v = .bl true) fun _ _ _ => False) :
    PySem.W.WalkO q loose XP YP l.row.toRowW d [] (fun f vs => PySem.call f vs) := by
  refine Att.attach_call hn hdf fun w s₀ s₁ mg mb fa o pm cd doc a vs ns G Y ho hd hcd hmg hobj hints hlen hg => ?_
  have KX := hY w _ Y
  obtain ⟨fd, hb, hF⟩ := F w mg fa _ KX G.T.g hmg
  exact law_callG KX G.T.g G.T.b G.T.builtins G.T.nolimit hg hobj hints (Nat.le_trans hlen hn2) hr hF hb fun H hO hS => hsp w H a ns hlen hO hS
end
end TF

namespace TF
open PySem PySem.Spec PyProof.Rows L2 TM
section
variable {X : Cx} {pins : List (Addr × Obj)} {σ : L2.St} {H : Hp} {s : Shared} {k : Nat} {f : Addr} {fd : FuncData} {ps ks : List Str} {sp : Sp} {x : Str} {p pos : Pos} {E : XK}
theorem ip_of {op : Operator} {r : R2} (h : OpR X (inplaceOp op) r) : PIp X op r := fun pins s σ H x y v u Q I r1 r2 q => h pins s σ H x y v u Q I r1 r2 q
theorem iop_mulW : OpR X (inplaceOp .Mult) (rI CMulW fun i j => .int (i * j)) := opI fun _ _ _ _ _ _ _ hc q => imul_int q hc.ok
/-- how keywords alone bind -/
structure KB0 (K : PySem.W.Frag) (fd : FuncData) (ps ks : List Str) (g : {α : Type} → List α → List α) : Prop where
  to : ∀ (s : Shared) (ws : List Value), K.In s.heap → ws.length = ks.length → BindsTo s fd ⟨[], ks.zip ws⟩ (ps.zip (g ws))
  rel : ∀ {zs : List V} {ws : List Value}, Vals zs ws → Vals (g zs) (g ws)
def tCallW (sp : Sp) (n : Nat) (g : {α : Type} → List α → List α) (E : XK) (tk : TA) : TE := fun σ H Q => tk σ H fun zs H2 => zs.length = n ∧ sp (g zs) H2 Q E
/-- f(k = v, ..) by keywords alone -/
theorem pe_callK0 {g : {α : Type} → List α → List α} {kws : List Keyword} {tk : TA} (F : FnOk X.prog X.w X.K X.mg X.base CX0 k f fd ps sp) (hr : Room k X.A) (hg : Gl X x)
    (hm : X.mg x = some (.ref f)) (hk : PySem.W.keepIn X.K (.ref f) = true) (hb : KB0 X.K fd ps ks g) (hx : Passes CX0 X E) (hkw : PK X kws tk)
    (hall : (backToKw pos (keywordEach kws X.env)).all (·.1.isSome) = true := by rfl) (hks : (backToKw pos (keywordEach kws X.env)).filterMap (·.1) = ks := by rfl)
    (hdb : (x == ("__debug__" : Str)) = false := by decide)
    (hpl : ((backTo pos (starEach [] X.env)).any (·.1) || (backToKw pos (keywordEach kws X.env)).any (·.1.isNone)) = false := by rfl) :
    PE X (.Call (.Name x p) [] kws pos) (tCallW sp ks.length g E tk) := by
  constructor
  intro pins s σ H Q I h
  refine wpAny_Call_Name_kw (ld_glob I hg hm ?_ hdb)
  refine PySem.W.callWith_KW0 (h₀ := X.base) I.ok.mod.kin hk hall ?_ hpl
  refine thn (hkw.run pos pins s σ H _ I h) fun ws s2 hh => ?_
  obtain ⟨zs, H2, I2, rz, l0, q2⟩ := hh
  refine ⟨I2.kIn, ?_⟩
  rw [hks]
  have r2 := hb.rel rz
  have hl : ws.length = ks.length := by rw [← rz.length, l0]
  refine wpAny_call (codeAny_mono (F.run X.A X.stack s2 H2 ⟨[], ks.zip ws⟩ (g ws) (g zs) Q E hr I2.env0 (hb.to s2 ws I2.kIn hl) r2 q2) fun r s' hq => ?_)
  cases r with
  | error e => exact hx pins σ H2 s2 e s' I2 hq
  | ok fl =>
    cases fl with
    | ret u => exact I2.after hq
    | next => exact hq.elim
    | brk => exact hq.elim
    | cont => exact hq.elim
theorem kb_mk {K : PySem.W.Frag} {x qual : Str} {st : Stmt} {f : Addr} {fd : FuncData} {ps : List Str} (F : Fun K x qual st f fd)
    (h : ∀ (kV doc pm : Value) (an : Option Addr) (cdv ct : Value) (us : List Value), us.length = ps.length → bindArgs (PySem.W.fnOf x qual (defArgs st) (defBody st) (defScope st) .none kV doc pm an cdv ct) ⟨[], ps.zip us⟩ = pure (ps.zip us)) :
    KB0 K fd ps ps (fun l => l) := by
  obtain ⟨oc, od, kV, doc, pm, an, cdv, ct, osl, rfl, lk, hcd⟩ := F.ex
  exact ⟨fun s ws _ hl => .of_eq (h kV doc pm an cdv ct ws hl), fun r => r⟩
end
/-! ### values and short facts -/
def vn (n : Nat) : V := .int (n : Int)
theorem fmod_nat (n r : Nat) : (n : Int).fmod (r : Int) = ((n % r : Nat) : Int) := by
  rw [Int.fmod_eq_emod_of_nonneg _ (by omega)]; rfl
theorem div_nat (n r : Nat) : (n : Int) / (r : Int) = ((n / r : Nat) : Int) := rfl
theorem inV_two (l : List Nat) : inV (.int 2) (l.map vn) = decide (2 ∈ l) := by
  induction l with
  | nil => rfl
  | cons a l ih =>
    show (eqV (vn a) (.int 2) || inV (.int 2) (l.map vn)) = _
    rw [ih]
    show ((a : Int) == 2 || _) = _
    by_cases h : a = 2
    · subst h; simp
    · have h1 : ((a : Int) == 2) = false := by
        simp only [beq_eq_false_iff_ne]; omega
      have h2 : ¬ 2 = a := fun e => h e.symm
      simp [h1, h2]
theorem flat_vn (l : List Nat) : (l.map vn).all flatV = true := by
  rw [List.all_eq_true]
  intro x hx
  obtain ⟨a, _, rfl⟩ := List.mem_map.mp hx
  rfl
theorem small_ok {n b : Nat} (h : n ≤ b) (hb : b ≤ 1000000 := by decide) : n ≤ sizeLine := Nat.le_trans (Nat.le_trans h hb) (by decide)
theorem small_lt {n b : Nat} (h : n ≤ b) (hb : b ≤ 1000000 := by decide) : n < sizeLine := Nat.lt_of_le_of_lt (Nat.le_trans h hb) (by decide)
theorem same_new {H : Hp} {p : Addr} {o : HO} (h : H p = none) : Same H (upd H p o) := fun b x e => by
  rw [upd_ne (ne_of_none e h)]
  exact e
theorem Same.mut {H H' : Hp} {p : Addr} {o : HO} (e : Same H H') (h : H p = none) : Same H (upd H' p o) := fun a u ha => by
  rw [upd_ne (ne_of_none ha h)]
  exact e a u ha
end TF

namespace TF
open PySem PySem.Spec PyProof.Rows L2 TM
theorem Vals.rev : ∀ {zs : List V} {ws : List Value}, Vals zs ws → Vals zs.reverse ws.reverse
  | _, _, .nil => .nil
  | _, _, .cons a r => by
    rw [List.reverse_cons, List.reverse_cons]
    exact (Vals.rev r).append (.cons a .nil)
theorem room65 {k : Nat} {A : Around} (hr : Room k A) : A.units + 65 < cLine := by
  have := hr.un
  omega
theorem ne_no {a b : V} (h : a = b) : (!decide (a = b)) = true → False := by simp [h]
theorem two_no {n : Nat} (h : TM.plain n) : inV (.int 2) ((digs 3 n).map vn) = true → False := by
  rw [inV_two]
  exact fun c => h (of_decide_eq_true c)
theorem op_inK {X : Cx} (K : PySem.W.Frag) (h : X.K = K := by rfl) : OpR X (compareOp .In) (rIn K false) := by
  subst h
  exact op_in_seq
theorem op_notInK {X : Cx} (K : PySem.W.Frag) (h : X.K = K := by rfl) : OpR X (compareOp .NotIn) (rIn K true) := by
  subst h
  exact op_notIn_seq
/-- two parameters, given by name the other way round -/
theorem kb_mk2 {K : PySem.W.Frag} {x qual : Str} {st : Stmt} {f : Addr} {fd : FuncData} {p q : Str} (F : Fun K x qual st f fd)
    (h : ∀ (kV doc pm : Value) (an : Option Addr) (cdv ct : Value) (u v : Value), bindArgs (PySem.W.fnOf x qual (defArgs st) (defBody st) (defScope st) .none kV doc pm an cdv ct) ⟨[], [(q, v), (p, u)]⟩ = pure [(p, u), (q, v)]) :
    KB0 K fd [p, q] [q, p] (fun l => l.reverse) := by
  obtain ⟨oc, od, kV, doc, pm, an, cdv, ct, osl, rfl, lk, hcd⟩ := F.ex
  refine ⟨fun s ws _ hl => ?_, fun {zs ws} r => ?_⟩
  · match ws, hl with
    | [v, u], _ => exact .of_eq (h kV doc pm an cdv ct u v)
  · exact Vals.rev r
/-! ### data: ints, pairs of ints, lists of these -/
def prI (a b : Int) : PyData := .tuple [.int a, .int b]
section
variable {K : PySem.W.Frag} {H : Hp}
theorem dpAll_of : ∀ (vs : List V) (ds : List PyData), vs.length = ds.length → (∀ (j : Nat) (v : V) (d : PyData), vs[j]? = some v → ds[j]? = some d → Dp K H v d) → DpAll K H vs ds
  | [], [], _, _ => .nil
  | [], _ :: _, h, _ => by cases h
  | _ :: _, [], h, _ => by cases h
  | v :: vs, d :: ds, hl, h => .cons (h 0 v d rfl rfl) (dpAll_of vs ds (Nat.succ.inj hl) fun j v' d' e1 e2 => h (j + 1) v' d' e1 e2)
theorem dp_pair {t : Addr} {a b : Int} (h : SqT K H t [.int a, .int b]) : Dp K H (.ref t) (prI a b) := .tup h (.cons (.int a) (.cons (.int b) .nil))
theorem dp_ints {p : Addr} {l : List Int} (h : SqL K H p (l.map V.int)) : Dp K H (.ref p) (.list (l.map PyData.int)) := by
  refine .lst h (dpAll_of _ _ (by simp) fun j v d e1 e2 => ?_)
  rw [List.getElem?_map] at e1 e2
  cases hx : l[j]? with
  | none => rw [hx] at e1; cases e1
  | some x =>
    rw [hx] at e1 e2
    cases e1
    cases e2
    exact .int x
end
theorem prI_lay (a b : Int) : (prI a b).canLay0 = true := by simp [prI, PyData.canLay0, PyData.canLayAll0]
theorem prI_depth (a b : Int) : (prI a b).depth = 1 := by simp [prI, PyData.depth, PyData.depthAll]
theorem prI_nodict (a b : Int) : (prI a b).hasDict = false := by simp [prI, PyData.hasDict, PyData.hasDictAll]
theorem shaped_of {d : PyData} (h1 : d.canLay0 = true) (h2 : d.depth ≤ 64) : SeqAt.shaped d = true := by
  show (d.canLay0 && decide (d.depth ≤ 64)) = true
  rw [h1, decide_eq_true h2]
  rfl
theorem prI_shaped (a b : Int) : SeqAt.shaped (prI a b) = true := shaped_of (prI_lay a b) (by rw [prI_depth]; decide)
theorem prs_lay : ∀ l : List (Int × Int), PyData.canLayAll0 (l.map fun p => prI p.1 p.2) = true
  | [] => by simp [PyData.canLayAll0]
  | z :: l => by simp [PyData.canLayAll0, prI_lay z.1 z.2, prs_lay l]
theorem prs_depth : ∀ l : List (Int × Int), PyData.depthAll (l.map fun p => prI p.1 p.2) ≤ 1
  | [] => by simp [PyData.depthAll]
  | z :: l => by
    have h1 := prs_depth l
    have h2 := prI_depth z.1 z.2
    simp only [List.map_cons, PyData.depthAll]
    omega
theorem prs_shaped (l : List (Int × Int)) : SeqAt.shaped (.list (l.map fun p => prI p.1 p.2)) = true := by
  have h := prs_depth l
  refine shaped_of (by simp only [PyData.canLay0]; exact prs_lay l) ?_
  simp only [PyData.depth]
  omega
theorem prI_eqv (a b c d : Int) : PyData.eqv (prI a b) (prI c d) = decide (a = c ∧ b = d) := by
  have e : PyData.eqv (prI a b) (prI c d) = ((a == c) && ((b == d) && true)) := by simp only [prI, PyData.eqv, PyData.eqvAll]
  rw [e]
  by_cases h1 : a = c <;> by_cases h2 : b = d <;> simp [h1, h2]
theorem ints_lay : ∀ l : List Int, PyData.canLayAll0 (l.map PyData.int) = true
  | [] => by simp [PyData.canLayAll0]
  | z :: l => by simp [PyData.canLayAll0, PyData.canLay0, ints_lay l]
theorem ints_depth : ∀ l : List Int, PyData.depthAll (l.map PyData.int) = 0
  | [] => by simp [PyData.depthAll]
  | z :: l => by simp [PyData.depthAll, PyData.depth, ints_depth l]
theorem ints_shaped (l : List Int) : SeqAt.shaped (.list (l.map PyData.int)) = true :=
  shaped_of (by simp only [PyData.canLay0]; exact ints_lay l) (by simp only [PyData.depth, ints_depth]; omega)
/-! ### how long what repr shows is -/
theorem textFrom_le (B : Nat) : ∀ (ts : List Str) (k : Nat) (acc : Str), (∀ t ∈ ts, t.length ≤ B) → (textFrom k acc ts).length ≤ acc.length + ts.length * (B + 2)
  | [], k, acc, _ => by
    show acc.length ≤ _
    omega
  | t :: r, k, acc, h => by
    have ih := textFrom_le B r (k + 1) (acc ++ (if k > 0 then ", " else "" : String) ++ t) fun t' ht => h t' (List.mem_cons_of_mem _ ht)
    have e : (acc ++ (if k > 0 then ", " else "" : String) ++ t).length = acc.length + (if k > 0 then 2 else 0) + t.length := by
      rw [strLen_append, strLen_append]
      split <;> rfl
    have ht := h t List.mem_cons_self
    show (textFrom (k + 1) (acc ++ (if k > 0 then ", " else "" : String) ++ t) r).length ≤ _
    have h2 : (if k > 0 then 2 else 0 : Nat) ≤ 2 := by split <;> omega
    rw [List.length_cons, Nat.succ_mul]
    omega
theorem listText_le {B : Nat} {ts : List Str} (h : ∀ t ∈ ts, t.length ≤ B) : (listText ts).length ≤ 2 + ts.length * (B + 2) := by
  have e := textFrom_le B ts 0 "[" h
  unfold listText
  rw [strLen_append]
  have e1 : ((("[" : String) : Str)).length = 1 := rfl
  have e2 : ((("]" : String) : Str)).length = 1 := rfl
  omega
theorem piled_le {B : Nat} : ∀ {ts : List Str}, (∀ t ∈ ts, t.length ≤ B) → piled ts ≤ ts.length * (B + 2)
  | [], _ => by simp [piled]
  | t :: r, h => by
    have ih := piled_le (B := B) (ts := r) fun t' ht => h t' (List.mem_cons_of_mem _ ht)
    have ht := h t List.mem_cons_self
    simp only [piled] at ih ⊢
    rw [List.map_cons, List.sum_cons, List.length_cons, Nat.succ_mul]
    omega
theorem tupleText_le {B : Nat} {ts : List Str} (h0 : ts ≠ []) (h : ∀ t ∈ ts, t.length ≤ B) : (tupleText ts).length ≤ 4 + ts.length * (B + 2) := by
  have e := piled_le h
  have j := join_length_add ts h0
  unfold tupleText
  rw [strLen_append, strLen_append]
  have e1 : ((("(" : String) : Str)).length = 1 := rfl
  have e2 : (((if ts.length == 1 then ",)" else ")" : String) : Str)).length ≤ 2 := by split <;> decide
  omega
theorem shownAll_map : ∀ l : List PyData, PyData.shownAll l = l.map PyData.shown
  | [] => by simp [PyData.shownAll]
  | x :: l => by simp [PyData.shownAll, shownAll_map l]
theorem shown_int {i : Int} (h : i.natAbs.log2 < 1920) : (PyData.int i).shown.length ≤ 1921 := by
  simp only [PyData.shown]
  exact int_text_len_1921 h
theorem shown_list {B : Nat} {l : List PyData} (h : ∀ d ∈ l, d.shown.length ≤ B) : (PyData.list l).shown.length ≤ 2 + l.length * (B + 2) := by
  simp only [PyData.shown]
  rw [shownAll_map]
  have := listText_le (B := B) (ts := l.map PyData.shown) fun t ht => by
    obtain ⟨d, hd, rfl⟩ := List.mem_map.mp ht
    exact h d hd
  rw [List.length_map] at this
  exact this
theorem shown_prI {a b : Int} (ha : a.natAbs.log2 < 1920) (hb : b.natAbs.log2 < 1920) : (prI a b).shown.length ≤ 4000 := by
  show (tupleText (PyData.shownAll [.int a, .int b])).length ≤ 4000
  rw [shownAll_map]
  have := tupleText_le (B := 1921) (ts := [PyData.int a, PyData.int b].map PyData.shown) (by simp) fun t ht => by
    obtain ⟨d, hd, rfl⟩ := List.mem_map.mp ht
    simp only [List.mem_cons, List.not_mem_nil, or_false] at hd
    rcases hd with rfl | rfl
    · exact shown_int ha
    · exact shown_int hb
  exact Nat.le_trans this (by show 4 + 2 * (1921 + 2) ≤ 4000; decide)
theorem prI_show {a b : Int} (ha : a.natAbs.log2 < 1920) (hb : b.natAbs.log2 < 1920) : (prI a b).showable = true := by
  simp [prI, PyData.showable, PyData.showableAll, ha, hb]
theorem prs_show : ∀ {l : List (Int × Int)}, (∀ p ∈ l, p.1.natAbs.log2 < 1920 ∧ p.2.natAbs.log2 < 1920) → PyData.showableAll (l.map fun p => prI p.1 p.2) = true
  | [], _ => by simp [PyData.showableAll]
  | z :: l, h => by
    have h1 := h z List.mem_cons_self
    simp only [List.map_cons, PyData.showableAll, prI_show h1.1 h1.2, prs_show fun p hp => h p (List.mem_cons_of_mem _ hp), Bool.and_self]
theorem prs_nodict : ∀ l : List (Int × Int), PyData.hasDictAll (l.map fun p => prI p.1 p.2) = false
  | [] => by simp [PyData.hasDictAll]
  | z :: l => by simp [PyData.hasDictAll, prI_nodict z.1 z.2, prs_nodict l]
/-- what repr asks of a list of pairs -/
theorem prs_repr {l : List (Int × Int)} (h : ∀ p ∈ l, p.1.natAbs.log2 < 1920 ∧ p.2.natAbs.log2 < 1920) (hl : l.length ≤ 200) :
    (PyData.list (l.map fun p => prI p.1 p.2)).showable = true ∧ (PyData.list (l.map fun p => prI p.1 p.2)).hasDict = false ∧ (PyData.list (l.map fun p => prI p.1 p.2)).depth ≤ 60 ∧
      (PyData.list (l.map fun p => prI p.1 p.2)).shown.length ≤ sizeLine := by
  refine ⟨by simp only [PyData.showable]; exact prs_show h, by simp only [PyData.hasDict]; exact prs_nodict l, by simp only [PyData.depth]; have := prs_depth l; omega, ?_⟩
  refine Nat.le_trans (shown_list (B := 4000) fun d hd => ?_) ?_
  · obtain ⟨p, hp, rfl⟩ := List.mem_map.mp hd
    exact shown_prI (h p hp).1 (h p hp).2
  · rw [List.length_map]
    refine Nat.le_trans (Nat.add_le_add_left (Nat.mul_le_mul_right _ hl) 2) (by decide)
theorem ints_show : ∀ {l : List Int}, (∀ i ∈ l, i.natAbs.log2 < 1920) → PyData.showableAll (l.map PyData.int) = true
  | [], _ => by simp [PyData.showableAll]
  | z :: l, h => by
    have h1 := h z List.mem_cons_self
    simp [PyData.showableAll, PyData.showable, h1, ints_show fun p hp => h p (List.mem_cons_of_mem _ hp)]
theorem ints_nodict : ∀ l : List Int, PyData.hasDictAll (l.map PyData.int) = false
  | [] => by simp [PyData.hasDictAll]
  | z :: l => by simp [PyData.hasDictAll, PyData.hasDict, ints_nodict l]
theorem ints_repr {l : List Int} (h : ∀ i ∈ l, i.natAbs.log2 < 1920) (hl : l.length ≤ 200) :
    (PyData.list (l.map PyData.int)).showable = true ∧ (PyData.list (l.map PyData.int)).hasDict = false ∧ (PyData.list (l.map PyData.int)).depth ≤ 60 ∧ (PyData.list (l.map PyData.int)).shown.length ≤ sizeLine := by
  refine ⟨by simp only [PyData.showable]; exact ints_show h, by simp only [PyData.hasDict]; exact ints_nodict l, by simp only [PyData.depth, ints_depth]; omega, ?_⟩
  refine Nat.le_trans (shown_list (B := 1921) fun d hd => ?_) ?_
  · obtain ⟨p, hp, rfl⟩ := List.mem_map.mp hd
    exact shown_int (h p hp)
  · rw [List.length_map]
    refine Nat.le_trans (Nat.add_le_add_left (Nat.mul_le_mul_right _ hl) 2) (by decide)
theorem log_of {n b : Nat} (h : n < 2 ^ b) (hb : 0 < b) (h2 : b ≤ 1920) : ((n : Int)).natAbs.log2 < 1920 := by
  rw [Int.natAbs_natCast]
  exact Nat.lt_of_lt_of_le (PySem.Flt.log2_lt_of hb h) h2
end TF

namespace TF
open PySem PySem.Spec PyProof.Rows L2 TM
section
variable {X : Cx}
theorem op_eqK (K : PySem.W.Frag) (hu : X.A.units + 64 < cLine) (h : X.K = K := by rfl) : OpR X (compareOp .Eq) (rEqD K) := by
  subst h
  exact op_eqD hu
theorem op_neK (K : PySem.W.Frag) (hu : X.A.units + 64 < cLine) (h : X.K = K := by rfl) : OpR X (compareOp .NotEq) (rNeD K) := by
  subst h
  exact op_neD hu
theorem sl_listK (K : PySem.W.Frag) (h : X.K = K := by rfl) : SlR X (rSlL K) := by
  subst h
  exact sl_list
theorem ix_listK (K : PySem.W.Frag) (h : X.K = K := by rfl) : IxR X (rIxL K) := by
  subst h
  exact ix_list
theorem cr_sumK (K : PySem.W.Frag) (hc : X.calm = true) (h : X.K = K := by rfl) : CallR X (.builtin "sum") (rSum K) := by
  subst h
  exact cr_sum hc
theorem cr_maxK (K : PySem.W.Frag) (hc : X.calm = true) (h : X.K = K := by rfl) : CallR X (.builtin "max") (rMax K) := by
  subst h
  exact cr_max hc
end
/-- all but what stands at p -/
def But (p : Addr) (H H' : Hp) : Prop := ∀ q o, q ≠ p → H q = some o → H' q = some o
theorem But.refl (p : Addr) (H : Hp) : But p H H := fun _ _ _ e => e
theorem But.same {p : Addr} {H H1 H2 : Hp} (a : But p H H1) (b : Same H1 H2) : But p H H2 := fun q o n e => b q o (a q o n e)
theorem Same.but {p : Addr} {H H1 : Hp} (a : Same H H1) : But p H H1 := fun q o _ e => a q o e
theorem But.upd {p : Addr} {H H1 : Hp} {o : HO} (a : But p H H1) : But p H (upd H1 p o) := fun q u n e => by
  rw [upd_ne n]
  exact a q u n e
theorem But.trans {p : Addr} {H H1 H2 : Hp} (a : But p H H1) (b : But p H1 H2) : But p H H2 := fun q o n e => b q o n (a q o n e)
theorem dp_vns {K : PySem.W.Frag} {H : Hp} {p : Addr} {l : List Nat} (h : SqL K H p (l.map vn)) : Dp K H (.ref p) (.list (l.map fun n : Nat => PyData.int (n : Int))) := by
  have := dp_ints (K := K) (H := H) (p := p) (l := l.map fun n : Nat => (n : Int)) (by rw [List.map_map]; exact h)
  rw [List.map_map] at this
  exact this
theorem ints_eqv : ∀ l : List Int, PyData.eqv (.list (l.map PyData.int)) (.list (l.map PyData.int)) = true := by
  intro l
  simp only [PyData.eqv]
  induction l with
  | nil => simp [PyData.eqvAll]
  | cons x l ih => simp [PyData.eqvAll, PyData.eqv, ih]
end TF

namespace K04
open PySem PySem.Spec PyProof.Rows L2 TM TF
def topS (i : Nat) : Stmt := PySem.Challenge.pw_triplefree_k04_whole_gaps_sums_mirrors.main.body.getD i (.Pass ⟨0, 0, 0, 0⟩)
abbrev s_is_whole : Stmt := topS 4
abbrev N_is_whole : List Str := ["value"]
theorem sc_is_whole : FnScope N_is_whole ["value"] (defScope s_is_whole) := ⟨rfl, rfl, rfl, by decide +kernel, rfl, by decide +kernel, by decide +kernel⟩
abbrev s_is_number : Stmt := topS 5
abbrev N_is_number : List Str := ["value"]
theorem sc_is_number : FnScope N_is_number ["value"] (defScope s_is_number) := ⟨rfl, rfl, rfl, by decide +kernel, rfl, by decide +kernel, by decide +kernel⟩
abbrev s_is_between : Stmt := topS 6
abbrev N_is_between : List Str := ["value", "low", "high"]
theorem sc_is_between : FnScope N_is_between ["value", "low", "high"] (defScope s_is_between) := ⟨rfl, rfl, rfl, by decide +kernel, rfl, by decide +kernel, by decide +kernel⟩
abbrev s_check_number : Stmt := topS 7
abbrev N_check_number : List Str := ["value"]
theorem sc_check_number : FnScope N_check_number ["value"] (defScope s_check_number) := ⟨rfl, rfl, rfl, by decide +kernel, rfl, by decide +kernel, by decide +kernel⟩
abbrev s_ternary_digits : Stmt := topS 10
abbrev N_ternary_digits : List Str := ["number", "digits"]
theorem sc_ternary_digits : FnScope N_ternary_digits ["number"] (defScope s_ternary_digits) := ⟨rfl, rfl, rfl, by decide +kernel, rfl, by decide +kernel, by decide +kernel⟩
abbrev s_ternary_number : Stmt := topS 11
abbrev N_ternary_number : List Str := ["digits", "number", "digit"]
theorem sc_ternary_number : FnScope N_ternary_number ["digits"] (defScope s_ternary_number) := ⟨rfl, rfl, rfl, by decide +kernel, rfl, by decide +kernel, by decide +kernel⟩
abbrev s_base_member : Stmt := topS 12
abbrev N_base_member : List Str := ["number", "digits"]
theorem sc_base_member : FnScope N_base_member ["number"] (defScope s_base_member) := ⟨rfl, rfl, rfl, by decide +kernel, rfl, by decide +kernel, by decide +kernel⟩
abbrev s_in_base : Stmt := topS 13
abbrev N_in_base : List Str := ["x"]
theorem sc_in_base : FnScope N_in_base ["x"] (defScope s_in_base) := ⟨rfl, rfl, rfl, by decide +kernel, rfl, by decide +kernel, by decide +kernel⟩
abbrev s_base_rank : Stmt := topS 14
abbrev N_base_rank : List Str := ["x", "digits", "rank", "place"]
theorem sc_base_rank : FnScope N_base_rank ["x"] (defScope s_base_rank) := ⟨rfl, rfl, rfl, by decide +kernel, rfl, by decide +kernel, by decide +kernel⟩
abbrev s_base_gap : Stmt := topS 15
abbrev N_base_gap : List Str := ["number", "power"]
theorem sc_base_gap : FnScope N_base_gap ["number"] (defScope s_base_gap) := ⟨rfl, rfl, rfl, by decide +kernel, rfl, by decide +kernel, by decide +kernel⟩
abbrev s_base_sum : Stmt := topS 16
abbrev N_base_sum : List Str := ["number", "total", "place", "power", "whole", "rest", "ones"]
theorem sc_base_sum : FnScope N_base_sum ["number"] (defScope s_base_sum) := ⟨rfl, rfl, rfl, by decide +kernel, rfl, by decide +kernel, by decide +kernel⟩
abbrev s_mirror : Stmt := topS 17
abbrev N_mirror : List Str := ["x", "power", "greatest"]
theorem sc_mirror : FnScope N_mirror ["x", "power"] (defScope s_mirror) := ⟨rfl, rfl, rfl, by decide +kernel, rfl, by decide +kernel, by decide +kernel⟩
abbrev s_l_mixed : Stmt := topS 19
abbrev N_l_mixed : List Str := ["amount", "k"]
theorem sc_l_mixed : FnScope N_l_mixed ["amount", "k"] (defScope s_l_mixed) := ⟨rfl, rfl, rfl, by decide +kernel, rfl, by decide +kernel, by decide +kernel⟩
abbrev s_l_stream : Stmt := topS 20
abbrev N_l_stream : List Str := ["item", "k"]
theorem sc_l_stream : FnScope N_l_stream ["item", "k"] (defScope s_l_stream) := ⟨rfl, rfl, rfl, by decide +kernel, rfl, by decide +kernel, by decide +kernel⟩
abbrev s_l_draw : Stmt := topS 21
abbrev N_l_draw : List Str := ["stream", "top", "amount"]
theorem sc_l_draw : FnScope N_l_draw ["stream", "top"] (defScope s_l_draw) := ⟨rfl, rfl, rfl, by decide +kernel, rfl, by decide +kernel, by decide +kernel⟩
abbrev s_l_number : Stmt := topS 22
abbrev N_l_number : List Str := ["stream", "way", "found", "turn"]
theorem sc_l_number : FnScope N_l_number ["stream"] (defScope s_l_number) := ⟨rfl, rfl, rfl, by decide +kernel, rfl, by decide +kernel, by decide +kernel⟩
abbrev s_l_digits : Stmt := topS 23
abbrev N_l_digits : List Str := ["given", "radix", "found"]
theorem sc_l_digits : FnScope N_l_digits ["given", "radix"] (defScope s_l_digits) := ⟨rfl, rfl, rfl, by decide +kernel, rfl, by decide +kernel, by decide +kernel⟩
abbrev s_l_gap_right : Stmt := topS 24
abbrev N_l_gap_right : List Str := ["order", "great", "rest", "due"]
theorem sc_l_gap_right : FnScope N_l_gap_right ["order"] (defScope s_l_gap_right) := ⟨rfl, rfl, rfl, by decide +kernel, rfl, by decide +kernel, by decide +kernel⟩
abbrev s_l_sum_right : Stmt := topS 25
abbrev N_l_sum_right : List Str := ["order", "half", "great", "rest"]
theorem sc_l_sum_right : FnScope N_l_sum_right ["order"] (defScope s_l_sum_right) := ⟨rfl, rfl, rfl, by decide +kernel, rfl, by decide +kernel, by decide +kernel⟩
abbrev s_l_mirror_right : Stmt := topS 26
abbrev N_l_mirror_right : List Str := ["stream", "size", "half", "turn", "order", "member", "told", "due"]
theorem sc_l_mirror_right : FnScope N_l_mirror_right ["stream"] (defScope s_l_mirror_right) := ⟨rfl, rfl, rfl, by decide +kernel, rfl, by decide +kernel, by decide +kernel⟩
abbrev s_l_added_right : Stmt := topS 27
abbrev N_l_added_right : List Str := ["one", "two", "left", "right", "whole", "common", "pair"]
theorem sc_l_added_right : FnScope N_l_added_right ["one", "two"] (defScope s_l_added_right) := ⟨rfl, rfl, rfl, by decide +kernel, rfl, by decide +kernel, by decide +kernel⟩
abbrev s_law : Stmt := topS 28
abbrev N_law : List Str := ["script", "plain", "k", "item", "stream", "turn", "one", "two", "great", "order"]
theorem sc_law : FnScope N_law ["script"] (defScope s_law) := ⟨rfl, rfl, rfl, by decide +kernel, rfl, by decide +kernel, by decide +kernel⟩
structure Txt (K : PySem.W.Frag) (mg : Str → Option Value) where
  f_is_whole : Addr
  fd_is_whole : FuncData
  F_is_whole : Fun K "is_whole" "is_whole" s_is_whole f_is_whole fd_is_whole
  b_is_whole : Binds K fd_is_whole ["value"] []
  g_is_whole : mg "is_whole" = some (.ref f_is_whole)
  f_is_number : Addr
  fd_is_number : FuncData
  F_is_number : Fun K "is_number" "is_number" s_is_number f_is_number fd_is_number
  b_is_number : Binds K fd_is_number ["value"] []
  g_is_number : mg "is_number" = some (.ref f_is_number)
  f_is_between : Addr
  fd_is_between : FuncData
  F_is_between : Fun K "is_between" "is_between" s_is_between f_is_between fd_is_between
  b_is_between : Binds K fd_is_between ["value", "low", "high"] []
  g_is_between : mg "is_between" = some (.ref f_is_between)
  f_check_number : Addr
  fd_check_number : FuncData
  F_check_number : Fun K "check_number" "check_number" s_check_number f_check_number fd_check_number
  b_check_number : Binds K fd_check_number ["value"] []
  g_check_number : mg "check_number" = some (.ref f_check_number)
  f_ternary_digits : Addr
  fd_ternary_digits : FuncData
  F_ternary_digits : Fun K "ternary_digits" "ternary_digits" s_ternary_digits f_ternary_digits fd_ternary_digits
  b_ternary_digits : Binds K fd_ternary_digits ["number"] []
  g_ternary_digits : mg "ternary_digits" = some (.ref f_ternary_digits)
  f_ternary_number : Addr
  fd_ternary_number : FuncData
  F_ternary_number : Fun K "ternary_number" "ternary_number" s_ternary_number f_ternary_number fd_ternary_number
  b_ternary_number : Binds K fd_ternary_number ["digits"] []
  g_ternary_number : mg "ternary_number" = some (.ref f_ternary_number)
  f_base_member : Addr
  fd_base_member : FuncData
  F_base_member : Fun K "base_member" "base_member" s_base_member f_base_member fd_base_member
  b_base_member : Binds K fd_base_member ["number"] []
  g_base_member : mg "base_member" = some (.ref f_base_member)
  f_in_base : Addr
  fd_in_base : FuncData
  F_in_base : Fun K "in_base" "in_base" s_in_base f_in_base fd_in_base
  b_in_base : Binds K fd_in_base ["x"] []
  g_in_base : mg "in_base" = some (.ref f_in_base)
  f_base_rank : Addr
  fd_base_rank : FuncData
  F_base_rank : Fun K "base_rank" "base_rank" s_base_rank f_base_rank fd_base_rank
  b_base_rank : Binds K fd_base_rank ["x"] []
  g_base_rank : mg "base_rank" = some (.ref f_base_rank)
  f_base_gap : Addr
  fd_base_gap : FuncData
  F_base_gap : Fun K "base_gap" "base_gap" s_base_gap f_base_gap fd_base_gap
  b_base_gap : Binds K fd_base_gap ["number"] []
  g_base_gap : mg "base_gap" = some (.ref f_base_gap)
  kb_base_gap : KB0 K fd_base_gap ["number"] ["number"] (fun l => l)
  f_base_sum : Addr
  fd_base_sum : FuncData
  F_base_sum : Fun K "base_sum" "base_sum" s_base_sum f_base_sum fd_base_sum
  b_base_sum : Binds K fd_base_sum ["number"] []
  g_base_sum : mg "base_sum" = some (.ref f_base_sum)
  kb_base_sum : KB0 K fd_base_sum ["number"] ["number"] (fun l => l)
  f_mirror : Addr
  fd_mirror : FuncData
  F_mirror : Fun K "mirror" "mirror" s_mirror f_mirror fd_mirror
  b_mirror : Binds K fd_mirror ["x", "power"] []
  g_mirror : mg "mirror" = some (.ref f_mirror)
  kb_mirror : KB0 K fd_mirror ["x", "power"] ["power", "x"] (fun l => l.reverse)
  f_l_mixed : Addr
  fd_l_mixed : FuncData
  F_l_mixed : Fun K "_law_mixed" "_law_mixed" s_l_mixed f_l_mixed fd_l_mixed
  b_l_mixed : Binds K fd_l_mixed ["amount", "k"] []
  g_l_mixed : mg "_law_mixed" = some (.ref f_l_mixed)
  f_l_stream : Addr
  fd_l_stream : FuncData
  F_l_stream : Fun K "_law_stream" "_law_stream" s_l_stream f_l_stream fd_l_stream
  b_l_stream : Binds K fd_l_stream ["item", "k"] []
  g_l_stream : mg "_law_stream" = some (.ref f_l_stream)
  f_l_draw : Addr
  fd_l_draw : FuncData
  F_l_draw : Fun K "_law_draw" "_law_draw" s_l_draw f_l_draw fd_l_draw
  b_l_draw : Binds K fd_l_draw ["stream", "top"] []
  g_l_draw : mg "_law_draw" = some (.ref f_l_draw)
  f_l_number : Addr
  fd_l_number : FuncData
  F_l_number : Fun K "_law_number" "_law_number" s_l_number f_l_number fd_l_number
  b_l_number : Binds K fd_l_number ["stream"] []
  g_l_number : mg "_law_number" = some (.ref f_l_number)
  f_l_digits : Addr
  fd_l_digits : FuncData
  F_l_digits : Fun K "_law_digits" "_law_digits" s_l_digits f_l_digits fd_l_digits
  b_l_digits : Binds K fd_l_digits ["given", "radix"] []
  g_l_digits : mg "_law_digits" = some (.ref f_l_digits)
  f_l_gap_right : Addr
  fd_l_gap_right : FuncData
  F_l_gap_right : Fun K "_law_gap_right" "_law_gap_right" s_l_gap_right f_l_gap_right fd_l_gap_right
  b_l_gap_right : Binds K fd_l_gap_right ["order"] []
  g_l_gap_right : mg "_law_gap_right" = some (.ref f_l_gap_right)
  f_l_sum_right : Addr
  fd_l_sum_right : FuncData
  F_l_sum_right : Fun K "_law_sum_right" "_law_sum_right" s_l_sum_right f_l_sum_right fd_l_sum_right
  b_l_sum_right : Binds K fd_l_sum_right ["order"] []
  g_l_sum_right : mg "_law_sum_right" = some (.ref f_l_sum_right)
  f_l_mirror_right : Addr
  fd_l_mirror_right : FuncData
  F_l_mirror_right : Fun K "_law_mirror_right" "_law_mirror_right" s_l_mirror_right f_l_mirror_right fd_l_mirror_right
  b_l_mirror_right : Binds K fd_l_mirror_right ["stream"] []
  g_l_mirror_right : mg "_law_mirror_right" = some (.ref f_l_mirror_right)
  f_l_added_right : Addr
  fd_l_added_right : FuncData
  F_l_added_right : Fun K "_law_added_right" "_law_added_right" s_l_added_right f_l_added_right fd_l_added_right
  b_l_added_right : Binds K fd_l_added_right ["one", "two"] []
  g_l_added_right : mg "_law_added_right" = some (.ref f_l_added_right)
  f_law : Addr
  fd_law : FuncData
  F_law : Fun K "law" "law" s_law f_law fd_law
  b_law : Binds K fd_law ["script"] []
  g_law : mg "law" = some (.ref f_law)
  m_isinstance : mg "isinstance" = none
  m_int : mg "int" = none
  m_bool : mg "bool" = none
  m_reversed : mg "reversed" = none
  m_range : mg "range" = none
  m_len : mg "len" = none
  m_divmod : mg "divmod" = none
  m_max : mg "max" = none
  m_repr : mg "repr" = none
  m_list : mg "list" = none
  m_zip : mg "zip" = none
  m_enumerate : mg "enumerate" = none
  m_sum : mg "sum" = none
  t_MAX_POWER : Tok
  g_MAX_POWER : mg "MAX_POWER" = some (.int 2000 t_MAX_POWER)
section
variable {P : Program} {w : World} {K : PySem.W.Frag} {mg : Str → Option Value} {base : Heap}
/-! ### checks -/
def sp_is_whole (K : PySem.W.Frag) : Sp := fun vs H Q _ => ∃ i : Int, vs = [.int i] ∧ Q (.bl true) H
theorem ok_is_whole (T : Txt K mg) : FnOk P w K mg base CX0 1 T.f_is_whole T.fd_is_whole ["value"] (sp_is_whole K) := by
  have nd := sc_is_whole.nd
  refine T.F_is_whole.ok sc_is_whole (fun vs H Q E h => ?_) (fun cdv A outer s H vs Q E hr h => ?_)
  · obtain ⟨i, rfl, _⟩ := h
    rfl
  · obtain ⟨i, rfl, q⟩ := h
    refine ⟨_, (pss_one (ps_ret (pe_and (pe_callB call_isi (by rfl) T.m_isinstance (by decide +kernel) (pa_cons (pv 0) (pa_cons (pe_bltn (v := .ty "int") (by rfl) T.m_int (by decide +kernel) rfl) pa_nil))) (pe_one (pe_not (pe_callB call_isi (by rfl) T.m_isinstance (by decide +kernel) (pa_cons (pv 0) (pa_cons (pe_bltn (v := .ty "bool") (by rfl) T.m_bool (by decide +kernel) rfl) pa_nil)))))))), ?_⟩
    refine ⟨_, rfl, _, _, _, _, true, rfl, .ty "int", .base (.int i), kit_ty (by decide +kernel), true, rfl, iteT ?_⟩
    refine ⟨_, rfl, _, _, _, _, false, rfl, .ty "bool", .base (.int i), kit_ty (by decide +kernel), false, rfl, ?_⟩
    exact q
def sp_is_number (K : PySem.W.Frag) : Sp := fun vs H Q _ => ∃ n : Nat, vs = [vn n] ∧ Q (.bl true) H
theorem ok_is_number (T : Txt K mg) : FnOk P w K mg base CX0 2 T.f_is_number T.fd_is_number ["value"] (sp_is_number K) := by
  have nd := sc_is_number.nd
  refine T.F_is_number.ok sc_is_number (fun vs H Q E h => ?_) (fun cdv A outer s H vs Q E hr h => ?_)
  · obtain ⟨i, rfl, _⟩ := h
    rfl
  · obtain ⟨n, rfl, q⟩ := h
    refine ⟨_, (pss_one (ps_ret (pe_and (pe_call (ok_is_whole T) (hr.mono (by decide)) rfl T.g_is_whole T.F_is_whole.kp T.b_is_whole .nil pass0 (pa_cons (pv 0) pa_nil)) (pe_one (pe_cmpR op_ge (pv 0) pe_int (nomark _)))))), ?_⟩
    refine ⟨_, rfl, _, rfl, true, rfl, iteT ?_⟩
    refine ⟨_, rfl, _, _, rfl, rfl, ?_⟩
    show Q (.bl (decide ((0 : Int) ≤ (n : Int)))) H
    rw [decide_eq_true (show (0 : Int) ≤ (n : Int) by omega)]
    exact q
def sp_check_number (K : PySem.W.Frag) : Sp := fun vs H Q _ => ∃ n : Nat, vs = [vn n] ∧ Q .non H
theorem ok_check_number (T : Txt K mg) : FnOk P w K mg base CX0 3 T.f_check_number T.fd_check_number ["value"] (sp_check_number K) := by
  have nd := sc_check_number.nd
  refine T.F_check_number.ok sc_check_number (fun vs H Q E h => ?_) (fun cdv A outer s H vs Q E hr h => ?_)
  · obtain ⟨i, rfl, _⟩ := h
    rfl
  · obtain ⟨n, rfl, q⟩ := h
    refine ⟨_, (pss_one (ps_if (pt_not (pt_val (pe_call (ok_is_number T) (hr.mono (by decide)) rfl T.g_is_number T.F_is_number.kp T.b_is_number .nil pass0 (pa_cons (pv 0) pa_nil)))) (pss_one ps_never) pss_nil)), ?_⟩
    exact ⟨_, rfl, n, rfl, true, rfl, iteF q⟩
/-! ### digits -/
def Digits (H : Hp) (r n : Nat) (Q : VK) : Prop := ∀ H' p, Same H H' → H p = none → H' p = some (.lst ((digs r n).map vn)) → Q (.ref p) H'
def sp_ternary_digits (K : PySem.W.Frag) : Sp := fun vs H Q _ => ∃ n : Nat, vs = [vn n] ∧ n < 2 ^ 4000 ∧ Digits H 3 n Q
theorem ok_ternary_digits (T : Txt K mg) : FnOk P w K mg base CX0 1 T.f_ternary_digits T.fd_ternary_digits ["number"] (sp_ternary_digits K) := by
  have nd := sc_ternary_digits.nd
  refine T.F_ternary_digits.ok sc_ternary_digits (fun vs H Q E h => ?_) (fun cdv A outer s H vs Q E hr h => ?_)
  · obtain ⟨i, rfl, _⟩ := h
    rfl
  · obtain ⟨n, rfl, hn, q⟩ := h
    refine ⟨_, (pss_cons (ps_set (i := 1) nd rfl (.inl rfl) (pe_lst pa_nil))
      (pss_cons (ps_while PassesOwn.never (pt_cmpR op_gt (pv 0) pe_int (nomark _)) (pss_cons (ps_expr (pe_bm PySem.F.plainAttrs_list PySem.F.slot_list_append PySem.F.type_list_append mt_append (pv 1) (pa_cons (pe_op op_modN (pv 0) pe_int) pa_nil)))
      (pss_one (ps_aug (i := 0) nd rfl (.inl rfl) pe_int (ip_of iop_fdivW)))))
      (pss_one (ps_ret (pv 1))))), ?_⟩
    refine ⟨Nat.zero_le _, fun p hp => ?_⟩
    have hlen := digs_len (r := 3) (by omega) 4000 n hn
    refine while_by (fun σ H' => ∃ (m : Nat) (acc : List Nat), σ = [some (vn m), some (.ref p)] ∧ Same H H' ∧ H' p = some (.lst (acc.map vn)) ∧ acc ++ digs 3 m = digs 3 n)
      (fun σ _ => match σ with | some (.int m) :: _ => m.toNat | _ => 0) ⟨n, [], rfl, same_new hp, upd_same, rfl⟩ ?_ ?_
    · rintro σ H' ⟨m, acc, rfl, sm, e, ea⟩
      refine ⟨_, rfl, _, _, rfl, rfl, _, rfl, ite2 (fun c => ?_) (fun c => ?_)⟩
      · have hm : 0 < m := by have := of_decide_eq_true c; omega
        have hl : (acc.map vn).length ≤ 4000 := by
          have := congrArg List.length ea
          rw [List.length_append] at this
          rw [List.length_map]; omega
        refine ⟨_, rfl, .inl ⟨rfl, _, SqL.of e⟩, _, rfl, _, _, rfl, rfl, (by show (3 : Int) ≠ 0; decide), _, _, _, rfl, rfl, e, small_lt hl, ?_⟩
        refine ⟨_, rfl, _, _, rfl, rfl, wide_div (b := 2) (by decide) (by decide) (by decide) (by decide), ⟨m / 3, acc ++ [m % 3], ?_, ?_, ?_, ?_⟩, ?_⟩
        · rfl
        · exact Same.mut sm hp
        · rw [upd_same, List.map_append]
          exact congrArg (fun z => some (HO.lst (acc.map vn ++ [V.int z]))) (fmod_nat m 3)
        · rw [List.append_assoc, ← ea, digs_pos (by omega) hm]
          rfl
        · show (((m : Int) / ((3 : Nat) : Int)).toNat) < (m : Int).toNat
          rw [div_nat, Int.toNat_natCast, Int.toNat_natCast]
          omega
      · have hm : m = 0 := by
          have : ¬ (0 : Int) < (m : Int) := fun z => c (decide_eq_true z)
          omega
        subst hm
        rw [digs_zero, List.append_nil] at ea
        subst ea
        exact ⟨_, rfl, q H' p sm hp e⟩
    · rintro σ H' Q1 Q2 imp ⟨v, h1, i, j, h2, h3, k, h4, h5⟩
      exact ⟨v, h1, i, j, h2, h3, k, h4, imp _ _ h5⟩
def sp_in_base (K : PySem.W.Frag) : Sp := fun vs H Q _ => ∃ n : Nat, vs = [vn n] ∧ n < 2 ^ 4000 ∧ ∀ H', Same H H' → Q (.bl (decide (TM.plain n))) H'
theorem ok_in_base (T : Txt K mg) : FnOk P w K mg base CX0 4 T.f_in_base T.fd_in_base ["x"] (sp_in_base K) := by
  have nd := sc_in_base.nd
  refine T.F_in_base.ok sc_in_base (fun vs H Q E h => ?_) (fun cdv A outer s H vs Q E hr h => ?_)
  · obtain ⟨i, rfl, _⟩ := h
    rfl
  · obtain ⟨n, rfl, hn, q⟩ := h
    refine ⟨_, (pss_cons (ps_expr (pe_call (ok_check_number T) (hr.mono (by decide)) rfl T.g_check_number T.F_check_number.kp T.b_check_number .nil pass0 (pa_cons (pv 0) pa_nil)))
      (pss_one (ps_ret (pe_cmpR (op_notInK K) pe_int (pe_call (ok_ternary_digits T) (hr.mono (by decide)) rfl T.g_ternary_digits T.F_ternary_digits.kp T.b_ternary_digits .nil pass0 (pa_cons (pv 0) pa_nil)) rfl)))), ?_⟩
    refine ⟨_, rfl, n, rfl, _, rfl, n, rfl, hn, fun H' p sm hp e => ?_⟩
    refine ⟨p, _, rfl, .inl (SqL.of e), rfl, flat_vn _, ?_⟩
    show Q (.bl (!inV (.int 2) ((digs 3 n).map vn))) H'
    rw [inV_two, show (!decide (2 ∈ digs 3 n)) = decide (TM.plain n) by by_cases hh : 2 ∈ digs 3 n <;> simp [TM.plain, hh]]
    exact q H' sm

def sp_is_between (K : PySem.W.Frag) : Sp := fun vs H Q _ => ∃ a b c : Int, vs = [.int a, .int b, .int c] ∧ b ≤ a ∧ a ≤ c ∧ Q (.bl true) H
theorem ok_is_between (T : Txt K mg) : FnOk P w K mg base CX0 2 T.f_is_between T.fd_is_between ["value", "low", "high"] (sp_is_between K) := by
  have nd := sc_is_between.nd
  refine T.F_is_between.ok sc_is_between (fun vs H Q E h => ?_) (fun cdv A outer s H vs Q E hr h => ?_)
  · obtain ⟨a, b, c, rfl, _⟩ := h
    rfl
  · obtain ⟨a, b, c, rfl, h1, h2, q⟩ := h
    refine ⟨_, (pss_one (ps_ret (pe_and (pe_call (ok_is_whole T) (hr.mono (by decide)) rfl T.g_is_whole T.F_is_whole.kp T.b_is_whole .nil pass0 (pa_cons (pv 0) pa_nil)) (pe_one (pe_chain op_le op_le (pv 1) (pv 0) (pv 2)))))), ?_⟩
    refine ⟨_, rfl, a, rfl, true, rfl, iteT ?_⟩
    refine ⟨_, rfl, _, rfl, _, _, rfl, rfl, _, rfl, ite2 (fun _ => ?_) (fun z => absurd (decide_eq_true h1) z)⟩
    refine ⟨_, rfl, _, _, rfl, rfl, ?_⟩
    show Q (.bl (decide (a ≤ c))) H
    rw [decide_eq_true h2]
    exact q
theorem rd_lt : ∀ l : List Nat, (∀ d ∈ l, d < 3) → rd 3 l < 3 ^ l.length
  | [], _ => by show 0 < 1; omega
  | d :: l, h => by
    have h1 := h d List.mem_cons_self
    have h2 := rd_lt l fun x hx => h x (List.mem_cons_of_mem _ hx)
    show d + 3 * rd 3 l < 3 ^ (l.length + 1)
    rw [Nat.pow_succ]
    omega
theorem rd_drop {r : Nat} {l : List Nat} {i d : Nat} (h : l[i]? = some d) : rd r (l.drop i) = d + r * rd r (l.drop (i + 1)) := by
  obtain ⟨hi, rfl⟩ := List.getElem?_eq_some_iff.mp h
  rw [List.drop_eq_getElem_cons hi]
  rfl
theorem three_big {i : Nat} (h : i ≤ 4000) : 3 ^ i < 2 ^ 8000 :=
  Nat.lt_of_le_of_lt (Nat.pow_le_pow_right (by decide) h) (by decide +kernel : 3 ^ 4000 < 2 ^ 8000)
def sp_ternary_number (K : PySem.W.Frag) : Sp := fun vs H Q _ => ∃ (p : Addr) (l : List Nat), vs = [.ref p] ∧ H p = some (.lst (l.map vn)) ∧ l.length ≤ 4000 ∧ (∀ d ∈ l, d < 3) ∧ Q (vn (rd 3 l)) H
theorem ok_ternary_number (T : Txt K mg) : FnOk P w K mg base CX0 1 T.f_ternary_number T.fd_ternary_number ["digits"] (sp_ternary_number K) := by
  have nd := sc_ternary_number.nd
  refine T.F_ternary_number.ok sc_ternary_number (fun vs H Q E h => ?_) (fun cdv A outer s H vs Q E hr h => ?_)
  · obtain ⟨p, l, rfl, _⟩ := h
    rfl
  · obtain ⟨p, l, rfl, hp, hl, hd, q⟩ := h
    refine ⟨_, (pss_cons (ps_set (i := 1) nd rfl (.inl rfl) pe_int)
      (pss_cons (ps_for PassesOwn.never rfl (pi_reversed rfl T.m_reversed (pa_cons (pv 0) pa_nil)) (pg_name (i := 2) nd rfl (.inl rfl)) (pss_one (ps_set (i := 1) nd rfl (.inl rfl) (pe_op op_add (pe_op op_mulW pe_int (pv 1)) (pv 2)))))
      (pss_one (ps_ret (pv 1))))), ?_⟩
    refine ⟨_, rfl, p, l.map vn, rfl, SqL.of hp, ?_⟩
    refine for_it walk_rev (fun i σ H' => ∃ y2 : Option V, σ = [some (.ref p), some (vn (rd 3 (l.drop (l.length - i)))), y2] ∧ H' = H) ⟨none, ?_, rfl⟩ (fun i σ H' _ ⟨_, _, e⟩ => by rw [e]; exact SqL.of hp) ?_ ?_
    · rw [Nat.sub_zero, List.drop_length]
      rfl
    · rintro i x σ H1 H2 hi ⟨y2, rfl, rfl⟩ ⟨rfl, hx⟩
      rw [List.length_map] at hi hx
      obtain ⟨d, hdx, rfl⟩ : ∃ d, l[l.length - 1 - i]? = some d ∧ x = vn d := by
        rw [List.getElem?_map] at hx
        cases z : l[l.length - 1 - i]? with
        | none => rw [z] at hx; cases hx
        | some d => rw [z] at hx; exact ⟨d, rfl, (Option.some.inj hx).symm⟩
      have e := rd_drop (r := 3) hdx
      rw [show l.length - 1 - i + 1 = l.length - i by omega] at e
      have b0 : rd 3 (l.drop (l.length - i)) < 2 ^ 8000 := by
        refine Nat.lt_trans (rd_lt _ fun d hd' => hd d (List.mem_of_mem_drop hd')) (three_big ?_)
        rw [List.length_drop]
        omega
      refine ⟨_, rfl, _, _, rfl, rfl, wide_mul (a := 2) (b := 8000) (by decide) (by rw [Int.natAbs_natCast]; exact b0) (by decide) (by decide) (by decide), _, rfl, _, _, rfl, rfl, ⟨some (vn d), ?_, rfl⟩⟩
      have e2 : V.int (3 * (rd 3 (l.drop (l.length - i)) : Int) + (d : Int)) = vn (rd 3 (l.drop (l.length - (i + 1)))) := by
        rw [show l.length - (i + 1) = l.length - 1 - i by omega, e]
        unfold vn
        congr 1
        omega
      show [some (.ref p), some (V.int (3 * (rd 3 (l.drop (l.length - i)) : Int) + (d : Int))), some (vn d)] = _
      rw [e2]
    · rintro σ H1 ⟨y2, rfl, rfl⟩
      refine ⟨_, rfl, ?_⟩
      rw [List.length_map, Nat.sub_self, List.drop_zero]
      exact q
def sp_base_member (K : PySem.W.Frag) : Sp := fun vs H Q _ => ∃ n : Nat, vs = [vn n] ∧ n < 2 ^ 4000 ∧ ∀ H', Same H H' → Q (vn (B n)) H'
theorem ok_base_member (T : Txt K mg) : FnOk P w K mg base CX0 4 T.f_base_member T.fd_base_member ["number"] (sp_base_member K) := by
  have nd := sc_base_member.nd
  refine T.F_base_member.ok sc_base_member (fun vs H Q E h => ?_) (fun cdv A outer s H vs Q E hr h => ?_)
  · obtain ⟨n, rfl, _⟩ := h
    rfl
  · obtain ⟨n, rfl, hn, q⟩ := h
    refine ⟨_, (pss_cons (ps_expr (pe_call (ok_check_number T) (hr.mono (by decide)) rfl T.g_check_number T.F_check_number.kp T.b_check_number .nil pass0 (pa_cons (pv 0) pa_nil)))
      (pss_cons (ps_set (i := 1) nd rfl (.inl rfl) (pe_lst pa_nil))
      (pss_cons (ps_while PassesOwn.never (pt_cmpR op_gt (pv 0) pe_int (nomark _)) (pss_cons (ps_expr (pe_bm PySem.F.plainAttrs_list PySem.F.slot_list_append PySem.F.type_list_append mt_append (pv 1) (pa_cons (pe_op op_modN (pv 0) pe_int) pa_nil)))
      (pss_one (ps_aug (i := 0) nd rfl (.inl rfl) pe_int (ip_of iop_fdivW)))))
      (pss_one (ps_ret (pe_call (ok_ternary_number T) (hr.mono (by decide)) rfl T.g_ternary_number T.F_ternary_number.kp T.b_ternary_number .nil pass0 (pa_cons (pv 1) pa_nil))))))), ?_⟩
    refine ⟨_, rfl, n, rfl, Nat.zero_le _, fun p hp => ?_⟩
    have hlen := digs_len (r := 2) (by omega) 4000 n hn
    refine while_by (fun σ H' => ∃ (m : Nat) (acc : List Nat), σ = [some (vn m), some (.ref p)] ∧ Same H H' ∧ H' p = some (.lst (acc.map vn)) ∧ acc ++ digs 2 m = digs 2 n)
      (fun σ _ => match σ with | some (.int m) :: _ => m.toNat | _ => 0) ⟨n, [], rfl, same_new hp, upd_same, rfl⟩ ?_ ?_
    · rintro σ H' ⟨m, acc, rfl, sm, e, ea⟩
      refine ⟨_, rfl, _, _, rfl, rfl, _, rfl, ite2 (fun c => ?_) (fun c => ?_)⟩
      · have hm : 0 < m := by have := of_decide_eq_true c; omega
        have hl : (acc.map vn).length ≤ 4000 := by
          have := congrArg List.length ea
          rw [List.length_append] at this
          rw [List.length_map]; omega
        refine ⟨_, rfl, .inl ⟨rfl, _, SqL.of e⟩, _, rfl, _, _, rfl, rfl, (by show (2 : Int) ≠ 0; decide), _, _, _, rfl, rfl, e, small_lt hl, ?_⟩
        refine ⟨_, rfl, _, _, rfl, rfl, wide_div (b := 2) (by decide) (by decide) (by decide) (by decide), ⟨m / 2, acc ++ [m % 2], ?_, ?_, ?_, ?_⟩, ?_⟩
        · rfl
        · exact Same.mut sm hp
        · rw [upd_same, List.map_append]
          exact congrArg (fun z => some (HO.lst (acc.map vn ++ [V.int z]))) (fmod_nat m 2)
        · rw [List.append_assoc, ← ea, digs_pos (by omega) hm]
          rfl
        · show (((m : Int) / ((2 : Nat) : Int)).toNat) < (m : Int).toNat
          rw [div_nat, Int.toNat_natCast, Int.toNat_natCast]
          omega
      · have hm : m = 0 := by
          have : ¬ (0 : Int) < (m : Int) := fun z => c (decide_eq_true z)
          omega
        subst hm
        rw [digs_zero, List.append_nil] at ea
        subst ea
        exact ⟨_, rfl, p, digs 2 n, rfl, e, hlen, fun d hd => by have := bits_lt n d hd; omega, q H' sm⟩
    · rintro σ H' Q1 Q2 imp ⟨v, h1, i, j, h2, h3, k, h4, h5⟩
      exact ⟨v, h1, i, j, h2, h3, k, h4, imp _ _ h5⟩
end
end K04

namespace K04
open PySem PySem.Spec PyProof.Rows L2 TM TF
section
variable {P : Program} {w : World} {K : PySem.W.Frag} {mg : Str → Option Value} {base : Heap}
/-! ### the law's draws -/
def sp_l_mixed (K : PySem.W.Frag) : Sp := fun vs H Q _ => ∃ (n : Int) (k : Nat), vs = [.int n, vn k] ∧ k < 2 ^ 40 ∧ ∀ r : Nat, r < 2147483629 → Q (vn r) H
theorem ok_l_mixed (T : Txt K mg) : FnOk P w K mg base CX0 1 T.f_l_mixed T.fd_l_mixed ["amount", "k"] (sp_l_mixed K) := by
  have nd := sc_l_mixed.nd
  refine T.F_l_mixed.ok sc_l_mixed (fun vs H Q E h => ?_) (fun cdv A outer s H vs Q E hr h => ?_)
  · obtain ⟨n, k, rfl, _⟩ := h
    rfl
  · obtain ⟨n, k, rfl, hk, q⟩ := h
    refine ⟨_, (pss_cons (ps_set (i := 0) nd rfl (.inl rfl) (pe_op op_modN (pe_op op_mulW (pe_op op_add (pe_op op_add (pe_op op_modN (pv 0) pe_int) (pe_op op_mulW (pe_op op_mulW pe_int (pv 1)) (pv 1))) (pe_op op_mulW pe_int (pv 1))) pe_int) pe_int))
      (pss_one (ps_ret (pe_op op_modN (pe_op op_mulW (pv 0) (pe_op op_add pe_int (pe_op op_mulW pe_int (pv 1)))) pe_int)))), ?_⟩
    have k1 : (k : Int).natAbs < 2 ^ 40 := by omega
    have u1 : (7919 * (k : Int)).natAbs < 2 ^ 53 := by omega
    have u2 : (7919 * (k : Int) * (k : Int)).natAbs < 2 ^ (53 + 40) := wide_lt u1 k1
    have u3 : 0 ≤ n.fmod 2147483647 ∧ n.fmod 2147483647 < 2147483647 := by
      rw [Int.fmod_eq_emod_of_nonneg _ (by decide)]
      omega
    have u4 : (n.fmod 2147483647 + 7919 * (k : Int) * (k : Int) + 31 * (k : Int)).natAbs < 2 ^ 100 := by
      generalize 7919 * (k : Int) * (k : Int) = z at u2 ⊢
      omega
    have w1 : CMulW 7919 (k : Int) := wide_mul (a := 13) (b := 40) (by decide) k1 (by decide) (by decide) (by decide)
    have w2 : CMulW (7919 * (k : Int)) (k : Int) := wide_mul (a := 53) (b := 40) u1 k1 (by decide) (by decide) (by decide)
    have w3 : CMulW 31 (k : Int) := wide_mul (a := 13) (b := 40) (by decide) k1 (by decide) (by decide) (by decide)
    have w4 : CMulW (n.fmod 2147483647 + 7919 * (k : Int) * (k : Int) + 31 * (k : Int)) 48271 := wide_mul (a := 100) (b := 40) u4 (by decide) (by decide) (by decide) (by decide)
    refine ⟨_, rfl, _, _, rfl, rfl, (by show (2147483647 : Int) ≠ 0; decide), _, rfl, _, _, rfl, rfl, w1, _, rfl, _, _, rfl, rfl, w2, _, _, rfl, rfl, _, rfl, _, _, rfl, rfl, w3, _, _, rfl, rfl, _, _, rfl, rfl, w4, _, _, rfl, rfl, (by show (2147483647 : Int) ≠ 0; decide), ?_⟩
    obtain ⟨z, hz⟩ : ∃ z, ((n.fmod 2147483647 + 7919 * (k : Int) * (k : Int) + 31 * (k : Int)) * 48271).fmod 2147483647 = z := ⟨_, rfl⟩
    have hz2 : 0 ≤ z ∧ z < 2147483647 := by
      rw [← hz, Int.fmod_eq_emod_of_nonneg _ (by decide)]
      omega
    have w5 : CMulW 2 (k : Int) := wide_mul (a := 13) (b := 40) (by decide) k1 (by decide) (by decide) (by decide)
    have w6 : CMulW z (69621 + 2 * (k : Int)) := wide_mul (a := 40) (b := 60) (by omega) (by omega) (by decide) (by decide) (by decide)
    have hr2 : 0 ≤ (z * (69621 + 2 * (k : Int))).fmod 2147483629 ∧ (z * (69621 + 2 * (k : Int))).fmod 2147483629 < 2147483629 := by
      rw [Int.fmod_eq_emod_of_nonneg _ (by decide)]
      omega
    have fin := q ((z * (69621 + 2 * (k : Int))).fmod 2147483629).toNat (by omega)
    unfold vn at fin
    rw [Int.toNat_of_nonneg hr2.1, ← hz] at fin
    rw [← hz] at w6
    exact ⟨_, rfl, _, rfl, _, _, rfl, rfl, w5, _, _, rfl, rfl, _, _, rfl, rfl, w6, _, _, rfl, rfl, (by show (2147483629 : Int) ≠ 0; decide), fin⟩
/-- a stream of draws stands at p -/
abbrev Strm (a b c : Nat) : HO := .lst [vn a, vn b, vn c]
def sp_l_stream (K : PySem.W.Frag) : Sp := fun vs H Q _ => ∃ (n : Int) (k : Nat), vs = [.int n, vn k] ∧ k < 2 ^ 40 ∧
  ∀ H' p a c, Same H H' → H p = none → H' p = some (Strm a 0 c) → c < 2147483629 → Q (.ref p) H'
theorem ok_l_stream (T : Txt K mg) : FnOk P w K mg base CX0 2 T.f_l_stream T.fd_l_stream ["item", "k"] (sp_l_stream K) := by
  have nd := sc_l_stream.nd
  refine T.F_l_stream.ok sc_l_stream (fun vs H Q E h => ?_) (fun cdv A outer s H vs Q E hr h => ?_)
  · obtain ⟨n, k, rfl, _⟩ := h
    rfl
  · obtain ⟨n, k, rfl, hk, q⟩ := h
    refine ⟨_, (pss_one (ps_ret (pe_lst (pa_cons (pe_ifExp (pt_cmpR op_ge (pv 0) (pe_op op_pow pe_int pe_int) (nomark _)) (pv 0) pe_int) (pa_cons pe_int (pa_cons (pe_call (ok_l_mixed T) (hr.mono (by decide)) rfl T.g_l_mixed T.F_l_mixed.kp T.b_l_mixed .nil pass0 (pa_cons (pv 0) (pa_cons (pv 1) pa_nil))) pa_nil)))))), ?_⟩
    refine ⟨_, rfl, _, _, rfl, rfl, ⟨by decide, by decide, by decide⟩, _, _, rfl, rfl, _, rfl, ite2 (fun c => ?_) (fun c => ?_)⟩
    · have hn : (10 : Int) ^ 18 ≤ n := of_decide_eq_true c
      refine ⟨_, rfl, _, rfl, _, rfl, n, k, rfl, hk, fun r hr => ⟨(by show 3 ≤ sizeLine; decide), fun p hp => ?_⟩⟩
      refine q _ p n.toNat r (same_new hp) hp ?_ hr
      rw [upd_same]
      unfold Strm vn
      rw [Int.toNat_of_nonneg (by omega)]
      rfl
    · refine ⟨_, rfl, _, rfl, n, k, rfl, hk, fun r hr => ⟨(by show 3 ≤ sizeLine; decide), fun p hp => ?_⟩⟩
      exact q _ p 0 r (same_new hp) hp upd_same hr
def sp_l_draw (K : PySem.W.Frag) : Sp := fun vs H Q _ => ∃ (p : Addr) (top a b c : Nat), vs = [.ref p, vn top] ∧ H p = some (Strm a b c) ∧ 0 < top ∧ top < 2 ^ 300 ∧ b < 2 ^ 39 ∧ c < 2147483629 ∧
  ∀ a' r, r < top → Q (vn r) (upd H p (Strm a' (b + 1) c))
theorem ok_l_draw (T : Txt K mg) : FnOk P w K mg base CX0 2 T.f_l_draw T.fd_l_draw ["stream", "top"] (sp_l_draw K) := by
  have nd := sc_l_draw.nd
  refine T.F_l_draw.ok sc_l_draw (fun vs H Q E h => ?_) (fun cdv A outer s H vs Q E hr h => ?_)
  · obtain ⟨p, top, a, b, c, rfl, _⟩ := h
    rfl
  · obtain ⟨p, top, a, b, c, rfl, hp, ht, ht2, hb, hc, q⟩ := h
    refine ⟨_, (pss_cons (ps_asg (pe_op op_add (pe_ix (ix_listK K) (pv 0) pe_int (fun _ _ => rfl)) pe_int) (pg_sub (pv 0) pe_int set_list))
      (pss_cons (ps_if (pt_cmpR op_eq (pe_ix (ix_listK K) (pv 0) pe_int (fun _ _ => rfl)) pe_int (nomark _)) (pss_one (ps_ret (pe_op op_modN (pe_call (ok_l_mixed T) (hr.mono (by decide)) rfl T.g_l_mixed T.F_l_mixed.kp T.b_l_mixed .nil pass0 (pa_cons (pe_call (ok_l_mixed T) (hr.mono (by decide)) rfl T.g_l_mixed T.F_l_mixed.kp T.b_l_mixed .nil pass0 (pa_cons (pe_ix (ix_listK K) (pv 0) pe_int (fun _ _ => rfl)) (pa_cons (pe_ix (ix_listK K) (pv 0) pe_int (fun _ _ => rfl)) pa_nil))) (pa_cons pe_int pa_nil))) (pv 1)))) pss_nil)
      (pss_cons (ps_set (i := 2) nd rfl (.inl rfl) (pe_op op_modN (pe_ix (ix_listK K) (pv 0) pe_int (fun _ _ => rfl)) (pv 1)))
      (pss_cons (ps_asg (pe_op op_fdivW (pe_ix (ix_listK K) (pv 0) pe_int (fun _ _ => rfl)) (pv 1)) (pg_sub (pv 0) pe_int set_list))
      (pss_one (ps_ret (pv 2))))))), ?_⟩
    refine ⟨_, rfl, p, _, _, _, rfl, rfl, SqL.of hp, atI_nat (j := 1) rfl, _, _, rfl, rfl, _, rfl, p, _, _, 1, rfl, rfl, hp, rfl, ?_⟩
    have e1 : upd H p (.lst ([vn a, vn b, vn c].set 1 (.int ((b : Int) + 1)))) p = some (Strm a (b + 1) c) := upd_same
    refine ⟨_, rfl, p, _, _, _, rfl, rfl, SqL.of e1, atI_nat (j := 0) rfl, rfl, _, rfl, ite2 (fun c0 => ?_) (fun c0 => ?_)⟩
    · refine ⟨_, rfl, p, _, _, _, rfl, rfl, SqL.of e1, atI_nat (j := 2) rfl, _, rfl, p, _, _, _, rfl, rfl, SqL.of e1, atI_nat (j := 1) rfl, (c : Int), b + 1, rfl, by omega, fun r1 h1 => ?_⟩
      refine ⟨(r1 : Int), 7, rfl, by decide, fun r2 h2 => ⟨_, rfl, _, _, rfl, rfl, (by show (top : Int) ≠ 0; omega), ?_⟩⟩
      have e : (V.int ((r2 : Int).fmod (top : Int))) = vn (r2 % top) := congrArg V.int (fmod_nat r2 top)
      show Q (V.int ((r2 : Int).fmod (top : Int))) _
      rw [e]
      have a0 : a = 0 := by have := V.int.inj (of_decide_eq_true c0); omega
      exact q a (r2 % top) (Nat.mod_lt _ ht)
    · have t1 : ((top : Int)).natAbs < 2 ^ 300 := by omega
      refine ⟨_, rfl, p, _, _, _, rfl, rfl, SqL.of e1, atI_nat (j := 0) rfl, _, rfl, _, _, rfl, rfl, (by show (top : Int) ≠ 0; omega), ?_⟩
      refine ⟨_, rfl, p, _, _, _, rfl, rfl, SqL.of e1, atI_nat (j := 0) rfl, _, rfl, _, _, rfl, rfl, wide_div (by omega) t1 (by decide) (by decide), _, rfl, p, _, _, 0, rfl, rfl, e1, rfl, ?_⟩
      refine ⟨_, rfl, ?_⟩
      have e : (V.int ((a : Int).fmod (top : Int))) = vn (a % top) := congrArg V.int (fmod_nat a top)
      show Q (V.int ((a : Int).fmod (top : Int))) _
      rw [e, upd_upd]
      exact q (a / top) (a % top) (Nat.mod_lt _ ht)
def sp_l_number (K : PySem.W.Frag) : Sp := fun vs H Q _ => ∃ (p : Addr) (a b c : Nat), vs = [.ref p] ∧ H p = some (Strm a b c) ∧ b + 200 < 2 ^ 39 ∧ c < 2147483629 ∧
  ∀ a' b' r, b' ≤ b + 130 → r < 2 ^ 200 → Q (vn r) (upd H p (Strm a' b' c))
theorem ok_l_number (T : Txt K mg) : FnOk P w K mg base CX0 3 T.f_l_number T.fd_l_number ["stream"] (sp_l_number K) := by
  have nd := sc_l_number.nd
  refine T.F_l_number.ok sc_l_number (fun vs H Q E h => ?_) (fun cdv A outer s H vs Q E hr h => ?_)
  · obtain ⟨p, a, b, c, rfl, _⟩ := h
    rfl
  · obtain ⟨p, a, b, c, rfl, hp, hb, hc, q⟩ := h
    refine ⟨_, (pss_cons (ps_set (i := 1) nd rfl (.inl rfl) (pe_call (ok_l_draw T) (hr.mono (by decide)) rfl T.g_l_draw T.F_l_draw.kp T.b_l_draw .nil pass0 (pa_cons (pv 0) (pa_cons pe_int pa_nil))))
      (pss_cons (ps_if (pt_cmpR op_eq (pv 1) pe_int (nomark _)) (pss_one (ps_ret (pe_call (ok_l_draw T) (hr.mono (by decide)) rfl T.g_l_draw T.F_l_draw.kp T.b_l_draw .nil pass0 (pa_cons (pv 0) (pa_cons pe_int pa_nil))))) pss_nil)
      (pss_cons (ps_if (pt_cmpR op_eq (pv 1) pe_int (nomark _)) (pss_one (ps_ret (pe_op op_add (pe_op op_mulW (pe_call (ok_l_draw T) (hr.mono (by decide)) rfl T.g_l_draw T.F_l_draw.kp T.b_l_draw .nil pass0 (pa_cons (pv 0) (pa_cons (pe_op op_pow pe_int pe_int) pa_nil))) (pe_op op_pow pe_int pe_int)) (pe_call (ok_l_draw T) (hr.mono (by decide)) rfl T.g_l_draw T.F_l_draw.kp T.b_l_draw .nil pass0 (pa_cons (pv 0) (pa_cons (pe_op op_pow pe_int pe_int) pa_nil)))))) pss_nil)
      (pss_cons (ps_set (i := 2) nd rfl (.inl rfl) pe_int)
      (pss_cons (ps_for PassesOwn.never rfl (pi_range1 rfl T.m_range (pa_cons (pe_call (ok_l_draw T) (hr.mono (by decide)) rfl T.g_l_draw T.F_l_draw.kp T.b_l_draw .nil pass0 (pa_cons (pv 0) (pa_cons pe_int pa_nil))) pa_nil)) (pg_name (i := 3) nd rfl (.inl rfl)) (pss_one (ps_set (i := 2) nd rfl (.inl rfl) (pe_op op_add (pe_op op_mulW pe_int (pv 2)) (pe_ifExp (pt_cmpR op_eq (pv 1) pe_int (nomark _)) (pe_call (ok_l_draw T) (hr.mono (by decide)) rfl T.g_l_draw T.F_l_draw.kp T.b_l_draw .nil pass0 (pa_cons (pv 0) (pa_cons pe_int pa_nil))) pe_int)))))
      (pss_one (ps_ret (pe_callB (call_max2 rfl) (by rfl) T.m_max (by decide +kernel) (pa_cons pe_int (pa_cons (pe_op op_sub (pe_op op_add (pv 2) (pe_call (ok_l_draw T) (hr.mono (by decide)) rfl T.g_l_draw T.F_l_draw.kp T.b_l_draw .nil pass0 (pa_cons (pv 0) (pa_cons pe_int pa_nil)))) pe_int) pa_nil)))))))))), ?_⟩
    refine ⟨_, rfl, p, 4, a, b, c, rfl, hp, by decide, by decide, by omega, hc, fun a1 way h1 => ?_⟩
    have e1 : upd H p (Strm a1 (b + 1) c) p = some (Strm a1 (b + 1) c) := upd_same
    refine ⟨_, rfl, rfl, _, rfl, ite2 (fun c0 => ?_) (fun c0 => ?_)⟩
    · refine ⟨_, rfl, p, 100, a1, b + 1, c, rfl, e1, by decide, by decide, by omega, hc, fun a2 r h2 => ?_⟩
      rw [upd_upd]
      exact q a2 (b + 2) r (by omega) (Nat.lt_trans h2 (by decide))
    refine ⟨_, rfl, rfl, _, rfl, ite2 (fun c1 => ?_) (fun c1 => ?_)⟩
    · refine ⟨_, rfl, _, _, rfl, rfl, ⟨by decide, by decide, by decide⟩, p, 10 ^ 30, a1, b + 1, c, rfl, e1, by decide, by decide, by omega, hc, fun a2 r h2 => ?_⟩
      have e2 : upd (upd H p (Strm a1 (b + 1) c)) p (Strm a2 (b + 2) c) p = some (Strm a2 (b + 2) c) := upd_same
      refine ⟨_, _, rfl, rfl, ⟨by decide, by decide, by decide⟩, _, _, rfl, rfl, wide_mul (a := 100) (b := 100) (Nat.lt_trans (show r < 10 ^ 30 from h2) (by decide)) (by decide) (by decide) (by decide) (by decide), ?_⟩
      refine ⟨_, rfl, _, _, rfl, rfl, ⟨by decide, by decide, by decide⟩, p, 10 ^ 30, a2, b + 2, c, rfl, e2, by decide, by decide, by omega, hc, fun a3 r' h3 => ⟨_, _, rfl, rfl, ?_⟩⟩
      rw [upd_upd, upd_upd]
      refine q a3 (b + 3) (r * 10 ^ 30 + r') (by omega) ?_
      have : r * 10 ^ 30 + r' < 10 ^ 30 * 10 ^ 30 := by
        have h2' : r < 10 ^ 30 := h2
        have h3' : r' < 10 ^ 30 := h3
        omega
      exact Nat.lt_trans this (by decide)
    · refine ⟨_, rfl, p, 120, a1, b + 1, c, rfl, e1, by decide, by decide, by omega, hc, fun a2 n2 h2 => ⟨n2, rfl, by omega, by omega, ?_⟩⟩
      refine for_it (walk_range (lo := 0) (n := n2)) (fun i σ H' => ∃ (a' b' f : Nat) (y3 : Option V), σ = [some (.ref p), some (vn way), some (vn f), y3] ∧ b' ≤ b + 2 + i ∧ H' = upd H p (Strm a' b' c) ∧ f < 2 * 3 ^ i)
        ⟨a2, b + 2, 1, none, rfl, by omega, upd_upd, by decide⟩ (fun _ _ _ _ _ => trivial) ?_ ?_
      · rintro i x σ H1 H2 hi ⟨a', b', f, y3, rfl, hb', rfl, hf⟩ ⟨rfl, rfl⟩
        have e2 : upd H p (Strm a' b' c) p = some (Strm a' b' c) := upd_same
        have f1 : f < 2 ^ 250 := by
          have : 3 ^ i ≤ 3 ^ 120 := Nat.pow_le_pow_right (by decide) (by omega)
          have : 2 * 3 ^ 120 < 2 ^ 250 := by decide +kernel
          omega
        have w1 : CMulW 3 (f : Int) := wide_mul (a := 2) (b := 250) (by decide) (by omega) (by decide) (by decide) (by decide)
        have hp3 : 3 ^ (i + 1) = 3 ^ i * 3 := Nat.pow_succ ..
        refine ⟨_, rfl, _, _, rfl, rfl, w1, _, rfl, rfl, _, rfl, ite2 (fun c2 => ?_) (fun c2 => ?_)⟩
        · refine ⟨_, rfl, p, 2, a', b', c, rfl, e2, by decide, by decide, by omega, hc, fun a3 r h3 => ⟨_, _, rfl, rfl, ⟨a3, b' + 1, 3 * f + r, some (.int (0 + (i : Int))), rfl, by omega, upd_upd, ?_⟩⟩⟩
          rw [hp3]
          omega
        · refine ⟨_, _, rfl, rfl, ⟨a', b', 3 * f + 0, some (.int (0 + (i : Int))), rfl, by omega, rfl, ?_⟩⟩
          rw [hp3]
          omega
      · rintro σ H1 ⟨a', b', f, y3, rfl, hb', rfl, hf⟩
        have e2 : upd H p (Strm a' b' c) p = some (Strm a' b' c) := upd_same
        have f1 : f < 2 ^ 195 := by
          have : 3 ^ n2 ≤ 3 ^ 120 := Nat.pow_le_pow_right (by decide) (by omega)
          have : 2 * 3 ^ 120 < 2 ^ 195 := by decide +kernel
          omega
        refine ⟨_, rfl, _, rfl, p, 3, a', b', c, rfl, e2, by decide, by decide, by omega, hc, fun a3 r h3 => ⟨_, _, rfl, rfl, _, _, rfl, rfl, _, _, rfl, ?_⟩⟩
        rw [upd_upd]
        have fin := q a3 (b' + 1) (f + r - 1) (by omega) (by omega)
        have ev : (V.int (if (f : Int) + (r : Int) - 1 > 0 then (f : Int) + (r : Int) - 1 else 0)) = vn (f + r - 1) := by
          unfold vn
          congr 1
          split <;> omega
        show Q (V.int (if (f : Int) + (r : Int) - 1 > 0 then (f : Int) + (r : Int) - 1 else 0)) _
        rw [ev]
        exact fin
/-! ### the law's digits -/
def sp_l_digits (K : PySem.W.Frag) : Sp := fun vs H Q _ => ∃ n r : Nat, vs = [vn n, vn r] ∧ n < 2 ^ 4000 ∧ 2 ≤ r ∧ r < 2 ^ 60 ∧ Digits H r n Q
theorem ok_l_digits (T : Txt K mg) : FnOk P w K mg base CX0 1 T.f_l_digits T.fd_l_digits ["given", "radix"] (sp_l_digits K) := by
  have nd := sc_l_digits.nd
  refine T.F_l_digits.ok sc_l_digits (fun vs H Q E h => ?_) (fun cdv A outer s H vs Q E hr h => ?_)
  · obtain ⟨n, r, rfl, _⟩ := h
    rfl
  · obtain ⟨n, r, rfl, hn, hr2, hr3, q⟩ := h
    refine ⟨_, (pss_cons (ps_set (i := 2) nd rfl (.inl rfl) (pe_lst pa_nil))
      (pss_cons (ps_while PassesOwn.never (pt_cmpR op_gt (pv 0) pe_int (nomark _)) (pss_cons (ps_expr (pe_bm PySem.F.plainAttrs_list PySem.F.slot_list_append PySem.F.type_list_append mt_append (pv 2) (pa_cons (pe_op op_modN (pv 0) (pv 1)) pa_nil)))
      (pss_one (ps_set (i := 0) nd rfl (.inl rfl) (pe_op op_fdivW (pv 0) (pv 1))))))
      (pss_one (ps_ret (pv 2))))), ?_⟩
    refine ⟨Nat.zero_le _, fun p hp => ?_⟩
    have hlen := digs_len hr2 4000 n hn
    have rb : ((r : Int)).natAbs < 2 ^ 60 := by omega
    refine while_by (fun σ H' => ∃ (m : Nat) (acc : List Nat), σ = [some (vn m), some (vn r), some (.ref p)] ∧ Same H H' ∧ H' p = some (.lst (acc.map vn)) ∧ acc ++ digs r m = digs r n)
      (fun σ _ => match σ with | some (.int m) :: _ => m.toNat | _ => 0) ⟨n, [], rfl, same_new hp, upd_same, rfl⟩ ?_ ?_
    · rintro σ H' ⟨m, acc, rfl, sm, e, ea⟩
      refine ⟨_, rfl, _, _, rfl, rfl, _, rfl, ite2 (fun c => ?_) (fun c => ?_)⟩
      · have hm : 0 < m := by have := of_decide_eq_true c; omega
        have hl : (acc.map vn).length ≤ 4000 := by
          have := congrArg List.length ea
          rw [List.length_append] at this
          rw [List.length_map]; omega
        refine ⟨_, rfl, .inl ⟨rfl, _, SqL.of e⟩, _, rfl, _, rfl, _, _, rfl, rfl, (by show (r : Int) ≠ 0; omega), _, _, _, rfl, rfl, e, small_lt hl, ?_⟩
        refine ⟨_, rfl, _, rfl, _, _, rfl, rfl, wide_div (by omega) rb (by decide) (by decide), ⟨m / r, acc ++ [m % r], ?_, ?_, ?_, ?_⟩, ?_⟩
        · rfl
        · exact Same.mut sm hp
        · rw [upd_same, List.map_append]
          exact congrArg (fun z => some (HO.lst (acc.map vn ++ [V.int z]))) (fmod_nat m r)
        · rw [List.append_assoc, ← ea, digs_pos hr2 hm]
          rfl
        · show (((m : Int) / ((r : Nat) : Int)).toNat) < (m : Int).toNat
          rw [div_nat, Int.toNat_natCast, Int.toNat_natCast]
          exact Nat.div_lt_self hm (by omega)
      · have hm : m = 0 := by
          have : ¬ (0 : Int) < (m : Int) := fun z => c (decide_eq_true z)
          omega
        subst hm
        rw [digs_zero, List.append_nil] at ea
        subst ea
        exact ⟨_, rfl, q H' p sm hp e⟩
    · rintro σ H' Q1 Q2 imp ⟨v, h1, i, j, h2, h3, k, h4, h5⟩
      exact ⟨v, h1, i, j, h2, h3, k, h4, imp _ _ h5⟩
end
end K04

namespace K04
open PySem PySem.Spec PyProof.Rows L2 TM TF
section
variable {P : Program} {w : World} {K : PySem.W.Frag} {mg : Str → Option Value} {base : Heap}
theorem B_big {n : Nat} (h : n < 2 ^ 2000) : B n < 2 ^ 4000 := by
  have h1 := B_bound h
  have h2 : 3 ^ 2000 < 2 ^ 4000 := by decide +kernel
  omega
theorem rd_lt2 : ∀ l : List Nat, (∀ d ∈ l, d < 2) → rd 2 l < 2 ^ l.length
  | [], _ => by show 0 < 1; omega
  | d :: l, h => by
    have h1 := h d List.mem_cons_self
    have h2 := rd_lt2 l fun x hx => h x (List.mem_cons_of_mem _ hx)
    show d + 2 * rd 2 l < 2 ^ (l.length + 1)
    rw [Nat.pow_succ]
    omega
def sp_base_rank (K : PySem.W.Frag) : Sp := fun vs H Q _ => ∃ n : Nat, vs = [vn (B n)] ∧ n < 2 ^ 2000 ∧ ∀ H', Same H H' → Q (vn n) H'
theorem ok_base_rank (T : Txt K mg) : FnOk P w K mg base CX0 4 T.f_base_rank T.fd_base_rank ["x"] (sp_base_rank K) := by
  have nd := sc_base_rank.nd
  refine T.F_base_rank.ok sc_base_rank (fun vs H Q E h => ?_) (fun cdv A outer s H vs Q E hr h => ?_)
  · obtain ⟨n, rfl, _⟩ := h
    rfl
  · obtain ⟨n, rfl, hn, q⟩ := h
    refine ⟨_, (pss_cons (ps_expr (pe_call (ok_check_number T) (hr.mono (by decide)) rfl T.g_check_number T.F_check_number.kp T.b_check_number .nil pass0 (pa_cons (pv 0) pa_nil)))
      (pss_cons (ps_set (i := 1) nd rfl (.inl rfl) (pe_call (ok_ternary_digits T) (hr.mono (by decide)) rfl T.g_ternary_digits T.F_ternary_digits.kp T.b_ternary_digits .nil pass0 (pa_cons (pv 0) pa_nil)))
      (pss_cons (ps_set (i := 2) nd rfl (.inl rfl) pe_int)
      (pss_cons (ps_for PassesOwn.never rfl (pi_revR rfl T.m_reversed (prg_1 rfl T.m_range (pe_callB call_len_seq (by rfl) T.m_len PySem.boot_len (pa_cons (pv 1) pa_nil)))) (pg_name (i := 3) nd rfl (.inl rfl)) (pss_cons (ps_if (pt_cmpR op_eq (pe_ix (ix_listK K) (pv 1) (pv 3) (fun _ _ => rfl)) pe_int (nomark _)) (pss_one (ps_ret (pe_op op_shlW (pe_op op_add (pv 2) pe_int) (pe_op op_add (pv 3) pe_int)))) pss_nil)
      (pss_one (ps_set (i := 2) nd rfl (.inl rfl) (pe_op op_add (pe_op op_mulW pe_int (pv 2)) (pe_ix (ix_listK K) (pv 1) (pv 3) (fun _ _ => rfl)))))))
      (pss_one (ps_ret (pv 2))))))), ?_⟩
    refine ⟨_, rfl, B n, rfl, _, rfl, B n, rfl, B_big hn, fun H1 p s1 n1 e1 => ?_⟩
    rw [B_digs] at e1
    have hlen := digs_len (r := 2) (by omega) 2000 n hn
    refine ⟨_, rfl, p, _, rfl, .inl (SqL.of e1), _, rfl, by decide, by decide, by rw [List.length_map]; omega, by rw [List.length_map]; omega, ?_⟩
    have bl := bits_lt n
    have rn := rd_digs (r := 2) (by omega) n n (Nat.le_refl _)
    generalize digs 2 n = l at e1 hlen bl rn ⊢
    refine for_it walk_rangeC (fun i σ H' => ∃ y3 : Option V, σ = [some (vn (B n)), some (.ref p), some (vn (rd 2 (l.drop (l.length - i)))), y3] ∧ H' = H1) ⟨none, ?_, rfl⟩ (fun _ _ _ _ _ => trivial) ?_ ?_
    · rw [Nat.sub_zero, List.drop_length]
      rfl
    · rintro i x σ H2 H3 hi ⟨y3, rfl, rfl⟩ ⟨rfl, rfl⟩
      rw [List.length_map] at hi ⊢
      have hi2 : i < l.length := by omega
      have hj : l.length - 1 - i < l.length := by omega
      have g := List.getElem?_eq_getElem hj
      have e := rd_drop (r := 2) g
      rw [show l.length - 1 - i + 1 = l.length - i by omega] at e
      have ez : (0 : Int) + (((l.length : Int) - 0).toNat : Int) - 1 + (i : Int) * -1 = ((l.length - 1 - i : Nat) : Int) := by omega
      have gv : (l.map vn)[l.length - 1 - i]? = some (vn l[l.length - 1 - i]) := by rw [List.getElem?_map, g]; rfl
      have hd := bl _ (List.getElem_mem hj)
      have b0 : rd 2 (l.drop (l.length - i)) < 2 ^ 2000 := by
        refine Nat.lt_of_lt_of_le (rd_lt2 _ fun d hd' => bl d (List.mem_of_mem_drop hd')) (Nat.pow_le_pow_right (by decide) ?_)
        rw [List.length_drop]
        omega
      refine ⟨_, rfl, _, rfl, p, _, _, _, rfl, rfl, SqL.of e1, at_of ez gv, rfl, _, rfl, ite2 (fun c => ?_) (fun c => ?_)⟩
      · have := V.int.inj (of_decide_eq_true c)
        omega
      refine ⟨_, rfl, _, _, rfl, rfl, wide_mul (a := 2) (b := 2000) (by decide) (by rw [Int.natAbs_natCast]; exact b0) (by decide) (by decide) (by decide), _, rfl, _, rfl, p, _, _, _, rfl, rfl, SqL.of e1, at_of ez gv, _, _, rfl, rfl, ⟨some (.int (0 + (((l.length : Int) - 0).toNat : Int) - 1 + (i : Int) * -1)), ?_, rfl⟩⟩
      have e2 : V.int (2 * (rd 2 (l.drop (l.length - i)) : Int) + (l[l.length - 1 - i] : Int)) = vn (rd 2 (l.drop (l.length - (i + 1)))) := by
        rw [show l.length - (i + 1) = l.length - 1 - i by omega, e]
        unfold vn
        congr 1
        omega
      show [some (vn (B n)), some (.ref p), some (V.int (2 * (rd 2 (l.drop (l.length - i)) : Int) + (l[l.length - 1 - i] : Int))), some _] = _
      rw [e2]
    · rintro σ H2 ⟨y3, rfl, rfl⟩
      rw [List.length_map]
      rw [show ((l.length : Int) - 0).toNat = l.length by omega, Nat.sub_self, List.drop_zero, rn]
      exact ⟨_, rfl, q _ s1⟩
def sp_base_gap (K : PySem.W.Frag) : Sp := fun vs H Q _ => ∃ n : Nat, vs = [vn n] ∧ 0 < n ∧ n < 2 ^ 300 ∧ Q (vn ((G n + 1) / 2)) H
theorem three_300 {i : Nat} (h : i ≤ 400) : 3 ^ i < 2 ^ 800 :=
  Nat.lt_of_le_of_lt (Nat.pow_le_pow_right (by decide) h) (by decide +kernel : 3 ^ 400 < 2 ^ 800)
theorem G_pos : ∀ n : Nat, 0 < G n := by
  have : ∀ f n, 0 < GF f n := by
    intro f
    induction f with
    | zero => intro n; show 0 < 1; omega
    | succ f ih =>
      intro n
      show 0 < if n % 2 = 0 then 3 * GF f (n / 2) else 1
      have := ih (n / 2)
      split <;> omega
  exact fun n => this n n
theorem ok_base_gap (T : Txt K mg) : FnOk P w K mg base CX0 3 T.f_base_gap T.fd_base_gap ["number"] (sp_base_gap K) := by
  have nd := sc_base_gap.nd
  refine T.F_base_gap.ok sc_base_gap (fun vs H Q E h => ?_) (fun cdv A outer s H vs Q E hr h => ?_)
  · obtain ⟨n, rfl, _⟩ := h
    rfl
  · obtain ⟨n, rfl, h0, hn, q⟩ := h
    refine ⟨_, (pss_cons (ps_if (PW.pt (pw_or (pt_not (pt_val (pe_call (ok_is_number T) (hr.mono (by decide)) rfl T.g_is_number T.F_is_number.kp T.b_is_number .nil pass0 (pa_cons (pv 0) pa_nil)))) (pw_or1 (pt_cmpR op_eq (pv 0) pe_int (nomark _))))) (pss_one ps_never) pss_nil)
      (pss_cons (ps_set (i := 1) nd rfl (.inl rfl) pe_int)
      (pss_cons (ps_while PassesOwn.never (pt_cmpR op_eq (pe_op op_modN (pv 0) pe_int) pe_int (nomark _)) (pss_cons (ps_aug (i := 0) nd rfl (.inl rfl) pe_int (ip_of iop_fdivW))
      (pss_one (ps_aug (i := 1) nd rfl (.inl rfl) pe_int (ip_of iop_mulW)))))
      (pss_one (ps_ret (pe_op op_fdivW (pe_op op_add (pv 1) pe_int) pe_int)))))), ?_⟩
    refine ⟨_, rfl, n, rfl, true, rfl, iteF ?_⟩
    refine ⟨_, rfl, rfl, _, rfl, ite2 (fun c => ?_) (fun _ => ?_)⟩
    · have := V.int.inj (of_decide_eq_true c)
      omega
    have gb := Nat.lt_trans (G_pow 300 n h0 hn) (three_300 (by decide))
    refine while_by (fun σ H' => ∃ (m pw : Nat), σ = [some (vn m), some (vn pw)] ∧ H' = H ∧ 0 < m ∧ pw * G m = G n)
      (fun σ _ => match σ with | some (.int m) :: _ => m.toNat | _ => 0) ⟨n, 1, rfl, rfl, h0, Nat.one_mul _⟩ ?_ ?_
    · rintro σ H' ⟨m, pw, rfl, rfl, hm, ep⟩
      have pb : pw < 2 ^ 800 := by
        have := Nat.le_mul_of_pos_right pw (G_pos m)
        omega
      refine ⟨_, rfl, _, _, rfl, rfl, (by show (2 : Int) ≠ 0; decide), rfl, _, rfl, ite2 (fun c => ?_) (fun c => ?_)⟩
      · have c2 := V.int.inj (of_decide_eq_true c)
        have ce : m % 2 = 0 := by
          rw [show (2 : Int) = ((2 : Nat) : Int) from rfl, fmod_nat] at c2
          omega
        refine ⟨_, rfl, _, _, rfl, rfl, wide_div (b := 2) (by decide) (by decide) (by decide) (by decide), ?_⟩
        refine ⟨_, rfl, _, _, rfl, rfl, wide_mul (a := 800) (b := 2) (by rw [Int.natAbs_natCast]; exact pb) (by decide) (by decide) (by decide) (by decide), ⟨m / 2, pw * 3, rfl, rfl, by omega, ?_⟩, ?_⟩
        · rw [← ep, G_even hm ce, Nat.mul_assoc]
        · show (((m : Int) / ((2 : Nat) : Int)).toNat) < (m : Int).toNat
          rw [div_nat, Int.toNat_natCast, Int.toNat_natCast]
          omega
      · have ce : m % 2 = 1 := by
          have : ¬ (m : Int).fmod 2 = 0 := fun z => c (decide_eq_true (congrArg V.int z))
          rw [show (2 : Int) = ((2 : Nat) : Int) from rfl, fmod_nat] at this
          omega
        rw [G_odd ce, Nat.mul_one] at ep
        subst ep
        exact ⟨_, rfl, _, _, rfl, rfl, _, _, rfl, rfl, wide_div (b := 2) (by decide) (by decide) (by decide) (by decide), q⟩
    · rintro σ H' Q1 Q2 imp ⟨v, h1, i, j, h2, h3, h4, h5, k, h6, h7⟩
      exact ⟨v, h1, i, j, h2, h3, h4, h5, k, h6, imp _ _ h7⟩
def sp_base_sum (K : PySem.W.Frag) : Sp := fun vs H Q _ => ∃ n : Nat, vs = [vn n] ∧ n ≤ 2 ^ 300 ∧ ∀ H', Same H H' → Q (vn (S n)) H'
theorem ok_base_sum (T : Txt K mg) : FnOk P w K mg base CX0 4 T.f_base_sum T.fd_base_sum ["number"] (sp_base_sum K) := by
  have nd := sc_base_sum.nd
  refine T.F_base_sum.ok sc_base_sum (fun vs H Q E h => ?_) (fun cdv A outer s H vs Q E hr h => ?_)
  · obtain ⟨n, rfl, _⟩ := h
    rfl
  · obtain ⟨n, rfl, hn, q⟩ := h
    refine ⟨_, (pss_cons (ps_expr (pe_call (ok_check_number T) (hr.mono (by decide)) rfl T.g_check_number T.F_check_number.kp T.b_check_number .nil pass0 (pa_cons (pv 0) pa_nil)))
      (pss_cons (ps_set (i := 1) nd rfl (.inl rfl) pe_int)
      (pss_cons (ps_set (i := 2) nd rfl (.inl rfl) pe_int)
      (pss_cons (ps_set (i := 3) nd rfl (.inl rfl) pe_int)
      (pss_cons (ps_while PassesOwn.never (pt_cmpR op_lt (pv 2) (pv 0) (nomark _)) (pss_cons (ps_asg (pe_callB call_divmodW (by rfl) T.m_divmod (by decide +kernel) (pa_cons (pv 0) (pa_cons (pe_op op_mulW pe_int (pv 2)) pa_nil))) (pg_tup (by rfl) (pgs_cons (pg_name (i := 4) nd rfl (.inl rfl)) (pgs_cons (pg_name (i := 5) nd rfl (.inl rfl)) pgs_nil))))
      (pss_cons (ps_set (i := 6) nd rfl (.inl rfl) (pe_op op_add (pe_op op_mulW (pv 4) (pv 2)) (pe_callB (call_max2 rfl) (by rfl) T.m_max (by decide +kernel) (pa_cons pe_int (pa_cons (pe_op op_sub (pv 5) (pv 2)) pa_nil)))))
      (pss_cons (ps_aug (i := 1) nd rfl (.inl rfl) (pe_op op_mulW (pv 3) (pv 6)) ip_add)
      (pss_cons (ps_aug (i := 2) nd rfl (.inl rfl) pe_int (ip_of iop_mulW))
      (pss_one (ps_aug (i := 3) nd rfl (.inl rfl) pe_int (ip_of iop_mulW))))))))
      (pss_one (ps_ret (pv 1)))))))), ?_⟩
    refine ⟨_, rfl, n, rfl, ?_⟩
    refine while_by (fun σ H' => ∃ (t pl pw : Int) (i : Nat) (y4 y5 y6 : Option V), σ = [some (vn n), some (.int t), some (.int pl), some (.int pw), y4, y5, y6] ∧ Same H H' ∧ i ≤ 300 ∧
        t = (sm i (fun j => 3 ^ j * cn (2 ^ j) n) : Nat) ∧ pl = ((2 ^ i : Nat) : Int) ∧ pw = ((3 ^ i : Nat) : Int))
      (fun σ _ => match σ with | _ :: _ :: some (.int pl) :: _ => (2 ^ 301 - pl).toNat | _ => 0) ⟨0, 1, 1, 0, none, none, none, rfl, Same.refl H, by omega, rfl, rfl, rfl⟩ ?_ ?_
    · rintro σ H' ⟨t, pl, pw, i, y4, y5, y6, rfl, sm0, hi, rfl, rfl, rfl⟩
      refine ⟨_, rfl, _, rfl, _, _, rfl, rfl, _, rfl, ite2 (fun c => ?_) (fun c => ?_)⟩
      · have hlt : 2 ^ i < n := by have := of_decide_eq_true c; omega
        have hi2 : i < 300 := by
          rcases Nat.lt_or_ge i 300 with z | z
          · exact z
          · have := Nat.pow_le_pow_right (show 0 < 2 by decide) z
            omega
        have p0 : 0 < 2 ^ i := Nat.pow_pos (by decide)
        have pb : ((2 ^ i : Nat) : Int).natAbs < 2 ^ 301 := by
          rw [Int.natAbs_natCast]
          exact Nat.pow_lt_pow_right (by decide) (by omega)
        have wb : ((3 ^ i : Nat) : Int).natAbs < 2 ^ 800 := by
          rw [Int.natAbs_natCast]
          exact three_300 (by omega)
        have nb : ((n : Nat) : Int).natAbs < 2 ^ 301 := by
          rw [Int.natAbs_natCast]
          exact Nat.lt_of_le_of_lt hn (Nat.pow_lt_pow_right (by decide) (by decide))
        have w1 : CMulW 2 ((2 ^ i : Nat) : Int) := wide_mul (a := 2) (b := 301) (by decide) pb (by decide) (by decide) (by decide)
        have dv : CDivP (n : Int) (2 * ((2 ^ i : Nat) : Int)) := divp_ok (by omega) (by
          have := PyProof.Rows.intBits_le nb
          omega)
        refine ⟨_, rfl, _, rfl, _, _, rfl, rfl, w1, _, _, rfl, dv, fun p hp => ?_⟩
        refine ⟨p, _, rfl, SqT.of upd_same, rfl, _, [_], rfl, _, [], rfl, rfl, ?_⟩
        have eq1 : (n : Int) / (2 * ((2 ^ i : Nat) : Int)) = ((n / (2 * 2 ^ i) : Nat) : Int) := rfl
        have eq2 : (n : Int) % (2 * ((2 ^ i : Nat) : Int)) = ((n % (2 * 2 ^ i) : Nat) : Int) := rfl
        have qb : ((n : Int) / (2 * ((2 ^ i : Nat) : Int))).natAbs < 2 ^ 301 := by
          rw [eq1, Int.natAbs_natCast]
          rw [Int.natAbs_natCast] at nb
          exact Nat.lt_of_le_of_lt (Nat.div_le_self _ _) nb
        have w2 : CMulW ((n : Int) / (2 * ((2 ^ i : Nat) : Int))) ((2 ^ i : Nat) : Int) := wide_mul (a := 301) (b := 301) qb pb (by decide) (by decide) (by decide)
        refine ⟨_, rfl, _, rfl, _, _, rfl, rfl, w2, _, rfl, _, rfl, _, _, rfl, rfl, _, _, rfl, _, _, rfl, rfl, ?_⟩
        have eo : (n : Int) / (2 * ((2 ^ i : Nat) : Int)) * ((2 ^ i : Nat) : Int) +
            (if (n : Int) % (2 * ((2 ^ i : Nat) : Int)) - ((2 ^ i : Nat) : Int) > 0 then (n : Int) % (2 * ((2 ^ i : Nat) : Int)) - ((2 ^ i : Nat) : Int) else 0) = ((cn (2 ^ i) n : Nat) : Int) := by
          rw [eq1, eq2]
          unfold cn
          rw [Int.natCast_add, Int.natCast_mul]
          congr 1
          split <;> omega
        have cb : cn (2 ^ i) n ≤ n := by
          unfold cn
          have d1 := Nat.div_add_mod n (2 * 2 ^ i)
          have d2 : 2 * 2 ^ i * (n / (2 * 2 ^ i)) = 2 * (n / (2 * 2 ^ i) * 2 ^ i) := by rw [Nat.mul_assoc, Nat.mul_comm (2 ^ i)]
          omega
        have w3 : CMulW ((3 ^ i : Nat) : Int) ((n : Int) / (2 * ((2 ^ i : Nat) : Int)) * ((2 ^ i : Nat) : Int) +
            (if (n : Int) % (2 * ((2 ^ i : Nat) : Int)) - ((2 ^ i : Nat) : Int) > 0 then (n : Int) % (2 * ((2 ^ i : Nat) : Int)) - ((2 ^ i : Nat) : Int) else 0)) := by
          rw [eo]
          exact wide_mul (a := 800) (b := 301) wb (by rw [Int.natAbs_natCast] at nb ⊢; omega) (by decide) (by decide) (by decide)
        refine ⟨_, rfl, _, rfl, _, rfl, _, _, rfl, rfl, w3, _, _, rfl, rfl, ?_⟩
        have w4 : CMulW ((2 ^ i : Nat) : Int) 2 := wide_mul (a := 301) (b := 2) pb (by decide) (by decide) (by decide) (by decide)
        have w5 : CMulW ((3 ^ i : Nat) : Int) 3 := wide_mul (a := 800) (b := 2) wb (by decide) (by decide) (by decide) (by decide)
        refine ⟨_, rfl, _, _, rfl, rfl, w4, _, rfl, _, _, rfl, rfl, w5, ⟨_, _, _, i + 1, _, _, _, rfl, Same.trans sm0 (same_new hp), by omega, ?_, ?_, ?_⟩, ?_⟩
        · show _ + ((3 ^ i : Nat) : Int) * (_ + _) = ((sm i (fun j => 3 ^ j * cn (2 ^ j) n) + 3 ^ i * cn (2 ^ i) n : Nat) : Int)
          rw [Int.natCast_add, Int.natCast_mul, ← eo]
        · rw [Nat.pow_succ]; rfl
        · rw [Nat.pow_succ]; rfl
        · show (2 ^ 301 - ((2 ^ i : Nat) : Int) * 2).toNat < (2 ^ 301 - ((2 ^ i : Nat) : Int)).toNat
          rw [Int.natAbs_natCast] at pb
          have z : ((2 ^ 301 : Nat) : Int) = (2 : Int) ^ 301 := by rw [Int.natCast_pow]; rfl
          rw [← z]
          omega
      · have hge : n ≤ 2 ^ i := by
          have : ¬ ((2 ^ i : Nat) : Int) < (n : Int) := fun z => c (decide_eq_true z)
          omega
        rw [S_sum n hge]
        exact ⟨_, rfl, q _ sm0⟩
    · rintro σ H' Q1 Q2 imp ⟨v, h1, v', h1', i, j, h2, h3, k, h4, h5⟩
      exact ⟨v, h1, v', h1', i, j, h2, h3, k, h4, imp _ _ h5⟩
def sp_mirror (K : PySem.W.Frag) : Sp := fun vs H Q _ => ∃ x p : Nat, vs = [vn x, vn p] ∧ p ≤ 2000 ∧ TM.plain x ∧ x ≤ B (2 ^ p - 1) ∧ ∀ H', Same H H' → Q (vn (B (2 ^ p - 1) - x)) H'
theorem ok_mirror (T : Txt K mg) : FnOk P w K mg base CX0 5 T.f_mirror T.fd_mirror ["x", "power"] (sp_mirror K) := by
  have nd := sc_mirror.nd
  refine T.F_mirror.ok sc_mirror (fun vs H Q E h => ?_) (fun cdv A outer s H vs Q E hr h => ?_)
  · obtain ⟨x, p, rfl, _⟩ := h
    rfl
  · obtain ⟨x, p, rfl, hp, hx, hxb, q⟩ := h
    refine ⟨_, (pss_cons (ps_if (pt_not (pt_val (pe_call (ok_is_between T) (hr.mono (by decide)) rfl T.g_is_between T.F_is_between.kp T.b_is_between .nil pass0 (pa_cons (pv 1) (pa_cons pe_int (pa_cons (pe_glob (v := .int 2000) rfl T.g_MAX_POWER ⟨_, rfl⟩) pa_nil)))))) (pss_one ps_never) pss_nil)
      (pss_cons (ps_set (i := 2) nd rfl (.inl rfl) (pe_call (ok_base_member T) (hr.mono (by decide)) rfl T.g_base_member T.F_base_member.kp T.b_base_member .nil pass0 (pa_cons (pe_op op_sub (pe_op op_shlW pe_int (pv 1)) pe_int) pa_nil)))
      (pss_cons (ps_if (PW.pt (pw_or (pt_not (pt_val (pe_call (ok_is_between T) (hr.mono (by decide)) rfl T.g_is_between T.F_is_between.kp T.b_is_between .nil pass0 (pa_cons (pv 0) (pa_cons pe_int (pa_cons (pv 2) pa_nil)))))) (pw_or1 (pt_not (pt_val (pe_call (ok_in_base T) (hr.mono (by decide)) rfl T.g_in_base T.F_in_base.kp T.b_in_base .nil pass0 (pa_cons (pv 0) pa_nil))))))) (pss_one ps_never) pss_nil)
      (pss_one (ps_ret (pe_op op_sub (pv 2) (pv 0))))))), ?_⟩
    refine ⟨_, rfl, (p : Int), 0, 2000, rfl, by omega, by omega, true, rfl, iteF ?_⟩
    have p0 : 0 < 2 ^ p := Nat.pow_pos (by decide)
    have e1 : [V.int (1 * 2 ^ ((p : Int)).toNat - 1)] = [vn (2 ^ p - 1)] := by
      unfold vn
      rw [Int.one_mul, Int.toNat_natCast, show ((2 : Int) ^ p) = ((2 ^ p : Nat) : Int) by rw [Int.natCast_pow]; rfl]
      congr 2
      omega
    have pl : 2 ^ p < 2 ^ 4000 := Nat.pow_lt_pow_right (by decide) (by omega)
    refine ⟨_, rfl, _, _, rfl, rfl, shl_ok (n := 1) (by decide) (by omega), _, _, rfl, rfl, 2 ^ p - 1, e1, by omega, fun H1 s1 => ?_⟩
    refine ⟨_, rfl, _, rfl, (x : Int), 0, ((B (2 ^ p - 1) : Nat) : Int), rfl, by omega, by omega, true, rfl, iteF ?_⟩
    have xb : x < 2 ^ 4000 := by
      have h1 := B_full p
      have h2 : 3 ^ p ≤ 3 ^ 2000 := Nat.pow_le_pow_right (by decide) hp
      have h3 : 3 ^ 2000 < 2 ^ 4000 := by decide +kernel
      omega
    refine ⟨_, rfl, x, rfl, xb, fun H2 s2 => ⟨_, rfl, ite2 (fun c => ?_) (fun _ => ?_)⟩⟩
    · rw [decide_eq_true hx] at c
      cases c
    refine ⟨_, rfl, _, rfl, _, _, rfl, rfl, ?_⟩
    have e2 : V.int (((B (2 ^ p - 1) : Nat) : Int) - (x : Int)) = vn (B (2 ^ p - 1) - x) := by
      unfold vn
      congr 1
      omega
    show Q (V.int (((B (2 ^ p - 1) : Nat) : Int) - (x : Int))) H2
    rw [e2]
    exact q _ (s1.trans s2)
end
end K04

namespace K04
open PySem PySem.Spec PyProof.Rows L2 TM TF
section
variable {P : Program} {w : World} {K : PySem.W.Frag} {mg : Str → Option Value} {base : Heap}
theorem lt_more {n a b : Nat} (h : n < 2 ^ a) (hab : a ≤ b) : n < 2 ^ b := Nat.lt_of_lt_of_le h (Nat.pow_le_pow_right (by decide) hab)
/-- what repr asks of [x, x] -/
theorem twice_repr {x : Nat} (h : x < 2 ^ 1000) : ∀ {D : PyData}, D = .list [.int (x : Int), .int (x : Int)] → D.showable = true ∧ D.hasDict = false ∧ D.depth ≤ 60 ∧ D.shown.length ≤ sizeLine := by
  rintro D rfl
  have lx : ((x : Nat) : Int).natAbs.log2 < 1920 := log_of h (by decide) (by decide)
  exact ints_repr (l := [(x : Int), (x : Int)]) (fun i hi => by
    have e : i = (x : Int) := by
      rcases List.mem_cons.mp hi with e | hi
      · exact e
      · exact List.mem_singleton.mp hi
    rw [e]
    exact lx) (by show 2 ≤ 200; decide)
theorem dp_twice {H : Hp} {l : Addr} {x : Nat} (e : H l = some (.lst [vn x, vn x])) : Dp K H (.ref l) (.list [.int (x : Int), .int (x : Int)]) :=
  .lst (SqL.of e) (.cons (.int _) (.cons (.int _) .nil))
def sp_l_gap_right (K : PySem.W.Frag) : Sp := fun vs H Q _ => ∃ n : Nat, vs = [vn n] ∧ 0 < n ∧ n < 2 ^ 260 ∧ ∀ H', Same H H' → Q (.bl true) H'
theorem ok_l_gap_right (T : Txt K mg) : GOk P w K mg base 5 T.f_l_gap_right T.fd_l_gap_right ["order"] (sp_l_gap_right K) := by
  have nd := sc_l_gap_right.nd
  refine gok T.F_l_gap_right sc_l_gap_right (fun vs H Q E h => ?_) (fun cdv A outer s H vs Q E hr hG h => ?_)
  · obtain ⟨n, rfl, _⟩ := h
    rfl
  · obtain ⟨n, rfl, h0, hn, q⟩ := h
    have hn3 : n < 2 ^ 300 := lt_more hn (by decide)
    have hn4 : n < 2 ^ 4000 := lt_more hn (by decide)
    have gb := Nat.lt_trans (G_pow 300 n h0 hn3) (three_300 (by decide))
    refine ⟨_, (pss_cons (ps_par (i := 1) (j := 2) (by rfl) nd rfl rfl (by decide) rfl rfl (pa_cons pe_int (pa_cons (pv 0) pa_nil)) (by rfl))
      (pss_cons (ps_while PassesOwn.never (pt_cmpR op_eq (pe_op op_modN (pv 2) pe_int) pe_int (nomark _)) (pss_one (ps_par (i := 1) (j := 2) (by rfl) nd rfl rfl (by decide) rfl rfl (pa_cons (pe_op op_mulW pe_int (pv 1)) (pa_cons (pe_op op_fdivW (pv 2) pe_int) pa_nil)) (by rfl))))
      (pss_cons (ps_set (i := 3) nd rfl (.inl rfl) (pe_op op_fdivW (pe_op op_add (pv 1) pe_int) pe_int))
      (pss_cons (ps_if (pt_cmpR op_ne (pe_callB (call_rep hG hr.units) (by rfl) T.m_repr (by decide +kernel) (pa_cons (pe_lst (pa_cons (pe_call (ok_base_gap T) (hr.mono (by decide)) rfl T.g_base_gap T.F_base_gap.kp T.b_base_gap .nil pass0 (pa_cons (pv 0) pa_nil)) (pa_cons (pe_callK0 (ok_base_gap T) (hr.mono (by decide)) rfl T.g_base_gap T.F_base_gap.kp T.kb_base_gap pass0 (pk_cons (pv 0) pk_nil)) pa_nil))) pa_nil)) (pe_callB (call_rep hG hr.units) (by rfl) T.m_repr (by decide +kernel) (pa_cons (pe_lst (pa_cons (pv 3) (pa_cons (pv 3) pa_nil))) pa_nil)) (nomark _)) (pss_one (ps_ret pe_bl)) pss_nil)
      (pss_one (ps_ret (pe_cmpR op_eq (pe_op op_sub (pe_call (ok_base_member T) (hr.mono (by decide)) rfl T.g_base_member T.F_base_member.kp T.b_base_member .nil pass0 (pa_cons (pv 0) pa_nil)) (pe_call (ok_base_member T) (hr.mono (by decide)) rfl T.g_base_member T.F_base_member.kp T.b_base_member .nil pass0 (pa_cons (pe_op op_sub (pv 0) pe_int) pa_nil))) (pv 3) (nomark _)))))))), ?_⟩
    refine ⟨_, rfl, _, _, rfl, ?_⟩
    refine while_by (fun σ H' => ∃ (m pw : Nat), σ = [some (vn n), some (vn pw), some (vn m), none] ∧ H' = H ∧ 0 < m ∧ pw * G m = G n)
      (fun σ _ => match σ with | _ :: _ :: some (.int m) :: _ => m.toNat | _ => 0) ⟨n, 1, rfl, rfl, h0, Nat.one_mul _⟩ ?_ ?_
    · rintro σ H' ⟨m, pw, rfl, rfl, hm, ep⟩
      have pb : pw < 2 ^ 800 := by
        have := Nat.le_mul_of_pos_right pw (G_pos m)
        omega
      refine ⟨_, rfl, _, _, rfl, rfl, (by show (2 : Int) ≠ 0; decide), rfl, _, rfl, ite2 (fun c => ?_) (fun c => ?_)⟩
      · have c2 := V.int.inj (of_decide_eq_true c)
        have ce : m % 2 = 0 := by
          rw [show (2 : Int) = ((2 : Nat) : Int) from rfl, fmod_nat] at c2
          omega
        refine ⟨_, rfl, _, _, rfl, rfl, wide_mul (a := 2) (b := 800) (by decide) (by rw [Int.natAbs_natCast]; exact pb) (by decide) (by decide) (by decide), _, rfl, _, _, rfl, rfl, wide_div (b := 2) (by decide) (by decide) (by decide) (by decide), _, _, rfl,
          ⟨m / 2, 3 * pw, rfl, rfl, by omega, ?_⟩, ?_⟩
        · rw [← ep, G_even hm ce, Nat.mul_comm 3 pw, Nat.mul_assoc]
        · show (((m : Int) / ((2 : Nat) : Int)).toNat) < (m : Int).toNat
          rw [div_nat, Int.toNat_natCast, Int.toNat_natCast]
          omega
      · have ce : m % 2 = 1 := by
          have : ¬ (m : Int).fmod 2 = 0 := fun z => c (decide_eq_true (congrArg V.int z))
          rw [show (2 : Int) = ((2 : Nat) : Int) from rfl, fmod_nat] at this
          omega
        rw [G_odd ce, Nat.mul_one] at ep
        subst ep
        have xb : (G n + 1) / 2 < 2 ^ 1000 := by
          have := lt_more gb (show 800 ≤ 1000 by decide)
          omega
        obtain ⟨g1, g2, g3, g4⟩ := twice_repr xb rfl
        refine ⟨_, rfl, _, _, rfl, rfl, _, _, rfl, rfl, wide_div (b := 2) (by decide) (by decide) (by decide) (by decide), ?_⟩
        refine ⟨_, rfl, n, rfl, h0, hn3, _, rfl, rfl, n, rfl, h0, hn3, (by show 2 ≤ sizeLine; decide), fun l hl => ⟨l, _, rfl, dp_twice upd_same, g1, g2, g3, g4, ?_⟩⟩
        refine ⟨_, rfl, _, rfl, (by show 2 ≤ sizeLine; decide), fun l2 hl2 => ⟨l2, _, rfl, dp_twice upd_same, g1, g2, g3, g4, rfl, _, rfl, ite2 (fun c => (ne_no rfl c).elim) (fun _ => ?_)⟩⟩
        have e1 : V.int ((n : Int) - 1) = vn (n - 1) := by
          unfold vn
          congr 1
          omega
        refine ⟨_, rfl, n, rfl, hn4, fun H3 s3 => ⟨_, rfl, _, _, rfl, rfl, n - 1, congrArg (fun z => [z]) e1, by omega, fun H4 s4 => ⟨_, _, rfl, rfl, _, rfl, rfl, ?_⟩⟩⟩
        have e2 : ((B n : Nat) : Int) - ((B (n - 1) : Nat) : Int) = (((G n + 1) / 2 : Nat) : Int) := by
          have := G_gap n h0
          omega
        show Q (.bl (decide (V.int (((B n : Nat) : Int) - ((B (n - 1) : Nat) : Int)) = vn ((G n + 1) / 2)))) H4
        rw [e2]
        rw [decide_eq_true (show V.int (((G n + 1) / 2 : Nat) : Int) = vn ((G n + 1) / 2) from rfl)]
        exact q _ ((same_new hl).trans ((same_new hl2).trans (s3.trans s4)))
    · rintro σ H' Q1 Q2 imp ⟨v, h1, i, j, h2, h3, h4, h5, k, h6, h7⟩
      exact ⟨v, h1, i, j, h2, h3, h4, h5, k, h6, imp _ _ h7⟩
def sp_l_sum_right (K : PySem.W.Frag) : Sp := fun vs H Q _ => ∃ n : Nat, vs = [vn n] ∧ n < 2 ^ 260 ∧ ∀ H', Same H H' → Q (.bl true) H'
theorem ok_l_sum_right (T : Txt K mg) : FnOk P w K mg base CX0 5 T.f_l_sum_right T.fd_l_sum_right ["order"] (sp_l_sum_right K) := by
  have nd := sc_l_sum_right.nd
  refine T.F_l_sum_right.ok sc_l_sum_right (fun vs H Q E h => ?_) (fun cdv A outer s H vs Q E hr h => ?_)
  · obtain ⟨n, rfl, _⟩ := h
    rfl
  · obtain ⟨n, rfl, hn, q⟩ := h
    have hn3 : n < 2 ^ 299 := lt_more hn (by decide)
    have hn4 : n < 2 ^ 4000 := lt_more hn (by decide)
    have p299 : 2 ^ 299 + 1 ≤ 2 ^ 300 := by decide +kernel
    refine ⟨_, (pss_cons (ps_if (pt_cmpR op_ne (pe_op op_sub (pe_call (ok_base_sum T) (hr.mono (by decide)) rfl T.g_base_sum T.F_base_sum.kp T.b_base_sum .nil pass0 (pa_cons (pe_op op_add (pv 0) pe_int) pa_nil)) (pe_callK0 (ok_base_sum T) (hr.mono (by decide)) rfl T.g_base_sum T.F_base_sum.kp T.kb_base_sum pass0 (pk_cons (pv 0) pk_nil))) (pe_call (ok_base_member T) (hr.mono (by decide)) rfl T.g_base_member T.F_base_member.kp T.b_base_member .nil pass0 (pa_cons (pv 0) pa_nil)) (nomark _)) (pss_one (ps_ret pe_bl)) pss_nil)
      (pss_cons (ps_asg (pe_tup (pa_cons pe_int (pa_cons pe_int pa_nil))) (pg_tup (by rfl) (pgs_cons (pg_name (i := 1) nd rfl (.inl rfl)) (pgs_cons (pg_name (i := 2) nd rfl (.inl rfl)) pgs_nil))))
      (pss_cons (ps_while PassesOwn.never (pt_cmpR op_le (pv 1) (pv 0) (nomark _)) (pss_one (ps_par (i := 1) (j := 2) (by rfl) nd rfl rfl (by decide) rfl rfl (pa_cons (pe_op op_mulW pe_int (pv 1)) (pa_cons (pe_op op_mulW pe_int (pv 2)) pa_nil)) (by rfl))))
      (pss_cons (ps_if (pt_cmpR op_ne (pe_op op_mulW pe_int (pe_call (ok_base_sum T) (hr.mono (by decide)) rfl T.g_base_sum T.F_base_sum.kp T.b_base_sum .nil pass0 (pa_cons (pv 1) pa_nil))) (pe_op op_mulW (pv 1) (pe_op op_sub (pv 2) pe_int)) (nomark _)) (pss_one (ps_ret pe_bl)) pss_nil)
      (pss_cons (ps_set (i := 3) nd rfl (.inl rfl) (pe_op op_sub (pv 0) (pe_op op_fdivW (pv 1) pe_int)))
      (pss_one (ps_ret (pe_or (pe_cmpR op_eq (pv 0) pe_int (nomark _)) (pe_one (pe_cmpR op_eq (pe_call (ok_base_sum T) (hr.mono (by decide)) rfl T.g_base_sum T.F_base_sum.kp T.b_base_sum .nil pass0 (pa_cons (pv 0) pa_nil)) (pe_op op_add (pe_op op_add (pe_call (ok_base_sum T) (hr.mono (by decide)) rfl T.g_base_sum T.F_base_sum.kp T.b_base_sum .nil pass0 (pa_cons (pe_op op_fdivW (pv 1) pe_int) pa_nil)) (pe_call (ok_base_sum T) (hr.mono (by decide)) rfl T.g_base_sum T.F_base_sum.kp T.b_base_sum .nil pass0 (pa_cons (pv 3) pa_nil))) (pe_op op_mulW (pv 3) (pe_op op_fdivW (pv 2) pe_int))) (nomark _))))))))))), ?_⟩
    refine ⟨_, rfl, _, _, rfl, rfl, n + 1, rfl, by omega, fun H1 s1 => ⟨_, rfl, rfl, n, rfl, by omega, fun H2 s2 => ⟨_, _, rfl, rfl, _, rfl, n, rfl, hn4, fun H3 s3 => ⟨rfl, _, rfl, ite2 (fun c => (ne_no (congrArg V.int ?_) c).elim) (fun _ => ?_)⟩⟩⟩⟩
    · show ((S n + B n : Nat) : Int) - ((S n : Nat) : Int) = ((B n : Nat) : Int)
      omega
    have s13' := s1.trans (s2.trans s3)
    refine ⟨(by show 2 ≤ sizeLine; decide), fun t ht => ?_⟩
    have s13 := s13'.trans (same_new (o := .tup [.int 1, .int 1]) ht)
    refine ⟨t, [.int 1, .int 1], rfl, SqT.of upd_same, rfl, _, [_], rfl, _, [], rfl, rfl, ?_⟩
    generalize upd H3 t (.tup [.int 1, .int 1]) = H3' at s13 ⊢
    refine while_by (fun σ H' => ∃ (h g : Int) (j : Nat), σ = [some (vn n), some (.int h), some (.int g), none] ∧ H' = H3' ∧ h = ((2 ^ j : Nat) : Int) ∧ g = ((3 ^ j : Nat) : Int) ∧ (j = 0 ∨ 2 ^ (j - 1) ≤ n))
      (fun σ _ => match σ with | _ :: some (.int h) :: _ => (2 ^ 301 - h).toNat | _ => 0) ⟨1, 1, 0, rfl, rfl, rfl, rfl, .inl rfl⟩ ?_ ?_
    · rintro σ H' ⟨h, g, j, rfl, rfl, rfl, rfl, hj⟩
      have hj2 : j ≤ 260 := by
        rcases hj with z | z
        · omega
        · rcases Nat.lt_or_ge (j - 1) 260 with y | y
          · omega
          · have := Nat.pow_le_pow_right (show 0 < 2 by decide) y
            omega
      have p0 : 0 < 2 ^ j := Nat.pow_pos (by decide)
      have hb : ((2 ^ j : Nat) : Int).natAbs < 2 ^ 301 := by
        rw [Int.natAbs_natCast]
        exact Nat.pow_lt_pow_right (by decide) (by omega)
      have gb : ((3 ^ j : Nat) : Int).natAbs < 2 ^ 800 := by
        rw [Int.natAbs_natCast]
        exact three_300 (by omega)
      refine ⟨_, rfl, _, rfl, _, _, rfl, rfl, _, rfl, ite2 (fun c => ?_) (fun c => ?_)⟩
      · have hle : 2 ^ j ≤ n := by have := of_decide_eq_true c; omega
        have w1 : CMulW 2 ((2 ^ j : Nat) : Int) := wide_mul (a := 2) (b := 301) (by decide) hb (by decide) (by decide) (by decide)
        have w2 : CMulW 3 ((3 ^ j : Nat) : Int) := wide_mul (a := 2) (b := 800) (by decide) gb (by decide) (by decide) (by decide)
        refine ⟨_, rfl, _, _, rfl, rfl, w1, _, rfl, _, _, rfl, rfl, w2, _, _, rfl, ⟨_, _, j + 1, rfl, rfl, ?_, ?_, .inr hle⟩, ?_⟩
        · rw [Nat.pow_succ, Nat.mul_comm]; rfl
        · rw [Nat.pow_succ, Nat.mul_comm]; rfl
        · show (2 ^ 301 - 2 * ((2 ^ j : Nat) : Int)).toNat < (2 ^ 301 - ((2 ^ j : Nat) : Int)).toNat
          rw [Int.natAbs_natCast] at hb
          have z : ((2 ^ 301 : Nat) : Int) = (2 : Int) ^ 301 := by rw [Int.natCast_pow]; rfl
          rw [← z]
          omega
      · have hgt : n < 2 ^ j := by
          have : ¬ ((2 ^ j : Nat) : Int) ≤ (n : Int) := fun z => c (decide_eq_true z)
          omega
        have jb : 2 ^ j ≤ 2 ^ 300 := Nat.pow_le_pow_right (by decide) (by omega)
        have sb : ∀ m, m ≤ 2 ^ 300 → S m < 2 ^ 2000 := by
          intro m hm
          have h1 := S_lt (L := 300) hm
          have h2 : m * 3 ^ 300 ≤ 2 ^ 300 * 3 ^ 300 := Nat.mul_le_mul_right _ hm
          have h3 : 2 ^ 300 * 3 ^ 300 < 2 ^ 2000 := by decide +kernel
          omega
        have w1 : CMulW 4 ((S (2 ^ j) : Nat) : Int) := wide_mul (a := 4) (b := 2000) (by decide) (by rw [Int.natAbs_natCast]; exact sb _ jb) (by decide) (by decide) (by decide)
        have g0 : 0 < 3 ^ j := Nat.pow_pos (by decide)
        have gb' : 3 ^ j < 2 ^ 800 := by
          rw [Int.natAbs_natCast] at gb
          exact gb
        have g1b : (((3 ^ j : Nat) : Int) - 1).natAbs < 2 ^ 800 := by
          generalize 3 ^ j = z at g0 gb' ⊢
          omega
        have w2 : CMulW ((2 ^ j : Nat) : Int) (((3 ^ j : Nat) : Int) - 1) := wide_mul (a := 301) (b := 800) hb g1b (by decide) (by decide) (by decide)
        refine ⟨_, rfl, 2 ^ j, rfl, jb, fun H4 s4 => ⟨_, _, rfl, rfl, w1, _, rfl, _, rfl, _, _, rfl, rfl, _, _, rfl, rfl, w2, rfl, _, rfl, ite2 (fun c => (ne_no (congrArg V.int ?_) c).elim) (fun _ => ?_)⟩⟩
        · have := S_pow j
          have e : ((2 ^ j : Nat) : Int) * (((3 ^ j : Nat) : Int) - 1) = ((2 ^ j * 3 ^ j : Nat) : Int) - ((2 ^ j : Nat) : Int) := by
            rw [Int.mul_sub, Int.mul_one, Int.natCast_mul]
          show (4 : Int) * ((S (2 ^ j) : Nat) : Int) = ((2 ^ j : Nat) : Int) * (((3 ^ j : Nat) : Int) - 1)
          rw [e]
          omega
        have two : (2 : Int).natAbs < 2 ^ 2 := by decide
        refine ⟨_, rfl, _, rfl, _, _, rfl, rfl, wide_div (b := 2) (by decide) (by decide) (by decide) (by decide), _, _, rfl, rfl, ?_⟩
        refine ⟨_, rfl, rfl, _, rfl, ite2 (fun c => ?_) (fun c => ?_)⟩
        · exact q _ (s13.trans s4)
        · have n0 : n ≠ 0 := by
            rintro rfl
            exact c rfl
          obtain ⟨k, rfl⟩ : ∃ k, j = k + 1 := by
            rcases hj with z | z
            · subst z
              rw [Nat.pow_zero] at hgt
              omega
            · rcases Nat.eq_zero_or_pos j with y | y
              · subst y
                rw [Nat.pow_zero] at hgt
                omega
              · exact ⟨j - 1, by omega⟩
          have hk : 2 ^ k ≤ n := by
            rcases hj with z | z
            · omega
            · exact z
          have e1 : ((2 ^ (k + 1) : Nat) : Int) / 2 = ((2 ^ k : Nat) : Int) := by
            rw [Nat.pow_succ]
            omega
          have e3 : ((3 ^ (k + 1) : Nat) : Int) / 3 = ((3 ^ k : Nat) : Int) := by
            rw [Nat.pow_succ]
            omega
          have rlt : n - 2 ^ k ≤ 2 ^ k := by
            rw [Nat.pow_succ] at hgt
            omega
          have kb : 2 ^ k ≤ 2 ^ 300 := Nat.pow_le_pow_right (by decide) (by omega)
          have er : V.int ((n : Int) - ((2 ^ (k + 1) : Nat) : Int) / 2) = vn (n - 2 ^ k) := by
            rw [e1]
            unfold vn
            congr 1
            omega
          have w3 : CMulW ((n : Int) - ((2 ^ (k + 1) : Nat) : Int) / 2) (((3 ^ (k + 1) : Nat) : Int) / 3) := by
            rw [e1, e3]
            refine wide_mul (a := 301) (b := 800) ?_ ?_ (by decide) (by decide) (by decide)
            · rw [Int.natAbs_natCast] at hb
              omega
            · rw [Int.natAbs_natCast]
              exact three_300 (by omega)
          refine ⟨_, rfl, n, rfl, by omega, fun H5 s5 => ⟨_, rfl, _, _, rfl, rfl, wide_div (b := 2) (by decide) (by decide) (by decide) (by decide), 2 ^ k, congrArg (fun z => [V.int z]) e1, kb, fun H6 s6 =>
            ⟨_, rfl, n - 2 ^ k, congrArg (fun z => [z]) er, by omega, fun H7 s7 => ⟨_, _, rfl, rfl, _, rfl, _, rfl, _, _, rfl, rfl, wide_div (b := 2) (by decide) (by decide) (by decide) (by decide), _, _, rfl, rfl, w3, _, _, rfl, rfl, rfl, ?_⟩⟩⟩⟩
          have es : ((S (2 ^ k) : Nat) : Int) + ((S (n - 2 ^ k) : Nat) : Int) + ((n : Int) - ((2 ^ (k + 1) : Nat) : Int) / 2) * (((3 ^ (k + 1) : Nat) : Int) / 3) = ((S n : Nat) : Int) := by
            have sp := S_split k (n - 2 ^ k) rlt
            rw [show 2 ^ k + (n - 2 ^ k) = n by omega] at sp
            have er2 : ((n : Int) - ((2 ^ (k + 1) : Nat) : Int) / 2) = ((n - 2 ^ k : Nat) : Int) := V.int.inj er
            rw [er2, e3, sp, Int.natCast_add, Int.natCast_add, Int.natCast_mul]
          show Q (.bl (decide (vn (S n) = V.int (((S (2 ^ k) : Nat) : Int) + ((S (n - 2 ^ k) : Nat) : Int) + ((n : Int) - ((2 ^ (k + 1) : Nat) : Int) / 2) * (((3 ^ (k + 1) : Nat) : Int) / 3))))) H7
          rw [es, decide_eq_true (show vn (S n) = V.int ((S n : Nat) : Int) from rfl)]
          exact q _ (s13.trans (s4.trans (s5.trans (s6.trans s7))))
    · rintro σ H' Q1 Q2 imp ⟨v, h1, v', h1', i, j, h2, h3, k, h4, h5⟩
      exact ⟨v, h1, v', h1', i, j, h2, h3, k, h4, imp _ _ h5⟩
end
end K04

namespace K04
open PySem PySem.Spec PyProof.Rows L2 TM TF
section
variable {P : Program} {w : World} {K : PySem.W.Frag} {mg : Str → Option Value} {base : Heap}
def sp_l_mirror_right (K : PySem.W.Frag) : Sp := fun vs H Q _ => ∃ (p : Addr) (a b c : Nat), vs = [.ref p] ∧ H p = some (Strm a b c) ∧ b + 200 < 2 ^ 39 ∧ c < 2147483629 ∧
  ∀ H' a' b', b' ≤ b + 3 → H' p = some (Strm a' b' c) → But p H H' → Q (.bl true) H'
theorem ok_l_mirror_right (T : Txt K mg) : GOk P w K mg base 6 T.f_l_mirror_right T.fd_l_mirror_right ["stream"] (sp_l_mirror_right K) := by
  have nd := sc_l_mirror_right.nd
  refine gok T.F_l_mirror_right sc_l_mirror_right (fun vs H Q E h => ?_) (fun cdv A outer s H vs Q E hr hG h => ?_)
  · obtain ⟨p, a, b, c, rfl, _⟩ := h
    rfl
  · obtain ⟨p, a, b, c, rfl, hp, hb, hc, q⟩ := h
    refine ⟨_, (pss_cons (ps_par (i := 1) (j := 2) (by rfl) nd rfl rfl (by decide) rfl rfl (pa_cons (pe_call (ok_l_draw T) (hr.mono (by decide)) rfl T.g_l_draw T.F_l_draw.kp T.b_l_draw .nil pass0 (pa_cons (pv 0) (pa_cons pe_int pa_nil))) (pa_cons pe_int pa_nil)) (by rfl))
      (pss_cons (ps_for PassesOwn.never rfl (pi_range1 rfl T.m_range (pa_cons (pv 1) pa_nil)) (pg_name (i := 3) nd rfl (.inl rfl)) (pss_one (ps_set (i := 2) nd rfl (.inl rfl) (pe_op op_mulW pe_int (pv 2)))))
      (pss_cons (ps_set (i := 4) nd rfl (.inl rfl) (pe_ix (ix_listK K) (pe_lst (pa_cons pe_int (pa_cons (pe_op op_sub (pv 2) pe_int) (pa_cons (pe_call (ok_l_draw T) (hr.mono (by decide)) rfl T.g_l_draw T.F_l_draw.kp T.b_l_draw .nil pass0 (pa_cons (pv 0) (pa_cons (pv 2) pa_nil))) pa_nil)))) (pe_call (ok_l_draw T) (hr.mono (by decide)) rfl T.g_l_draw T.F_l_draw.kp T.b_l_draw .nil pass0 (pa_cons (pv 0) (pa_cons pe_int pa_nil))) (fun _ _ => rfl)))
      (pss_cons (ps_set (i := 5) nd rfl (.inl rfl) (pe_call (ok_base_member T) (hr.mono (by decide)) rfl T.g_base_member T.F_base_member.kp T.b_base_member .nil pass0 (pa_cons (pv 4) pa_nil)))
      (pss_cons (ps_set (i := 6) nd rfl (.inl rfl) (pe_lst (pa_cons (pe_call (ok_mirror T) (hr.mono (by decide)) rfl T.g_mirror T.F_mirror.kp T.b_mirror .nil pass0 (pa_cons (pv 5) (pa_cons (pv 1) pa_nil))) (pa_cons (pe_callK0 (ok_mirror T) (hr.mono (by decide)) rfl T.g_mirror T.F_mirror.kp T.kb_mirror pass0 (pk_cons (pv 1) (pk_cons (pv 5) pk_nil))) pa_nil))))
      (pss_cons (ps_set (i := 7) nd rfl (.inl rfl) (pe_call (ok_base_member T) (hr.mono (by decide)) rfl T.g_base_member T.F_base_member.kp T.b_base_member .nil pass0 (pa_cons (pe_op op_sub (pe_op op_sub (pv 2) pe_int) (pv 4)) pa_nil)))
      (pss_one (ps_ret (pe_and (pe_cmpR op_eq (pe_callB (call_rep hG hr.units) (by rfl) T.m_repr (by decide +kernel) (pa_cons (pv 6) pa_nil)) (pe_callB (call_rep hG hr.units) (by rfl) T.m_repr (by decide +kernel) (pa_cons (pe_lst (pa_cons (pv 7) (pa_cons (pv 7) pa_nil))) pa_nil)) (nomark _)) (pe_and (pe_cmpR op_eq (pe_call (ok_mirror T) (hr.mono (by decide)) rfl T.g_mirror T.F_mirror.kp T.b_mirror .nil pass0 (pa_cons (pv 7) (pa_cons (pv 1) pa_nil))) (pv 5) (nomark _)) (pe_one (pe_cmpR op_eq (pe_call (ok_base_rank T) (hr.mono (by decide)) rfl T.g_base_rank T.F_base_rank.kp T.b_base_rank .nil pass0 (pa_cons (pv 7) pa_nil)) (pe_op op_sub (pe_op op_sub (pv 2) pe_int) (pv 4)) (nomark _))))))))))))), ?_⟩
    refine ⟨_, rfl, p, 200, a, b, c, rfl, hp, by decide, by decide, by omega, hc, fun a1 sz h1 => ⟨_, _, rfl, ?_⟩⟩
    refine ⟨_, rfl, sz, rfl, by omega, by omega, ?_⟩
    have H1p : upd H p (Strm a1 (b + 1) c) p = some (Strm a1 (b + 1) c) := upd_same
    have B1 : But p H (upd H p (Strm a1 (b + 1) c)) := (But.refl p H).upd
    generalize upd H p (Strm a1 (b + 1) c) = H1 at H1p B1 ⊢
    refine for_it (walk_range (lo := 0) (n := sz)) (fun i σ H' => ∃ (hf : Int) (y3 : Option V), σ = [some (.ref p), some (vn sz), some (.int hf), y3, none, none, none, none] ∧ H' = H1 ∧ hf = ((2 ^ i : Nat) : Int))
      ⟨1, none, rfl, rfl, rfl⟩ (fun _ _ _ _ _ => trivial) ?_ ?_
    · rintro i x σ H2 H3 hi ⟨hf, y3, rfl, rfl, rfl⟩ ⟨rfl, rfl⟩
      have pb : ((2 ^ i : Nat) : Int).natAbs < 2 ^ 300 := by
        rw [Int.natAbs_natCast]
        exact Nat.pow_lt_pow_right (by decide) (by omega)
      have w1 : CMulW 2 ((2 ^ i : Nat) : Int) := wide_mul (a := 2) (b := 300) (by decide) pb (by decide) (by decide) (by decide)
      refine ⟨_, rfl, _, _, rfl, rfl, w1, ⟨_, some (.int (0 + (i : Int))), rfl, rfl, ?_⟩⟩
      rw [Nat.pow_succ, Nat.mul_comm]
      rfl
    · rintro σ H2 ⟨hf, y3, rfl, rfl, rfl⟩
      have p0 : 0 < 2 ^ sz := Nat.pow_pos (by decide)
      have pb : 2 ^ sz < 2 ^ 300 := Nat.pow_lt_pow_right (by decide) (by omega)
      have pb2 : 2 ^ sz < 2 ^ 2000 := Nat.pow_lt_pow_right (by decide) (by omega)
      have pb4 : 2 ^ sz < 2 ^ 4000 := Nat.pow_lt_pow_right (by decide) (by omega)
      refine ⟨_, rfl, _, _, rfl, rfl, _, rfl, _, rfl, p, 2 ^ sz, a1, b + 1, c, rfl, H1p, p0, pb, by omega, hc, fun a2 r2 h2 => ⟨(by show 3 ≤ sizeLine; decide), fun l hl => ?_⟩⟩
      have hpl : p ≠ l := ne_of_none (upd_same (H := H2) (a := p) (o := Strm a2 (b + 1 + 1) c)) hl
      have e3 : upd (upd H2 p (Strm a2 (b + 1 + 1) c)) l (.lst [.int 0, .int (((2 ^ sz : Nat) : Int) - 1), vn r2]) p = some (Strm a2 (b + 2) c) := by rw [upd_ne hpl, upd_same]
      refine ⟨_, rfl, p, 3, a2, b + 2, c, rfl, e3, by decide, by decide, by omega, hc, fun a3 r3 h3 => ?_⟩
      have B3 : But p H (upd (upd (upd H2 p (Strm a2 (b + 1 + 1) c)) l (.lst [.int 0, .int (((2 ^ sz : Nat) : Int) - 1), vn r2])) p (Strm a3 (b + 2 + 1) c)) :=
        (But.same B1.upd (same_new hl)).upd
      have el : upd (upd (upd H2 p (Strm a2 (b + 1 + 1) c)) l (.lst [.int 0, .int (((2 ^ sz : Nat) : Int) - 1), vn r2])) p (Strm a3 (b + 2 + 1) c) l = some (.lst [.int 0, .int (((2 ^ sz : Nat) : Int) - 1), vn r2]) := by
        rw [upd_ne hpl.symm, upd_same]
      have ep : upd (upd (upd H2 p (Strm a2 (b + 1 + 1) c)) l (.lst [.int 0, .int (((2 ^ sz : Nat) : Int) - 1), vn r2])) p (Strm a3 (b + 2 + 1) c) p = some (Strm a3 (b + 3) c) := upd_same
      generalize upd (upd (upd H2 p (Strm a2 (b + 1 + 1) c)) l (.lst [.int 0, .int (((2 ^ sz : Nat) : Int) - 1), vn r2])) p (Strm a3 (b + 2 + 1) c) = H4 at B3 el ep ⊢
      obtain ⟨o, ho, hat⟩ : ∃ o : Nat, o + 1 ≤ 2 ^ sz ∧ ([.int 0, .int (((2 ^ sz : Nat) : Int) - 1), vn r2] : List V)[r3]? = some (vn o) := by
        rcases (show r3 = 0 ∨ r3 = 1 ∨ r3 = 2 by omega) with rfl | rfl | rfl
        · exact ⟨0, by omega, rfl⟩
        · refine ⟨2 ^ sz - 1, by omega, ?_⟩
          show some (V.int (((2 ^ sz : Nat) : Int) - 1)) = some (vn (2 ^ sz - 1))
          unfold vn
          congr 2
          omega
        · exact ⟨r2, by omega, rfl⟩
      refine ⟨l, _, _, _, rfl, rfl, SqL.of el, atI_nat hat, ?_⟩
      have hm : B o ≤ B (2 ^ sz - 1) := B_mono (by omega)
      refine ⟨_, rfl, o, rfl, by omega, fun H5 s5 => ?_⟩
      refine ⟨_, rfl, _, rfl, B o, sz, rfl, by omega, B_plain o, hm, fun H6 s6 => ⟨_, rfl, _, rfl, rfl, B o, sz, rfl, by omega, B_plain o, hm, fun H7 s7 => ⟨(by show 2 ≤ sizeLine; decide), fun l2 hl2 => ?_⟩⟩⟩
      have ed : V.int (((2 ^ sz : Nat) : Int) - 1 - (o : Int)) = vn (2 ^ sz - 1 - o) := by
        unfold vn
        congr 1
        omega
      refine ⟨_, rfl, _, _, rfl, rfl, _, rfl, _, _, rfl, rfl, 2 ^ sz - 1 - o, congrArg (fun z => [z]) ed, by omega, fun H8 s8 => ?_⟩
      have hcp : B (2 ^ sz - 1) - B o = B (2 ^ sz - 1 - o) := by
        have := B_compl (p := sz) (a := o) (b := 2 ^ sz - 1 - o) (by omega)
        omega
      have hcp2 : B (2 ^ sz - 1) - B (2 ^ sz - 1 - o) = B o := by
        have := B_compl (p := sz) (a := o) (b := 2 ^ sz - 1 - o) (by omega)
        omega
      have xb : B (2 ^ sz - 1 - o) < 2 ^ 1000 := by
        have h1 := B_bound (p := sz) (n := 2 ^ sz - 1 - o) (by omega)
        have h2 : 3 ^ sz ≤ 3 ^ 400 := Nat.pow_le_pow_right (by decide) (by omega)
        have h3 := lt_more (three_300 (i := 400) (by decide)) (show 800 ≤ 1000 by decide)
        omega
      obtain ⟨g1, g2, g3, g4⟩ := twice_repr xb rfl
      have el2 : upd H7 l2 (.lst [vn (B (2 ^ sz - 1) - B o), vn (B (2 ^ sz - 1) - B o)]) l2 = some (.lst [vn (B (2 ^ sz - 1 - o)), vn (B (2 ^ sz - 1 - o))]) := by rw [upd_same, hcp]
      refine ⟨_, rfl, l2, _, rfl, dp_twice (s8 _ _ el2), g1, g2, g3, g4, ?_⟩
      refine ⟨_, rfl, _, rfl, (by show 2 ≤ sizeLine; decide), fun l3 hl3 => ⟨l3, _, rfl, dp_twice upd_same, g1, g2, g3, g4, rfl, _, rfl, ite2 (fun _ => ?_) (fun c => absurd (decide_eq_true rfl) c)⟩⟩
      refine ⟨_, rfl, _, rfl, B (2 ^ sz - 1 - o), sz, rfl, by omega, B_plain _, B_mono (by omega), fun H9 s9 => ⟨_, rfl, rfl, _, rfl, ite2 (fun _ => ?_) (fun c => ?_)⟩⟩
      · refine ⟨_, rfl, 2 ^ sz - 1 - o, rfl, by omega, fun H10 s10 => ⟨_, rfl, _, _, rfl, rfl, _, rfl, _, _, rfl, rfl, rfl, ?_⟩⟩
        show Q (.bl (decide (vn (2 ^ sz - 1 - o) = V.int (((2 ^ sz : Nat) : Int) - 1 - (o : Int))))) H10
        rw [ed, decide_eq_true rfl]
        have sall := s5.trans (s6.trans (s7.trans ((same_new hl2).trans (s8.trans ((same_new hl3).trans (s9.trans s10))))))
        exact q _ a3 (b + 3) (by omega) (sall _ _ ep) (B3.same sall)
      · refine absurd ?_ c
        rw [hcp2]
        exact decide_eq_true rfl
theorem any_commonB (l : List (Nat × Nat)) : (l.countP fun z => decide (z = (1, 1))) = 0 ↔ (1, 1) ∉ l := by
  rw [List.countP_eq_zero]
  constructor
  · intro h z
    exact h _ z (decide_eq_true rfl)
  · intro h z hz e
    have := of_decide_eq_true e
    subst this
    exact h hz
def sp_l_added_right (K : PySem.W.Frag) : Sp := fun vs H Q _ => ∃ a b : Nat, vs = [vn a, vn b] ∧ a < 2 ^ 260 ∧ b < 2 ^ 260 ∧ ∀ H', Same H H' → Q (.bl true) H'
theorem ok_l_added_right (T : Txt K mg) : FnOk P w K mg base CX0 5 T.f_l_added_right T.fd_l_added_right ["one", "two"] (sp_l_added_right K) := by
  have nd := sc_l_added_right.nd
  refine T.F_l_added_right.ok sc_l_added_right (fun vs H Q E h => ?_) (fun cdv A outer s H vs Q E hr h => ?_)
  · obtain ⟨a, b, rfl, _⟩ := h
    rfl
  · obtain ⟨a, b, rfl, ha, hb, q⟩ := h
    have ha4 : a < 2 ^ 4000 := lt_more ha (by decide)
    have hb4 : b < 2 ^ 4000 := lt_more hb (by decide)
    have hab : a + b < 2 ^ 4000 := by
      have : 2 ^ 260 + 2 ^ 260 < 2 ^ 4000 := by decide +kernel
      omega
    refine ⟨_, (pss_cons (ps_par3 (i := 2) (j := 3) (l := 4) (by rfl) nd rfl rfl rfl (by decide) (by decide) (by decide) rfl rfl rfl (pa_cons (pe_call (ok_base_member T) (hr.mono (by decide)) rfl T.g_base_member T.F_base_member.kp T.b_base_member .nil pass0 (pa_cons (pv 0) pa_nil)) (pa_cons (pe_call (ok_base_member T) (hr.mono (by decide)) rfl T.g_base_member T.F_base_member.kp T.b_base_member .nil pass0 (pa_cons (pv 1) pa_nil)) (pa_cons (pe_call (ok_base_member T) (hr.mono (by decide)) rfl T.g_base_member T.F_base_member.kp T.b_base_member .nil pass0 (pa_cons (pe_op op_add (pv 0) (pv 1)) pa_nil)) pa_nil))) (by rfl))
      (pss_cons (ps_setLc (i := 5) (own := [("pair", 6)]) (g := gName 6) (tt := _) rfl nd rfl rfl (sw_true rfl rfl rfl (by decide +kernel)) (pi_list (pe_listZip rfl rfl T.m_list rfl T.m_zip (pa_cons (pe_call (ok_l_digits T) (hr.mono (by decide)) rfl T.g_l_digits T.F_l_digits.kp T.b_l_digits .nil pass0 (pa_cons (pv 0) (pa_cons pe_int pa_nil))) (pa_cons (pe_call (ok_l_digits T) (hr.mono (by decide)) rfl T.g_l_digits T.F_l_digits.kp T.b_l_digits .nil pass0 (pa_cons (pv 1) (pa_cons pe_int pa_nil))) pa_nil)) (by decide +kernel))) (blkOk_by (own := [("pair", 6)]) (N := N_l_added_right) (sc := defScope s_l_added_right) (by decide +kernel)) (fun _ _ _ _ _ => pg_name (i := 6) nd rfl (Or.inl rfl)) (fun _ _ _ _ _ => (pts_one (pt_cmpR (op_eqK K hr.units) (pv 6) (pe_tup (pa_cons pe_int (pa_cons pe_int pa_nil))) (nomark _)))) (fun _ _ _ _ _ => pe_int))
      (pss_one (ps_ret (pe_ifExp (pt_cmpR (op_eqK K hr.units) (pv 5) (pe_lst pa_nil) (nomark _)) (pe_cmpR op_eq (pe_op op_add (pv 2) (pv 3)) (pv 4) (nomark _)) (pe_cmpR op_lt (pe_op op_add (pv 2) (pv 3)) (pv 4) (nomark _))))))), ?_⟩
    refine ⟨_, rfl, a, rfl, ha4, fun H1 s1 => ⟨_, rfl, b, rfl, hb4, fun H2 s2 => ⟨_, rfl, _, rfl, _, _, rfl, rfl, a + b, rfl, hab, fun H4 s3 => ⟨_, _, _, rfl, ?_⟩⟩⟩⟩
    have s4 : Same H H4 := Same.trans s1 (Same.trans s2 s3)
    refine ⟨_, rfl, a, 2, rfl, ha4, by decide, by decide, fun H5 p5 s5 n5 e5 => ⟨_, rfl, b, 2, rfl, hb4, by decide, by decide, fun H6 p6 s6 n6 e6 => ?_⟩⟩
    refine ⟨p5, p6, _, _, rfl, SqL.of (s6 _ _ e5), SqL.of e6, fun H7 pz ts s7 n7 e7 len at_ => ⟨pz, rfl, ⟨_, SqL.of e7⟩, fun D hD => ?_⟩⟩
    have hz : ∀ (j : Nat) (tj : Addr), ts[j]? = some tj → ∃ x y : Nat, ((digs 2 a).zip (digs 2 b))[j]? = some (x, y) ∧ H7 tj = some (.tup [vn x, vn y]) := by
      intro j tj hj
      have hjl := (List.getElem?_eq_some_iff.mp hj).1
      rw [len, List.length_map, List.length_map] at hjl
      have h1 : j < (digs 2 a).length := by omega
      have h2 : j < (digs 2 b).length := by omega
      refine ⟨(digs 2 a)[j], (digs 2 b)[j], ?_, at_ j tj _ _ hj ?_ ?_⟩
      · rw [List.getElem?_zip_eq_some]
        exact ⟨List.getElem?_eq_getElem h1, List.getElem?_eq_getElem h2⟩
      · rw [List.getElem?_map, List.getElem?_eq_getElem h1]; rfl
      · rw [List.getElem?_map, List.getElem?_eq_getElem h2]; rfl
    have zlen : ts.length = ((digs 2 a).zip (digs 2 b)).length := by rw [len, List.length_map, List.length_map, List.length_zip]
    have hcm : commonB a b ↔ (1, 1) ∈ (digs 2 a).zip (digs 2 b) := Iff.rfl
    have tl : ts.length ≤ 4000 := by
      have := digs_len (r := 2) (by omega) 4000 a ha4
      rw [len, List.length_map, List.length_map]
      omega
    generalize (digs 2 a).zip (digs 2 b) = z at hz zlen hcm ⊢
    refine lc_list (K := K) (a := pz) (xs := ts.map V.ref) (fun i H' => H' D = some (.lst (List.replicate ((z.take i).countP fun x => decide (x = (1, 1))) (.int 1))) ∧ Same H7 H')
      ⟨by rw [upd_same]; rfl, same_new hD⟩ (fun i H' _ h => SqL.of (h.2 _ _ e7)) ?_ ?_
    · rintro i x H8 hx ⟨f1, f2⟩
      obtain ⟨tj, hj, rfl⟩ : ∃ tj, ts[i]? = some tj ∧ x = V.ref tj := by
        rw [List.getElem?_map] at hx
        cases y : ts[i]? with
        | none => rw [y] at hx; cases hx
        | some n => rw [y] at hx; exact ⟨n, rfl, (Option.some.inj hx).symm⟩
      obtain ⟨u, v, hzi, etj⟩ := hz i tj hj
      have ec : (z.take (i + 1)).countP (fun x => decide (x = (1, 1))) = (z.take i).countP (fun x => decide (x = (1, 1))) + (if (u, v) = (1, 1) then 1 else 0) := by
        rw [List.take_add_one, hzi, List.countP_append]
        show _ + List.countP _ [(u, v)] = _
        rw [List.countP_singleton]
        by_cases h : (u, v) = (1, 1) <;> simp [h]
      refine ⟨rfl, _, rfl, (by show 2 ≤ sizeLine; decide), fun t2 ht2 => ?_⟩
      have st := same_new (o := .tup [.int 1, .int 1]) ht2
      refine ⟨prI u v, prI 1 1, dp_pair (SqT.of (st _ _ (f2 _ _ etj))), dp_pair (SqT.of upd_same), prI_shaped _ _, prI_shaped _ _, _, rfl, ?_⟩
      rw [prI_eqv]
      have cl : ((z.take i).countP fun x => decide (x = (1, 1))) ≤ 4000 := by
        refine Nat.le_trans List.countP_le_length ?_
        rw [List.length_take]
        omega
      refine ite2 (fun c => ?_) (fun c => ?_)
      · have huv : (u, v) = (1, 1) := by
          obtain ⟨c1, c2⟩ := of_decide_eq_true c
          rw [show u = 1 by omega, show v = 1 by omega]
        rw [if_pos huv] at ec
        refine ⟨_, st _ _ f1, by rw [List.length_replicate]; exact small_lt cl, ?_, Same.mut (f2.trans st) hD⟩
        rw [upd_same, ec, List.replicate_succ']
      · have huv : ¬ (u, v) = (1, 1) := by
          intro h
          cases h
          exact c (decide_eq_true ⟨rfl, rfl⟩)
        rw [if_neg huv, Nat.add_zero] at ec
        rw [ec]
        exact ⟨st _ _ f1, f2.trans st⟩
    rintro H8 ⟨f1, f2⟩
    rw [List.length_map, zlen, List.take_length] at f1
    refine ⟨_, rfl, Nat.zero_le _, fun l hl => ?_⟩
    have sl := same_new (o := .lst []) hl
    have Dc : Dp K (upd H8 l (.lst [])) (.ref D) (.list ((List.replicate (z.countP fun x => decide (x = (1, 1))) (1 : Int)).map PyData.int)) := by
      refine dp_ints (SqL.of ?_)
      rw [sl _ _ f1, List.map_replicate]
    refine ⟨_, .list [], Dc, .lst (SqL.of upd_same) .nil, ints_shaped _, ints_shaped [], _, rfl, ?_⟩
    have hB := B_add a b
    have sall := Same.trans s4 (Same.trans s5 (Same.trans s6 (Same.trans s7 (Same.trans f2 sl))))
    have ev : PyData.eqv (.list ((List.replicate (z.countP fun x => decide (x = (1, 1))) (1 : Int)).map PyData.int)) (.list []) = decide (¬ commonB a b) := by
      have := any_commonB z
      by_cases h : (z.countP fun x => decide (x = (1, 1))) = 0
      · rw [h]
        have nc : ¬ commonB a b := fun y => this.mp h (hcm.mp y)
        rw [decide_eq_true nc]
        simp [PyData.eqv, PyData.eqvAll]
      · have yc : commonB a b := by
          by_cases y : commonB a b
          · exact y
          · exact absurd (this.mpr fun w => y (hcm.mpr w)) h
        rw [decide_eq_false (fun w => w yc)]
        obtain ⟨m, hm⟩ := Nat.exists_eq_succ_of_ne_zero h
        rw [hm, List.replicate_succ]
        simp [PyData.eqv, PyData.eqvAll]
    rw [ev]
    refine ite2 (fun c => ?_) (fun c => ?_)
    · have nc := of_decide_eq_true c
      have e := hB.2.mpr nc
      refine ⟨_, rfl, _, rfl, _, _, rfl, rfl, _, rfl, rfl, ?_⟩
      show Q (.bl (decide (V.int (((B a : Nat) : Int) + ((B b : Nat) : Int)) = vn (B (a + b))))) _
      rw [decide_eq_true (by unfold vn; congr 1; omega)]
      exact q _ sall
    · have yc : commonB a b := by
        by_cases y : commonB a b
        · exact y
        · exact absurd (decide_eq_true y) c
      have ne : ¬ B a + B b = B (a + b) := fun e => hB.2.mp e yc
      have le := hB.1
      refine ⟨_, rfl, _, rfl, _, _, rfl, rfl, _, rfl, _, _, rfl, rfl, ?_⟩
      show Q (.bl (decide (((B a : Nat) : Int) + ((B b : Nat) : Int) < ((B (a + b) : Nat) : Int)))) _
      rw [decide_eq_true (by omega)]
      exact q _ sall
end
end K04

namespace K04
open PySem PySem.Spec PyProof.Rows L2 TM TF
section
variable {P : Program} {w : World} {K : PySem.W.Frag} {mg : Str → Option Value} {base : Heap}
def sp_law (K : PySem.W.Frag) : Sp := fun vs H Q _ => ∃ (a : Addr) (ns : List Int), vs = [.ref a] ∧ SqL K H a (ns.map V.int) ∧ ns.length ≤ 63 ∧ ∀ H', Q (.bl true) H'
theorem cut_mem {xs : List V} {lo hi : Option Int} {x : V} (h : x ∈ cutV xs lo hi) : x ∈ xs := List.mem_of_mem_drop (List.mem_of_mem_take h)
theorem cut_take {xs : List V} {i : Nat} (h : i ≤ xs.length) : cutV xs none (some (i : Int)) = xs.take i := by
  unfold cutV
  rw [HT.sIx_none, HT.sIx_nat, Nat.min_eq_left h, List.drop_zero, Nat.sub_zero]
theorem sum_B : ∀ (i : Nat), ((List.range i).map fun k => ((B k : Nat) : Int)).sum = ((S i : Nat) : Int)
  | 0 => rfl
  | i + 1 => by
    rw [List.range_succ, List.map_append, List.sum_append, sum_B i]
    show ((S i : Nat) : Int) + (((B i : Nat) : Int) + 0) = ((S i + B i : Nat) : Int)
    omega
theorem range_map {f : Nat → Int} (i : Nat) : ((List.range (i + 1)).map fun k => V.int (f k)) = ((List.range i).map fun k => V.int (f k)) ++ [V.int (f i)] := by
  rw [List.range_succ, List.map_append]
  rfl
theorem yesT {σ : List (Option V)} {H : Hp} {E F : Hp → Prop} {inst : ∀ b : Bool, Decidable (b = true)} (h : E H) : tYes σ H (fun (b : Bool) H' => @ite Prop (b = true) (inst b) (E H') (F H')) := by
  show @ite Prop (true = true) (inst true) (E H) (F H)
  rw [if_pos rfl]
  exact h
theorem ok_law (T : Txt K mg) : GOk P w K mg base 7 T.f_law T.fd_law ["script"] (sp_law K) := by
  have nd := sc_law.nd
  refine gok T.F_law sc_law (fun vs H Q E h => ?_) (fun cdv A outer s H vs Q E hr hG h => ?_)
  · obtain ⟨a, ns, rfl, _⟩ := h
    rfl
  · obtain ⟨a, ns, rfl, hS, hlen, q⟩ := h
    refine ⟨_, (pss_cons (ps_set (i := 1) nd rfl (.inr rfl) (pe_lc (own := [("order", 9)]) (g := gName 9) (tt := tYes) rfl nd (pi_range1 rfl T.m_range (pa_cons pe_int pa_nil)) (blkOk_by (own := [("order", 9)]) (N := N_law) (sc := defScope s_law) (by decide +kernel)) (fun _ _ _ _ _ => pg_name (i := 9) nd rfl (Or.inl rfl)) (fun _ _ _ _ _ => pts_nil) (fun _ _ _ _ _ => (pe_call (ok_base_member T) (hr.mono (by decide)) rfl T.g_base_member T.F_base_member.kp T.b_base_member .nil pass0 (pa_cons (pv 9) pa_nil)))))
      (pss_cons (ps_if (pt_cmpR (op_neK K hr.units) (pe_lc (own := [("order", 9)]) (g := gName 9) (tt := tYes) rfl nd (pi_range1 rfl T.m_range (pa_cons pe_int pa_nil)) (blkOk_by (own := [("order", 9)]) (N := N_law) (sc := defScope s_law) (by decide +kernel)) (fun _ _ _ _ _ => pg_name (i := 9) nd rfl (Or.inl rfl)) (fun _ _ _ _ _ => pts_nil) (fun _ _ _ _ _ => (pe_call (ok_base_sum T) (hr.mono (by decide)) rfl T.g_base_sum T.F_base_sum.kp T.b_base_sum .nil pass0 (pa_cons (pv 9) pa_nil)))) (pe_lc (own := [("order", 9)]) (g := gName 9) (tt := tYes) rfl nd (pi_range1 rfl T.m_range (pa_cons pe_int pa_nil)) (blkOk_by (own := [("order", 9)]) (N := N_law) (sc := defScope s_law) (by decide +kernel)) (fun _ _ _ _ _ => pg_name (i := 9) nd rfl (Or.inl rfl)) (fun _ _ _ _ _ => pts_nil) (fun _ _ _ _ _ => (pe_callB (cr_sumK K rfl) (by rfl) T.m_sum (by decide +kernel) (pa_cons (pe_slice (sl_listK K) (pv 1) po_none (po_some (pv 9))) pa_nil)))) (nomark _)) (pss_one (ps_ret pe_bl)) pss_nil)
      (pss_cons (ps_for PassesOwn.never rfl (pi_enum rfl T.m_enumerate (pa_cons (pe_slice (sl_listK K) (pe_op op_catS (pv 0) (pe_lst (pa_cons pe_int pa_nil))) po_none (po_some pe_int)) pa_nil)) (pg_tup rfl (pgs_cons (pg_name (i := 2) nd rfl (.inl rfl)) (pgs_cons (pg_name (i := 3) nd rfl (.inl rfl)) pgs_nil))) (pss_cons (ps_set (i := 4) nd rfl (.inl rfl) (pe_call (ok_l_stream T) (hr.mono (by decide)) rfl T.g_l_stream T.F_l_stream.kp T.b_l_stream .nil pass0 (pa_cons (pv 3) (pa_cons (pv 2) pa_nil))))
      (pss_one (ps_for PassesOwn.never rfl (pi_range1 rfl T.m_range (pa_cons pe_int pa_nil)) (pg_name (i := 5) nd rfl (.inl rfl)) (pss_cons (ps_par (i := 6) (j := 7) (by rfl) nd rfl rfl (by decide) rfl rfl (pa_cons (pe_call (ok_l_number T) (hr.mono (by decide)) rfl T.g_l_number T.F_l_number.kp T.b_l_number .nil pass0 (pa_cons (pv 4) pa_nil)) (pa_cons (pe_call (ok_l_number T) (hr.mono (by decide)) rfl T.g_l_number T.F_l_number.kp T.b_l_number .nil pass0 (pa_cons (pv 4) pa_nil)) pa_nil)) (by rfl))
      (pss_cons (ps_if (PW.pt (pw_or (pt_not (pt_val (pe_callG (ok_l_gap_right T) hG (hr.mono (by decide)) rfl T.g_l_gap_right T.F_l_gap_right.kp T.b_l_gap_right .nil pass0 (pa_cons (pe_op op_add (pv 6) pe_int) pa_nil)))) (pw_or (pt_not (pt_val (pe_call (ok_l_sum_right T) (hr.mono (by decide)) rfl T.g_l_sum_right T.F_l_sum_right.kp T.b_l_sum_right .nil pass0 (pa_cons (pv 7) pa_nil)))) (pw_or1 (pt_not (pt_val (pe_call (ok_l_added_right T) (hr.mono (by decide)) rfl T.g_l_added_right T.F_l_added_right.kp T.b_l_added_right .nil pass0 (pa_cons (pv 6) (pa_cons (pv 7) pa_nil))))))))) (pss_one (ps_ret pe_bl)) pss_nil)
      (pss_one (ps_if (PW.pt (pw_or (pt_not (pt_val (pe_callG (ok_l_mirror_right T) hG (hr.mono (by decide)) rfl T.g_l_mirror_right T.F_l_mirror_right.kp T.b_l_mirror_right .nil pass0 (pa_cons (pv 4) pa_nil)))) (pw_or1 (pt_not (pt_val (pe_call (ok_l_added_right T) (hr.mono (by decide)) rfl T.g_l_added_right T.F_l_added_right.kp T.b_l_added_right .nil pass0 (pa_cons (pv 6) (pa_cons (pe_call (ok_l_draw T) (hr.mono (by decide)) rfl T.g_l_draw T.F_l_draw.kp T.b_l_draw .nil pass0 (pa_cons (pv 4) (pa_cons pe_int pa_nil))) pa_nil)))))))) (pss_one (ps_ret pe_bl)) pss_nil))))))))
      (pss_cons (ps_set (i := 8) nd rfl (.inl rfl) pe_int)
      (pss_cons (ps_for PassesOwn.never rfl (pi_range1 rfl T.m_range (pa_cons pe_int pa_nil)) (pg_name (i := 5) nd rfl (.inl rfl)) (pss_one (ps_set (i := 8) nd rfl (.inl rfl) (pe_op op_mulW pe_int (pv 8)))))
      (pss_one (ps_ret (pe_cmpR (op_eqK K hr.units) (pe_lst (pa_cons (pe_call (ok_mirror T) (hr.mono (by decide)) rfl T.g_mirror T.F_mirror.kp T.b_mirror .nil pass0 (pa_cons pe_int (pa_cons pe_int pa_nil))) (pa_cons (pe_call (ok_mirror T) (hr.mono (by decide)) rfl T.g_mirror T.F_mirror.kp T.b_mirror .nil pass0 (pa_cons pe_int (pa_cons pe_int pa_nil))) pa_nil))) (pe_lst (pa_cons (pe_op op_fdivW (pe_op op_sub (pv 8) pe_int) pe_int) (pa_cons (pe_op op_sub (pe_op op_fdivW (pe_op op_sub (pv 8) pe_int) pe_int) pe_int) pa_nil))) (nomark _))))))))), ?_⟩
    refine ⟨70, rfl, by decide, by decide, fun D hD => ?_⟩
    refine lc_range (lo := 0) (n := 70) (fun i H' => H' D = some (.lst ((List.range i).map fun k => V.int ((B k : Nat) : Int))) ∧ Same H H') ⟨upd_same, same_new hD⟩ ?_ ?_
    · rintro i H1 hi ⟨e1, s1⟩
      refine ⟨rfl, ?_⟩
      refine yesT ?_
      refine ⟨_, rfl, 0 + i, rfl, ?_, fun H2 s2 => ⟨_, s2 _ _ e1, ?_, ?_, Same.mut (Same.trans s1 s2) hD⟩⟩
      · have : 70 < 2 ^ 4000 := by decide +kernel
        omega
      · rw [List.length_map, List.length_range]
        exact small_lt (b := 70) (by omega)
      · rw [upd_same, range_map, Nat.zero_add]
        rfl
    rintro H1 ⟨eD, s1⟩
    refine ⟨70, rfl, by decide, by decide, fun D2 hD2 => ?_⟩
    refine lc_range (lo := 0) (n := 70) (fun i H' => H' D2 = some (.lst ((List.range i).map fun k => V.int ((S k : Nat) : Int))) ∧ Same H1 H') ⟨upd_same, same_new hD2⟩ ?_ ?_
    · rintro i H2 hi ⟨e1, s2⟩
      refine ⟨rfl, ?_⟩
      refine yesT ?_
      refine ⟨_, rfl, 0 + i, rfl, ?_, fun H3 s3 => ⟨_, s3 _ _ e1, ?_, ?_, Same.mut (Same.trans s2 s3) hD2⟩⟩
      · have : 70 < 2 ^ 300 := by decide +kernel
        omega
      · rw [List.length_map, List.length_range]
        exact small_lt (b := 70) (by omega)
      · rw [upd_same, range_map, Nat.zero_add]
        rfl
    rintro H2 ⟨eD2, s2⟩
    refine ⟨70, rfl, by decide, by decide, fun D3 hD3 => ?_⟩
    refine lc_range (lo := 0) (n := 70) (fun i H' => H' D3 = some (.lst ((List.range i).map fun k => V.int ((S k : Nat) : Int))) ∧ Same H2 H') ⟨upd_same, same_new hD3⟩ ?_ ?_
    · rintro i H3 hi ⟨e1, s3⟩
      have eDi := s3 _ _ (s2 _ _ eD)
      refine ⟨rfl, ?_⟩
      refine yesT ?_
      refine ⟨_, rfl, _, rfl, ((0 + i : Nat) : Int), rfl, D, _, rfl, SqL.of eDi, fun pz hpz => ⟨pz, (List.range i).map fun k => ((B k : Nat) : Int), rfl, ?_, _, (same_new hpz) _ _ e1, ?_, ?_, Same.mut (Same.trans s3 (same_new hpz)) hD3⟩⟩
      · refine SqL.of ?_
        rw [upd_same, cut_take (by rw [List.length_map, List.length_range]; omega), ← List.map_take, List.take_range, Nat.zero_add, Nat.min_eq_left (by omega), List.map_map]
        rfl
      · rw [List.length_map, List.length_range]
        exact small_lt (b := 70) (by omega)
      · rw [upd_same, range_map, sum_B]
    rintro H3 ⟨eD3, s3⟩
    have dps : ∀ {H : Hp} {p : Addr}, H p = some (.lst ((List.range 70).map fun k => V.int ((S k : Nat) : Int))) → Dp K H (.ref p) (.list (((List.range 70).map fun k => ((S k : Nat) : Int)).map PyData.int)) := by
      intro H p e
      refine dp_ints (SqL.of ?_)
      rw [e, List.map_map]
      rfl
    refine ⟨_, _, dps (s3 _ _ eD2), dps eD3, ints_shaped _, ints_shaped _, _, rfl, ?_⟩
    rw [ints_eqv]
    refine iteF ?_
    have sH : Same H H3 := Same.trans s1 (Same.trans s2 s3)
    have hS3 : SqL K H3 a (ns.map V.int) := Same.seq sH hS
    clear dps eD3 eD2 s3 s2 s1 sH hS
    refine ⟨_, rfl, (by show 1 ≤ sizeLine; decide), fun l hl => ?_⟩
    refine ⟨a, l, _, _, rfl, rfl, Same.seq (same_new hl) hS3, SqL.of upd_same, ?_, fun pc hpc => ?_⟩
    · rw [List.length_map]
      show ns.length + 1 ≤ sizeLine
      exact small_ok (b := 64) (by omega)
    refine ⟨9, rfl, pc, _, rfl, SqL.of upd_same, fun pz hpz => ?_⟩
    have hxs : ∀ (i : Nat) (x : V), (cutV (ns.map V.int ++ [.int 0]) none (some 9))[i]? = some x → ∃ z, x = V.int z := by
      intro i x hx
      have := cut_mem (List.mem_of_getElem? hx)
      rcases List.mem_append.mp this with h | h
      · obtain ⟨z, _, rfl⟩ := List.mem_map.mp h
        exact ⟨z, rfl⟩
      · exact ⟨0, List.mem_singleton.mp h⟩
    have hxl : (cutV (ns.map V.int ++ [.int 0]) none (some 9)).length ≤ 64 := by
      refine Nat.le_trans (cutV_length _ _ _) ?_
      rw [List.length_append, List.length_map, List.length_singleton]
      omega
    generalize cutV (ns.map V.int ++ [.int 0]) none (some 9) = xs at hxs hxl ⊢
    refine ⟨pz, xs, rfl, SqL.of upd_same, ?_⟩
    refine for_it walk_enum (fun i σ H' => ∃ y2 y3 y4 y5 y6 y7 : Option V, σ = [some (.ref a), some (.ref D), y2, y3, y4, y5, y6, y7, none, none] ∧ H' pz = some (.lst xs)) ⟨none, none, none, none, none, none, rfl, upd_same⟩
      (fun i σ H' _ ⟨_, _, _, _, _, _, _, e⟩ => SqL.of e) ?_ ?_
    · rintro i x σ H4 H5 hi ⟨y2, y3, y4, y5, y6, y7, rfl, e1⟩ ⟨t, x1, x2, rfl, nt, rfl, f1, f2⟩
      obtain ⟨z, rfl⟩ := hxs i x2 f2
      obtain rfl : x1 = .int (i : Int) := (Option.some.inj f1).symm
      refine ⟨t, [.int (i : Int), .int z], rfl, SqT.of upd_same, rfl, _, [_], rfl, _, [], rfl, rfl, ?_⟩
      have e2 := same_new (o := .tup [.int (i : Int), .int z]) nt _ _ e1
      generalize upd H4 t (.tup [.int (i : Int), .int z]) = H5 at e2 ⊢
      refine ⟨_, rfl, _, rfl, z, i, rfl, by omega, fun H6 ps a0 c s3 n3 e3 hc => ?_⟩
      have hne : pz ≠ ps := ne_of_none e2 n3
      refine ⟨3, rfl, by decide, by decide, ?_⟩
      refine for_it (walk_range (lo := 0) (n := 3)) (fun j σ H' => ∃ (y5 y6 y7 : Option V) (a' b' : Nat), σ = [some (.ref a), some (.ref D), some (.int (i : Int)), some (.int z), some (.ref ps), y5, y6, y7, none, none] ∧ b' ≤ j * 300 ∧
          H' ps = some (Strm a' b' c) ∧ H' pz = some (.lst xs)) ⟨y5, y6, y7, a0, 0, rfl, by omega, e3, s3 _ _ e2⟩ (fun _ _ _ _ _ => trivial) ?_ ?_
      · rintro j x σ H7 H8 hj ⟨y5, y6, y7, a', b', rfl, hb, g1, g2⟩ ⟨rfl, rfl⟩
        refine ⟨_, rfl, ps, a', b', c, rfl, g1, by omega, hc, fun a2 b2 r hb2 hr2 => ⟨_, rfl, ps, a2, b2, c, rfl, upd_same, by omega, hc, fun a3 b3 r' hb3 hr3 => ⟨_, _, rfl, ?_⟩⟩⟩
        rw [upd_upd]
        have k1 : upd H8 ps (Strm a3 b3 c) ps = some (Strm a3 b3 c) := upd_same
        have k2 : upd H8 ps (Strm a3 b3 c) pz = some (.lst xs) := by rw [upd_ne hne]; exact g2
        generalize upd H8 ps (Strm a3 b3 c) = H9 at k1 k2 ⊢
        have r1 : r + 1 < 2 ^ 260 := by
          have : 2 ^ 200 + 1 < 2 ^ 260 := by decide +kernel
          omega
        have r0 : r < 2 ^ 260 := lt_more hr2 (by decide)
        have r0' : r' < 2 ^ 260 := lt_more hr3 (by decide)
        refine ⟨_, rfl, _, _, rfl, rfl, r + 1, rfl, by omega, r1, fun H10 s10 => ⟨true, rfl, iteF ⟨_, rfl, r', rfl, r0', fun H11 s11 => ⟨true, rfl, iteF ⟨_, rfl, _, rfl, r, r', rfl, r0, r0', fun H12 s12 => ⟨true, rfl, iteF ?_⟩⟩⟩⟩⟩⟩
        have s9 := Same.trans s10 (Same.trans s11 s12)
        refine ⟨_, rfl, ps, a3, b3, c, rfl, s9 _ _ k1, by omega, hc, fun H13 a4 b4 hb4 e13 but13 => ⟨true, rfl, iteF ?_⟩⟩
        refine ⟨_, rfl, _, rfl, ps, 64, a4, b4, c, rfl, e13, by decide, by decide, by omega, hc, fun a5 r5 h5 => ⟨r, r5, rfl, r0, ?_, fun H14 s14 => ⟨true, rfl, iteF ?_⟩⟩⟩
        · have : 64 < 2 ^ 260 := by decide +kernel
          omega
        refine ⟨_, _, _, a5, b4 + 1, rfl, by omega, s14 _ _ upd_same, s14 _ _ ?_⟩
        rw [upd_ne hne]
        exact but13 _ _ hne (s9 _ _ k2)
      · rintro σ H7 ⟨y5, y6, y7, a', b', rfl, hb, g1, g2⟩
        exact ⟨_, _, _, _, _, _, rfl, g2⟩
    · rintro σ H4 ⟨y2, y3, y4, y5, y6, y7, rfl, e1⟩
      refine ⟨2000, rfl, by decide, by decide, ?_⟩
      refine for_it (walk_range (lo := 0) (n := 2000)) (fun i σ H' => ∃ (g : Int) (y5 : Option V), σ = [some (.ref a), some (.ref D), y2, y3, y4, y5, y6, y7, some (.int g), none] ∧ g = ((3 ^ i : Nat) : Int)) ⟨1, y5, rfl, rfl⟩ (fun _ _ _ _ _ => trivial) ?_ ?_
      · rintro i x σ H5 H6 hi ⟨g, y5, rfl, rfl⟩ ⟨rfl, rfl⟩
        have wb : ((3 ^ i : Nat) : Int).natAbs < 2 ^ 8000 := by
          rw [Int.natAbs_natCast]
          exact three_big (by omega)
        have w1 : CMulW 3 ((3 ^ i : Nat) : Int) := wide_mul (a := 2) (b := 8000) (by decide) wb (by decide) (by decide) (by decide)
        refine ⟨_, rfl, _, _, rfl, rfl, w1, ⟨_, _, rfl, ?_⟩⟩
        rw [Nat.pow_succ, Nat.mul_comm]
        rfl
      · rintro σ H5 ⟨g, y5, rfl, hg⟩
        obtain ⟨p, hp⟩ : ∃ p : Nat, p = 2000 := ⟨_, rfl⟩
        have pe : (2000 : Int) = (p : Int) := by omega
        rw [← hp] at hg
        have full := B_full p
        have ten : 10 ≤ B (2 ^ p - 1) := by
          have h5 : 5 ≤ 2 ^ p - 1 := by
            have : 2 ^ 3 ≤ 2 ^ p := Nat.pow_le_pow_right (by decide) (by omega)
            omega
          exact Nat.le_trans (by decide : 10 ≤ B 5) (B_mono h5)
        refine ⟨0, p, by rw [pe]; rfl, by omega, plain_zero, Nat.zero_le _, fun H6 s6 => ⟨10, p, by rw [pe]; rfl, by omega, by decide, ten, fun H7 s7 => ⟨(by show 2 ≤ sizeLine; decide), fun l1 hl1 => ?_⟩⟩⟩
        refine ⟨_, rfl, _, _, rfl, rfl, _, _, rfl, rfl, wide_div (b := 2) (by decide) (by decide) (by decide) (by decide), _, rfl, _, _, rfl, rfl, _, _, rfl, rfl, wide_div (b := 2) (by decide) (by decide) (by decide) (by decide), _, _, rfl, rfl,
          (by show 2 ≤ sizeLine; decide), fun l2 hl2 => ?_⟩
        have a1 : (g - 1) / 2 = ((B (2 ^ p - 1) - 0 : Nat) : Int) := by
          rw [hg]
          omega
        have a2 : (g - 1) / 2 - 10 = ((B (2 ^ p - 1) - 10 : Nat) : Int) := by
          rw [hg]
          omega
        refine ⟨.list ([((B (2 ^ p - 1) - 0 : Nat) : Int), ((B (2 ^ p - 1) - 10 : Nat) : Int)].map PyData.int), .list ([((B (2 ^ p - 1) - 0 : Nat) : Int), ((B (2 ^ p - 1) - 10 : Nat) : Int)].map PyData.int), ?_, ?_, ints_shaped _, ints_shaped _, ?_⟩
        · exact dp_ints (SqL.of ((same_new hl2) _ _ upd_same))
        · refine dp_ints (SqL.of ?_)
          rw [upd_same]
          show some (HO.lst [V.int ((g - 1) / 2), V.int ((g - 1) / 2 - 10)]) = _
          rw [a2, a1]
          rfl
        · rw [ints_eqv]
          exact q _
end
theorem all_mk {l : PySem.W.OpenLaw} {w : World} {K : PySem.W.Frag} {h : Heap} {mg : Str → Option Value} {fa : Addr} (X : K.In h) (G : h.Ns mainGlobals mg) (hfa : mg "law" = some (.ref fa))
    {f0 : Addr} {od0 an0 : Option Addr} {sl0 : Array (Option Value)} {oc0 kV0 dc0 pm0 cd0 ct0 : Value}
    (a0 : PySem.W.nsIn K mainGlobals "is_whole" = some (some (.ref f0))) (l0 : K.lookup f0 = some ⟨oc0, od0, .func (PySem.W.fnOf "is_whole" "is_whole" (defArgs s_is_whole) (defBody s_is_whole) (defScope s_is_whole) .none kV0 dc0 pm0 an0 cd0 ct0), sl0⟩)
    (c0 : PySem.W.codeIn K cd0 "is_whole" = true) (k0 : PySem.W.keepIn K (.ref f0) = true)
    {f1 : Addr} {od1 an1 : Option Addr} {sl1 : Array (Option Value)} {oc1 kV1 dc1 pm1 cd1 ct1 : Value}
    (a1 : PySem.W.nsIn K mainGlobals "is_number" = some (some (.ref f1))) (l1 : K.lookup f1 = some ⟨oc1, od1, .func (PySem.W.fnOf "is_number" "is_number" (defArgs s_is_number) (defBody s_is_number) (defScope s_is_number) .none kV1 dc1 pm1 an1 cd1 ct1), sl1⟩)
    (c1 : PySem.W.codeIn K cd1 "is_number" = true) (k1 : PySem.W.keepIn K (.ref f1) = true)
    {f2 : Addr} {od2 an2 : Option Addr} {sl2 : Array (Option Value)} {oc2 kV2 dc2 pm2 cd2 ct2 : Value}
    (a2 : PySem.W.nsIn K mainGlobals "is_between" = some (some (.ref f2))) (l2 : K.lookup f2 = some ⟨oc2, od2, .func (PySem.W.fnOf "is_between" "is_between" (defArgs s_is_between) (defBody s_is_between) (defScope s_is_between) .none kV2 dc2 pm2 an2 cd2 ct2), sl2⟩)
    (c2 : PySem.W.codeIn K cd2 "is_between" = true) (k2 : PySem.W.keepIn K (.ref f2) = true)
    {f3 : Addr} {od3 an3 : Option Addr} {sl3 : Array (Option Value)} {oc3 kV3 dc3 pm3 cd3 ct3 : Value}
    (a3 : PySem.W.nsIn K mainGlobals "check_number" = some (some (.ref f3))) (l3 : K.lookup f3 = some ⟨oc3, od3, .func (PySem.W.fnOf "check_number" "check_number" (defArgs s_check_number) (defBody s_check_number) (defScope s_check_number) .none kV3 dc3 pm3 an3 cd3 ct3), sl3⟩)
    (c3 : PySem.W.codeIn K cd3 "check_number" = true) (k3 : PySem.W.keepIn K (.ref f3) = true)
    {f4 : Addr} {od4 an4 : Option Addr} {sl4 : Array (Option Value)} {oc4 kV4 dc4 pm4 cd4 ct4 : Value}
    (a4 : PySem.W.nsIn K mainGlobals "ternary_digits" = some (some (.ref f4))) (l4 : K.lookup f4 = some ⟨oc4, od4, .func (PySem.W.fnOf "ternary_digits" "ternary_digits" (defArgs s_ternary_digits) (defBody s_ternary_digits) (defScope s_ternary_digits) .none kV4 dc4 pm4 an4 cd4 ct4), sl4⟩)
    (c4 : PySem.W.codeIn K cd4 "ternary_digits" = true) (k4 : PySem.W.keepIn K (.ref f4) = true)
    {f5 : Addr} {od5 an5 : Option Addr} {sl5 : Array (Option Value)} {oc5 kV5 dc5 pm5 cd5 ct5 : Value}
    (a5 : PySem.W.nsIn K mainGlobals "ternary_number" = some (some (.ref f5))) (l5 : K.lookup f5 = some ⟨oc5, od5, .func (PySem.W.fnOf "ternary_number" "ternary_number" (defArgs s_ternary_number) (defBody s_ternary_number) (defScope s_ternary_number) .none kV5 dc5 pm5 an5 cd5 ct5), sl5⟩)
    (c5 : PySem.W.codeIn K cd5 "ternary_number" = true) (k5 : PySem.W.keepIn K (.ref f5) = true)
    {f6 : Addr} {od6 an6 : Option Addr} {sl6 : Array (Option Value)} {oc6 kV6 dc6 pm6 cd6 ct6 : Value}
    (a6 : PySem.W.nsIn K mainGlobals "base_member" = some (some (.ref f6))) (l6 : K.lookup f6 = some ⟨oc6, od6, .func (PySem.W.fnOf "base_member" "base_member" (defArgs s_base_member) (defBody s_base_member) (defScope s_base_member) .none kV6 dc6 pm6 an6 cd6 ct6), sl6⟩)
    (c6 : PySem.W.codeIn K cd6 "base_member" = true) (k6 : PySem.W.keepIn K (.ref f6) = true)
    {f7 : Addr} {od7 an7 : Option Addr} {sl7 : Array (Option Value)} {oc7 kV7 dc7 pm7 cd7 ct7 : Value}
    (a7 : PySem.W.nsIn K mainGlobals "in_base" = some (some (.ref f7))) (l7 : K.lookup f7 = some ⟨oc7, od7, .func (PySem.W.fnOf "in_base" "in_base" (defArgs s_in_base) (defBody s_in_base) (defScope s_in_base) .none kV7 dc7 pm7 an7 cd7 ct7), sl7⟩)
    (c7 : PySem.W.codeIn K cd7 "in_base" = true) (k7 : PySem.W.keepIn K (.ref f7) = true)
    {f8 : Addr} {od8 an8 : Option Addr} {sl8 : Array (Option Value)} {oc8 kV8 dc8 pm8 cd8 ct8 : Value}
    (a8 : PySem.W.nsIn K mainGlobals "base_rank" = some (some (.ref f8))) (l8 : K.lookup f8 = some ⟨oc8, od8, .func (PySem.W.fnOf "base_rank" "base_rank" (defArgs s_base_rank) (defBody s_base_rank) (defScope s_base_rank) .none kV8 dc8 pm8 an8 cd8 ct8), sl8⟩)
    (c8 : PySem.W.codeIn K cd8 "base_rank" = true) (k8 : PySem.W.keepIn K (.ref f8) = true)
    {f9 : Addr} {od9 an9 : Option Addr} {sl9 : Array (Option Value)} {oc9 kV9 dc9 pm9 cd9 ct9 : Value}
    (a9 : PySem.W.nsIn K mainGlobals "base_gap" = some (some (.ref f9))) (l9 : K.lookup f9 = some ⟨oc9, od9, .func (PySem.W.fnOf "base_gap" "base_gap" (defArgs s_base_gap) (defBody s_base_gap) (defScope s_base_gap) .none kV9 dc9 pm9 an9 cd9 ct9), sl9⟩)
    (c9 : PySem.W.codeIn K cd9 "base_gap" = true) (k9 : PySem.W.keepIn K (.ref f9) = true)
    {f10 : Addr} {od10 an10 : Option Addr} {sl10 : Array (Option Value)} {oc10 kV10 dc10 pm10 cd10 ct10 : Value}
    (a10 : PySem.W.nsIn K mainGlobals "base_sum" = some (some (.ref f10))) (l10 : K.lookup f10 = some ⟨oc10, od10, .func (PySem.W.fnOf "base_sum" "base_sum" (defArgs s_base_sum) (defBody s_base_sum) (defScope s_base_sum) .none kV10 dc10 pm10 an10 cd10 ct10), sl10⟩)
    (c10 : PySem.W.codeIn K cd10 "base_sum" = true) (k10 : PySem.W.keepIn K (.ref f10) = true)
    {f11 : Addr} {od11 an11 : Option Addr} {sl11 : Array (Option Value)} {oc11 kV11 dc11 pm11 cd11 ct11 : Value}
    (a11 : PySem.W.nsIn K mainGlobals "mirror" = some (some (.ref f11))) (l11 : K.lookup f11 = some ⟨oc11, od11, .func (PySem.W.fnOf "mirror" "mirror" (defArgs s_mirror) (defBody s_mirror) (defScope s_mirror) .none kV11 dc11 pm11 an11 cd11 ct11), sl11⟩)
    (c11 : PySem.W.codeIn K cd11 "mirror" = true) (k11 : PySem.W.keepIn K (.ref f11) = true)
    {f12 : Addr} {od12 an12 : Option Addr} {sl12 : Array (Option Value)} {oc12 kV12 dc12 pm12 cd12 ct12 : Value}
    (a12 : PySem.W.nsIn K mainGlobals "_law_mixed" = some (some (.ref f12))) (l12 : K.lookup f12 = some ⟨oc12, od12, .func (PySem.W.fnOf "_law_mixed" "_law_mixed" (defArgs s_l_mixed) (defBody s_l_mixed) (defScope s_l_mixed) .none kV12 dc12 pm12 an12 cd12 ct12), sl12⟩)
    (c12 : PySem.W.codeIn K cd12 "_law_mixed" = true) (k12 : PySem.W.keepIn K (.ref f12) = true)
    {f13 : Addr} {od13 an13 : Option Addr} {sl13 : Array (Option Value)} {oc13 kV13 dc13 pm13 cd13 ct13 : Value}
    (a13 : PySem.W.nsIn K mainGlobals "_law_stream" = some (some (.ref f13))) (l13 : K.lookup f13 = some ⟨oc13, od13, .func (PySem.W.fnOf "_law_stream" "_law_stream" (defArgs s_l_stream) (defBody s_l_stream) (defScope s_l_stream) .none kV13 dc13 pm13 an13 cd13 ct13), sl13⟩)
    (c13 : PySem.W.codeIn K cd13 "_law_stream" = true) (k13 : PySem.W.keepIn K (.ref f13) = true)
    {f14 : Addr} {od14 an14 : Option Addr} {sl14 : Array (Option Value)} {oc14 kV14 dc14 pm14 cd14 ct14 : Value}
    (a14 : PySem.W.nsIn K mainGlobals "_law_draw" = some (some (.ref f14))) (l14 : K.lookup f14 = some ⟨oc14, od14, .func (PySem.W.fnOf "_law_draw" "_law_draw" (defArgs s_l_draw) (defBody s_l_draw) (defScope s_l_draw) .none kV14 dc14 pm14 an14 cd14 ct14), sl14⟩)
    (c14 : PySem.W.codeIn K cd14 "_law_draw" = true) (k14 : PySem.W.keepIn K (.ref f14) = true)
    {f15 : Addr} {od15 an15 : Option Addr} {sl15 : Array (Option Value)} {oc15 kV15 dc15 pm15 cd15 ct15 : Value}
    (a15 : PySem.W.nsIn K mainGlobals "_law_number" = some (some (.ref f15))) (l15 : K.lookup f15 = some ⟨oc15, od15, .func (PySem.W.fnOf "_law_number" "_law_number" (defArgs s_l_number) (defBody s_l_number) (defScope s_l_number) .none kV15 dc15 pm15 an15 cd15 ct15), sl15⟩)
    (c15 : PySem.W.codeIn K cd15 "_law_number" = true) (k15 : PySem.W.keepIn K (.ref f15) = true)
    {f16 : Addr} {od16 an16 : Option Addr} {sl16 : Array (Option Value)} {oc16 kV16 dc16 pm16 cd16 ct16 : Value}
    (a16 : PySem.W.nsIn K mainGlobals "_law_digits" = some (some (.ref f16))) (l16 : K.lookup f16 = some ⟨oc16, od16, .func (PySem.W.fnOf "_law_digits" "_law_digits" (defArgs s_l_digits) (defBody s_l_digits) (defScope s_l_digits) .none kV16 dc16 pm16 an16 cd16 ct16), sl16⟩)
    (c16 : PySem.W.codeIn K cd16 "_law_digits" = true) (k16 : PySem.W.keepIn K (.ref f16) = true)
    {f17 : Addr} {od17 an17 : Option Addr} {sl17 : Array (Option Value)} {oc17 kV17 dc17 pm17 cd17 ct17 : Value}
    (a17 : PySem.W.nsIn K mainGlobals "_law_gap_right" = some (some (.ref f17))) (l17 : K.lookup f17 = some ⟨oc17, od17, .func (PySem.W.fnOf "_law_gap_right" "_law_gap_right" (defArgs s_l_gap_right) (defBody s_l_gap_right) (defScope s_l_gap_right) .none kV17 dc17 pm17 an17 cd17 ct17), sl17⟩)
    (c17 : PySem.W.codeIn K cd17 "_law_gap_right" = true) (k17 : PySem.W.keepIn K (.ref f17) = true)
    {f18 : Addr} {od18 an18 : Option Addr} {sl18 : Array (Option Value)} {oc18 kV18 dc18 pm18 cd18 ct18 : Value}
    (a18 : PySem.W.nsIn K mainGlobals "_law_sum_right" = some (some (.ref f18))) (l18 : K.lookup f18 = some ⟨oc18, od18, .func (PySem.W.fnOf "_law_sum_right" "_law_sum_right" (defArgs s_l_sum_right) (defBody s_l_sum_right) (defScope s_l_sum_right) .none kV18 dc18 pm18 an18 cd18 ct18), sl18⟩)
    (c18 : PySem.W.codeIn K cd18 "_law_sum_right" = true) (k18 : PySem.W.keepIn K (.ref f18) = true)
    {f19 : Addr} {od19 an19 : Option Addr} {sl19 : Array (Option Value)} {oc19 kV19 dc19 pm19 cd19 ct19 : Value}
    (a19 : PySem.W.nsIn K mainGlobals "_law_mirror_right" = some (some (.ref f19))) (l19 : K.lookup f19 = some ⟨oc19, od19, .func (PySem.W.fnOf "_law_mirror_right" "_law_mirror_right" (defArgs s_l_mirror_right) (defBody s_l_mirror_right) (defScope s_l_mirror_right) .none kV19 dc19 pm19 an19 cd19 ct19), sl19⟩)
    (c19 : PySem.W.codeIn K cd19 "_law_mirror_right" = true) (k19 : PySem.W.keepIn K (.ref f19) = true)
    {f20 : Addr} {od20 an20 : Option Addr} {sl20 : Array (Option Value)} {oc20 kV20 dc20 pm20 cd20 ct20 : Value}
    (a20 : PySem.W.nsIn K mainGlobals "_law_added_right" = some (some (.ref f20))) (l20 : K.lookup f20 = some ⟨oc20, od20, .func (PySem.W.fnOf "_law_added_right" "_law_added_right" (defArgs s_l_added_right) (defBody s_l_added_right) (defScope s_l_added_right) .none kV20 dc20 pm20 an20 cd20 ct20), sl20⟩)
    (c20 : PySem.W.codeIn K cd20 "_law_added_right" = true) (k20 : PySem.W.keepIn K (.ref f20) = true)
    {f21 : Addr} {od21 an21 : Option Addr} {sl21 : Array (Option Value)} {oc21 kV21 dc21 pm21 cd21 ct21 : Value}
    (a21 : PySem.W.nsIn K mainGlobals "law" = some (some (.ref f21))) (l21 : K.lookup f21 = some ⟨oc21, od21, .func (PySem.W.fnOf "law" "law" (defArgs s_law) (defBody s_law) (defScope s_law) .none kV21 dc21 pm21 an21 cd21 ct21), sl21⟩)
    (c21 : PySem.W.codeIn K cd21 "law" = true) (k21 : PySem.W.keepIn K (.ref f21) = true)
    (z0 : PySem.W.nsIn K mainGlobals "isinstance" = some none)
    (z1 : PySem.W.nsIn K mainGlobals "int" = some none)
    (z2 : PySem.W.nsIn K mainGlobals "bool" = some none)
    (z3 : PySem.W.nsIn K mainGlobals "reversed" = some none)
    (z4 : PySem.W.nsIn K mainGlobals "range" = some none)
    (z5 : PySem.W.nsIn K mainGlobals "len" = some none)
    (z6 : PySem.W.nsIn K mainGlobals "divmod" = some none)
    (z7 : PySem.W.nsIn K mainGlobals "max" = some none)
    (z8 : PySem.W.nsIn K mainGlobals "repr" = some none)
    (z9 : PySem.W.nsIn K mainGlobals "list" = some none)
    (z10 : PySem.W.nsIn K mainGlobals "zip" = some none)
    (z11 : PySem.W.nsIn K mainGlobals "enumerate" = some none)
    (z12 : PySem.W.nsIn K mainGlobals "sum" = some none)
    {t0 : Tok} (y0 : PySem.W.nsIn K mainGlobals "MAX_POWER" = some (some (.int 2000 t0)))
    : ∃ fd : FuncData, (∀ (s : Shared) (v : Value), BindsTo s fd ⟨[v], []⟩ [("script", v)]) ∧ ∀ base : Heap, K.In base → base.Ns mainGlobals mg → GOk l.prog w K mg base 7 fa fd ["script"] (sp_law K) := by
  have e := hfa.symm.trans (PySem.W.mg_of X G a21)
  cases e
  have F0 := fun_mk (st := s_is_whole) l0 c0 k0
  have b0 := F0.binds (ps := ["value"]) fun _ _ _ _ _ _ us hl => match us, hl with | [_], _ => rfl
  have F1 := fun_mk (st := s_is_number) l1 c1 k1
  have b1 := F1.binds (ps := ["value"]) fun _ _ _ _ _ _ us hl => match us, hl with | [_], _ => rfl
  have F2 := fun_mk (st := s_is_between) l2 c2 k2
  have b2 := F2.binds (ps := ["value", "low", "high"]) fun _ _ _ _ _ _ us hl => match us, hl with | [_, _, _], _ => rfl
  have F3 := fun_mk (st := s_check_number) l3 c3 k3
  have b3 := F3.binds (ps := ["value"]) fun _ _ _ _ _ _ us hl => match us, hl with | [_], _ => rfl
  have F4 := fun_mk (st := s_ternary_digits) l4 c4 k4
  have b4 := F4.binds (ps := ["number"]) fun _ _ _ _ _ _ us hl => match us, hl with | [_], _ => rfl
  have F5 := fun_mk (st := s_ternary_number) l5 c5 k5
  have b5 := F5.binds (ps := ["digits"]) fun _ _ _ _ _ _ us hl => match us, hl with | [_], _ => rfl
  have F6 := fun_mk (st := s_base_member) l6 c6 k6
  have b6 := F6.binds (ps := ["number"]) fun _ _ _ _ _ _ us hl => match us, hl with | [_], _ => rfl
  have F7 := fun_mk (st := s_in_base) l7 c7 k7
  have b7 := F7.binds (ps := ["x"]) fun _ _ _ _ _ _ us hl => match us, hl with | [_], _ => rfl
  have F8 := fun_mk (st := s_base_rank) l8 c8 k8
  have b8 := F8.binds (ps := ["x"]) fun _ _ _ _ _ _ us hl => match us, hl with | [_], _ => rfl
  have F9 := fun_mk (st := s_base_gap) l9 c9 k9
  have b9 := F9.binds (ps := ["number"]) fun _ _ _ _ _ _ us hl => match us, hl with | [_], _ => rfl
  have F10 := fun_mk (st := s_base_sum) l10 c10 k10
  have b10 := F10.binds (ps := ["number"]) fun _ _ _ _ _ _ us hl => match us, hl with | [_], _ => rfl
  have F11 := fun_mk (st := s_mirror) l11 c11 k11
  have b11 := F11.binds (ps := ["x", "power"]) fun _ _ _ _ _ _ us hl => match us, hl with | [_, _], _ => rfl
  have F12 := fun_mk (st := s_l_mixed) l12 c12 k12
  have b12 := F12.binds (ps := ["amount", "k"]) fun _ _ _ _ _ _ us hl => match us, hl with | [_, _], _ => rfl
  have F13 := fun_mk (st := s_l_stream) l13 c13 k13
  have b13 := F13.binds (ps := ["item", "k"]) fun _ _ _ _ _ _ us hl => match us, hl with | [_, _], _ => rfl
  have F14 := fun_mk (st := s_l_draw) l14 c14 k14
  have b14 := F14.binds (ps := ["stream", "top"]) fun _ _ _ _ _ _ us hl => match us, hl with | [_, _], _ => rfl
  have F15 := fun_mk (st := s_l_number) l15 c15 k15
  have b15 := F15.binds (ps := ["stream"]) fun _ _ _ _ _ _ us hl => match us, hl with | [_], _ => rfl
  have F16 := fun_mk (st := s_l_digits) l16 c16 k16
  have b16 := F16.binds (ps := ["given", "radix"]) fun _ _ _ _ _ _ us hl => match us, hl with | [_, _], _ => rfl
  have F17 := fun_mk (st := s_l_gap_right) l17 c17 k17
  have b17 := F17.binds (ps := ["order"]) fun _ _ _ _ _ _ us hl => match us, hl with | [_], _ => rfl
  have F18 := fun_mk (st := s_l_sum_right) l18 c18 k18
  have b18 := F18.binds (ps := ["order"]) fun _ _ _ _ _ _ us hl => match us, hl with | [_], _ => rfl
  have F19 := fun_mk (st := s_l_mirror_right) l19 c19 k19
  have b19 := F19.binds (ps := ["stream"]) fun _ _ _ _ _ _ us hl => match us, hl with | [_], _ => rfl
  have F20 := fun_mk (st := s_l_added_right) l20 c20 k20
  have b20 := F20.binds (ps := ["one", "two"]) fun _ _ _ _ _ _ us hl => match us, hl with | [_, _], _ => rfl
  have F21 := fun_mk (st := s_law) l21 c21 k21
  have b21 := F21.binds (ps := ["script"]) fun _ _ _ _ _ _ us hl => match us, hl with | [_], _ => rfl

  exact ⟨PySem.W.fnOf "law" "law" (defArgs s_law) (defBody s_law) (defScope s_law) .none kV21 dc21 pm21 an21 cd21 ct21, fun s v => .of_eq rfl, fun base _ _ => ok_law ({ f_is_whole := _, fd_is_whole := _, F_is_whole := F0, b_is_whole := b0, g_is_whole := PySem.W.mg_of X G a0, f_is_number := _, fd_is_number := _, F_is_number := F1, b_is_number := b1, g_is_number := PySem.W.mg_of X G a1, f_is_between := _, fd_is_between := _, F_is_between := F2, b_is_between := b2, g_is_between := PySem.W.mg_of X G a2, f_check_number := _, fd_check_number := _, F_check_number := F3, b_check_number := b3, g_check_number := PySem.W.mg_of X G a3, f_ternary_digits := _, fd_ternary_digits := _, F_ternary_digits := F4, b_ternary_digits := b4, g_ternary_digits := PySem.W.mg_of X G a4, f_ternary_number := _, fd_ternary_number := _, F_ternary_number := F5, b_ternary_number := b5, g_ternary_number := PySem.W.mg_of X G a5, f_base_member := _, fd_base_member := _, F_base_member := F6, b_base_member := b6, g_base_member := PySem.W.mg_of X G a6, f_in_base := _, fd_in_base := _, F_in_base := F7, b_in_base := b7, g_in_base := PySem.W.mg_of X G a7, f_base_rank := _, fd_base_rank := _, F_base_rank := F8, b_base_rank := b8, g_base_rank := PySem.W.mg_of X G a8, f_base_gap := _, fd_base_gap := _, F_base_gap := F9, b_base_gap := b9, g_base_gap := PySem.W.mg_of X G a9, kb_base_gap := kb_mk F9 fun _ _ _ _ _ _ us hl => match us, hl with | [_], _ => rfl, f_base_sum := _, fd_base_sum := _, F_base_sum := F10, b_base_sum := b10, g_base_sum := PySem.W.mg_of X G a10, kb_base_sum := kb_mk F10 fun _ _ _ _ _ _ us hl => match us, hl with | [_], _ => rfl, f_mirror := _, fd_mirror := _, F_mirror := F11, b_mirror := b11, g_mirror := PySem.W.mg_of X G a11, kb_mirror := kb_mk2 F11 fun _ _ _ _ _ _ _ _ => rfl, f_l_mixed := _, fd_l_mixed := _, F_l_mixed := F12, b_l_mixed := b12, g_l_mixed := PySem.W.mg_of X G a12, f_l_stream := _, fd_l_stream := _, F_l_stream := F13, b_l_stream := b13, g_l_stream := PySem.W.mg_of X G a13, f_l_draw := _, fd_l_draw := _, F_l_draw := F14, b_l_draw := b14, g_l_draw := PySem.W.mg_of X G a14, f_l_number := _, fd_l_number := _, F_l_number := F15, b_l_number := b15, g_l_number := PySem.W.mg_of X G a15, f_l_digits := _, fd_l_digits := _, F_l_digits := F16, b_l_digits := b16, g_l_digits := PySem.W.mg_of X G a16, f_l_gap_right := _, fd_l_gap_right := _, F_l_gap_right := F17, b_l_gap_right := b17, g_l_gap_right := PySem.W.mg_of X G a17, f_l_sum_right := _, fd_l_sum_right := _, F_l_sum_right := F18, b_l_sum_right := b18, g_l_sum_right := PySem.W.mg_of X G a18, f_l_mirror_right := _, fd_l_mirror_right := _, F_l_mirror_right := F19, b_l_mirror_right := b19, g_l_mirror_right := PySem.W.mg_of X G a19, f_l_added_right := _, fd_l_added_right := _, F_l_added_right := F20, b_l_added_right := b20, g_l_added_right := PySem.W.mg_of X G a20, f_law := _, fd_law := _, F_law := F21, b_law := b21, g_law := PySem.W.mg_of X G a21, m_isinstance := PySem.W.mg_none_of X G z0, m_int := PySem.W.mg_none_of X G z1, m_bool := PySem.W.mg_none_of X G z2, m_reversed := PySem.W.mg_none_of X G z3, m_range := PySem.W.mg_none_of X G z4, m_len := PySem.W.mg_none_of X G z5, m_divmod := PySem.W.mg_none_of X G z6, m_max := PySem.W.mg_none_of X G z7, m_repr := PySem.W.mg_none_of X G z8, m_list := PySem.W.mg_none_of X G z9, m_zip := PySem.W.mg_none_of X G z10, m_enumerate := PySem.W.mg_none_of X G z11, m_sum := PySem.W.mg_none_of X G z12, t_MAX_POWER := _, g_MAX_POWER := PySem.W.mg_of X G y0 } : Txt K mg)⟩
end K04
open PySem PySem.W PyProof.Rows
set_option maxHeartbeats 0 in
theorem PySem.Challenge.cw_triplefree_k04_whole_gaps_sums_mirrors_holds : PySem.Challenge.rw_triplefree_k04_whole_gaps_sums_mirrors.Holds := by
  w_on; o_law; k_head; (case hw => w_witness2)
  k_fill
  refine TF.walk_ofG (l := PySem.Challenge.rw_triplefree_k04_whole_gaps_sums_mirrors) (n := 63) (k := 7) (x := "script") (sp := fun w => K04.sp_law _) rfl (by decide) rfl ⟨rfl, by decide, by decide⟩ (fun w h Y => PySem.W.kIn_of Y) ?F (fun _ _ a ns hl _ hS => ⟨a, ns, rfl, hS, hl, fun _ => rfl⟩)
  case F =>
    intro w mg fa h KX G hmg
    refine' K04.all_mk KX G hmg ?a0 ?l0 ?c0 ?k0 ?a1 ?l1 ?c1 ?k1 ?a2 ?l2 ?c2 ?k2 ?a3 ?l3 ?c3 ?k3 ?a4 ?l4 ?c4 ?k4 ?a5 ?l5 ?c5 ?k5 ?a6 ?l6 ?c6 ?k6 ?a7 ?l7 ?c7 ?k7 ?a8 ?l8 ?c8 ?k8 ?a9 ?l9 ?c9 ?k9 ?a10 ?l10 ?c10 ?k10 ?a11 ?l11 ?c11 ?k11 ?a12 ?l12 ?c12 ?k12 ?a13 ?l13 ?c13 ?k13 ?a14 ?l14 ?c14 ?k14 ?a15 ?l15 ?c15 ?k15 ?a16 ?l16 ?c16 ?k16 ?a17 ?l17 ?c17 ?k17 ?a18 ?l18 ?c18 ?k18 ?a19 ?l19 ?c19 ?k19 ?a20 ?l20 ?c20 ?k20 ?a21 ?l21 ?c21 ?k21 ?z0 ?z1 ?z2 ?z3 ?z4 ?z5 ?z6 ?z7 ?z8 ?z9 ?z10 ?z11 ?z12 ?y0
    (case a0 => k_is)
    (case l0 => k_is)
    (case c0 => k_is)
    (case k0 => k_is)
    (case a1 => k_is)
    (case l1 => k_is)
    (case c1 => k_is)
    (case k1 => k_is)
    (case a2 => k_is)
    (case l2 => k_is)
    (case c2 => k_is)
    (case k2 => k_is)
    (case a3 => k_is)
    (case l3 => k_is)
    (case c3 => k_is)
    (case k3 => k_is)
    (case a4 => k_is)
    (case l4 => k_is)
    (case c4 => k_is)
    (case k4 => k_is)
    (case a5 => k_is)
    (case l5 => k_is)
    (case c5 => k_is)
    (case k5 => k_is)
    (case a6 => k_is)
    (case l6 => k_is)
    (case c6 => k_is)
    (case k6 => k_is)
    (case a7 => k_is)
    (case l7 => k_is)
    (case c7 => k_is)
    (case k7 => k_is)
    (case a8 => k_is)
    (case l8 => k_is)
    (case c8 => k_is)
    (case k8 => k_is)
    (case a9 => k_is)
    (case l9 => k_is)
    (case c9 => k_is)
    (case k9 => k_is)
    (case a10 => k_is)
    (case l10 => k_is)
    (case c10 => k_is)
    (case k10 => k_is)
    (case a11 => k_is)
    (case l11 => k_is)
    (case c11 => k_is)
    (case k11 => k_is)
    (case a12 => k_is)
    (case l12 => k_is)
    (case c12 => k_is)
    (case k12 => k_is)
    (case a13 => k_is)
    (case l13 => k_is)
    (case c13 => k_is)
    (case k13 => k_is)
    (case a14 => k_is)
    (case l14 => k_is)
    (case c14 => k_is)
    (case k14 => k_is)
    (case a15 => k_is)
    (case l15 => k_is)
    (case c15 => k_is)
    (case k15 => k_is)
    (case a16 => k_is)
    (case l16 => k_is)
    (case c16 => k_is)
    (case k16 => k_is)
    (case a17 => k_is)
    (case l17 => k_is)
    (case c17 => k_is)
    (case k17 => k_is)
    (case a18 => k_is)
    (case l18 => k_is)
    (case c18 => k_is)
    (case k18 => k_is)
    (case a19 => k_is)
    (case l19 => k_is)
    (case c19 => k_is)
    (case k19 => k_is)
    (case a20 => k_is)
    (case l20 => k_is)
    (case c20 => k_is)
    (case k20 => k_is)
    (case a21 => k_is)
    (case l21 => k_is)
    (case c21 => k_is)
    (case k21 => k_is)
    (case z0 => k_is)
    (case z1 => k_is)
    (case z2 => k_is)
    (case z3 => k_is)
    (case z4 => k_is)
    (case z5 => k_is)
    (case z6 => k_is)
    (case z7 => k_is)
    (case z8 => k_is)
    (case z9 => k_is)
    (case z10 => k_is)
    (case z11 => k_is)
    (case z12 => k_is)
    (case y0 => k_is)

