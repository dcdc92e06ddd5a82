/- Plain mathematics of codes: a number in k bytes, the highest first; its value; the order of such texts. No Go in sight. -/
import GoSem.Claim
namespace Go.Proofs.Ytdnhlabdpciclab

def beAt (n i : Nat) : UInt8 := UInt8.ofNat (n / 256 ^ i % 256)
def be (n : Nat) : Nat → List UInt8
  | 0 => []
  | k + 1 => beAt n k :: be n k
def val (l : List UInt8) : Nat := l.foldl (fun a b => a * 256 + b.toNat) 0

theorem beAt_toNat (n i : Nat) : (beAt n i).toNat = n / 256 ^ i % 256 := by
  unfold beAt; rw [UInt8.toNat_ofNat']; omega

theorem be_length (n k : Nat) : (be n k).length = k := by
  induction k with
  | zero => rfl
  | succ k ih => simp [be, ih]

theorem foldl_val (l : List UInt8) (a : Nat) : l.foldl (fun a b => a * 256 + b.toNat) a = a * 256 ^ l.length + val l := by
  induction l generalizing a with
  | nil => simp [val]
  | cons b l ih =>
    simp only [List.foldl_cons, List.length_cons, val]
    rw [ih, ih (0 * 256 + b.toNat), Nat.pow_succ, Nat.add_mul, Nat.zero_mul, Nat.zero_add]
    have : a * 256 * 256 ^ l.length = a * (256 ^ l.length * 256) := by rw [Nat.mul_assoc, Nat.mul_comm 256]
    omega

theorem val_nil : val [] = 0 := rfl
theorem val_cons (b : UInt8) (l : List UInt8) : val (b :: l) = b.toNat * 256 ^ l.length + val l := by
  have := foldl_val l (0 * 256 + b.toNat)
  simp only [Nat.zero_mul, Nat.zero_add] at this
  unfold val; simp only [List.foldl_cons, Nat.zero_mul, Nat.zero_add]; exact this

theorem val_snoc (l : List UInt8) (b : UInt8) : val (l ++ [b]) = val l * 256 + b.toNat := by
  unfold val; rw [List.foldl_append]; rfl

theorem val_lt (l : List UInt8) : val l < 256 ^ l.length := by
  induction l with
  | nil => simp [val]
  | cons b l ih =>
    rw [val_cons, List.length_cons, Nat.pow_succ]
    have hb : b.toNat < 256 := b.toNat_lt
    have h1 : b.toNat * 256 ^ l.length ≤ 255 * 256 ^ l.length := Nat.mul_le_mul_right _ (by omega)
    omega

theorem val_be (n k : Nat) : val (be n k) = n % 256 ^ k := by
  induction k with
  | zero => simp [be, val, Nat.mod_one]
  | succ k ih =>
    rw [be, val_cons, be_length, beAt_toNat, ih, Nat.pow_succ, Nat.mod_mul]
    rw [Nat.mul_comm]; omega

theorem val_inj (l m : List UInt8) (hl : l.length = m.length) (h : val l = val m) : l = m := by
  induction l generalizing m with
  | nil => cases m with
    | nil => rfl
    | cons _ _ => simp at hl
  | cons b l ih =>
    cases m with
    | nil => simp at hl
    | cons c m =>
      simp only [List.length_cons, Nat.add_right_cancel_iff] at hl
      rw [val_cons, val_cons, hl] at h
      have h1 := val_lt l
      have h2 := val_lt m
      rw [hl] at h1
      have e1 : (b.toNat * 256 ^ m.length + val l) / 256 ^ m.length = b.toNat := by
        rw [Nat.mul_comm, Nat.mul_add_div (Nat.pow_pos (by omega)), Nat.div_eq_of_lt h1, Nat.add_zero]
      have e2 : (c.toNat * 256 ^ m.length + val m) / 256 ^ m.length = c.toNat := by
        rw [Nat.mul_comm, Nat.mul_add_div (Nat.pow_pos (by omega)), Nat.div_eq_of_lt h2, Nat.add_zero]
      rw [h, e2] at e1
      have ec : c = b := UInt8.toNat.inj e1
      subst ec
      have : val l = val m := by omega
      rw [ih m hl this]

theorem be_val (l : List UInt8) : be (val l) l.length = l := by
  apply val_inj
  · rw [be_length]
  · rw [val_be, Nat.mod_eq_of_lt (val_lt l)]

theorem be_inj {a b k : Nat} (ha : a < 256 ^ k) (hb : b < 256 ^ k) (h : be a k = be b k) : a = b := by
  have := congrArg val h
  rw [val_be, val_be, Nat.mod_eq_of_lt ha, Nat.mod_eq_of_lt hb] at this
  exact this

theorem less_val (l m : List UInt8) (hl : l.length = m.length) : Op.bytesLess l m = decide (val l < val m) := by
  induction l generalizing m with
  | nil => cases m with
    | nil => rfl
    | cons _ _ => simp at hl
  | cons b l ih =>
    cases m with
    | nil => simp at hl
    | cons c m =>
      simp only [List.length_cons, Nat.add_right_cancel_iff] at hl
      rw [Op.bytesLess, ih m hl, val_cons, val_cons, hl]
      have h1 := val_lt l
      have h2 := val_lt m
      rw [hl] at h1
      generalize 256 ^ m.length = p at *
      rw [Bool.eq_iff_iff]
      simp only [Bool.or_eq_true, decide_eq_true_eq, Bool.and_eq_true, beq_iff_eq, UInt8.lt_iff_toNat_lt, ← UInt8.toNat_inj]
      rcases Nat.lt_trichotomy b.toNat c.toNat with h | h | h
      · have : (b.toNat + 1) * p ≤ c.toNat * p := Nat.mul_le_mul_right _ h
        rw [Nat.add_mul] at this
        constructor
        · intro _; omega
        · intro _; exact Or.inl h
      · rw [h]
        constructor
        · rintro (h' | ⟨_, h'⟩) <;> omega
        · intro h'; exact Or.inr ⟨rfl, by omega⟩
      · have : (c.toNat + 1) * p ≤ b.toNat * p := Nat.mul_le_mul_right _ h
        rw [Nat.add_mul] at this
        constructor
        · rintro (h' | ⟨h', _⟩) <;> omega
        · intro h'; omega

theorem val_append (l m : List UInt8) : val (l ++ m) = val l * 256 ^ m.length + val m := by
  have := foldl_val m (val l)
  unfold val at *; rw [List.foldl_append]; exact this

/-- the code of a key whose parts are a, b and c -/
def code (a b c : Nat) : List UInt8 := be a 8 ++ (be b 2 ++ be c 6)
theorem code_length (a b c : Nat) : (code a b c).length = 16 := by simp [code, be_length]
theorem val_code (a b c : Nat) (ha : a < 256 ^ 8) (hb : b < 256 ^ 2) (hc : c < 256 ^ 6) : val (code a b c) = (a * 65536 + b) * 281474976710656 + c := by
  unfold code
  rw [val_append, val_append, val_be, val_be, val_be, Nat.mod_eq_of_lt ha, Nat.mod_eq_of_lt hb, Nat.mod_eq_of_lt hc]
  simp only [List.length_append, be_length]
  omega
end Go.Proofs.Ytdnhlabdpciclab
