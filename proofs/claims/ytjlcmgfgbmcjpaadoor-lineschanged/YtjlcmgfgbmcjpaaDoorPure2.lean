/- Proved: of sums and seals as letters: a byte that is another one makes the sum another one, and a sealed text of which one byte is another one is no sealed text. -/
import Derived.KernelRfl
namespace Go.Proofs.YtjlcmgfgbmcjpaaDoor

/-- One step of the sum. -/
def fstep (h : Nat) (c : UInt8) : Nat := ((h ^^^ c.toNat) * 16777619) % 4294967296
def fnvFrom (h : Nat) (s : List UInt8) : Nat := s.foldl fstep h
def fnv (s : List UInt8) : Nat := fnvFrom 2166136261 s

theorem fstep_lt (h : Nat) (c : UInt8) : fstep h c < 4294967296 := Nat.mod_lt _ (by omega)
theorem fnvFrom_lt (s : List UInt8) : ∀ h, h < 4294967296 → fnvFrom h s < 4294967296 := by
  induction s with
  | nil => intro h hh; exact hh
  | cons c r ih => intro h _; exact ih _ (fstep_lt h c)
theorem fnv_lt (s : List UInt8) : fnv s < 4294967296 := fnvFrom_lt s _ (by omega)
theorem fnv_snoc (s : List UInt8) (c : UInt8) : fnv (s ++ [c]) = fstep (fnv s) c := by rw [fnv, fnvFrom, List.foldl_append, List.foldl_cons, List.foldl_nil, fnv, fnvFrom]
theorem fnv_append (a b : List UInt8) : fnv (a ++ b) = fnvFrom (fnv a) b := by rw [fnv, fnvFrom, List.foldl_append, fnv, fnvFrom, fnvFrom]

theorem mul_inj {x y : Nat} (hx : x < 4294967296) (hy : y < 4294967296) (h : (x * 16777619) % 4294967296 = (y * 16777619) % 4294967296) : x = y := by
  have key : ∀ z, z < 4294967296 → ((z * 16777619) % 4294967296 * 899433627) % 4294967296 = z := by
    intro z hz
    rw [Nat.mod_mul_mod, Nat.mul_assoc, Nat.mul_mod]
    have : (16777619 * 899433627) % 4294967296 = 1 := by decide
    rw [this, Nat.mul_one, Nat.mod_mod, Nat.mod_eq_of_lt hz]
  rw [← key x hx, h, key y hy]
theorem xor_lt {h c : Nat} (hh : h < 4294967296) (hc : c < 256) : h ^^^ c < 4294967296 := Nat.xor_lt_two_pow (n := 32) hh (by omega)
theorem xor_left_inj {a b c : Nat} (h : a ^^^ b = a ^^^ c) : b = c := by
  have : a ^^^ (a ^^^ b) = a ^^^ (a ^^^ c) := by rw [h]
  simpa [← Nat.xor_assoc] using this
theorem xor_right_inj {a b c : Nat} (h : a ^^^ c = b ^^^ c) : a = b := by
  have : (a ^^^ c) ^^^ c = (b ^^^ c) ^^^ c := by rw [h]
  simpa [Nat.xor_assoc] using this
theorem fstep_inj {h h' : Nat} {c : UInt8} (hh : h < 4294967296) (hh' : h' < 4294967296) (e : fstep h c = fstep h' c) : h = h' :=
  xor_right_inj (mul_inj (xor_lt hh (UInt8.toNat_lt c)) (xor_lt hh' (UInt8.toNat_lt c)) e)
theorem fstep_byte {h : Nat} {c d : UInt8} (hh : h < 4294967296) (e : fstep h c = fstep h d) : c = d :=
  UInt8.toNat_inj.1 (xor_left_inj (mul_inj (xor_lt hh (UInt8.toNat_lt c)) (xor_lt hh (UInt8.toNat_lt d)) e))
theorem fnvFrom_inj (b : List UInt8) : ∀ {h h' : Nat}, h < 4294967296 → h' < 4294967296 → fnvFrom h b = fnvFrom h' b → h = h' := by
  induction b with
  | nil => intro h h' _ _ e; exact e
  | cons c r ih => intro h h' hh hh' e; exact fstep_inj hh hh' (ih (fstep_lt _ _) (fstep_lt _ _) e)
/-- A BYTE THAT IS ANOTHER ONE MAKES THE SUM ANOTHER ONE, whatever stands behind. -/
theorem fnv_changed (a b : List UInt8) (x y : UInt8) : fnv (a ++ x :: b) = fnv (a ++ y :: b) ↔ x = y := by
  constructor
  · intro e
    rw [fnv_append, fnv_append] at e
    exact fstep_byte (fnv_lt a) (fnvFrom_inj b (fstep_lt _ _) (fstep_lt _ _) e)
  · rintro rfl; rfl

/-! ### Eight digits to the base 16 -/
def hexDigit (d : Nat) : UInt8 := if d < 10 then UInt8.ofNat (48 + d) else UInt8.ofNat (87 + d)
/-- The lowest i digits. -/
def low : Nat → Nat → List UInt8
  | 0, _ => []
  | i + 1, h => hexDigit (h / 16 ^ i % 16) :: low i h
theorem low_length (i h : Nat) : (low i h).length = i := by induction i with | zero => rfl | succ i ih => simp [low, ih]
theorem hexDigit_inj {a b : Nat} (ha : a < 16) (hb : b < 16) (h : hexDigit a = hexDigit b) : a = b := by
  have key : ∀ a b : Fin 16, hexDigit a = hexDigit b → a = b := by decide
  have := key ⟨a, ha⟩ ⟨b, hb⟩ h
  simpa using this
theorem low_inj (i : Nat) : ∀ {h h' : Nat}, low i h = low i h' → h % 16 ^ i = h' % 16 ^ i := by
  induction i with
  | zero => intro h h' _; simp [Nat.mod_one]
  | succ i ih =>
    intro h h' e
    simp only [low, List.cons.injEq] at e
    have e1 := hexDigit_inj (Nat.mod_lt _ (by decide)) (Nat.mod_lt _ (by decide)) e.1
    rw [Nat.mod_pow_succ, Nat.mod_pow_succ, e1, ih e.2]
theorem low8_inj {h h' : Nat} (hh : h < 4294967296) (hh' : h' < 4294967296) (e : low 8 h = low 8 h') : h = h' := by
  have := low_inj 8 e
  rwa [Nat.mod_eq_of_lt (by omega), Nat.mod_eq_of_lt (by omega)] at this
theorem low_zero (i h : Nat) (hh : h < 16 ^ i) : low (i + 1) h = 48 :: low i h := by
  rw [low, Nat.div_eq_of_lt hh]; rfl
theorem low_pad (j h : Nat) (hj : h < 16 ^ j) : ∀ k, List.replicate k 48 ++ low j h = low (k + j) h := by
  intro k
  induction k with
  | zero => simp
  | succ k ih =>
    rw [List.replicate_succ, List.cons_append, ih, show k + 1 + j = (k + j) + 1 by omega, low_zero]
    exact Nat.lt_of_lt_of_le hj (Nat.pow_le_pow_right (by decide) (by omega))

/-! ### Seals -/
def sealT (s : List UInt8) : List UInt8 := s ++ 61 :: (low 8 (fnv s) ++ [10])
theorem sealT_length (s : List UInt8) : (sealT s).length = s.length + 10 := by simp [sealT, low_length]
theorem sealT_inj {s t : List UInt8} (h : sealT s = sealT t) : s = t := by
  have hl : s.length = t.length := by
    have := congrArg List.length h
    rw [sealT_length, sealT_length] at this; omega
  exact (List.append_inj h hl).1
/-- A SEALED TEXT OF WHICH ONE BYTE IS ANOTHER ONE IS NO SEALED TEXT. -/
theorem sealT_changed (s : List UInt8) (k : Nat) (d : UInt8) (hk : k < (sealT s).length) (hd : (sealT s)[k] ≠ d) :
    ∀ t, sealT t ≠ (sealT s).take k ++ d :: (sealT s).drop (k + 1) := by
  intro t e
  have hsplit : sealT s = (sealT s).take k ++ (sealT s)[k] :: (sealT s).drop (k + 1) := by
    rw [List.getElem_cons_drop, List.take_append_drop]
  have hlen : t.length = s.length := by
    have := congrArg List.length e
    have h2 := congrArg List.length hsplit
    simp only [List.length_append, List.length_cons, sealT_length] at this h2
    omega
  by_cases h : k < s.length
  · have e1 : (sealT s).take k = s.take k := by rw [sealT, List.take_append_of_le_length (by omega)]
    have e2 : (sealT s).drop (k + 1) = s.drop (k + 1) ++ 61 :: (low 8 (fnv s) ++ [10]) := by
      rw [sealT, List.drop_append_of_le_length (by omega)]
    have e3 : (sealT s)[k] = s[k] := by simp only [sealT]; rw [List.getElem_append_left h]
    rw [e1, e2] at e
    have e4 : (s.take k ++ d :: s.drop (k + 1)) ++ 61 :: (low 8 (fnv s) ++ [10]) = s.take k ++ d :: (s.drop (k + 1) ++ 61 :: (low 8 (fnv s) ++ [10])) := by simp
    rw [← e4, sealT] at e
    have hl : t.length = (s.take k ++ d :: s.drop (k + 1)).length := by simp; omega
    obtain ⟨ht, hr⟩ := List.append_inj e hl
    have hr2 := (List.append_inj (List.cons.inj hr).2 (by simp [low_length])).1
    have hf := low8_inj (fnv_lt _) (fnv_lt _) hr2
    have hs : s = s.take k ++ s[k] :: s.drop (k + 1) := by rw [List.getElem_cons_drop, List.take_append_drop]
    rw [ht] at hf
    have hf2 : fnv (s.take k ++ d :: s.drop (k + 1)) = fnv (s.take k ++ s[k] :: s.drop (k + 1)) := by rw [hf, ← hs]
    have := (fnv_changed _ _ _ _).1 hf2
    rw [e3] at hd
    exact hd this.symm
  · have e1 : t = s := by
      have h2 : (sealT t).take t.length = t := by simp [sealT]
      have h3 : (sealT s).take s.length = s := by simp [sealT]
      rw [← h2, e, hlen]
      rw [List.take_append_of_le_length (by rw [List.length_take, sealT_length]; omega), List.take_take, Nat.min_eq_left (by omega)]
      exact h3
    subst e1
    have h5 : (sealT t)[k]? = ((sealT t).take k ++ d :: (sealT t).drop (k + 1))[k]? := by rw [← e]
    rw [List.getElem?_append_right (by simp; omega), List.length_take, Nat.min_eq_left (by omega), Nat.sub_self, List.getElem?_cons_zero, List.getElem?_eq_getElem hk] at h5
    exact hd (Option.some.inj h5)
end Go.Proofs.YtjlcmgfgbmcjpaaDoor
