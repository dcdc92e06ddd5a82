/- Proved: the message that is sent, by the program and by the document: the same one, whatever comes in. -/
import Derived.Test.YtpifkoblcbjiiaaTms
namespace Go.Proofs.Ytpifkoblcbjiiaa
open Go.RowKit
set_option linter.unusedVariables false

/-- The message that is sent. -/
abbrev sentV (f q n b c d a : Int) : Value := .agg #[.int .i64 (vadd n d), .int .i64 f, .int .i64 q, .int .i64 (-1), .int .i64 c, .int .i64 ((b + a) % 1000)]

set_option maxRecDepth 100000 in
set_option maxHeartbeats 1000000 in
theorem sent_any (w : World) (f q n b c d a : Int) :
    Calls Try.prog 35 #[.int .i64 f, .int .i64 q, .int .i64 n, .int .i64 b, .agg #[.int .i64 c, .int .i64 d, .int .i64 a]] w fun e w' => e = .returned (sentV f q n b c d a) ∧ Below w.heap.size w w' := by
  have mixed : Try.prog.follows .mixedOrders = true := by kernel_rfl
  have HA := fun W => add_any n d W
  have HB := fun W => wrapped_any b W
  have HC := fun W => wrapped_any a W
  have HD := fun W => wrapped_any (b % 1000 + a % 1000) W
  have h1 : 0 ≤ b % 1000 := by omega
  have h2 : b % 1000 < 1000 := by omega
  have h3 : 0 ≤ a % 1000 := by omega
  have h4 : a % 1000 < 1000 := by omega
  have e := two_eq b a
  obtain ⟨V, hV⟩ : ∃ V, vadd n d = V := ⟨_, rfl⟩
  obtain ⟨x, hx⟩ : ∃ x, b % 1000 = x := ⟨_, rfl⟩
  obtain ⟨y, hy⟩ : ∃ y, a % 1000 = y := ⟨_, rfl⟩
  obtain ⟨z, hz⟩ : ∃ z, (b + a) % 1000 = z := ⟨_, rfl⟩
  dsimp only [sentV]
  simp only [hx, hy, hz, hV] at HA HB HC HD h1 h2 h3 h4 e ⊢
  rw [e] at HD
  have hw : IntKind.i64.wrap (x + y) = x + y := by rw [IntKind.wrap_i64]; omega
  obtain ⟨s, hs⟩ : ∃ s, x + y = s := ⟨_, rfl⟩
  rw [hs] at hw HD
  clear hx hy hz hV e h1 h2 h3 h4
  go_enter Try.func35, Try.ntmps35
  go_wp2_with fail
  go_region_held3 (fun w' => w'.cell? ⟨w.heap.size, 0, none⟩ = some (.int .i64 c) ∧ w'.cell? ⟨w.heap.size, 1, none⟩ = some (.int .i64 d) ∧ w'.cell? ⟨w.heap.size, 2, none⟩ = some (.int .i64 a)) (go_keep) (first | (go_at_call 55; refine (HA _).mono ?_; rintro e w' ⟨rfl, rfl⟩) | (go_at_call 56; (first | refine (HD _).mono ?_ | refine (HB _).mono ?_ | refine (HC _).mono ?_); rintro e w' ⟨rfl, rfl⟩))
  all_goals go_wp2
  all_goals exact bodyPost_ret (v := .agg #[.int .i64 V, .int .i64 f, .int .i64 q, .int .i64 (-1), .int .i64 c, .int .i64 z]) (by simp [results, Try.results35, go_sem]) rfl ⟨rfl, (((Below.refl _ w).alloc (Nat.le_refl _) _).alloc (by simp) _).drew⟩

set_option maxRecDepth 100000 in
set_option maxHeartbeats 1000000 in
theorem rsent_any (w : World) (f q n b c d a : Int) :
    Calls Try.prog 36 #[.int .i64 f, .int .i64 q, .int .i64 n, .int .i64 b, .agg #[.int .i64 c, .int .i64 d, .int .i64 a]] w fun e w' => e = .returned (sentV f q n b c d a) ∧ Below w.heap.size w w' := by
  have mixed : Try.prog.follows .mixedOrders = true := by kernel_rfl
  have HA := fun W => refadd_any n d W
  obtain ⟨h1, h2, h3⟩ := tmod_parts b
  obtain ⟨h4, h5, h6⟩ := tmod_parts a
  obtain ⟨h7, h8, h9⟩ := tmod_parts (b.tmod 1000 + a.tmod 1000)
  have e := ref_eq _ _ _ _ _ h3 h6 h9
  clear h3 h6 h9
  dsimp only [sentV]
  rw [← e]
  clear e
  obtain ⟨V, hV⟩ : ∃ V, vadd n d = V := ⟨_, rfl⟩
  obtain ⟨x, hx⟩ : ∃ x, b.tmod 1000 = x := ⟨_, rfl⟩
  obtain ⟨y, hy⟩ : ∃ y, a.tmod 1000 = y := ⟨_, rfl⟩
  rw [hx, hy] at h7 h8 ⊢
  rw [hx] at h1 h2
  rw [hy] at h4 h5
  rw [hV] at HA ⊢
  clear hV
  obtain ⟨z, hz⟩ : ∃ z, (x + y).tmod 1000 = z := ⟨_, rfl⟩
  rw [hz] at h7 h8 ⊢
  obtain ⟨u, hu⟩ : ∃ u, z + 1000 = u := ⟨_, rfl⟩
  have hu0 : 0 ≤ u := by omega
  have hut : u.tmod 1000 = u % 1000 := tmod_pos hu0
  rw [hu]
  go_enter Try.func36, Try.ntmps36
  go_wp2_with fail
  go_region_held3 (fun w' => w'.cell? ⟨w.heap.size, 0, none⟩ = some (.int .i64 c) ∧ w'.cell? ⟨w.heap.size, 1, none⟩ = some (.int .i64 d) ∧ w'.cell? ⟨w.heap.size, 2, none⟩ = some (.int .i64 a)) (go_keep) (first | (go_at_call 57; refine (HA _).mono ?_; rintro e w' ⟨rfl, rfl⟩))
  all_goals go_wp2
  all_goals exact bodyPost_ret (v := .agg #[.int .i64 V, .int .i64 f, .int .i64 q, .int .i64 (-1), .int .i64 c, .int .i64 (u % 1000)]) (by simp [results, Try.results36, go_sem]) rfl ⟨rfl, (((Below.refl _ w).alloc (Nat.le_refl _) _).alloc (by simp) _).drew⟩
end Go.Proofs.Ytpifkoblcbjiiaa
