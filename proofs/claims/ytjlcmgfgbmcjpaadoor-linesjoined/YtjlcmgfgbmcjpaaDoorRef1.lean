/- Proved: what the document's own Encode tells of rows that lie in memory is what lines.Encode tells. -/
import Derived.Test.YtjlcmgfgbmcjpaaDoorEnc1
import Derived.Laws.IdiomStrings
namespace Go.Proofs.YtjlcmgfgbmcjpaaDoor
open Go.RowKit
set_option linter.unusedVariables false

/-- One byte in a slice of its own, as a text. -/
theorem one_back (x : UInt8) (w : World) : (convert 40 9 (.slice (some ⟨w.heap.size, 0, none⟩) 1 1)).run Tryd.prog (w.alloc (.cells #[.int .u8 x.toNat] 5)) = .ok (.string ⟨#[x]⟩) (w.alloc (.cells #[.int .u8 x.toNat] 5)) := by
  have h := run_convert_bytes_back (P := Tryd.prog) (w.alloc (.cells #[.int .u8 x.toNat] 5)) 40 9 5 ⟨w.heap.size, 0, none⟩ 1 [x] Tryd.underlying40 Tryd.underlying5 Tryd.underlying9 (fun j hj => by
    have : j = 0 := by simp at hj; exact hj
    subst this
    show (w.alloc (.cells #[.int .u8 x.toNat] 5)).cell? ⟨w.heap.size, 0, none⟩ = _
    rw [World.cell?_alloc_at _ _ _ _ (by simp)]; rfl)
  exact h

set_option maxRecDepth 100000 in
theorem escaped_any (x : UInt8) (w : World) :
    Calls Tryd.prog 27 #[.int .u8 x.toNat] w fun e w' => e = .returned (.string ⟨(esc x).toArray⟩) ∧ Below w.heap.size w w' := by
  have hb := one_back x w
  by_cases h37 : x = 37
  · subst h37
    have h37' : (((37 : UInt8).toNat : Nat) : Int) = 37 := rfl
    go_enter Tryd.func27, Tryd.ntmps27
    go_wp2
    go_ret
    exact ⟨rfl, Below.refl _ _⟩
  · have n37 : ¬ ((x.toNat : Int) = 37) := u8_ne h37
    by_cases h44 : x = 44
    · subst h44
      have h44' : (((44 : UInt8).toNat : Nat) : Int) = 44 := rfl
      go_enter Tryd.func27, Tryd.ntmps27
      go_wp2
      go_ret
      exact ⟨rfl, Below.refl _ _⟩
    · have n44 : ¬ ((x.toNat : Int) = 44) := u8_ne h44
      by_cases h10 : x = 10
      · subst h10
        have h10' : (((10 : UInt8).toNat : Nat) : Int) = 10 := rfl
        go_enter Tryd.func27, Tryd.ntmps27
        go_wp2
        go_ret
        exact ⟨rfl, Below.refl _ _⟩
      · have n10 : ¬ ((x.toNat : Int) = 10) := u8_ne h10
        rw [esc_char h44 h10 h37]
        clear h44 h10 h37
        obtain ⟨n, hn⟩ : ∃ n : Int, n = (x.toNat : Int) := ⟨_, rfl⟩
        rw [← hn] at hb n37 n44 n10 ⊢
        clear hn
        go_enter Tryd.func27, Tryd.ntmps27
        go_wp2
        go_ret
        exact ⟨rfl, (Below.refl _ _).alloc (Nat.le_refl _) _⟩
end Go.Proofs.YtjlcmgfgbmcjpaaDoor
