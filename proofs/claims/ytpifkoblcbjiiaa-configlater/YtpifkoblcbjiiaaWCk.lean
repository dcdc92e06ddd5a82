/- Proved: the walk of the statement on Check. -/
import Derived.Test.YtpifkoblcbjiiaaShn
namespace Go.Proofs.Ytpifkoblcbjiiaa
open Go.RowKit Go.Shelf
set_option linter.unusedVariables false

/-- A federation that came in, in a block of its own: heavy or not. -/
theorem box_of {w : World} {D : Wd} (hp : RdI w w.heap.size D.pa D.ps) (hf : RdF w D.fa D.fs) :
    ((w.alloc (.cells (wcs D) 25)).cell? ⟨w.heap.size, 0, none⟩ = some (.slice D.pa D.ps.length D.pc) ∧ (w.alloc (.cells (wcs D) 25)).cell? ⟨w.heap.size, 1, none⟩ = some (.slice D.fa D.fs.length D.fc) ∧ (w.alloc (.cells (wcs D) 25)).cell? ⟨w.heap.size, 2, none⟩ = some (.int .i64 D.en)) ∧ RdI (w.alloc (.cells (wcs D) 25)) (w.alloc (.cells (wcs D) 25)).heap.size D.pa D.ps ∧ RdF (w.alloc (.cells (wcs D) 25)) D.fa D.fs :=
  ⟨⟨by rw [World.cell?_alloc_new]; rfl, by rw [World.cell?_alloc_new]; rfl, by rw [World.cell?_alloc_new]; rfl⟩, hp.belo (al _ _), hf.below (al _ _)⟩

set_option maxRecDepth 100000 in
set_option maxHeartbeats 1000000 in
theorem checks_walk (w : World) (D : Wd) (hp : RdI w w.heap.size D.pa D.ps) (hf : RdF w D.fa D.fs) :
    Calls Try.prog 3 #[wv D] w fun e w' => e = .returned (.bool true) ∧ Below w.heap.size w w' := by
  have hb0 := al w (.cells (wcs D) 25)
  obtain ⟨⟨x0, x1, x2⟩, hp1, hf1⟩ := box_of hp hf
  have HV := heavy_any _ D hp1 hf1
  obtain ⟨B, hB⟩ : ∃ B, w.heap.size = B := ⟨_, rfl⟩
  rw [hB] at x0 x1 x2
  have lB := clt x0
  dsimp only at lB
  cases hh : hvyW D with
  | true =>
    rw [hh] at HV
    dsimp only [wv, wcs] at HV x0 x1 x2 lB hb0 ⊢
    clear hp hf hp1 hf1 hh
    go_enter Try.func3, Try.ntmps3
    go_wp2_with fail
    refine HV.mono ?_
    rintro e w1 ⟨rfl, hb1⟩
    have hb1' := hb0.trans (hb1.mono hb0.size)
    clear HV
    go_wp2_with fail
    go_ret
    exact ⟨rfl, hb1'⟩
  | false =>
    have hW := ww_of hp1 hf1 hh
    rw [hh] at HV
    have HX : Hid (∀ W, Below (w.alloc (.cells (wcs D) 25)).heap.size (w.alloc (.cells (wcs D) 25)) W → BoxW W B D) := fun W hW' => by
      exact (BoxW.mk x0 x1 x2 hW).below hW'
    obtain ⟨N, E, hNE⟩ : ∃ N E, wldE D = (N, E) := ⟨_, _, rfl⟩
    have HNE : Hid _ := hNE
    dsimp only [wv, wcs] at HV x0 x1 x2 lB hb0 HX ⊢
    clear hp hf hp1 hf1 hh hW hNE
    go_enter Try.func3, Try.ntmps3
    go_wp2_with fail
    refine HV.mono ?_
    rintro e w1 ⟨rfl, hb1⟩
    obtain ⟨x0, x1, x2, hW1⟩ := HX.out w1 hb1
    have C1 := wcheck_any w1 D hW1
    rw [HNE.out] at C1
    dsimp only [wv] at C1
    clear HV hW1
    go_wp2_with fail
    refine C1.mono ?_
    rintro e w2 ⟨rfl, hb2⟩
    have hb2' := hb1.trans (hb2.mono hb1.size)
    obtain ⟨x0, x1, x2, hW2⟩ := HX.out w2 hb2'
    have C2 := rwcheck_any w2 D hW2
    rw [HNE.out] at C2
    dsimp only [wv] at C2
    clear C1 hW2
    go_wp2_with fail
    refine C2.mono ?_
    rintro e w3 ⟨rfl, hb3⟩
    have hb3' := hb2'.trans (hb3.mono hb2'.size)
    have S := shown_any w3
    clear C2
    go_wp2_with fail
    refine S.mono ?_
    rintro e w4 ⟨rfl, hb4⟩
    have hb4' := hb3'.trans (hb4.mono hb3'.size)
    clear S
    go_wp2_with fail
    go_ret
    exact ⟨rfl, hb0.trans (hb4'.mono hb0.size)⟩
end Go.Proofs.Ytpifkoblcbjiiaa
