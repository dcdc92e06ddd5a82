/- Proved: calls of a past as plain data; how slices of them lie in memory. -/
import Derived.Test.YtgifanioeeacdaaEnt
namespace Go.Proofs.Ytgifanioeeacdaa
open Go.RowKit Go.Shelf Go.Sort
set_option linter.unusedVariables false

/-- A call: its kind, its entry. -/
structure St where
  k : Int
  e : E
def encS (s : St) : List Value := .int .i64 s.k :: encE s.e
theorem encS_one (s : St) : ∀ v ∈ encS s, v.oneCell' = true := by
  intro v hv
  rcases List.mem_cons.1 hv with rfl | hv
  · rfl
  · exact encE_one _ v hv
def cS : Cd St := ⟨encS, 11, ⟨0, e0⟩, fun _ => rfl, encS_one, by decide⟩
def RdS (w : World) (a : Option Addr) (l : List St) : Prop := RdN cS (fun _ => True) w a l ∧ ∀ s ∈ l, RdN cM (fun _ => True) w s.e.oa s.e.p.os
theorem RdS.cells {w : World} {a : Option Addr} {l : List St} (h : RdS w a l) {i : Nat} (hi : i < l.length) {s : St} (hs : nth cS l i = s) :
    RdN cM (fun _ => True) w s.e.oa s.e.p.os ∧ ∃ b off, a = some ⟨b, off, none⟩ ∧ b < w.heap.size ∧ ∀ W, Below w.heap.size w W → W.cell? ⟨b, off + i * 11, none⟩ = some (.int .i64 s.k) ∧ W.cell? ⟨b, off + i * 11 + 1, none⟩ = some (.int .i64 s.e.p.m.1.1) ∧ W.cell? ⟨b, off + i * 11 + 2, none⟩ = some (.int .i64 s.e.p.m.1.2.1) ∧ W.cell? ⟨b, off + i * 11 + 3, none⟩ = some (.int .i64 s.e.p.m.1.2.2) ∧ W.cell? ⟨b, off + i * 11 + 4, none⟩ = some (.int .i64 s.e.p.m.2.1) ∧ W.cell? ⟨b, off + i * 11 + 5, none⟩ = some (.int .i64 s.e.p.m.2.2.1) ∧ W.cell? ⟨b, off + i * 11 + 6, none⟩ = some (.int .i64 s.e.p.m.2.2.2) ∧ W.cell? ⟨b, off + i * 11 + 7, none⟩ = some (.int .i64 s.e.p.ah) ∧ W.cell? ⟨b, off + i * 11 + 8, none⟩ = some (.int .i64 s.e.p.se) ∧ W.cell? ⟨b, off + i * 11 + 9, none⟩ = some (.int .i64 s.e.p.st) ∧ W.cell? ⟨b, off + i * 11 + 10, none⟩ = some (.slice s.e.oa s.e.p.os.length s.e.oc) := by
  subst hs
  refine ⟨h.2 _ (nth_mem hi), ?_⟩
  obtain ⟨b, off, rfl, hB, _, hc⟩ := h.1 (by intro e; rw [e] at hi; simp at hi)
  refine ⟨b, off, rfl, hB, fun W hW => ?_⟩
  have g : ∀ c, c < 11 → W.cell? ⟨b, off + i * 11 + c, none⟩ = (encS (nth cS l i))[c]? := fun c h3 => (hW.cell (p := ⟨b, off + i * 11 + c, none⟩) hB).trans (hc i hi c h3)
  exact ⟨g 0 (by omega), g 1 (by omega), g 2 (by omega), g 3 (by omega), g 4 (by omega), g 5 (by omega), g 6 (by omega), g 7 (by omega), g 8 (by omega), g 9 (by omega), g 10 (by omega)⟩
/-- The bound of the document. -/
def heavyS (l : List St) : Bool := decide (200 < l.length) || l.any (fun s => decide (20 < s.e.p.os.length))
end Go.Proofs.Ytgifanioeeacdaa
