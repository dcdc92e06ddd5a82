/- Proved: calls of a gate as plain data; how slices of them lie in memory; what a gate holds behind some calls of Hold. -/
import Derived.Test.YtpkemgpnpadkfaaLw0
namespace Go.Proofs.Ytpkemgpnpadkfaa
open Go.RowKit Go.Shelf Go.Sort
set_option linter.unusedVariables false

/-- A call: its kind, its cause and its message. -/
structure St where
  k : Int
  x : H
def encS (s : St) : List Value := .int .i64 s.k :: encH s.x
theorem encS_one (s : St) : ∀ v ∈ encS s, v.oneCell' = true := by
  intro v hv
  rcases List.mem_cons.1 hv with rfl | hv
  · rfl
  · exact encH_one _ v hv
def s0 : St := ⟨0, ((0, 0, 0), ((0, 0, 0), 0, 0, 0))⟩
def cS : Cd St := ⟨encS, 10, s0, fun _ => rfl, encS_one, by decide⟩
def RdS (w : World) (a : Option Addr) (l : List St) : Prop := RdN cS (fun _ => True) w a l
theorem RdS.cells {w : World} {a : Option Addr} {l : List St} (h : RdS w a l) {i : Nat} (hi : i < l.length) {s : St} (hs : nth cS l i = s) :
    ∃ b off, a = some ⟨b, off, none⟩ ∧ b < w.heap.size ∧ ∀ W, Below w.heap.size w W → W.cell? ⟨b, off + i * 10, none⟩ = some (.int .i64 s.k) ∧ W.cell? ⟨b, off + i * 10 + 1, none⟩ = some (.int .i64 s.x.1.1) ∧ W.cell? ⟨b, off + i * 10 + 2, none⟩ = some (.int .i64 s.x.1.2.1) ∧ W.cell? ⟨b, off + i * 10 + 3, none⟩ = some (.int .i64 s.x.1.2.2) ∧ W.cell? ⟨b, off + i * 10 + 4, none⟩ = some (.int .i64 s.x.2.1.1) ∧ W.cell? ⟨b, off + i * 10 + 5, none⟩ = some (.int .i64 s.x.2.1.2.1) ∧ W.cell? ⟨b, off + i * 10 + 6, none⟩ = some (.int .i64 s.x.2.1.2.2) ∧ W.cell? ⟨b, off + i * 10 + 7, none⟩ = some (.int .i64 s.x.2.2.1) ∧ W.cell? ⟨b, off + i * 10 + 8, none⟩ = some (.int .i64 s.x.2.2.2.1) ∧ W.cell? ⟨b, off + i * 10 + 9, none⟩ = some (.int .i64 s.x.2.2.2.2) := by
  subst hs
  obtain ⟨b, off, rfl, hB, _, hc⟩ := h (by intro e; rw [e] at hi; simp at hi)
  refine ⟨b, off, rfl, hB, fun W hW => ?_⟩
  have g : ∀ c, c < 10 → W.cell? ⟨b, off + i * 10 + c, none⟩ = (encS (nth cS l i))[c]? := fun c h3 => (hW.cell (p := ⟨b, off + i * 10 + c, none⟩) hB).trans (hc i hi c h3)
  exact ⟨g 0 (by omega), g 1 (by omega), g 2 (by omega), g 3 (by omega), g 4 (by omega), g 5 (by omega), g 6 (by omega), g 7 (by omega), g 8 (by omega), g 9 (by omega)⟩
theorem RdS.below {w W : World} {a : Option Addr} {l : List St} (h : RdS w a l) (hb : Below w.heap.size w W) : RdS W a l := RdN.below h hb
/-- What is held behind the first n, where those of the kind 0 alone count. -/
def hls (z : List St) : Nat → List H
  | 0 => []
  | n + 1 => if (nth cS z n).k = 0 then holdL 0 (hls z n) (nth cS z n).x else hls z n
end Go.Proofs.Ytpkemgpnpadkfaa
