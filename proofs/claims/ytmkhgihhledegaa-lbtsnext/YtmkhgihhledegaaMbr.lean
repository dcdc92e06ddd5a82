/- Proved: members and rows of integers in memory; contracts of the document's others and output. -/
import Derived.Test.YtmkhgihhledegaaTmd
import Derived.Test.YtmkhgihhledegaaRow
namespace Go.Proofs.Ytmkhgihhledegaa
open Go.RowKit Go.Shelf
open L (Mb IsG lbt oth outM outF base look cnt vadd)
set_option linter.unusedVariables false

def encB (m : Mb) : List Value := [.bool m.re, .bool m.co, .int .i64 m.ti, .int .i64 m.lo, .int .i64 m.ki, .int .i64 m.ak, .int .i64 m.fi]
theorem encB_one (m : Mb) : ∀ v ∈ encB m, v.oneCell' = true := by
  intro v hv
  simp only [encB, List.mem_cons, List.not_mem_nil, or_false] at hv
  rcases hv with rfl | rfl | rfl | rfl | rfl | rfl | rfl <;> rfl
def cB : Cd Mb := ⟨encB, 7, L.mb0, fun _ => rfl, encB_one, by decide⟩
def encI (x : Int) : List Value := [.int .i64 x]
theorem encI_one (x : Int) : ∀ v ∈ encI x, v.oneCell' = true := by
  intro v hv
  simp only [encI, List.mem_cons, List.not_mem_nil, or_false] at hv
  subst hv
  rfl
def cI : Cd Int := ⟨encI, 1, 0, fun _ => rfl, encI_one, by decide⟩
def tyI : Ty cI 23 3 := ⟨.int .i64 0, 8, Try.underlying23, by kernel_rfl, rfl, by decide⟩
abbrev fn (o : List Int) : Nat → Int := fun i => o.getD i 0
theorem RdN.mb {N : Nat → Prop} {W : World} {a : Option Addr} {l : List Mb} (h : RdN cB N W a l) {i : Nat} (hi : i < l.length) {m : Mb} (hm : L.nth l i = m) :
    ∃ b off, a = some ⟨b, off, none⟩ ∧ b < W.heap.size ∧ W.cell? ⟨b, off + i * 7, none⟩ = some (.bool m.re) ∧ W.cell? ⟨b, off + i * 7 + 1, none⟩ = some (.bool m.co) ∧ W.cell? ⟨b, off + i * 7 + 2, none⟩ = some (.int .i64 m.ti) ∧ W.cell? ⟨b, off + i * 7 + 3, none⟩ = some (.int .i64 m.lo) ∧ W.cell? ⟨b, off + i * 7 + 4, none⟩ = some (.int .i64 m.ki) ∧ W.cell? ⟨b, off + i * 7 + 5, none⟩ = some (.int .i64 m.ak) ∧ W.cell? ⟨b, off + i * 7 + 6, none⟩ = some (.int .i64 m.fi) := by
  obtain ⟨b, off, rfl, hb, _, hc⟩ := h (by intro e; rw [e] at hi; simp at hi)
  have hm' : nth cB l i = m := hm
  have g : ∀ c, c < 7 → W.cell? ⟨b, off + i * 7 + c, none⟩ = (encB m)[c]? := fun c h7 => by rw [← hm']; exact hc i hi c h7
  exact ⟨b, off, rfl, hb, g 0 (by omega), g 1 (by omega), g 2 (by omega), g 3 (by omega), g 4 (by omega), g 5 (by omega), g 6 (by omega)⟩
theorem RdN.int {N : Nat → Prop} {W : World} {a : Option Addr} {l : List Int} (h : RdN cI N W a l) {i : Nat} (hi : i < l.length) {x : Int} (hx : l.getD i 0 = x) : ∃ b off, a = some ⟨b, off, none⟩ ∧ b < W.heap.size ∧ W.cell? ⟨b, off + i, none⟩ = some (.int .i64 x) := by
  obtain ⟨b, off, rfl, hb, _, hc⟩ := h (by intro e; rw [e] at hi; simp at hi)
  have hx' : nth cI l i = x := hx
  have g := hc i hi 0 (by show 0 < 1; omega)
  rw [hx'] at g
  exact ⟨b, off, rfl, hb, by simpa [cI, encI] using g⟩
set_option maxHeartbeats 1000000 in
theorem others_any {N N' : Nat → Prop} {w : World} {a oa : Option Addr} {c oc : Nat} {l : List Mb} {o : List Int} (hl : RdN cB N w a l) (ho : RdN cI N' w oa o) (hn : o.length = l.length) (h1 : l.length ≤ 1000) (i : Int) :
    Calls Try.prog 21 #[.slice a l.length c, .slice oa l.length oc, .int .i64 i] w fun e w' => e = .returned (.int .i64 (lbt l (fn o) i)) ∧ w = w' := by
  have HL : Hid (RdN cB N w a l) := hl
  have HO : Hid (RdN cI N' w oa o) := ho
  have HN : Hid (o.length = l.length) := hn
  obtain ⟨n, hnn⟩ : ∃ n, l.length = n := ⟨_, rfl⟩
  have HE : Hid (lbt l (fn o) i = oth l (fn o) i n) := by show _ = _; rw [← hnn]; rfl
  rw [HE.out]
  rw [hnn] at h1 ⊢
  have HLN : Hid (l.length = n) := hnn
  clear hl ho hn hnn
  go_enter Try.func21, Try.ntmps21
  go_wp2
  go_loop [7, 8] (fun s7 s8 => ∃ k : Nat, s8 = .int .i64 k ∧ k ≤ n ∧ s7 = .int .i64 (oth l (fn o) i k)) (fun _ s8 => n - (intOf s8).toNat)
  case atStart => exact ⟨0, rfl, Nat.zero_le _, rfl⟩
  case round =>
    obtain ⟨k, rfl, hk, rfl⟩ := hrel
    by_cases hlt : k < n
    · have hlt' : (k : Int) < (n : Int) := by omega
      have hkl : k < l.length := by rw [HLN.out]; exact hlt
      obtain ⟨m, hm⟩ : ∃ m, L.nth l k = m := ⟨_, rfl⟩
      obtain ⟨b, off, rfl, hb, m0, m1, m2, m3, m4, m5, m6⟩ := RdN.mb HL.out hkl hm
      obtain ⟨x, hx⟩ : ∃ x, o.getD k 0 = x := ⟨_, rfl⟩
      obtain ⟨ob, ooff, rfl, hob, x0⟩ := RdN.int HO.out (by rw [HN.out]; exact hkl) hx
      obtain ⟨t, ht⟩ : ∃ t, oth l (fn o) i k = t := ⟨_, rfl⟩
      have HS : Hid (oth l (fn o) i (k + 1) = if (k : Int) ≠ i ∧ m.re = true then min t x else t) := by
        show oth l (fn o) i (k + 1) = _
        rw [← ht, ← hx, ← hm]
        rfl
      rw [ht]
      obtain ⟨mr, hmr⟩ : ∃ mr, m.re = mr := ⟨_, rfl⟩
      rw [hmr] at m0 HS
      clear m1 m2 m3 m4 m5 m6 hm hx ht hmr hkl
      by_cases hki : (k : Int) = i
      · have d : ((k : Int) != i) = false := by simpa using hki
        have HS2 : Hid (oth l (fn o) i (k + 1) = t) := by rw [HS.out, if_neg (fun g => g.1 hki)]; rfl
        clear hki
        go_wp2
        go_round
        case rel => exact ⟨k + 1, by go_num, by omega, by rw [HS2.out]⟩
        case measure => simp [intOf]; omega
      · have d : ((k : Int) != i) = true := by simpa using hki
        cases mr
        · have HS2 : Hid (oth l (fn o) i (k + 1) = t) := by rw [HS.out, if_neg (fun g => by cases g.2)]; rfl
          clear hki
          go_wp2
          go_round
          case rel => exact ⟨k + 1, by go_num, by omega, by rw [HS2.out]⟩
          case measure => simp [intOf]; omega
        · have HS2 : Hid (oth l (fn o) i (k + 1) = min t x) := by rw [HS.out, if_pos ⟨hki, rfl⟩]; rfl
          clear hki
          go_wp2
          go_round
          case rel => exact ⟨k + 1, by go_num, by omega, by rw [HS2.out]⟩
          case measure => simp [intOf]; omega
    · obtain rfl : k = n := by omega
      go_wp2
      go_ret
      exact ⟨rfl, rfl⟩
end Go.Proofs.Ytmkhgihhledegaa
