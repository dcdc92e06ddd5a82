/- Proved: what the document's own Decode tells of any text of up to 2048 bytes is what lines.Decode tells. -/
import Derived.Test.YtjlcmgfgbmcjpaaDoorRef3
import Derived.WalkSpells
namespace Go.Proofs.YtjlcmgfgbmcjpaaDoor
open Go.RowKit
set_option linter.unusedVariables false

theorem cell_one {w : World} {v : Value} {t : Nat} : ∀ j u, ([v] : List Value)[j]? = some u → (w.alloc (.cells #[v] t)).cell? ((⟨w.heap.size, 0, none⟩ : Addr).add j) = some u := by
  intro j u hu
  obtain rfl : j = 0 := by
    have := (List.getElem?_eq_some_iff.1 hu).1
    simpa using this
  simp at hu
  subst hu
  rw [Go.WideShapes.add_plain, World.cell?_alloc_at _ _ _ _ rfl]; rfl

set_option maxRecDepth 100000 in
set_option maxHeartbeats 4000000 in
theorem refDecode_any (s : ByteArray) (w : World) (hs : s.size ≤ 2048) : Calls Tryd.prog 14 #[.string s] w (DecTells s w) := by
  obtain ⟨i0, hi, hz0, hz1, hz2⟩ := info_parts info42
  obtain ⟨j0, hj, hy0, hy1, hy2⟩ := info_parts info9
  go_enter Tryd.func14, Tryd.ntmps14
  go_wp2
  go_loopw [5, 6, 7, 8, 9] (fun rv fv f l i wr => ∃ (k : Nat) (F : ByteArray) (RS : List (List ByteArray)) (FZ : List ByteArray), k ≤ s.size ∧ i = .int .i64 k ∧ f = .string F ∧ l = .int .i64 ((RS.length : Int) + 1) ∧ Hid (Reads s w wr k rv fv F RS FZ)) (fun _ _ _ _ i _ => s.size - (intOf i).toNat)
  case atStart => exact ⟨0, ⟨#[]⟩, [], [], Nat.zero_le _, rfl, rfl, rfl, hide (reads_start s w)⟩
  case round =>
    obtain ⟨k, F, RS, FZ, hk, rfl, rfl, rfl, hh⟩ := hrel
    have hRl := hh.out.2.2.2.2.1
    have hFl := hh.out.2.2.2.2.2.1
    have hFz := hh.out.2.2.2.2.2.2
    by_cases hlt : k < s.size
    · have hlt' : (k : Int) < (s.size : Int) := by omega
      obtain ⟨C, hC1, hC2, hR, hF⟩ := hh.out.2.1
      have HR := hide hR
      have HF := hide hF
      clear hR hF
      by_cases h44 : s[k] = 44
      · have n44 : (s[k].toNat : Int) = 44 := by rw [h44]; rfl
        go_wp2_with (at_builtin; refine wpList_append_own _ rfl _ _ 42 rfl C 9 j0 (.string ⟨#[]⟩) 1 16 Tryd.underlying42 hj hy0 hy1 hy2 rfl (by decide) _ _ _ rfl (World.ownsRow.alloc HF.out _) ⟨wr.heap.size, 0, none⟩ 1 1 [.string F] rfl rfl ?c1 ?c2 ?c3 ?c4 ?c5 ?_)
        case c1 => exact cell_one
        case c2 => intro u hu; simp at hu; subst hu; rfl
        case c3 => unfold maxLen; omega
        case c4 => omega
        case c5 => simp; omega
        intro v' w2 ho hg _
        have HO := hide ho
        have HG := hide hg
        clear ho hg
        go_wp2
        go_roundw
        case rel => exact ⟨k + 1, ⟨#[]⟩, RS, FZ ++ [F], by omega, by go_num, rfl, rfl, reads_comma hh.out hlt h44 hC1 hC2 HR.out HF.out HO.out HG.out⟩
        case measure => simp [intOf]; omega
      · have n44 : ¬ ((s[k].toNat : Int) = 44) := u8_ne h44
        by_cases h10 : s[k] = 10
        · have n10 : (s[k].toNat : Int) = 10 := by rw [h10]; rfl
          go_wp2_with (at_builtin; refine wpList_append_own _ rfl _ _ 42 rfl C 9 j0 (.string ⟨#[]⟩) 1 16 Tryd.underlying42 hj hy0 hy1 hy2 rfl (by decide) _ _ _ rfl (World.ownsRow.alloc HF.out _) ⟨wr.heap.size, 0, none⟩ 1 1 [.string F] rfl rfl ?c1 ?c2 ?c3 ?c4 ?c5 ?_)
          case c1 => exact cell_one
          case c2 => intro u hu; simp at hu; subst hu; rfl
          case c3 => unfold maxLen; omega
          case c4 => omega
          case c5 => simp; omega
          intro u w2 ho hg _
          obtain ⟨g, cap, rfl⟩ : ∃ g cap, u = .slice (some ⟨g, 0, none⟩) (FZ.length + 1) cap := by
            rcases ho.2 with ⟨_, h0⟩ | ⟨g, cap, cur, rfl, _⟩
            · exact absurd h0 (by omega)
            · exact ⟨g, cap, rfl⟩
          have HO := hide ho
          have HG := hide hg
          obtain ⟨vs, hv1, hv2⟩ := (HR.out.alloc _).grownS (World.ownsRow.alloc HF.out _) hg
          have HV : Hid _ := And.intro hv1 hv2
          have hsz : w.heap.size ≤ w2.heap.size := by have := hg.size; simp at this; omega
          clear ho hg hv1 hv2
          go_wp2_with (at_builtin; refine wpList_append_own _ rfl _ _ 22 rfl w.heap.size 42 i0 (.slice none 0 0) 1 24 Tryd.underlying22 hi hz0 hz1 hz2 rfl (by decide) _ _ _ rfl (World.ownsRow.alloc HV.out.1 _) ⟨w2.heap.size, 0, none⟩ 1 1 [.slice (some ⟨g, 0, none⟩) (FZ.length + 1) cap] rfl rfl ?c1 ?c2 ?c3 ?c4 ?c5 ?_)
          case c1 => exact cell_one
          case c2 =>
            intro x hx
            simp at hx; subst hx; rfl
          case c3 => unfold maxLen; omega
          case c4 => omega
          case c5 => simp; omega
          intro v' w3 ho2 hg2 _
          have HO2 := hide ho2
          have HG2 := hide hg2
          clear ho2 hg2
          go_wp2
          go_roundw
          case rel => exact ⟨k + 1, ⟨#[]⟩, RS ++ [FZ ++ [F]], [], by omega, by go_num, rfl, by simp, reads_feed hh.out hlt h10 hC1 hC2 HF.out HO.out HG.out HV.out HO2.out HG2.out⟩
          case measure => simp [intOf]; omega
        · have n10 : ¬ ((s[k].toNat : Int) = 10) := u8_ne h10
          by_cases h37 : s[k] = 37
          · have n37 : (s[k].toNat : Int) = 37 := by rw [h37]; rfl
            by_cases h3 : k + 3 ≤ s.size
            · obtain ⟨a, b, hd, hT, hb⟩ := code_at s k h3 h37
              have HD := hide hd
              have HB := hide hb
              clear hd hb
              have hsl : ∀ wx : World, (Instr.slice 9 (.string s) (some (.int .i64 (k : Int))) (some (.int .i64 ((k : Int) + 3))) none).run Tryd.prog wx = .ok (.string ⟨#[37, a, b]⟩) wx := by
                intro wx
                have := run_slice_string (P := Tryd.prog) wx 9 s .i64 .i64 (k : Int) ((k : Int) + 3) Tryd.underlying9 (by omega) (by omega) (by omega)
                rw [this, ← hT]; rfl
              clear hT
              by_cases c1 : a = 50 ∧ b = 53
              · obtain ⟨rfl, rfl⟩ := c1
                go_wp2
                go_roundw
                case rel => exact ⟨k + 3, _, RS, FZ, by omega, by go_num, rfl, rfl, reads_code hh.out HD.out HB.out (by decide)⟩
                case measure => simp [intOf]; omega
              · by_cases c2 : a = 50 ∧ b = 67
                · obtain ⟨rfl, rfl⟩ := c2
                  go_wp2
                  go_roundw
                  case rel => exact ⟨k + 3, _, RS, FZ, by omega, by go_num, rfl, rfl, reads_code hh.out HD.out HB.out (by decide)⟩
                  case measure => simp [intOf]; omega
                · by_cases c3 : a = 48 ∧ b = 65
                  · obtain ⟨rfl, rfl⟩ := c3
                    go_wp2
                    go_roundw
                    case rel => exact ⟨k + 3, _, RS, FZ, by omega, by go_num, rfl, rfl, reads_code hh.out HD.out HB.out (by decide)⟩
                    case measure => simp [intOf]; omega
                  · have hc : code a b = none := by simp only [code, if_neg c1, if_neg c2, if_neg c3]
                    have HE := hide (reads_bad hh.out HD.out hc)
                    clear hc
                    go_wp2
                    all_goals first | exact absurd (by simpa using ‹(a == 50) = true ∧ (b == 53) = true›) c1 | exact absurd (by simpa using ‹(a == 50) = true ∧ (b == 67) = true›) c2 | exact absurd (by simpa using ‹(a == 48) = true ∧ (b == 65) = true›) c3 | skip
                    refine bodyPost_ret (v := .tuple #[.slice none 0 0, .int .i64 ((RS.length : Int) + 1), .int .i64 20]) (by simp [results, Tryd.results14, go_sem]) rfl ⟨hh.out.1, .inl ⟨RS.length + 1, HE.out, by simp⟩⟩
            · have HE := hide (reads_short hh.out hlt h37 (by omega))
              go_wp2
              refine bodyPost_ret (v := .tuple #[.slice none 0 0, .int .i64 ((RS.length : Int) + 1), .int .i64 20]) (by simp [results, Tryd.results14, go_sem]) rfl ⟨hh.out.1, .inl ⟨RS.length + 1, HE.out, by simp⟩⟩
          · have n37 : ¬ ((s[k].toNat : Int) = 37) := u8_ne h37
            have hb := one_back s[k] wr
            have HX : Hid _ := reads_char (o := .cells #[.int .u8 s[k].toNat] 5) hh.out hlt h44 h10 h37
            clear h44 h10 h37
            go_wp2
            go_roundw
            case rel => exact ⟨k + 1, _, RS, FZ, by omega, by go_num, rfl, rfl, HX.out⟩
            case measure => simp [intOf]; omega
    · obtain rfl : k = s.size := by omega
      by_cases h0 : s.size = 0
      · have HE := hide (reads_end hh.out hlt (.inl h0))
        obtain ⟨C, hC1, hC2, hR, hF⟩ := hh.out.2.1
        obtain ⟨ra, rc, rfl⟩ := hR.form
        have HR := hide hR
        have hz : ((s.size : Int)) = 0 := by omega
        clear hR hF
        go_wp2
        refine bodyPost_ret (v := .tuple #[.slice ra RS.length rc, .int .i64 0, .int .i64 0]) (by simp [results, Tryd.results14, go_sem]) rfl ⟨hh.out.1, .inr ⟨_, _, RS, rfl, HR.out.rows, HE.out⟩⟩
      · obtain ⟨m, hm⟩ : ∃ m, s.size = m + 1 := ⟨s.size - 1, by omega⟩
        have hl : m < s.size := by omega
        have HG : Hid (s.data.toList[s.size - 1]? = some s[m]) := by
          show _ = _
          rw [hm, Nat.add_sub_cancel, List.getElem?_eq_getElem (by simpa using hl)]; rfl
        have hp : (0 : Int) < (s.size : Int) := by omega
        by_cases h10 : s[m] = 10
        · have n10 : (s[m].toNat : Int) = 10 := by rw [h10]; rfl
          have HE := hide (reads_end hh.out hlt (.inr (by rw [HG.out, h10])))
          obtain ⟨C, hC1, hC2, hR, hF⟩ := hh.out.2.1
          obtain ⟨ra, rc, rfl⟩ := hR.form
          have HR := hide hR
          clear hR hF
          go_wp2
          refine bodyPost_ret (v := .tuple #[.slice ra RS.length rc, .int .i64 0, .int .i64 0]) (by simp [results, Tryd.results14, go_sem]) rfl ⟨hh.out.1, .inr ⟨_, _, RS, rfl, HR.out.rows, HE.out⟩⟩
        · have n10 : ¬ ((s[m].toNat : Int) = 10) := u8_ne h10
          have HE := hide (reads_open hh.out hlt (by
            rintro (e | e)
            · exact h0 e
            · rw [HG.out] at e; exact h10 (Option.some.inj e)))
          go_wp2
          refine bodyPost_ret (v := .tuple #[.slice none 0 0, .int .i64 ((RS.length : Int) + 1), .int .i64 20]) (by simp [results, Tryd.results14, go_sem]) rfl ⟨hh.out.1, .inl ⟨RS.length + 1, HE.out, by simp⟩⟩
end Go.Proofs.YtjlcmgfgbmcjpaaDoor
