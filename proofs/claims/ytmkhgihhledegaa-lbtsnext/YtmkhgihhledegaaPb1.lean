/- Proved: contracts of the program's next (the place of the least output that is not final) and lower. -/
import Derived.Test.YtmkhgihhledegaaPb0
import Derived.Test.YtmkhgihhledegaaRvx
namespace Go.Proofs.Ytmkhgihhledegaa
open Go.RowKit Go.Shelf
open L (Mb outM cnt vadd low)
set_option linter.unusedVariables false

/-- The place of the least output that is not final, of the first k; -1, if there is none. -/
def IsNx (f : Nat → Bool) (o : Nat → Int) (k : Nat) (at' : Int) : Prop := (at' = -1 ∧ ∀ j, j < k → f j = true) ∨ ∃ a : Nat, at' = a ∧ a < k ∧ f a = false ∧ ∀ j, j < k → f j = false → o a ≤ o j
theorem IsNx.skip {f : Nat → Bool} {o : Nat → Int} {k : Nat} {x : Int} (h : IsNx f o k x) (hf : f k = true) : IsNx f o (k + 1) x := by
  rcases h with ⟨h1, h2⟩ | ⟨a, h1, h2, h3, h4⟩
  · exact .inl ⟨h1, fun j hj => by
      by_cases e : j = k
      · rw [e]; exact hf
      · exact h2 j (by omega)⟩
  · exact .inr ⟨a, h1, by omega, h3, fun j hj g => by
      by_cases e : j = k
      · rw [e, hf] at g; cases g
      · exact h4 j (by omega) g⟩
theorem IsNx.take {f : Nat → Bool} {o : Nat → Int} {k : Nat} {x : Int} (h : IsNx f o k x) (hf : f k = false) (hl : ∀ a : Nat, x = a → o k ≤ o a) : IsNx f o (k + 1) (k : Int) := by
  refine .inr ⟨k, rfl, by omega, hf, fun j hj g => ?_⟩
  by_cases e : j = k
  · rw [e]; exact Int.le_refl _
  · rcases h with ⟨h1, h2⟩ | ⟨a, h1, h2, h3, h4⟩
    · have := h2 j (by omega); rw [this] at g; cases g
    · exact Int.le_trans (hl a h1) (h4 j (by omega) g)
theorem IsNx.stay {f : Nat → Bool} {o : Nat → Int} {k a : Nat} (h : IsNx f o k a) (hl : ¬ o k < o a) : IsNx f o (k + 1) a := by
  rcases h with ⟨h1, h2⟩ | ⟨a', h1, h2, h3, h4⟩
  · omega
  · obtain rfl : a = a' := by omega
    exact .inr ⟨a, rfl, by omega, h3, fun j hj g => by
      by_cases e : j = k
      · rw [e]; omega
      · exact h4 j (by omega) g⟩
/-- The program's place of the least one. -/
def nxt (f : Nat → Bool) (o : Nat → Int) : Nat → Int
  | 0 => -1
  | k + 1 => if f k = true then nxt f o k else if nxt f o k = -1 ∨ o k < o (nxt f o k).toNat then (k : Int) else nxt f o k
theorem nxt_is (f : Nat → Bool) (o : Nat → Int) : ∀ k, IsNx f o k (nxt f o k)
  | 0 => .inl ⟨rfl, fun j hj => by omega⟩
  | k + 1 => by
    have ih := nxt_is f o k
    show IsNx f o (k + 1) (if f k = true then nxt f o k else if nxt f o k = -1 ∨ o k < o (nxt f o k).toNat then (k : Int) else nxt f o k)
    by_cases h : f k = true
    · rw [if_pos h]; exact ih.skip h
    · rw [if_neg h]
      have hf : f k = false := by simpa using h
      by_cases g : nxt f o k = -1 ∨ o k < o (nxt f o k).toNat
      · rw [if_pos g]
        exact ih.take hf (fun a e => by
          rcases g with g | g
          · omega
          · rw [e] at g
            simp at g
            omega)
      · rw [if_neg g]
        obtain ⟨g1, g2⟩ := not_or.1 g
        rcases ih with ⟨e, _⟩ | ⟨a, e, _⟩
        · exact absurd e g1
        · have ih2 := nxt_is f o k
          rw [e] at g2 ih2 ⊢
          simp at g2
          exact ih2.stay (by omega)
abbrev rowV (b n : Nat) : Value := .slice (some ⟨b, 0, none⟩) n n
abbrev pz (b : Nat) : Value := .pointer (some ⟨b, 0, none⟩)
set_option maxHeartbeats 1000000 in
theorem next_any {w : World} {p3 p6 bo bf n : Nat} {f : Nat → Bool} {o : Nat → Int} (c3 : w.cell? ⟨p3, 0, none⟩ = some (rowV bo n)) (c6 : w.cell? ⟨p6, 0, none⟩ = some (rowV bf n)) (ro : Rv w bo n (iv o)) (rf : Rv w bf n (bv f)) (h1 : n ≤ 1000) :
    Calls Try.prog 17 #[pz p3, pz p6] w fun e w' => e = .returned (.int .i64 (nxt f o n)) ∧ w = w' := by
  have HO : Hid (Rv w bo n (iv o)) := ro
  have HF : Hid (Rv w bf n (bv f)) := rf
  clear ro rf
  go_enter Try.func17, Try.ntmps17
  go_wp2
  go_loop [3, 8] (fun s3 s8 => ∃ (k : Nat) (x : Int), s8 = .int .i64 k ∧ k ≤ n ∧ s3 = .int .i64 x ∧ Hid (nxt f o k = x)) (fun _ s8 => n - (intOf s8).toNat)
  case atStart => exact ⟨0, -1, rfl, Nat.zero_le _, rfl, (rfl : nxt f o 0 = -1)⟩
  case round =>
    obtain ⟨k, x, rfl, hk, rfl, HX⟩ := hrel
    by_cases hlt : k < n
    · have hlt' : (k : Int) < (n : Int) := by omega
      obtain ⟨y, hy⟩ : ∃ y, o k = y := ⟨_, rfl⟩
      have hok := HO.out.atI hlt hy
      cases hf : f k
      · have hfk := HF.out.atB hlt hf
        have hnx : IsNx f o k x := by rw [← HX.out]; exact nxt_is f o k
        have HS : Hid (nxt f o (k + 1) = if x = -1 ∨ o k < o x.toNat then (k : Int) else x) := by
          show nxt f o (k + 1) = _
          rw [← HX.out, show nxt f o (k + 1) = if f k = true then nxt f o k else if nxt f o k = -1 ∨ o k < o (nxt f o k).toNat then (k : Int) else nxt f o k from rfl, if_neg (by rw [hf]; decide)]
        rcases hnx with ⟨e, _⟩ | ⟨a, e, ha, _, _⟩
        · have HN : Hid (nxt f o (k + 1) = (k : Int)) := by show _ = _; rw [HS.out, if_pos (.inl e)]
          have d : (x == -1) = true := by simpa using e
          clear e
          go_wp2
          go_round
          case rel => exact ⟨k + 1, k, by go_num, by omega, rfl, HN.out⟩
          case measure => simp [intOf]; omega
        · subst e
          have d : ((a : Int) == -1) = false := by simp <;> omega
          have hna : a < n := by omega
          obtain ⟨z, hz⟩ : ∃ z, o a = z := ⟨_, rfl⟩
          have hoa := HO.out.atI hna hz
          by_cases hyz : y < z
          · have HN : Hid (nxt f o (k + 1) = (k : Int)) := by show _ = _; rw [HS.out, if_pos (.inr (by simp; rw [hy, hz]; exact hyz))]
            clear hy hz
            go_wp2
            go_round
            case rel => exact ⟨k + 1, k, by go_num, by omega, rfl, HN.out⟩
            case measure => simp [intOf]; omega
          · have HN : Hid (nxt f o (k + 1) = (a : Int)) := by show _ = _; rw [HS.out, if_neg (fun g => by
              rcases g with g | g
              · omega
              · rw [show ((a : Nat) : Int).toNat = a by simp, hy, hz] at g
                exact hyz g)]
            clear hy hz
            go_wp2
            go_round
            case rel => exact ⟨k + 1, a, by go_num, by omega, rfl, HN.out⟩
            case measure => simp [intOf]; omega
      · have hfk := HF.out.atB hlt hf
        have HN : Hid (nxt f o (k + 1) = x) := by
          show _ = _
          rw [show nxt f o (k + 1) = if f k = true then nxt f o k else if nxt f o k = -1 ∨ o k < o (nxt f o k).toNat then (k : Int) else nxt f o k from rfl, if_pos hf]
          exact HX.out
        go_wp2
        go_round
        case rel => exact ⟨k + 1, x, by go_num, by omega, rfl, HN.out⟩
        case measure => simp [intOf]; omega
    · obtain rfl : k = n := by omega
      go_wp2
      go_ret
      exact ⟨congrArg (fun x => Ending.returned (Value.int .i64 x)) HX.out.symm, rfl⟩
/-- Outputs of which the first k are brought down. -/
def lowK (l : List Mb) (f : Nat → Bool) (o : Nat → Int) (b : Int) (k : Nat) : Nat → Int := fun j => if j < k then low l f o b j else o j
theorem lowK_at (l : List Mb) (f : Nat → Bool) (o : Nat → Int) (b : Int) (k : Nat) : lowK l f o b k k = o k := by unfold lowK; rw [if_neg (by omega)]
theorem lowK_skip {l : List Mb} {f : Nat → Bool} {o : Nat → Int} {b : Int} {k : Nat} (h : f k = true) (j : Nat) : lowK l f o b k j = lowK l f o b (k + 1) j := by
  unfold lowK
  by_cases e : j = k
  · subst e
    rw [if_neg (by omega), if_pos (by omega)]
    unfold L.low
    rw [if_pos h]
  · by_cases g : j < k
    · rw [if_pos g, if_pos (by omega)]
    · rw [if_neg g, if_neg (by omega)]
theorem lowK_set {l : List Mb} {f : Nat → Bool} {o : Nat → Int} {b : Int} {k : Nat} (h : f k = false) (j : Nat) : upI (lowK l f o b k) k (min (o k) (outM (L.nth l k) b)) j = lowK l f o b (k + 1) j := by
  unfold upI lowK
  by_cases e : j = k
  · subst e
    rw [if_pos rfl, if_pos (by omega)]
    unfold L.low
    rw [if_neg (by rw [h]; decide)]
  · rw [if_neg e]
    by_cases g : j < k
    · rw [if_pos g, if_pos (by omega)]
    · rw [if_neg g, if_neg (by omega)]
set_option maxRecDepth 100000 in
set_option maxHeartbeats 2000000 in
theorem lower_any {N : Nat → Prop} {w : World} {a : Option Addr} {c bo bf n : Nat} {l : List Mb} {f : Nat → Bool} {o : Nat → Int} {b : Int} (hl : RdN cB N w a l) (hN : ∀ k, N k → k ≠ bo) (hn : l.length = n) (ro : Rv w bo n (iv o)) (rf : Rv w bf n (bv f)) (hne : bf ≠ bo) (hb : cnt b = b) (h1 : n ≤ 1000) :
    Calls Try.prog 18 #[.slice a n c, rowV bo n, rowV bf n, .int .i64 b] w fun e w' => e = .returned (.tuple #[]) ∧ Rv w' bo n (iv (fun j => low l f o b j)) ∧ Fr (fun k => k = bo) w w' := by
  have HL : Hid (RdN cB N w a l) := hl
  have HN : Hid (l.length = n) := hn
  have HO : Hid (Rv w bo n (iv o)) := ro
  have HF : Hid (Rv w bf n (bv f)) := rf
  clear ro rf hl hn
  go_enter Try.func18, Try.ntmps18
  go_wp2
  go_loopw [12] (fun s12 wr => ∃ (k : Nat), s12 = .int .i64 k ∧ k ≤ n ∧ Hid (Rv wr bo n (iv (lowK l f o b k))) ∧ Hid (Fr (fun k => k = bo) w wr)) (fun s12 _ => n - (intOf s12).toNat)
  case atStart => exact ⟨0, rfl, Nat.zero_le _, HO.out.same (fun j _ => by unfold iv lowK; rw [if_neg (by omega)]), Fr.refl _ _⟩
  case round =>
    obtain ⟨k, rfl, hk, HR, HW⟩ := hrel
    by_cases hlt : k < n
    · have hlt' : (k : Int) < (n : Int) := by omega
      obtain ⟨m, hm⟩ : ∃ m, L.nth l k = m := ⟨_, rfl⟩
      have HL2 : RdN cB N wr a l := HL.out.keep HW.out (fun k _ g => ⟨hN k g, g⟩)
      obtain ⟨mb, off, rfl, hmb, m0, m1, m2, m3, m4, m5, m6⟩ := RdN.mb HL2 (by rw [HN.out]; exact hlt) hm
      have BA : Hid (∀ W, Calls Try.prog 16 #[mv m, .int .i64 b] W fun e w' => e = .returned (.int .i64 (outM m b)) ∧ Below W.heap.size W w') := fun W => by
        rw [← pou_is m hb]
        exact pout_any m b W
      have HM : Hid (L.nth l k = m) := hm
      obtain ⟨u, hu⟩ : ∃ u, outM m b = u := ⟨_, rfl⟩
      rw [hu] at BA
      obtain ⟨y, hy⟩ : ∃ y, o k = y := ⟨_, rfl⟩
      have HU : Hid (outM (L.nth l k) b = u ∧ o k = y) := ⟨by rw [hm]; exact hu, hy⟩
      have HRY := HR.out.atI hlt (x := y) (by rw [lowK_at, hy])
      have HRF := (HR.out.c k hlt).2
      clear HL2 hm hu hy
      obtain ⟨r, co, ti, lo, ki, ak, fi⟩ := m
      simp only at m0 m1 m2 m3 m4 m5 m6
      have BA2 : Hid (∀ W, Calls Try.prog 16 #[.agg #[.bool r, .bool co, .int .i64 ti, .int .i64 lo, .int .i64 ki, .int .i64 ak, .int .i64 fi], .int .i64 b] W fun e w' => e = .returned (.int .i64 u) ∧ Below W.heap.size W w') := BA.out
      clear BA
      obtain ⟨W1, hW1⟩ : ∃ W1, wr.alloc (.cells #[.bool r, .bool co, .int .i64 ti, .int .i64 lo, .int .i64 ki, .int .i64 ak, .int .i64 fi] 33) = W1 := ⟨_, rfl⟩
      have HB1 : Hid (Below wr.heap.size wr W1) := by rw [← hW1]; exact al _ _
      have nb : W1.heap[wr.heap.size]? = some (.cells #[.bool r, .bool co, .int .i64 ti, .int .i64 lo, .int .i64 ki, .int .i64 ak, .int .i64 fi] 33) := by rw [← hW1]; exact (MapKept.heap_alloc wr _).1
      obtain ⟨q, hq⟩ : ∃ q, wr.heap.size = q := ⟨_, rfl⟩
      rw [hq] at nb
      have e0 : W1.cell? ⟨q, 0, none⟩ = some (.bool r) := by simp [World.cell?, nb]
      have e1 : W1.cell? ⟨q, 1, none⟩ = some (.bool co) := by simp [World.cell?, nb]
      have e2 : W1.cell? ⟨q, 2, none⟩ = some (.int .i64 ti) := by simp [World.cell?, nb]
      have e3 : W1.cell? ⟨q, 3, none⟩ = some (.int .i64 lo) := by simp [World.cell?, nb]
      have e4 : W1.cell? ⟨q, 4, none⟩ = some (.int .i64 ki) := by simp [World.cell?, nb]
      have e5 : W1.cell? ⟨q, 5, none⟩ = some (.int .i64 ak) := by simp [World.cell?, nb]
      have e6 : W1.cell? ⟨q, 6, none⟩ = some (.int .i64 fi) := by simp [World.cell?, nb]
      have hbow : bo < wr.heap.size := HR.out.lt
      have cy : W1.cell? ⟨bo, k, none⟩ = some (.int .i64 y) := (HB1.out.cell (p := ⟨bo, k, none⟩) hbow).trans HRY
      have cfz : W1.frozen? ⟨bo, k, none⟩ = false := (HB1.out.frozen (p := ⟨bo, k, none⟩) hbow).trans HRF
      have HFw : Hid (Rv wr bf n (bv f)) := HF.out.keep HW.out (fun e => hne e)
      cases hf : f k
      · have cf : W1.cell? ⟨bf, k, none⟩ = some (.bool false) := (HB1.out.cell (p := ⟨bf, k, none⟩) HFw.out.lt).trans (HFw.out.atB hlt hf)
        have HK : Hid (∀ W, Below W1.heap.size W1 W → W.cell? ⟨bo, k, none⟩ = some (.int .i64 y) ∧ W.frozen? ⟨bo, k, none⟩ = false ∧ Hid (Below wr.heap.size wr W)) := fun W hW => ⟨(hW.cell (p := ⟨bo, k, none⟩) (Nat.lt_of_lt_of_le hbow HB1.out.size)).trans cy, (hW.frozen (p := ⟨bo, k, none⟩) (Nat.lt_of_lt_of_le hbow HB1.out.size)).trans cfz, Below.on HB1.out hW⟩
        have HD : Hid (Below W1.heap.size W1 W1.drew) := (Below.refl _ _).drew
        clear nb
        go_wp2_with fail
        go_region_with (first | (go_at_call 16; refine (Hid.out BA2 _).mono ?_; rintro e w2 ⟨rfl, h2⟩; obtain ⟨ck2, cz2, HB2⟩ := (Hid.out HK) w2 ((Hid.out HD).trans h2); clear h2))
        all_goals
          have HR3 : Hid (Rv (w2.setCell ⟨bo, k, none⟩ (.int .i64 (min y u))) bo n (iv (lowK l f o b (k + 1)))) := ((HR.out.below HB2.out).setI k (min y u)).same (fun j _ => by
            unfold iv
            rw [← HU.out.1, ← HU.out.2, lowK_set hf j])
          have HW3 : Hid (Fr (fun k => k = bo) w (w2.setCell ⟨bo, k, none⟩ (.int .i64 (min y u)))) := (HW.out.then (Fr.of_below HB2.out)).setCell _ _ (.inl rfl)
          go_wp2_with fail
          go_roundw
          case rel => exact ⟨k + 1, by go_num, by omega, HR3.out, HW3.out⟩
          case measure => simp [intOf]; omega
      · have cf : W1.cell? ⟨bf, k, none⟩ = some (.bool true) := (HB1.out.cell (p := ⟨bf, k, none⟩) HFw.out.lt).trans (HFw.out.atB hlt hf)
        have HR2 : Hid (Rv W1 bo n (iv (lowK l f o b (k + 1)))) := (HR.out.below HB1.out).same (fun j _ => by unfold iv; rw [lowK_skip hf j])
        clear nb
        go_wp2_with fail
        go_roundw
        case rel => exact ⟨k + 1, by go_num, by omega, HR2.out, HW.out.then (Fr.of_below HB1.out)⟩
        case measure => simp [intOf]; omega
    · obtain rfl : k = n := by omega
      go_wp2
      go_end0
      exact ⟨rfl, HR.out.same (fun j hj => by unfold iv lowK; rw [if_pos hj]), HW.out⟩
end Go.Proofs.Ytmkhgihhledegaa
