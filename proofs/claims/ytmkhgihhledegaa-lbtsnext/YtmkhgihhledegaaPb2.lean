/- Proved: contracts of the program's Outputs and Lbts. -/
import Derived.Test.YtmkhgihhledegaaPb1
namespace Go.Proofs.Ytmkhgihhledegaa
open Go.RowKit Go.Shelf
open L (Mb IsG Dj lbt oth outM cnt vadd low cnF)
set_option linter.unusedVariables false

/-- The outputs' row and the variable that holds it, since w. -/
structure OA (w W : World) (n b3 bo : Nat) (o : Nat → Int) : Prop where
  bel : Below w.heap.size w W
  g3 : w.heap.size ≤ b3
  go : w.heap.size ≤ bo
  ne : b3 ≠ bo
  l3 : b3 < W.heap.size
  c3 : W.cell? ⟨b3, 0, none⟩ = some (rowV bo n)
  ro : Rv W bo n (iv o)
theorem OA.on {w W W2 : World} {n b3 bo : Nat} {o : Nat → Int} (h : OA w W n b3 bo o) (g : Below W.heap.size W W2) : OA w W2 n b3 bo o :=
  ⟨Below.on h.bel g, h.g3, h.go, h.ne, Nat.lt_of_lt_of_le h.l3 g.size, (g.cell (p := ⟨b3, 0, none⟩) h.l3).trans h.c3, h.ro.below g⟩
theorem OA.wr {w W W2 : World} {n b3 bo : Nat} {o o2 : Nat → Int} (h : OA w W n b3 bo o) (hr : Rv W2 bo n (iv o2)) (hf : Fr (fun k => k = bo) W W2) : OA w W2 n b3 bo o2 :=
  ⟨h.bel.trans (hf.below h.bel.size (fun i e => by rw [e]; exact h.go)), h.g3, h.go, h.ne, Nat.lt_of_lt_of_le h.l3 hf.size, (hf.cell (p := ⟨b3, 0, none⟩) h.l3 h.ne).trans h.c3, hr⟩
theorem OA.same {w W : World} {n b3 bo : Nat} {o o2 : Nat → Int} (h : OA w W n b3 bo o) (e : ∀ j, j < n → o j = o2 j) : OA w W n b3 bo o2 := ⟨h.bel, h.g3, h.go, h.ne, h.l3, h.c3, h.ro.same (fun j hj => by unfold iv; rw [e j hj])⟩
/-- And which are final. -/
structure OB (w W : World) (n b3 bo b6 bf : Nat) (o : Nat → Int) (f : Nat → Bool) : Prop where
  a : OA w W n b3 bo o
  g6 : w.heap.size ≤ b6
  gf : w.heap.size ≤ bf
  n1 : b6 ≠ bo
  n2 : bf ≠ bo
  n3 : b3 ≠ bf
  n4 : b6 ≠ bf
  l6 : b6 < W.heap.size
  c6 : W.cell? ⟨b6, 0, none⟩ = some (rowV bf n)
  rf : Rv W bf n (bv f)
theorem OB.on {w W W2 : World} {n b3 bo b6 bf : Nat} {o : Nat → Int} {f : Nat → Bool} (h : OB w W n b3 bo b6 bf o f) (g : Below W.heap.size W W2) : OB w W2 n b3 bo b6 bf o f :=
  ⟨h.a.on g, h.g6, h.gf, h.n1, h.n2, h.n3, h.n4, Nat.lt_of_lt_of_le h.l6 g.size, (g.cell (p := ⟨b6, 0, none⟩) h.l6).trans h.c6, h.rf.below g⟩
theorem OB.wr {w W W2 : World} {n b3 bo b6 bf : Nat} {o o2 : Nat → Int} {f : Nat → Bool} (h : OB w W n b3 bo b6 bf o f) (hr : Rv W2 bo n (iv o2)) (hf : Fr (fun k => k = bo) W W2) : OB w W2 n b3 bo b6 bf o2 f :=
  ⟨h.a.wr hr hf, h.g6, h.gf, h.n1, h.n2, h.n3, h.n4, Nat.lt_of_lt_of_le h.l6 hf.size, (hf.cell (p := ⟨b6, 0, none⟩) h.l6 h.n1).trans h.c6, h.rf.keep hf h.n2⟩
theorem OB.mark {w W : World} {n b3 bo b6 bf : Nat} {o : Nat → Int} {f : Nat → Bool} (h : OB w W n b3 bo b6 bf o f) (a : Nat) : OB w (W.setCell ⟨bf, a, none⟩ (.bool true)) n b3 bo b6 bf o (upB f a true) := by
  have hf : Fr (fun k => k = bf) W (W.setCell ⟨bf, a, none⟩ (.bool true)) := (Fr.refl _ _).setCell _ _ (.inl rfl)
  exact ⟨⟨h.a.bel.trans (hf.below h.a.bel.size (fun i e => by rw [e]; exact h.gf)), h.a.g3, h.a.go, h.a.ne, Nat.lt_of_lt_of_le h.a.l3 hf.size, (hf.cell (p := ⟨b3, 0, none⟩) h.a.l3 h.n3).trans h.a.c3, h.a.ro.keep hf (fun e => h.n2 e.symm)⟩, h.g6, h.gf, h.n1, h.n2, h.n3, h.n4, Nat.lt_of_lt_of_le h.l6 hf.size, (hf.cell (p := ⟨b6, 0, none⟩) h.l6 h.n4).trans h.c6, h.rf.setB a true⟩
/-- Outputs, the first k of them told where nothing comes. -/
def begK (l : List Mb) (k : Nat) : Nat → Int := fun j => if j < k then outM (L.nth l j) 1125899906842624 else 0
theorem begK_set {l : List Mb} {k : Nat} (j : Nat) : upI (begK l k) k (outM (L.nth l k) 1125899906842624) j = begK l (k + 1) j := by
  unfold upI begK
  by_cases e : j = k
  · subst e; rw [if_pos rfl, if_pos (by omega)]
  · rw [if_neg e]
    by_cases g : j < k
    · rw [if_pos g, if_pos (by omega)]
    · rw [if_neg g, if_neg (by omega)]
theorem OA.made {w : World} {n : Nat} {cs : Array Value} (h : ∀ k, k < n → cs[k]? = some (.int .i64 0)) (l : List Mb) : OA w ((w.alloc (.cells cs 3)).alloc (.cells #[rowV w.heap.size n] 23)) n (w.heap.size + 1) w.heap.size (begK l 0) := by
  have h1 := al (w.alloc (.cells cs 3)) (.cells #[rowV w.heap.size n] 23)
  have e : (w.alloc (.cells cs 3)).heap.size = w.heap.size + 1 := by simp
  refine ⟨Below.on (al _ _) h1, by omega, Nat.le_refl _, by omega, by simp, ?_, (Rv.new w n _ cs 3 (fun k hk => by rw [h k hk]; unfold iv begK; rw [if_neg (by omega)])).below h1⟩
  have := cellN (w.alloc (.cells cs 3)) #[rowV w.heap.size n] 23 0
  rw [e] at this
  exact this
theorem OB.made {w W : World} {n b3 bo : Nat} {o : Nat → Int} (H : OA w W n b3 bo o) {cs : Array Value} (h : ∀ k, k < n → cs[k]? = some (.bool false)) : OB w ((W.alloc (.cells cs 4)).alloc (.cells #[rowV W.heap.size n] 42)) n b3 bo (W.heap.size + 1) W.heap.size o (fun _ => false) := by
  have h1 := al (W.alloc (.cells cs 4)) (.cells #[rowV W.heap.size n] 42)
  have e : (W.alloc (.cells cs 4)).heap.size = W.heap.size + 1 := by simp
  have hs := H.bel.size
  have l1 := H.l3
  have l2 := H.ro.lt
  refine ⟨(H.on (al _ _)).on h1, by omega, by omega, by omega, by omega, by omega, by omega, by simp, ?_, (Rv.new W n _ cs 4 (fun k hk => by rw [h k hk])).below h1⟩
  have := cellN (W.alloc (.cells cs 4)) #[rowV W.heap.size n] 42 0
  rw [e] at this
  exact this
set_option maxRecDepth 100000 in
set_option maxHeartbeats 4000000 in
theorem pouts_any {N : Nat → Prop} {w : World} {a : Option Addr} {c n : Nat} {l : List Mb} (hl : RdN cB N w a l) (hn : l.length = n) (h1 : n ≤ 1000) :
    Calls Try.prog 9 #[.slice a n c] w fun e w' => ∃ bo o, e = .returned (rowV bo n) ∧ IsG l o ∧ Rv w' bo n (iv o) ∧ w.heap.size ≤ bo ∧ Below w.heap.size w w' := by
  have HL : Hid (RdN cB (fun k => k < w.heap.size) w a l) := hl.wide (fun k hk _ => hk)
  have HN : Hid (l.length = n) := hn
  clear hl hn
  obtain ⟨cs, hcs, mk⟩ := make_i w n h1
  have H0 : Hid _ := OA.made hcs l (w := w)
  obtain ⟨bo, hbo⟩ : ∃ bo, w.heap.size = bo := ⟨_, rfl⟩
  obtain ⟨W0, hW0⟩ : ∃ W0, (w.alloc (.cells cs 3)).alloc (.cells #[rowV w.heap.size n] 23) = W0 := ⟨_, rfl⟩
  rw [hW0, hbo] at H0
  rw [hbo] at hW0 mk
  clear hcs
  go_enter Try.func9, Try.ntmps9
  go_wp2
  go_step3
  go_wp2_with fail
  go_loopw [14] (fun s14 wr => ∃ (k : Nat), s14 = .int .i64 k ∧ k ≤ n ∧ Hid (OA w wr n (bo + 1) bo (begK l k))) (fun s14 _ => n - (intOf s14).toNat)
  case atStart => exact ⟨0, rfl, Nat.zero_le _, H0.out⟩
  case round =>
    obtain ⟨k, rfl, hk, HA⟩ := hrel
    by_cases hlt : k < n
    · have hlt' : (k : Int) < (n : Int) := by omega
      obtain ⟨m, hm⟩ : ∃ m, L.nth l k = m := ⟨_, rfl⟩
      have HL2 : RdN cB (fun _ => True) wr a l := (HL.out.below HA.out.bel).wide (fun _ _ _ => trivial)
      obtain ⟨mb, off, rfl, hmb, m0, m1, m2, m3, m4, m5, m6⟩ := RdN.mb HL2 (by rw [HN.out]; exact hlt) hm
      have BA : Hid (∀ W, Calls Try.prog 16 #[mv m, .int .i64 1125899906842624] W fun e w' => e = .returned (.int .i64 (outM m 1125899906842624)) ∧ Below W.heap.size W w') := fun W => by
        rw [← pou_is m L.cnt_inf]
        exact pout_any m _ W
      obtain ⟨u, hu⟩ : ∃ u, outM m 1125899906842624 = u := ⟨_, rfl⟩
      rw [hu] at BA
      have HU : Hid (outM (L.nth l k) 1125899906842624 = u) := by rw [hm]; exact hu
      clear HL2 hm hu
      obtain ⟨r, co, ti, lo, ki, ak, fi⟩ := m
      simp only at m0 m1 m2 m3 m4 m5 m6
      have BA2 : Hid (∀ W, Calls Try.prog 16 #[.agg #[.bool r, .bool co, .int .i64 ti, .int .i64 lo, .int .i64 ki, .int .i64 ak, .int .i64 fi], .int .i64 1125899906842624] W fun e w' => e = .returned (.int .i64 u) ∧ Below W.heap.size W w') := BA.out
      clear BA
      obtain ⟨W1, hW1⟩ : ∃ W1, wr.alloc (.cells #[.bool r, .bool co, .int .i64 ti, .int .i64 lo, .int .i64 ki, .int .i64 ak, .int .i64 fi] 33) = W1 := ⟨_, rfl⟩
      have HA1 : Hid (OA w W1 n (bo + 1) bo (begK l k)) := by rw [← hW1]; exact HA.out.on (al _ _)
      have nb : W1.heap[wr.heap.size]? = some (.cells #[.bool r, .bool co, .int .i64 ti, .int .i64 lo, .int .i64 ki, .int .i64 ak, .int .i64 fi] 33) := by rw [← hW1]; exact (MapKept.heap_alloc wr _).1
      obtain ⟨q, hq⟩ : ∃ q, wr.heap.size = q := ⟨_, rfl⟩
      rw [hq] at nb
      have e0 : W1.cell? ⟨q, 0, none⟩ = some (.bool r) := by simp [World.cell?, nb]
      have e1 : W1.cell? ⟨q, 1, none⟩ = some (.bool co) := by simp [World.cell?, nb]
      have e2 : W1.cell? ⟨q, 2, none⟩ = some (.int .i64 ti) := by simp [World.cell?, nb]
      have e3 : W1.cell? ⟨q, 3, none⟩ = some (.int .i64 lo) := by simp [World.cell?, nb]
      have e4 : W1.cell? ⟨q, 4, none⟩ = some (.int .i64 ki) := by simp [World.cell?, nb]
      have e5 : W1.cell? ⟨q, 5, none⟩ = some (.int .i64 ak) := by simp [World.cell?, nb]
      have e6 : W1.cell? ⟨q, 6, none⟩ = some (.int .i64 fi) := by simp [World.cell?, nb]
      have c3 := HA1.out.c3
      have HK : Hid (∀ W, Below W1.heap.size W1 W → W.cell? ⟨bo + 1, 0, none⟩ = some (rowV bo n) ∧ W.frozen? ⟨bo, k, none⟩ = false ∧ bo < W.heap.size ∧ (∃ y, W.cell? ⟨bo, k, none⟩ = some y) ∧ Hid (OA w W n (bo + 1) bo (begK l k))) := fun W hW => ⟨(HA1.out.on hW).c3, ((HA1.out.on hW).ro.c k hlt).2, (HA1.out.on hW).ro.lt, ⟨_, ((HA1.out.on hW).ro.c k hlt).1⟩, HA1.out.on hW⟩
      have HD : Hid (Below W1.heap.size W1 W1.drew) := (Below.refl _ _).drew
      clear nb
      go_wp2_with fail
      go_region_with (first | (go_at_call 16; refine (Hid.out BA2 _).mono ?_; rintro e w2 ⟨rfl, h2⟩; obtain ⟨ck2, cz2, lb2, ⟨y2, cy2⟩, HB2⟩ := (Hid.out HK) w2 ((Hid.out HD).trans h2); clear h2))
      all_goals
        have HR3 : Hid (OA w (w2.setCell ⟨bo, k, none⟩ (.int .i64 u)) n (bo + 1) bo (begK l (k + 1))) := HB2.out.wr ((HB2.out.ro.setI k u).same (fun j _ => by
          unfold iv
          rw [← HU.out, begK_set j])) ((Fr.refl _ _).setCell _ _ (.inl rfl))
        go_wp2_with fail
        go_roundw
        case rel => exact ⟨k + 1, by go_num, by omega, HR3.out⟩
        case measure => simp [intOf]; omega
    · obtain rfl : k = n := by omega
      have HA2 : Hid (OA w wr k (bo + 1) bo (fun j => outM (L.nth l j) L.inf)) := HA.out.same (fun j hj => by unfold begK; rw [if_pos hj])
      obtain ⟨cs2, hcs2, mk2⟩ := make_b wr k h1
      have HB0 : Hid _ := OB.made HA2.out hcs2
      obtain ⟨bf, hbf⟩ : ∃ bf, wr.heap.size = bf := ⟨_, rfl⟩
      obtain ⟨W5, hW5⟩ : ∃ W5, (wr.alloc (.cells cs2 4)).alloc (.cells #[rowV wr.heap.size k] 42) = W5 := ⟨_, rfl⟩
      rw [hW5, hbf] at HB0
      rw [hbf] at hW5 mk2
      clear hcs2
      clear mk hbo hW0 H0 HA HA2 hlt hk
      go_wp2_with fail
      go_step3
      go_wp2_with fail
      go_loopw [31] (fun s31 wr => ∃ (i : Nat) (f : Nat → Bool) (o : Nat → Int), s31 = .int .i64 i ∧ i ≤ k ∧ Hid (OB w wr k (bo + 1) bo (bf + 1) bf o f) ∧ Hid (Dj l f o) ∧ Hid (cnF f k = i)) (fun s31 _ => k - (intOf s31).toNat)
      case atStart => exact ⟨0, _, _, rfl, Nat.zero_le _, HB0.out, L.Dj.start l, L.cnF_none k⟩
      case round =>
        obtain ⟨i, f, o, rfl, hi, HB, HD, HC⟩ := hrel
        by_cases hlt2 : i < k
        · have hlt2' : (i : Int) < (k : Int) := by omega
          obtain ⟨p, hxa, ha, hfa, hmin⟩ : ∃ p : Nat, nxt f o k = p ∧ p < k ∧ f p = false ∧ ∀ j, j < k → f j = false → o p ≤ o j := by
            rcases nxt_is f o k with ⟨_, g⟩ | g
            · obtain ⟨j, hj, hjf⟩ := L.cnF_ex (f := f) (k := k) (by rw [HC.out]; exact hlt2)
              rw [g j hj] at hjf
              cases hjf
            · exact g
          have NX : Hid (Calls Try.prog 17 #[pz (bo + 1), pz (bf + 1)] wr fun e w' => e = .returned (.int .i64 (p : Int)) ∧ wr = w') := by
            rw [← hxa]
            exact next_any HB.out.a.c3 HB.out.c6 HB.out.a.ro HB.out.rf h1
          have HM : Hid (∀ j, j < k → f j = false → o p ≤ o j) := hmin
          obtain ⟨t, ht⟩ : ∃ t, o p = t := ⟨_, rfl⟩
          have c3 := HB.out.a.c3
          have ca := HB.out.a.ro.atI ha ht
          have HT : Hid (o p = t) := ht
          have HFA : Hid (f p = false) := hfa
          clear hxa hmin ht hfa
          by_cases hti : t = 1125899906842624
          · have d : (t == 1125899906842624) = true := by simpa using hti
            have HI : Hid (IsG l o) := HD.out.fin (fun j hj hfj => by
              have h2 := HM.out j (by rw [← HN.out]; exact hj) hfj
              have h3 := HD.out.eq j hj
              have h4 := L.outM_hi (L.nth l j) (L.fth f o j l.length)
              have h5 := HT.out
              unfold L.inf at *
              omega)
            clear hti
            go_wp2_with (go_at_call 17; refine (Hid.out NX).mono ?_; rintro e w' ⟨rfl, rfl⟩)
            try rw [Exit.noGoto_ret]
            go_ret
            exact ⟨bo, o, rfl, HI.out, HB.out.a.ro, HB.out.a.go, HB.out.a.bel⟩
          · have d : (t == 1125899906842624) = false := by simpa using hti
            have c6 := HB.out.c6
            have cfa : wr.cell? ⟨bf, p, none⟩ = some (.bool false) := HB.out.rf.atB ha HFA.out
            have cfz := (HB.out.rf.c p ha).2
            obtain ⟨W7, hW7⟩ : ∃ W7, wr.setCell ⟨bf, p, none⟩ (.bool true) = W7 := ⟨_, rfl⟩
            have HB7 : Hid (OB w W7 k (bo + 1) bo (bf + 1) bf o (upB f p true)) := by rw [← hW7]; exact HB.out.mark p
            have d3 := HB7.out.a.c3
            have d6 := HB7.out.c6
            have da := HB7.out.a.ro.atI ha HT.out
            have LW : Hid (∀ W, Below W7.heap.size W7 W → Calls Try.prog 18 #[.slice a k c, rowV bo k, rowV bf k, .int .i64 t] W fun e w' => e = .returned (.tuple #[]) ∧ Hid (OB w w' k (bo + 1) bo (bf + 1) bf (fun j => low l (upB f p true) o t j) (upB f p true))) := fun W hW => by
              have hB := HB7.out.on hW
              refine (lower_any (c := c) (f := upB f p true) (b := t) (HL.out.below hB.a.bel) ?_ HN.out hB.a.ro hB.rf hB.n2 ?_ h1).mono fun e w' ⟨he, hr, hf⟩ => ⟨he, hB.wr hr hf⟩
              · intro q hq e
                have := HB7.out.a.go
                omega
              · rw [← HT.out, HD.out.eq p (by rw [HN.out]; exact ha)]
                exact outM_cnt _ _
            have LD : Hid (Below W7.heap.size W7 W7.drew) := (Below.refl _ _).drew
            have HD2 : Hid (Dj l (upB f p true) (fun j => low l (upB f p true) o t j)) := by
              have := HD.out.next (a := p) (by rw [HN.out]; exact ha) HFA.out (by
                have h3 := HD.out.eq p (by rw [HN.out]; exact ha)
                have h4 := L.outM_hi (L.nth l p) (L.fth f o p l.length)
                have h5 := HT.out
                unfold L.inf at *
                omega) (by rw [HN.out]; exact HM.out) (f' := upB f p true) (fun j _ => rfl) (o' := fun j => low l (upB f p true) o t j) (fun j _ => by rw [HT.out])
              exact this
            have HC2 : Hid (cnF (upB f p true) k = i + 1) := by
              show _ = _
              rw [← HC.out]
              exact L.cnF_set HFA.out ha
            clear hti
            go_wp2_with (go_at_call 17; refine (Hid.out NX).mono ?_; rintro e w' ⟨rfl, rfl⟩)
            go_region_with (first | (go_at_call 18; refine (Hid.out LW _ (Hid.out LD)).mono ?_; rintro e w8 ⟨rfl, H8⟩))
            all_goals
              go_wp2_with fail
              go_roundw
              case rel => exact ⟨i + 1, upB f p true, _, by go_num, by omega, H8, HD2.out, HC2.out⟩
              case measure => simp [intOf]; omega
        · obtain rfl : i = k := by omega
          have HI : Hid (IsG l o) := HD.out.fin (fun j hj hfj => by
            rw [L.cnF_all HC.out j (by rw [← HN.out]; exact hj)] at hfj
            cases hfj)
          have c3 := HB.out.a.c3
          go_wp2_with fail
          try rw [Exit.noGoto_ret]
          go_ret
          exact ⟨bo, o, rfl, HI.out, HB.out.a.ro, HB.out.a.go, HB.out.a.bel⟩
end Go.Proofs.Ytmkhgihhledegaa
