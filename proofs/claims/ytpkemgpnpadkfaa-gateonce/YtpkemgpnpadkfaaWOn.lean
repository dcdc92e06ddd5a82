/- Proved: the walk of GateOnce. -/
import Derived.Test.YtpkemgpnpadkfaaWRe
import Derived.BigQuiet
import Derived.Deep.QuietTactic
namespace Go.Proofs.Ytpkemgpnpadkfaa
open Go.RowKit Go.Shelf Go.Sort
set_option linter.unusedVariables false

/-- Bodies rise, and are below i. -/
def Ris (i : Nat) (L : List H) : Prop := L.Pairwise (fun a b => a.2.2.2.2 < b.2.2.2.2) ∧ ∀ x ∈ L, x.2.2.2.2 < (i : Int)
theorem Ris.filter {i : Nat} {L : List H} (h : Ris i L) (p : H → Bool) : Ris i (L.filter p) := ⟨h.1.filter _, fun x hx => h.2 x (List.mem_filter.1 hx).1⟩
theorem Ris.next {i : Nat} {L : List H} (h : Ris i L) : Ris (i + 1) L := ⟨h.1, fun x hx => by have := h.2 x hx; omega⟩
theorem Ris.snoc {i : Nat} {L : List H} (h : Ris i L) {x : H} (hx : x.2.2.2.2 = (i : Int)) : Ris (i + 1) (L ++ [x]) := by
  refine ⟨List.pairwise_append.2 ⟨h.1, List.pairwise_singleton _ _, fun a ha b hb => ?_⟩, fun y hy => ?_⟩
  · obtain rfl : b = x := by simpa using hb
    rw [hx]
    exact h.2 a ha
  · rcases List.mem_append.1 hy with g | g
    · have := h.2 y g
      omega
    · obtain rfl : y = x := by simpa using g
      omega
/-- Behind i calls: so many were taken, so many went out. -/
def O (w W : World) (b i I U : Nat) : Prop := ∃ fl L, Ga w W fl L b [] ∧ 0 ≤ fl ∧ L.length + U = I ∧ I ≤ i ∧ Ris i L
def Oh (w W : World) (b i I U : Nat) (a : Option Addr) (X : List M) : Prop := ∃ fl L, Ga w W fl L b [(a, msgs L)] ∧ 0 ≤ fl ∧ L.length + U = I ∧ I ≤ i ∧ Ris i L ∧ X = msgs L
theorem O.on {w W W2 : World} {b i I U : Nat} (h : O w W b i I U) (hb : Below W.heap.size W W2) : O w W2 b i I U := by
  obtain ⟨fl, L, h1, h2⟩ := h
  exact ⟨fl, L, h1.on hb, h2⟩
theorem O.bel {w W : World} {b i I U : Nat} (h : O w W b i I U) : Below w.heap.size w W := by
  obtain ⟨fl, L, h1, h2⟩ := h
  exact h1.bel
theorem O.le {w W : World} {b i I U : Nat} (h : O w W b i I U) : I ≤ i ∧ U ≤ I := by
  obtain ⟨fl, L, h1, h2, h3, h4, h5⟩ := h
  exact ⟨h4, by omega⟩
theorem O.next {w W : World} {b i I U : Nat} (h : O w W b i I U) : O w W b (i + 1) I U := by
  obtain ⟨fl, L, h1, h2, h3, h4, h5⟩ := h
  exact ⟨fl, L, h1, h2, h3, by omega, h5.next⟩
theorem Oh.on {w W W2 : World} {b i I U : Nat} {a : Option Addr} {X : List M} (h : Oh w W b i I U a X) (hb : Below W.heap.size W W2) : Oh w W2 b i I U a X := by
  obtain ⟨fl, L, h1, h2⟩ := h
  exact ⟨fl, L, h1.on hb, h2⟩
theorem Oh.back {w W : World} {b i I U : Nat} {a : Option Addr} {X : List M} (h : Oh w W b i I U a X) : O w W b i I U := by
  obtain ⟨fl, L, h1, h2, h3, h4, h5, h6⟩ := h
  exact ⟨fl, L, h1.less (fun r hr => by cases hr), h2, h3, h4, h5⟩
theorem Oh.two {w W : World} {b i I U : Nat} {a : Option Addr} {X : List M} (h : Oh w W b i I U a X) {j q : Nat} (hjq : j < q) (hq : q < X.length) :
    ∃ pa pb ob oo, a = some ⟨ob, oo, none⟩ ∧ ob < W.heap.size ∧ W.cell? ⟨ob, oo + j * 6 + 5, none⟩ = some (.int .i64 pa) ∧ W.cell? ⟨ob, oo + q * 6 + 5, none⟩ = some (.int .i64 pb) ∧ pa < pb := by
  obtain ⟨fl, L, h1, h2, h3, h4, h5, rfl⟩ := h
  have hr := h1.row (a := a) (l := msgs L) (by simp)
  obtain ⟨ob, oo, e, lob, _, _, _, _, _, _, c1⟩ := hr.msg hq rfl
  obtain ⟨ob', oo', e', _, _, _, _, _, _, _, c2⟩ := hr.msg (i := j) (by omega) rfl
  rw [e] at e'
  simp at e'
  obtain ⟨rfl, rfl⟩ := e'
  refine ⟨_, _, ob, oo, e, lob, c2, c1, ?_⟩
  rw [msgs_len] at hq
  rw [nth_get (by rw [msgs_len]; omega), nth_get (by rw [msgs_len]; omega)]
  simp only [msgs, List.getElem_map]
  exact List.pairwise_iff_getElem.1 h5.1 j q (by omega) hq hjq
theorem O.held {w W : World} {b i I U : Nat} (h : O w W b i I U) :
    Calls Try.prog 21 #[.pointer (some ⟨b, 0, none⟩)] W fun e w' => ∃ a c n X, e = .returned (.slice a n c) ∧ n + U = I ∧ X.length = n ∧ Oh w w' b i I U a X := by
  obtain ⟨fl, L, h1, h2, h3, h4, h5⟩ := h
  exact h1.held.mono fun e w' ⟨a, c, he, hg⟩ => ⟨a, c, L.length, msgs L, he, h3, msgs_len L, fl, L, hg, h2, h3, h4, h5, rfl⟩
theorem O.drop {w W : World} {b i I U : Nat} (h : O w W b i I U) (k : K) :
    Calls Try.prog 14 #[.pointer (some ⟨b, 0, none⟩), kv k] W fun e w' => ∃ a c n, e = .returned (.slice a n c) ∧ n + U ≤ I ∧ O w w' b (i + 1) I (U + n) := by
  obtain ⟨fl, L, h1, h2, h3, h4, h5⟩ := h
  refine (h1.drop k).mono fun e w' ⟨a, c, he, hg⟩ => ⟨a, c, _, he, ?_, fl, _, hg.less (fun r hr => by cases hr), h2, ?_, by omega, (h5.filter _).next⟩
  · have := List.length_filter_le (fun x => !befK k x) L
    unfold dropG
    rw [msgs_len]
    omega
  · have := parts_len (befK k) L
    unfold dropG
    rw [msgs_len]
    omega
theorem O.open {w W : World} {b i I U : Nat} (h : O w W b i I U) (t : Int) :
    Calls Try.prog 16 #[.pointer (some ⟨b, 0, none⟩), .int .i64 t] W fun e w' => ∃ a c n, e = .returned (.slice a n c) ∧ n + U ≤ I ∧ O w w' b (i + 1) I (U + n) := by
  obtain ⟨fl, L, h1, h2, h3, h4, h5⟩ := h
  refine (h1.open t).mono fun e w' ⟨a, c, he, hg⟩ => ⟨a, c, _, he, ?_, max fl t, _, hg.less (fun r hr => by cases hr), by omega, ?_, by omega, (h5.filter _).next⟩
  · have := List.length_filter_le (low t) L
    unfold openG
    rw [msgs_len, Stb.isort_len]
    omega
  · have := parts_len (low t) L
    unfold openG
    rw [msgs_len, Stb.isort_len]
    omega
theorem O.retract {w W : World} {b i I U : Nat} (h : O w W b i I U) (k : K) :
    Calls Try.prog 18 #[.pointer (some ⟨b, 0, none⟩), kv k] W fun e w' => ∃ (n : Nat) (r : Int), e = .returned (.tuple #[.int .i64 n, .int .i64 r]) ∧ n + U ≤ I ∧ O w w' b (i + 1) I (U + n) := by
  obtain ⟨fl, L, h1, h2, h3, h4, h5⟩ := h
  refine (h1.retract k).mono fun e w' ⟨he, hg⟩ => ⟨_, _, he, ?_, fl, _, hg.less (fun r hr => by cases hr), h2, ?_, by omega, (h5.filter _).next⟩
  · have := List.length_filter_le (hasK k) L
    omega
  · have := parts_len (hasK k) L
    omega
theorem O.hold {w W : World} {b i I U : Nat} (h : O w W b i I U) (x : H) (hx : x.2.2.2.2 = (i : Int)) :
    (Calls Try.prog 11 #[.pointer (some ⟨b, 0, none⟩), kv x.1, mv x.2] W fun e w' => e = .returned (.int .i64 0) ∧ O w w' b (i + 1) (I + 1) U) ∨ ∃ r : Int, r ≠ 0 ∧ Calls Try.prog 11 #[.pointer (some ⟨b, 0, none⟩), kv x.1, mv x.2] W fun e w' => e = .returned (.int .i64 r) ∧ O w w' b (i + 1) I U := by
  obtain ⟨fl, L, h1, h2, h3, h4, h5⟩ := h
  by_cases hr : holdE fl L x = 0
  · have e1 : holdL fl L x = L ++ [x] := by unfold holdL; rw [if_pos hr]
    refine Or.inl ((h1.hold x).mono fun e w' ⟨he, hg⟩ => ⟨by rw [he, hr], fl, _, by rw [e1] at hg; exact hg, h2, by simp; omega, by omega, h5.snoc hx⟩)
  · have e1 : holdL fl L x = L := by unfold holdL; rw [if_neg hr]
    exact Or.inr ⟨_, hr, (h1.hold x).mono fun e w' ⟨he, hg⟩ => ⟨he, fl, _, by rw [e1] at hg; exact hg, h2, h3, by omega, h5.next⟩⟩
theorem O.end {w W : World} {b i I U : Nat} (h : O w W b i I U) :
    Calls Try.prog 11 #[.pointer (some ⟨b, 0, none⟩), .agg #[.int .i64 (-9), .int .i64 0, .int .i64 0], .agg #[.int .i64 0, .int .i64 0, .int .i64 0, .int .i64 0, .int .i64 0, .int .i64 0]] W fun e w' => e = .returned (.int .i64 110) ∧ Below w.heap.size w w' := by
  obtain ⟨fl, L, h1, h2, h3, h4, h5⟩ := h
  have g1 := h1.hold ((-9, 0, 0), ((0, 0, 0), 0, 0, 0))
  rw [(hold_early (fl := fl) (L := L) (x := ((-9, 0, 0), ((0, 0, 0), 0, 0, 0))) (show (-9 : Int) < fl by omega)).1] at g1
  exact g1.mono fun e w' ⟨he, hg⟩ => ⟨he, hg.bel⟩
set_option maxRecDepth 100000 in
set_option maxHeartbeats 8000000 in
theorem once_walk (w : World) (sa : Option Addr) (sc : Nat) (z : List St) (hz : RdS w sa z) (hn : z.length ≤ maxLen) :
    Calls Try.prog 4 #[.slice sa z.length sc] w fun e w' => e = .returned (.bool true) ∧ Below w.heap.size w w' := by
  have mixed : Try.prog.follows .mixedOrders = true := by kernel_rfl
  by_cases hlong : 200 < z.length
  · have hl' : (200 : Int) < (z.length : Int) := by omega
    unfold maxLen at hn
    clear hz
    go_enter Try.func4, Try.ntmps4
    go_wp2
    go_ret
    exact ⟨rfl, Below.refl _ _⟩
  have hz2 : z.length ≤ 200 := by omega
  have hl' : ¬ (200 : Int) < (z.length : Int) := by omega
  obtain ⟨b, hb⟩ : ∃ b, w.heap.size = b := ⟨_, rfl⟩
  have NW : Calls Try.prog 9 #[] w fun e w' => e = .returned (.pointer (some ⟨b, 0, none⟩)) ∧ O w w' b 0 0 0 := by
    rw [← hb]
    exact (Ga.new w).mono fun e w' ⟨he, hg⟩ => ⟨he, 0, [], hg, Int.le_refl _, rfl, Nat.le_refl _, List.Pairwise.nil, fun x hx => by cases hx⟩
  have HZ : Hid (RdS w sa z) := hz
  obtain ⟨zl, hzl⟩ : ∃ zl, z.length = zl := ⟨_, rfl⟩
  have HZL : Hid (z.length = zl) := hzl
  rw [hzl] at hl' hz2 ⊢
  clear hz hn hlong hb hzl
  go_enter Try.func4, Try.ntmps4
  go_wp2_with (go_at_call 9; refine NW.mono ?_; rintro e w1 ⟨rfl, h1⟩; have H1 : Hid (O w w1 b 0 0 0) := h1; clear h1 NW)
  go_loopw [4, 5, 6] (fun s4 s5 s6 wr => ∃ i I U : Nat, s6 = .int .i64 i ∧ i ≤ zl ∧ s4 = .int .i64 I ∧ s5 = .int .i64 U ∧ Hid (O w wr b i I U)) (fun _ _ s6 _ => zl - (intOf s6).toNat)
  case atStart => exact ⟨0, 0, 0, rfl, Nat.zero_le _, rfl, rfl, H1.out⟩
  case round =>
    clear H1
    obtain ⟨i, I, U, rfl, hi, rfl, rfl, HN⟩ := hrel
    obtain ⟨hIi, hUI⟩ := HN.out.le
    by_cases hlt : i < zl
    · have hlt' : (i : Int) < (zl : Int) := by omega
      obtain ⟨s, hs⟩ : ∃ s, nth cS z i = s := ⟨_, rfl⟩
      obtain ⟨sb, off, rfl, lsb, hcs⟩ := HZ.out.cells (show i < z.length by rw [HZL.out]; exact hlt) hs
      obtain ⟨kk, ⟨y1, y2, y3⟩, ⟨y4, y5, y6⟩, y7, y8, y9⟩ := s
      obtain ⟨d0, d1, d2, d3, d4, d5, d6, d7, d8, d9⟩ := hcs wr HN.out.bel
      have lsw : sb < wr.heap.size := Nat.lt_of_lt_of_le lsb HN.out.bel.size
      dsimp only at d0 d1 d2 d3 d4 d5 d6 d7 d8 d9
      have HNB : Hid (O w (wr.alloc (.cells #[.int .i64 kk, .int .i64 y1, .int .i64 y2, .int .i64 y3, .int .i64 y4, .int .i64 y5, .int .i64 y6, .int .i64 y7, .int .i64 y8, .int .i64 (i : Int)] 32)) b i I U) := HN.out.on (al _ _)
      clear hcs hs HN
      by_cases k0 : kk = 0
      · have q0 : (kk == 0) = true := by simp [k0]
        obtain ⟨I1, hI1⟩ : ∃ I1, I1 = I + 1 := ⟨_, rfl⟩
        have hI2 : (I : Int) + 1 = (I1 : Int) := by omega
        have hI3 : I1 ≤ i + 1 := by omega
        have hI4 : U ≤ I1 := by omega
        rcases HNB.out.hold ((y1, y2, y3), (y4, y5, y6), y7, y8, (i : Int)) rfl with HO | ⟨r, hr, HO⟩
        · dsimp only [kv, mv] at HO
          rw [← hI1] at HO
          subst k0
          clear HNB hI1
          have SH : Hid (∀ {W : World} {I U : Nat}, O w W b (i + 1) I U → Calls Try.prog 21 #[.pointer (some ⟨b, 0, none⟩)] W fun e w' => ∃ a c n X, e = .returned (.slice a n c) ∧ n + U = I ∧ X.length = n ∧ Oh w w' b (i + 1) I U a X) := fun h => h.held
          go_wp2_with (first
            | (go_at_call 21; refine (Hid.out SH (Hid.out H5)).mono ?_; rintro e w6 ⟨ah, ch, n, X, rfl, hnU, hXn, h6⟩; have H6 : Hid (Oh w w6 b (i + 1) I1 U ah X) := h6; have XN : Hid (X.length = n) := hXn; have hc6 : ((n : Int) != (I1 : Int) - (U : Int)) = false := (by simp; omega); have hn6 : n ≤ 200 := (by omega); clear h6 hXn)
            | (go_at_call 11; refine HO.mono ?_; rintro e w5 ⟨rfl, h5⟩; have H5 : Hid (O w w5 b (i + 1) I1 U) := h5; clear h5 HO))
          obtain ⟨nz, hnz⟩ : ∃ nz, nz = ah := ⟨_, rfl⟩
          clear hnz nz
          go_loopw [11] (fun s11 wr => ∃ q : Nat, s11 = .int .i64 q ∧ 1 ≤ q ∧ q ≤ n + 1 ∧ Hid (Oh w wr b (i + 1) I1 U ah X)) (fun s11 _ => n + 1 - (intOf s11).toNat)
          case atStart => exact ⟨1, rfl, Nat.le_refl _, by omega, H6⟩
          case round =>
            clear H6
            obtain ⟨q, rfl, hq1, hqn, H7⟩ := hrel
            by_cases hlt2 : q < n
            · have hlt2' : (q : Int) < (n : Int) := by omega
              obtain ⟨j, hj⟩ : ∃ j, q = j + 1 := ⟨q - 1, by omega⟩
              obtain ⟨pa, pb, ob, oo, rfl, lob, cj, cq, hab⟩ := H7.out.two (j := j) (q := q) (by omega) (by rw [XN.out]; exact hlt2)
              have e1 : (q : Int) - 1 = (j : Int) := by omega
              have e2 : IntKind.i64.wrap ((q : Int) - 1) = (j : Int) := by rw [e1]; exact wrapN j (by omega)
              have e3 : IntKind.i64.wrap (j : Int) = (j : Int) := wrapN j (by omega)
              have e4 : (0 : Int) ≤ (j : Int) := by omega
              have e5 : (j : Int) < (n : Int) := by omega
              have hd : decide (pb ≤ pa) = false := by simp; omega
              have hd2 : ¬ pb ≤ pa := by omega
              clear hj hab
              go_wp2_with fail
              go_quiet (fail)
              go_wp2
              go_roundw
              case rel => exact ⟨q + 1, by go_num, by omega, by omega, H7.out.on ⟨rfl, rfl, rfl, Nat.le_refl _, fun _ _ => rfl⟩⟩
              case measure => simp [intOf]; omega
            · have hlt2' : ¬ (q : Int) < (n : Int) := by omega
              go_wp2
              go_roundw
              case rel => exact ⟨i + 1, I1, U, by go_num, by omega, by first | rfl | go_num, by first | rfl | go_num, H7.out.back⟩
              case measure => simp [intOf]; omega
        · dsimp only [kv, mv] at HO
          subst k0
          have hrb : (r == 0) = false := by simpa using hr
          clear HNB hr
          have SH : Hid (∀ {W : World} {I U : Nat}, O w W b (i + 1) I U → Calls Try.prog 21 #[.pointer (some ⟨b, 0, none⟩)] W fun e w' => ∃ a c n X, e = .returned (.slice a n c) ∧ n + U = I ∧ X.length = n ∧ Oh w w' b (i + 1) I U a X) := fun h => h.held
          go_wp2_with (first
            | (go_at_call 21; refine (Hid.out SH (Hid.out H5)).mono ?_; rintro e w6 ⟨ah, ch, n, X, rfl, hnU, hXn, h6⟩; have H6 : Hid (Oh w w6 b (i + 1) I U ah X) := h6; have XN : Hid (X.length = n) := hXn; have hc6 : ((n : Int) != (I : Int) - (U : Int)) = false := (by simp; omega); have hn6 : n ≤ 200 := (by omega); clear h6 hXn)
            | (go_at_call 11; refine HO.mono ?_; rintro e w5 ⟨rfl, h5⟩; have H5 : Hid (O w w5 b (i + 1) I U) := h5; clear h5 HO))
          obtain ⟨nz, hnz⟩ : ∃ nz, nz = ah := ⟨_, rfl⟩
          clear hnz nz
          go_loopw [11] (fun s11 wr => ∃ q : Nat, s11 = .int .i64 q ∧ 1 ≤ q ∧ q ≤ n + 1 ∧ Hid (Oh w wr b (i + 1) I U ah X)) (fun s11 _ => n + 1 - (intOf s11).toNat)
          case atStart => exact ⟨1, rfl, Nat.le_refl _, by omega, H6⟩
          case round =>
            clear H6
            obtain ⟨q, rfl, hq1, hqn, H7⟩ := hrel
            by_cases hlt2 : q < n
            · have hlt2' : (q : Int) < (n : Int) := by omega
              obtain ⟨j, hj⟩ : ∃ j, q = j + 1 := ⟨q - 1, by omega⟩
              obtain ⟨pa, pb, ob, oo, rfl, lob, cj, cq, hab⟩ := H7.out.two (j := j) (q := q) (by omega) (by rw [XN.out]; exact hlt2)
              have e1 : (q : Int) - 1 = (j : Int) := by omega
              have e2 : IntKind.i64.wrap ((q : Int) - 1) = (j : Int) := by rw [e1]; exact wrapN j (by omega)
              have e3 : IntKind.i64.wrap (j : Int) = (j : Int) := wrapN j (by omega)
              have e4 : (0 : Int) ≤ (j : Int) := by omega
              have e5 : (j : Int) < (n : Int) := by omega
              have hd : decide (pb ≤ pa) = false := by simp; omega
              have hd2 : ¬ pb ≤ pa := by omega
              clear hj hab
              go_wp2_with fail
              go_quiet (fail)
              go_wp2
              go_roundw
              case rel => exact ⟨q + 1, by go_num, by omega, by omega, H7.out.on ⟨rfl, rfl, rfl, Nat.le_refl _, fun _ _ => rfl⟩⟩
              case measure => simp [intOf]; omega
            · have hlt2' : ¬ (q : Int) < (n : Int) := by omega
              go_wp2
              go_roundw
              case rel => exact ⟨i + 1, I, U, by go_num, by omega, by first | rfl | go_num, by first | rfl | go_num, H7.out.back⟩
              case measure => simp [intOf]; omega
      · have q0 : (kk == 0) = false := by simp [k0]
        by_cases k1 : kk = 1
        · have HO := HNB.out.drop (y1, y2, y3)
          dsimp only [kv] at HO
          subst k1
          clear HNB k0 q0
          have SH : Hid (∀ {W : World} {I U : Nat}, O w W b (i + 1) I U → Calls Try.prog 21 #[.pointer (some ⟨b, 0, none⟩)] W fun e w' => ∃ a c n X, e = .returned (.slice a n c) ∧ n + U = I ∧ X.length = n ∧ Oh w w' b (i + 1) I U a X) := fun h => h.held
          go_wp2_with (first
            | (go_at_call 21; refine (Hid.out SH (Hid.out H5)).mono ?_; rintro e w6 ⟨ah, ch, n, X, rfl, hnU, hXn, h6⟩; have H6 : Hid (Oh w w6 b (i + 1) I U2 ah X) := h6; have XN : Hid (X.length = n) := hXn; have hc6 : ((n : Int) != (I : Int) - (U2 : Int)) = false := (by simp; omega); have hn6 : n ≤ 200 := (by omega); clear h6 hXn)
            | (go_at_call 14; refine HO.mono ?_; rintro e w5 ⟨a5, c5, nd, rfl, hnd, h5⟩; obtain ⟨U2, hU2⟩ : ∃ U2, U + nd = U2 := ⟨_, rfl⟩; rw [hU2] at h5; have hU3 : (U : Int) + (nd : Int) = (U2 : Int) := (by omega); have hU4 : U2 ≤ I := (by omega); have hnd2 : nd ≤ 200 := (by omega); have H5 : Hid (O w w5 b (i + 1) I U2) := h5; clear h5 HO hU2))
          obtain ⟨nz, hnz⟩ : ∃ nz, nz = ah := ⟨_, rfl⟩
          clear hnz nz
          go_loopw [11] (fun s11 wr => ∃ q : Nat, s11 = .int .i64 q ∧ 1 ≤ q ∧ q ≤ n + 1 ∧ Hid (Oh w wr b (i + 1) I U2 ah X)) (fun s11 _ => n + 1 - (intOf s11).toNat)
          case atStart => exact ⟨1, rfl, Nat.le_refl _, by omega, H6⟩
          case round =>
            clear H6
            obtain ⟨q, rfl, hq1, hqn, H7⟩ := hrel
            by_cases hlt2 : q < n
            · have hlt2' : (q : Int) < (n : Int) := by omega
              obtain ⟨j, hj⟩ : ∃ j, q = j + 1 := ⟨q - 1, by omega⟩
              obtain ⟨pa, pb, ob, oo, rfl, lob, cj, cq, hab⟩ := H7.out.two (j := j) (q := q) (by omega) (by rw [XN.out]; exact hlt2)
              have e1 : (q : Int) - 1 = (j : Int) := by omega
              have e2 : IntKind.i64.wrap ((q : Int) - 1) = (j : Int) := by rw [e1]; exact wrapN j (by omega)
              have e3 : IntKind.i64.wrap (j : Int) = (j : Int) := wrapN j (by omega)
              have e4 : (0 : Int) ≤ (j : Int) := by omega
              have e5 : (j : Int) < (n : Int) := by omega
              have hd : decide (pb ≤ pa) = false := by simp; omega
              have hd2 : ¬ pb ≤ pa := by omega
              clear hj hab
              go_wp2_with fail
              go_quiet (fail)
              go_wp2
              go_roundw
              case rel => exact ⟨q + 1, by go_num, by omega, by omega, H7.out.on ⟨rfl, rfl, rfl, Nat.le_refl _, fun _ _ => rfl⟩⟩
              case measure => simp [intOf]; omega
            · have hlt2' : ¬ (q : Int) < (n : Int) := by omega
              go_wp2
              go_roundw
              case rel => exact ⟨i + 1, I, U2, by go_num, by omega, by first | rfl | go_num, by first | rfl | go_num, H7.out.back⟩
              case measure => simp [intOf]; omega
        · have q1 : (kk == 1) = false := by simp [k1]
          by_cases k2 : kk = 2
          · have HO := HNB.out.open y1
            subst k2
            clear HNB k0 q0 k1 q1
            have SH : Hid (∀ {W : World} {I U : Nat}, O w W b (i + 1) I U → Calls Try.prog 21 #[.pointer (some ⟨b, 0, none⟩)] W fun e w' => ∃ a c n X, e = .returned (.slice a n c) ∧ n + U = I ∧ X.length = n ∧ Oh w w' b (i + 1) I U a X) := fun h => h.held
            go_wp2_with (first
              | (go_at_call 21; refine (Hid.out SH (Hid.out H5)).mono ?_; rintro e w6 ⟨ah, ch, n, X, rfl, hnU, hXn, h6⟩; have H6 : Hid (Oh w w6 b (i + 1) I U2 ah X) := h6; have XN : Hid (X.length = n) := hXn; have hc6 : ((n : Int) != (I : Int) - (U2 : Int)) = false := (by simp; omega); have hn6 : n ≤ 200 := (by omega); clear h6 hXn)
              | (go_at_call 16; refine HO.mono ?_; rintro e w5 ⟨a5, c5, nd, rfl, hnd, h5⟩; obtain ⟨U2, hU2⟩ : ∃ U2, U + nd = U2 := ⟨_, rfl⟩; rw [hU2] at h5; have hU3 : (U : Int) + (nd : Int) = (U2 : Int) := (by omega); have hU4 : U2 ≤ I := (by omega); have hnd2 : nd ≤ 200 := (by omega); have H5 : Hid (O w w5 b (i + 1) I U2) := h5; clear h5 HO hU2))
            obtain ⟨nz, hnz⟩ : ∃ nz, nz = ah := ⟨_, rfl⟩
            clear hnz nz
            go_loopw [11] (fun s11 wr => ∃ q : Nat, s11 = .int .i64 q ∧ 1 ≤ q ∧ q ≤ n + 1 ∧ Hid (Oh w wr b (i + 1) I U2 ah X)) (fun s11 _ => n + 1 - (intOf s11).toNat)
            case atStart => exact ⟨1, rfl, Nat.le_refl _, by omega, H6⟩
            case round =>
              clear H6
              obtain ⟨q, rfl, hq1, hqn, H7⟩ := hrel
              by_cases hlt2 : q < n
              · have hlt2' : (q : Int) < (n : Int) := by omega
                obtain ⟨j, hj⟩ : ∃ j, q = j + 1 := ⟨q - 1, by omega⟩
                obtain ⟨pa, pb, ob, oo, rfl, lob, cj, cq, hab⟩ := H7.out.two (j := j) (q := q) (by omega) (by rw [XN.out]; exact hlt2)
                have e1 : (q : Int) - 1 = (j : Int) := by omega
                have e2 : IntKind.i64.wrap ((q : Int) - 1) = (j : Int) := by rw [e1]; exact wrapN j (by omega)
                have e3 : IntKind.i64.wrap (j : Int) = (j : Int) := wrapN j (by omega)
                have e4 : (0 : Int) ≤ (j : Int) := by omega
                have e5 : (j : Int) < (n : Int) := by omega
                have hd : decide (pb ≤ pa) = false := by simp; omega
                have hd2 : ¬ pb ≤ pa := by omega
                clear hj hab
                go_wp2_with fail
                go_quiet (fail)
                go_wp2
                go_roundw
                case rel => exact ⟨q + 1, by go_num, by omega, by omega, H7.out.on ⟨rfl, rfl, rfl, Nat.le_refl _, fun _ _ => rfl⟩⟩
                case measure => simp [intOf]; omega
              · have hlt2' : ¬ (q : Int) < (n : Int) := by omega
                go_wp2
                go_roundw
                case rel => exact ⟨i + 1, I, U2, by go_num, by omega, by first | rfl | go_num, by first | rfl | go_num, H7.out.back⟩
                case measure => simp [intOf]; omega
          · have q2 : (kk == 2) = false := by simp [k2]
            by_cases k3 : kk = 3
            · have HO := HNB.out.retract (y4, y5, y6)
              dsimp only [kv] at HO
              subst k3
              clear HNB k0 q0 k1 q1 k2 q2
              have SH : Hid (∀ {W : World} {I U : Nat}, O w W b (i + 1) I U → Calls Try.prog 21 #[.pointer (some ⟨b, 0, none⟩)] W fun e w' => ∃ a c n X, e = .returned (.slice a n c) ∧ n + U = I ∧ X.length = n ∧ Oh w w' b (i + 1) I U a X) := fun h => h.held
              go_wp2_with (first
                | (go_at_call 21; refine (Hid.out SH (Hid.out H5)).mono ?_; rintro e w6 ⟨ah, ch, n, X, rfl, hnU, hXn, h6⟩; have H6 : Hid (Oh w w6 b (i + 1) I U2 ah X) := h6; have XN : Hid (X.length = n) := hXn; have hc6 : ((n : Int) != (I : Int) - (U2 : Int)) = false := (by simp; omega); have hn6 : n ≤ 200 := (by omega); clear h6 hXn)
                | (go_at_call 18; refine HO.mono ?_; rintro e w5 ⟨nd, r5, rfl, hnd, h5⟩; obtain ⟨U2, hU2⟩ : ∃ U2, U + nd = U2 := ⟨_, rfl⟩; rw [hU2] at h5; have hU3 : (U : Int) + (nd : Int) = (U2 : Int) := (by omega); have hU4 : U2 ≤ I := (by omega); have hnd2 : nd ≤ 200 := (by omega); have H5 : Hid (O w w5 b (i + 1) I U2) := h5; clear h5 HO hU2))
              obtain ⟨nz, hnz⟩ : ∃ nz, nz = ah := ⟨_, rfl⟩
              clear hnz nz
              go_loopw [11] (fun s11 wr => ∃ q : Nat, s11 = .int .i64 q ∧ 1 ≤ q ∧ q ≤ n + 1 ∧ Hid (Oh w wr b (i + 1) I U2 ah X)) (fun s11 _ => n + 1 - (intOf s11).toNat)
              case atStart => exact ⟨1, rfl, Nat.le_refl _, by omega, H6⟩
              case round =>
                clear H6
                obtain ⟨q, rfl, hq1, hqn, H7⟩ := hrel
                by_cases hlt2 : q < n
                · have hlt2' : (q : Int) < (n : Int) := by omega
                  obtain ⟨j, hj⟩ : ∃ j, q = j + 1 := ⟨q - 1, by omega⟩
                  obtain ⟨pa, pb, ob, oo, rfl, lob, cj, cq, hab⟩ := H7.out.two (j := j) (q := q) (by omega) (by rw [XN.out]; exact hlt2)
                  have e1 : (q : Int) - 1 = (j : Int) := by omega
                  have e2 : IntKind.i64.wrap ((q : Int) - 1) = (j : Int) := by rw [e1]; exact wrapN j (by omega)
                  have e3 : IntKind.i64.wrap (j : Int) = (j : Int) := wrapN j (by omega)
                  have e4 : (0 : Int) ≤ (j : Int) := by omega
                  have e5 : (j : Int) < (n : Int) := by omega
                  have hd : decide (pb ≤ pa) = false := by simp; omega
                  have hd2 : ¬ pb ≤ pa := by omega
                  clear hj hab
                  go_wp2_with fail
                  go_quiet (fail)
                  go_wp2
                  go_roundw
                  case rel => exact ⟨q + 1, by go_num, by omega, by omega, H7.out.on ⟨rfl, rfl, rfl, Nat.le_refl _, fun _ _ => rfl⟩⟩
                  case measure => simp [intOf]; omega
                · have hlt2' : ¬ (q : Int) < (n : Int) := by omega
                  go_wp2
                  go_roundw
                  case rel => exact ⟨i + 1, I, U2, by go_num, by omega, by first | rfl | go_num, by first | rfl | go_num, H7.out.back⟩
                  case measure => simp [intOf]; omega
            · have q3 : (kk == 3) = false := by simp [k3]
              have HN5 : Hid (O w (wr.alloc (.cells #[.int .i64 kk, .int .i64 y1, .int .i64 y2, .int .i64 y3, .int .i64 y4, .int .i64 y5, .int .i64 y6, .int .i64 y7, .int .i64 y8, .int .i64 (i : Int)] 32)) b (i + 1) I U) := HNB.out.next
              clear HNB
              have SH : Hid (∀ {W : World} {I U : Nat}, O w W b (i + 1) I U → Calls Try.prog 21 #[.pointer (some ⟨b, 0, none⟩)] W fun e w' => ∃ a c n X, e = .returned (.slice a n c) ∧ n + U = I ∧ X.length = n ∧ Oh w w' b (i + 1) I U a X) := fun h => h.held
              go_wp2_with (first
                | (go_at_call 21; refine (Hid.out SH (Hid.out HN5)).mono ?_; rintro e w6 ⟨ah, ch, n, X, rfl, hnU, hXn, h6⟩; have H6 : Hid (Oh w w6 b (i + 1) I U ah X) := h6; have XN : Hid (X.length = n) := hXn; have hc6 : ((n : Int) != (I : Int) - (U : Int)) = false := (by simp; omega); have hn6 : n ≤ 200 := (by omega); clear h6 hXn))
              obtain ⟨nz, hnz⟩ : ∃ nz, nz = ah := ⟨_, rfl⟩
              clear hnz nz
              go_loopw [11] (fun s11 wr => ∃ q : Nat, s11 = .int .i64 q ∧ 1 ≤ q ∧ q ≤ n + 1 ∧ Hid (Oh w wr b (i + 1) I U ah X)) (fun s11 _ => n + 1 - (intOf s11).toNat)
              case atStart => exact ⟨1, rfl, Nat.le_refl _, by omega, H6⟩
              case round =>
                clear H6
                obtain ⟨q, rfl, hq1, hqn, H7⟩ := hrel
                by_cases hlt2 : q < n
                · have hlt2' : (q : Int) < (n : Int) := by omega
                  obtain ⟨j, hj⟩ : ∃ j, q = j + 1 := ⟨q - 1, by omega⟩
                  obtain ⟨pa, pb, ob, oo, rfl, lob, cj, cq, hab⟩ := H7.out.two (j := j) (q := q) (by omega) (by rw [XN.out]; exact hlt2)
                  have e1 : (q : Int) - 1 = (j : Int) := by omega
                  have e2 : IntKind.i64.wrap ((q : Int) - 1) = (j : Int) := by rw [e1]; exact wrapN j (by omega)
                  have e3 : IntKind.i64.wrap (j : Int) = (j : Int) := wrapN j (by omega)
                  have e4 : (0 : Int) ≤ (j : Int) := by omega
                  have e5 : (j : Int) < (n : Int) := by omega
                  have hd : decide (pb ≤ pa) = false := by simp; omega
                  have hd2 : ¬ pb ≤ pa := by omega
                  clear hj hab
                  go_wp2_with fail
                  go_quiet (fail)
                  go_wp2
                  go_roundw
                  case rel => exact ⟨q + 1, by go_num, by omega, by omega, H7.out.on ⟨rfl, rfl, rfl, Nat.le_refl _, fun _ _ => rfl⟩⟩
                  case measure => simp [intOf]; omega
                · have hlt2' : ¬ (q : Int) < (n : Int) := by omega
                  go_wp2
                  go_roundw
                  case rel => exact ⟨i + 1, I, U, by go_num, by omega, by first | rfl | go_num, by first | rfl | go_num, H7.out.back⟩
                  case measure => simp [intOf]; omega
    · obtain rfl : i = zl := by omega
      go_wp2_with (go_at_call 11; refine (O.end (Hid.out HN)).mono ?_; rintro e w9 ⟨rfl, h9⟩)
      go_ret
      exact ⟨rfl, h9⟩
end Go.Proofs.Ytpkemgpnpadkfaa
