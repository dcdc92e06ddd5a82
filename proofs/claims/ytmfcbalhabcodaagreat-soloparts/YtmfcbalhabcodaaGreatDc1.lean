/- Proved: the contract of the document's Put: messages among others that are in order. -/
import Derived.Test.YtmfcbalhabcodaaGreatDc0
import Derived.Deep.QuietTactic
import Derived.BigQuiet
namespace Go.Proofs.YtmfcbalhabcodaaGreat
open Go.RowKit Go.Shelf
set_option linter.unusedVariables false

/-- Where the messages of a Put so far lie: where they lay, or in a row made since. -/
def PutS (w wr : World) (la : Option Addr) (lc : Nat) (l : List M) (a : Option Addr) (c : Nat) (L : List M) : Prop := (a = la ∧ c = lc ∧ L = l) ∨ RowM w wr (.slice a L.length c) L

set_option maxRecDepth 100000 in
set_option maxHeartbeats 2000000 in
theorem rput_any (w : World) (la : Option Addr) (lc : Nat) (l : List M) (ma : Option Addr) (mc : Nat) (more : List M) (h1 : RdM w la l) (h2 : RdM w ma more) (hl : l.length + more.length ≤ 20000) :
    Calls Tryz.prog 30 #[.slice la l.length lc, .slice ma more.length mc] w fun e w' => ∃ a c, e = .returned (.slice a (putL l more).length c) ∧ PutS w w' la lc l a c (putL l more) ∧ RdM w' a (putL l more) ∧ Below w.heap.size w w' := by
  have mixed : Tryz.prog.follows .mixedOrders = true := by kernel_rfl
  have H1 : Hid _ := h1
  have H2 : Hid _ := h2
  have hml : more.length ≤ 20000 := by omega
  clear h1 h2
  go_enter Tryz.func30, Tryz.ntmps30
  go_wp2_with fail
  go_loopw [0, 5] (fun s0 s5 wr => ∃ (i : Nat) (a : Option Addr) (c : Nat) (L : List M), s0 = .slice a L.length c ∧ s5 = .int .i64 i ∧ i ≤ more.length ∧ Hid (L = putL l (more.take i)) ∧ PutS w wr la lc l a c L ∧ RdM wr a L ∧ Below w.heap.size w wr) (fun _ s5 _ => more.length - (intOf s5).toNat)
  case atStart => exact ⟨0, la, lc, l, rfl, rfl, Nat.zero_le _, (by simp [putL] : l = putL l (more.take 0)), .inl ⟨rfl, rfl, rfl⟩, H1.out, Below.refl _ _⟩
  case round =>
    obtain ⟨i, a, c, L, rfl, rfl, hi, HLE, hPS, hRL, hbw⟩ := hrel
    have hLl : L.length ≤ 20000 := by
      rw [HLE.out, putL_len, List.length_take]
      omega
    by_cases him : i < more.length
    · have hi' : (i : Int) < (more.length : Int) := by omega
      obtain ⟨x, hx⟩ : ∃ x, nthM more i = x := ⟨_, rfl⟩
      obtain ⟨WR, hWR⟩ : ∃ WR, WR = wr := ⟨_, rfl⟩
      subst hWR
      have hb1 := al WR (.cells #[] 38)
      obtain ⟨W1, hW1⟩ : ∃ W1, W1 = WR.alloc (.cells #[] 38) := ⟨_, rfl⟩
      have HRow0 : Hid (RowM WR W1 (.slice (some ⟨WR.heap.size, 0, none⟩) 0 0) []) := by rw [hW1]; exact RowM.empty WR
      have HRL : Hid (∀ W, Below WR.heap.size WR W → RdM W a L) := fun W hW => hRL.below hW
      have HRX : Hid (∀ W, Below WR.heap.size WR W → ∃ b off, ma = some ⟨b, off, none⟩ ∧ b < W.heap.size ∧ W.cell? ⟨b, off + i * 6, none⟩ = some (.int .i64 x.t) ∧ W.cell? ⟨b, off + i * 6 + 1, none⟩ = some (.int .i64 x.fr) ∧ W.cell? ⟨b, off + i * 6 + 2, none⟩ = some (.int .i64 x.sq) ∧ W.cell? ⟨b, off + i * 6 + 3, none⟩ = some (.int .i64 x.dst) ∧ W.cell? ⟨b, off + i * 6 + 4, none⟩ = some (.int .i64 x.cl) ∧ W.cell? ⟨b, off + i * 6 + 5, none⟩ = some (.int .i64 x.bd)) := fun W hW => (RdM.below (RdM.below H2.out hbw) hW).cells him hx
      have HXE : Hid _ := hx
      have HBW : Hid _ := hbw
      have HW1 : Hid _ := hW1
      clear hx hPS hRL hbw hb1 hW1
      go_wp2_with fail
      rw [← HW1.out]
      go_loopw [6, 7, 8] (fun s6 s7 s8 wx => ∃ (k : Nat) (b : Bool) (oa : Option Addr) (oc : Nat) (O : List M), s6 = .slice oa O.length oc ∧ s7 = .bool b ∧ s8 = .int .i64 k ∧ k ≤ L.length ∧ RowM WR wx (.slice oa O.length oc) O ∧ O.length ≤ k + 1 ∧ Hid ((b = false ∧ O = L.take k ∧ put1 x L = L.take k ++ put1 x (L.drop k)) ∨ (b = true ∧ put1 x L = O ++ L.drop k))) (fun _ _ s8 _ => L.length - (intOf s8).toNat)
      case atStart => exact ⟨0, false, _, _, [], rfl, rfl, rfl, Nat.zero_le _, HRow0.out, by simp, (.inl ⟨rfl, by simp, by simp⟩ : (false = false ∧ ([] : List M) = L.take 0 ∧ put1 x L = L.take 0 ++ put1 x (L.drop 0)) ∨ _)⟩
      case round =>
        clear HRow0
        obtain ⟨k, b, oa, oc, O, rfl, rfl, rfl, hk, hRow, hOl, HS⟩ := hrel
        have hRLr := HRL.out wr hRow.2
        by_cases hkl : k < L.length
        · have hk' : (k : Int) < (L.length : Int) := by omega
          obtain ⟨y, hy⟩ : ∃ y, nthM L k = y := ⟨_, rfl⟩
          have hdr := drop_cons hkl
          rw [hy] at hdr
          obtain ⟨lb, lo, rfl, hlb, y0, y1, y2, y3, y4, y5⟩ := hRLr.cells hkl hy
          obtain ⟨mb, mo, hma, hmb, x0, x1, x2, x3, x4, x5⟩ := HRX.out wr hRow.2
          have HRX2 : Hid _ := hma
          subst hma
          have HRow : Hid _ := hRow
          have HDR : Hid _ := hdr
          have HYE : Hid (∀ W, Below WR.heap.size WR W → lb < W.heap.size ∧ W.cell? ⟨lb, lo + k * 6, none⟩ = some (.int .i64 y.t) ∧ W.cell? ⟨lb, lo + k * 6 + 1, none⟩ = some (.int .i64 y.fr) ∧ W.cell? ⟨lb, lo + k * 6 + 2, none⟩ = some (.int .i64 y.sq) ∧ W.cell? ⟨lb, lo + k * 6 + 3, none⟩ = some (.int .i64 y.dst) ∧ W.cell? ⟨lb, lo + k * 6 + 4, none⟩ = some (.int .i64 y.cl) ∧ W.cell? ⟨lb, lo + k * 6 + 5, none⟩ = some (.int .i64 y.bd)) := fun W hW => by
            obtain ⟨lb', lo', e', hl', g0, g1, g2, g3, g4, g5⟩ := (HRL.out W hW).cells hkl hy
            simp at e'
            obtain ⟨rfl, rfl⟩ := e'
            exact ⟨hl', g0, g1, g2, g3, g4, g5⟩
          have HXC : Hid (∀ W, Below WR.heap.size WR W → mb < W.heap.size ∧ W.cell? ⟨mb, mo + i * 6, none⟩ = some (.int .i64 x.t) ∧ W.cell? ⟨mb, mo + i * 6 + 1, none⟩ = some (.int .i64 x.fr) ∧ W.cell? ⟨mb, mo + i * 6 + 2, none⟩ = some (.int .i64 x.sq) ∧ W.cell? ⟨mb, mo + i * 6 + 3, none⟩ = some (.int .i64 x.dst) ∧ W.cell? ⟨mb, mo + i * 6 + 4, none⟩ = some (.int .i64 x.cl) ∧ W.cell? ⟨mb, mo + i * 6 + 5, none⟩ = some (.int .i64 x.bd)) := fun W hW => by
            obtain ⟨lb', lo', e', hl', g0, g1, g2, g3, g4, g5⟩ := HRX.out W hW
            simp at e'
            obtain ⟨rfl, rfl⟩ := e'
            exact ⟨hl', g0, g1, g2, g3, g4, g5⟩
          clear hRow hdr hRLr hy
          cases b with
          | true =>
            have HP : Hid (put1 x L = O ++ [y] ++ L.drop (k + 1)) := by
              rcases HS.out with ⟨e, _⟩ | ⟨_, e⟩
              · cases e
              · show put1 x L = _
                rw [e, HDR.out]; simp
            go_wp2_with fail
            go_quiet (fail)
            obtain ⟨W2, hW2⟩ : ∃ W2, W2 = wr.drewN nq := ⟨_, rfl⟩
            rw [← hW2]
            have hRow2 : RowM WR W2 (.slice oa O.length oc) O := by rw [hW2]; exact RowM.below (Hid.out HRow) (below_drewN _ _ _)
            clear y0 y1 y2 y3 y4 y5 x0 x1 x2 x3 x4 x5 hmb hlb
            obtain ⟨hlb, y0, y1, y2, y3, y4, y5⟩ := HYE.out W2 hRow2.2
            obtain ⟨O2, hO2⟩ : ∃ O2, O ++ [y] = O2 := ⟨_, rfl⟩
            obtain ⟨a', c', w3, hrun, hro⟩ := append_M (c := 1) (hRow2.below (al W2 (.cells (mcs y) 38))) (BoxM.new W2 y).rd (by omega) (by simp) 45 O2 hO2
            have HRUN : Hid _ := hrun
            have HRO : Hid _ := hro
            have HO2 : Hid _ := hO2
            have hol : O2.length ≤ k + 1 + 1 := by rw [← hO2]; simp; omega
            dsimp only [mcs] at HRUN
            clear hrun hro hO2 hRow2 hW2
            go_wp2_with (at_builtin; refine wpList_append_run _ rfl _ _ 45 rfl rfl rfl HRUN.out ?_)
            go_roundw
            case rel => exact ⟨k + 1, true, a', c', O2, rfl, rfl, by go_num, by omega, HRO.out, hol, (.inr ⟨rfl, by rw [← HO2.out]; exact HP.out⟩ : (true = false ∧ O2 = L.take (k + 1) ∧ put1 x L = L.take (k + 1) ++ put1 x (L.drop (k + 1))) ∨ (true = true ∧ put1 x L = O2 ++ L.drop (k + 1)))⟩
            case measure => simp [intOf]; omega
          | false =>
            have hO : O = L.take k ∧ put1 x L = L.take k ++ put1 x (L.drop k) := by
              rcases HS.out with ⟨_, e⟩ | ⟨e, _⟩
              · exact e
              · cases e
            have HO : Hid _ := hO
            have K := fun W => ahead_any x y W
            cases hR : ahd x y with
            | true =>
              simp only [hR] at K
              have HK : Hid _ := K
              have HP : Hid (put1 x L = O ++ [x] ++ [y] ++ L.drop (k + 1)) := by
                show put1 x L = _
                rw [hO.2, HDR.out, put1_cons_yes hR, hO.1]; simp
              dsimp only [mv] at HK
              clear K hO hR
              go_wp2_with fail
              go_region_held3 (fun w' => w'.cell? ⟨mb, mo + i * 6, none⟩ = some (.int .i64 x.t) ∧ w'.cell? ⟨mb, mo + i * 6 + 1, none⟩ = some (.int .i64 x.fr) ∧ w'.cell? ⟨mb, mo + i * 6 + 2, none⟩ = some (.int .i64 x.sq) ∧ w'.cell? ⟨mb, mo + i * 6 + 3, none⟩ = some (.int .i64 x.dst) ∧ w'.cell? ⟨mb, mo + i * 6 + 4, none⟩ = some (.int .i64 x.cl) ∧ w'.cell? ⟨mb, mo + i * 6 + 5, none⟩ = some (.int .i64 x.bd) ∧ w'.cell? ⟨lb, lo + k * 6, none⟩ = some (.int .i64 y.t) ∧ w'.cell? ⟨lb, lo + k * 6 + 1, none⟩ = some (.int .i64 y.fr) ∧ w'.cell? ⟨lb, lo + k * 6 + 2, none⟩ = some (.int .i64 y.sq) ∧ w'.cell? ⟨lb, lo + k * 6 + 3, none⟩ = some (.int .i64 y.dst) ∧ w'.cell? ⟨lb, lo + k * 6 + 4, none⟩ = some (.int .i64 y.cl) ∧ w'.cell? ⟨lb, lo + k * 6 + 5, none⟩ = some (.int .i64 y.bd)) (go_keep) (first
                | (go_at_call 54; refine (HK.out _).mono ?_; rintro e w2 ⟨rfl, hb2⟩; have hRow2 : RowM WR w2 (.slice oa O.length oc) O := RowM.below (Hid.out HRow) (((Below.refl _ wr).drew).trans hb2); clear y0 y1 y2 y3 y4 y5 x0 x1 x2 x3 x4 x5 hmb hlb; obtain ⟨hlb, y0, y1, y2, y3, y4, y5⟩ := HYE.out w2 hRow2.2; obtain ⟨hmb, x0, x1, x2, x3, x4, x5⟩ := HXC.out w2 hRow2.2; have HR2 : Hid _ := hRow2; clear hRow2 hb2))
              obtain ⟨O1, hO1⟩ : ∃ O1, O ++ [x] = O1 := ⟨_, rfl⟩
              obtain ⟨O2, hO2⟩ : ∃ O2, O1 ++ [y] = O2 := ⟨_, rfl⟩
              have hl1 : O1.length ≤ k + 2 := by rw [← hO1]; simp; omega
              obtain ⟨a1, c1, w3, hrun1, hro1⟩ := append_M (c := 1) (RowM.below (Hid.out HR2) (al w2 (.cells (mcs x) 38))) (BoxM.new w2 x).rd (by omega) (by simp) 45 O1 hO1
              obtain ⟨a', c', w4, hrun2, hro2⟩ := append_M (c := 1) (hro1.below (al w3 (.cells (mcs y) 38))) (BoxM.new w3 y).rd (by omega) (by simp) 45 O2 hO2
              obtain ⟨hlb3, v0, v1, v2, v3, v4, v5⟩ := HYE.out w3 hro1.2
              have hOlk : O.length = k := by rw [(Hid.out HO).1, List.length_take]; omega
              have HOL : Hid (O2.length ≤ k + 1 + 1) := by show O2.length ≤ _; rw [← hO2, ← hO1]; simp; omega
              have HRUN1 : Hid _ := hrun1
              have HRUN2 : Hid _ := hrun2
              have HRO : Hid _ := hro2
              have HO2 : Hid (O ++ [x] ++ [y] = O2) := by show _ = O2; rw [hO1]; exact hO2
              dsimp only [mcs] at HRUN1 HRUN2
              clear hrun1 hrun2 hro1 hro2 hO1 hO2 hOlk
              go_wp2_with (at_builtin; first | refine wpList_append_run _ rfl _ _ 45 rfl rfl rfl HRUN2.out ?_ | refine wpList_append_run _ rfl _ _ 45 rfl rfl rfl HRUN1.out ?_)
              go_roundw
              case rel => exact ⟨k + 1, true, a', c', O2, rfl, rfl, by go_num, by omega, HRO.out, HOL.out, (.inr ⟨rfl, by rw [← HO2.out]; exact HP.out⟩ : (true = false ∧ O2 = L.take (k + 1) ∧ put1 x L = L.take (k + 1) ++ put1 x (L.drop (k + 1))) ∨ (true = true ∧ put1 x L = O2 ++ L.drop (k + 1)))⟩
              case measure => simp [intOf]; omega
            | false =>
              simp only [hR] at K
              have HK : Hid _ := K
              have HTK : Hid (O ++ [y] = L.take (k + 1)) := by
                show O ++ [y] = _
                rw [hO.1]
                have e1 := take_snoc L hkl
                have e2 : nthM L k = y := by
                  have := HDR.out
                  rw [drop_cons hkl] at this
                  exact (List.cons.inj this).1
                rw [e1, e2]
              have HP : Hid (put1 x L = L.take (k + 1) ++ put1 x (L.drop (k + 1))) := by
                show put1 x L = _
                rw [← HTK.out, hO.2, HDR.out, put1_cons_no hR, hO.1]; simp
              dsimp only [mv] at HK
              clear K hO hR
              go_wp2_with fail
              go_region_held3 (fun w' => w'.cell? ⟨mb, mo + i * 6, none⟩ = some (.int .i64 x.t) ∧ w'.cell? ⟨mb, mo + i * 6 + 1, none⟩ = some (.int .i64 x.fr) ∧ w'.cell? ⟨mb, mo + i * 6 + 2, none⟩ = some (.int .i64 x.sq) ∧ w'.cell? ⟨mb, mo + i * 6 + 3, none⟩ = some (.int .i64 x.dst) ∧ w'.cell? ⟨mb, mo + i * 6 + 4, none⟩ = some (.int .i64 x.cl) ∧ w'.cell? ⟨mb, mo + i * 6 + 5, none⟩ = some (.int .i64 x.bd) ∧ w'.cell? ⟨lb, lo + k * 6, none⟩ = some (.int .i64 y.t) ∧ w'.cell? ⟨lb, lo + k * 6 + 1, none⟩ = some (.int .i64 y.fr) ∧ w'.cell? ⟨lb, lo + k * 6 + 2, none⟩ = some (.int .i64 y.sq) ∧ w'.cell? ⟨lb, lo + k * 6 + 3, none⟩ = some (.int .i64 y.dst) ∧ w'.cell? ⟨lb, lo + k * 6 + 4, none⟩ = some (.int .i64 y.cl) ∧ w'.cell? ⟨lb, lo + k * 6 + 5, none⟩ = some (.int .i64 y.bd)) (go_keep) (first
                | (go_at_call 54; refine (HK.out _).mono ?_; rintro e w2 ⟨rfl, hb2⟩; have hRow2 : RowM WR w2 (.slice oa O.length oc) O := RowM.below (Hid.out HRow) (((Below.refl _ wr).drew).trans hb2); clear y0 y1 y2 y3 y4 y5 x0 x1 x2 x3 x4 x5 hmb hlb; obtain ⟨hlb, y0, y1, y2, y3, y4, y5⟩ := HYE.out w2 hRow2.2; obtain ⟨hmb, x0, x1, x2, x3, x4, x5⟩ := HXC.out w2 hRow2.2; have HR2 : Hid _ := hRow2; clear hRow2 hb2))
              obtain ⟨O2, hO2⟩ : ∃ O2, O ++ [y] = O2 := ⟨_, rfl⟩
              obtain ⟨a', c', w3, hrun, hro⟩ := append_M (c := 1) (RowM.below (Hid.out HR2) (al w2 (.cells (mcs y) 38))) (BoxM.new w2 y).rd (by omega) (by simp) 45 O2 hO2
              have hol : O2.length ≤ k + 1 + 1 := by rw [← hO2]; simp; omega
              have HRUN : Hid _ := hrun
              have HRO : Hid _ := hro
              have HO2 : Hid (O2 = L.take (k + 1)) := by show O2 = _; rw [← hO2]; exact HTK.out
              dsimp only [mcs] at HRUN
              clear hrun hro hO2
              go_wp2_with (at_builtin; refine wpList_append_run _ rfl _ _ 45 rfl rfl rfl HRUN.out ?_)
              go_roundw
              case rel => exact ⟨k + 1, false, a', c', O2, rfl, rfl, by go_num, by omega, HRO.out, hol, (.inl ⟨rfl, HO2.out, HP.out⟩ : (false = false ∧ O2 = L.take (k + 1) ∧ put1 x L = L.take (k + 1) ++ put1 x (L.drop (k + 1))) ∨ _)⟩
              case measure => simp [intOf]; omega
        · obtain rfl : k = L.length := by omega
          obtain ⟨mb, mo, hma, hmb, x0, x1, x2, x3, x4, x5⟩ := HRX.out wr hRow.2
          have HNX : Hid (putL l (more.take (i + 1)) = put1 x L) := by
            show putL l (more.take (i + 1)) = _
            rw [take_snoc more him, putL_snoc, HXE.out, ← HLE.out]
          cases b with
          | true =>
            have HP : Hid (put1 x L = O) := by
              rcases HS.out with ⟨e, _⟩ | ⟨_, e⟩
              · cases e
              · show put1 x L = O
                rw [e]; simp
            have HRow : Hid _ := hRow
            clear hRow hRLr
            go_wp2_with fail
            go_roundw
            case rel =>
              refine ⟨i + 1, oa, oc, O, rfl, by go_num, by omega, ?_, ?_, ?_, ?_⟩
              · show O = _
                rw [HNX.out, HP.out]
              · exact .inr (RowM.since (Hid.out HRow) HBW.out)
              · obtain ⟨a3, c3, e3, h3⟩ := RowM.rd (Hid.out HRow)
                simp at e3
                obtain ⟨rfl, rfl⟩ := e3
                exact h3
              · exact (Hid.out HBW).trans ((Hid.out HRow).2.mono (Hid.out HBW).size)
            case measure => simp [intOf]; omega
          | false =>
            have hO : O = L ∧ put1 x L = L ++ [x] := by
              rcases HS.out with ⟨_, e1, e2⟩ | ⟨e, _⟩
              · rw [List.take_of_length_le (Nat.le_refl _)] at e1 e2
                refine ⟨e1, ?_⟩
                rw [e2]; simp [put1]
              · cases e
            subst hma
            obtain ⟨O2, hO2⟩ : ∃ O2, O ++ [x] = O2 := ⟨_, rfl⟩
            obtain ⟨a', c', w3, hrun, hro⟩ := append_M (c := 1) (hRow.below (al wr (.cells (mcs x) 38))) (BoxM.new wr x).rd (by omega) (by simp) 45 O2 hO2
            have HRUN : Hid _ := hrun
            have HRO : Hid _ := hro
            have HP : Hid (put1 x L = O2) := by show _ = O2; rw [hO.2, ← hO2, hO.1]
            dsimp only [mcs] at HRUN
            clear hrun hro hO2 hO hRow hRLr
            go_wp2_with (at_builtin; refine wpList_append_run _ rfl _ _ 45 rfl rfl rfl HRUN.out ?_)
            go_roundw
            case rel =>
              refine ⟨i + 1, a', c', O2, rfl, by go_num, by omega, ?_, ?_, ?_, ?_⟩
              · show O2 = _
                rw [HNX.out, HP.out]
              · exact .inr (RowM.since (Hid.out HRO) HBW.out)
              · obtain ⟨a3, c3, e3, h3⟩ := RowM.rd (Hid.out HRO)
                simp at e3
                obtain ⟨rfl, rfl⟩ := e3
                exact h3
              · exact (Hid.out HBW).trans ((Hid.out HRO).2.mono (Hid.out HBW).size)
            case measure => simp [intOf]; omega
    · obtain rfl : i = more.length := by omega
      have hLE := HLE.out
      rw [List.take_of_length_le (Nat.le_refl _)] at hLE
      have HF : Hid (PutS w wr la lc l a c (putL l more) ∧ RdM wr a (putL l more) ∧ Below w.heap.size w wr) := by
        rw [← hLE]
        exact ⟨hPS, hRL, hbw⟩
      have HLL : Hid (L.length = (putL l more).length) := congrArg List.length hLE
      clear hPS hRL hbw hLE
      go_wp2_with fail
      go_ret
      have h9 : (putL l more).length = L.length := (Hid.out HLL).symm
      refine ⟨a, c, ?_, HF.out⟩
      rw [h9]
      rfl
end Go.Proofs.YtmfcbalhabcodaaGreat
