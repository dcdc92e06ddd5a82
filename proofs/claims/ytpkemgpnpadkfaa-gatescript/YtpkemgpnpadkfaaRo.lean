/- Proved: the contract of Open of the document's gate. -/
import Derived.Test.YtpkemgpnpadkfaaRd
namespace Go.Proofs.Ytpkemgpnpadkfaa
open Go.RowKit Go.Shelf Go.Sort
set_option linter.unusedVariables false

/-- On the way, while one is put into its place: what is left to do. -/
def Jn (G : List H) (x : H) (T : List H) (k : Nat) (d : Bool) (C : List H) : Prop := (if d = true then C ++ G.drop k else C ++ Stb.ins leH (G.drop k) x) = T
theorem Jn.start (G : List H) (x : H) : Jn G x (Stb.ins leH G x) 0 false [] := by simp [Jn]
theorem drop_nth {G : List H} {k : Nat} {g : H} (hk : k < G.length) (hg : nth cH G k = g) : G.drop k = g :: G.drop (k + 1) := by
  rw [nth_get hk] at hg
  rw [← hg]
  simp
theorem Jn.ahead {G T C : List H} {x g : H} {k : Nat} (h : Jn G x T k false C) (hk : k < G.length) (hg : nth cH G k = g) (hl : klt x.1 g.1 = true) : Jn G x T (k + 1) true ((C ++ [x]) ++ [g]) := by
  unfold Jn at *
  rw [drop_nth hk hg] at h
  have e : leH g x = false := by unfold leH; rw [hl]; rfl
  rw [← h]
  simp [Stb.ins, e]
theorem Jn.past {G T C : List H} {x g : H} {k : Nat} (h : Jn G x T k false C) (hk : k < G.length) (hg : nth cH G k = g) (hl : klt x.1 g.1 = false) : Jn G x T (k + 1) false (C ++ [g]) := by
  unfold Jn at *
  rw [drop_nth hk hg] at h
  have e : leH g x = true := by unfold leH; rw [hl]; rfl
  rw [← h]
  simp [Stb.ins, e]
theorem Jn.on {G T C : List H} {x g : H} {k : Nat} (h : Jn G x T k true C) (hk : k < G.length) (hg : nth cH G k = g) : Jn G x T (k + 1) true (C ++ [g]) := by
  unfold Jn at *
  rw [drop_nth hk hg] at h
  rw [← h]
  simp
theorem Jn.endT {G T C : List H} {x : H} {k : Nat} (h : Jn G x T k true C) (hk : G.length ≤ k) : C = T := by
  unfold Jn at h
  rw [List.drop_of_length_le hk] at h
  simpa using h
theorem Jn.endF {G T C : List H} {x : H} {k : Nat} (h : Jn G x T k false C) (hk : G.length ≤ k) : C ++ [x] = T := by
  unfold Jn at h
  rw [List.drop_of_length_le hk] at h
  simpa [Stb.ins] using h
theorem Jn.len {G T C : List H} {x : H} {k : Nat} {d : Bool} (h : Jn G x T k d C) : C.length ≤ T.length := by
  unfold Jn at h
  rw [← h]
  split <;> simp
/-- Three rows, and a box that is none of theirs. -/
structure Ib (w W : World) (va vb vc : Value) (A B C : List H) (xb : Nat) (x : H) : Prop where
  t : T3 w W va vb vc A B C
  bx : W.heap[xb]? = some (.cells (hcs x) 58 (0, 0))
  cx : ∀ k, vc.ownBlock = some k → xb < k
theorem Ib.on {w W W2 : World} {va vb vc : Value} {A B C : List H} {xb : Nat} {x : H} (h : Ib w W va vb vc A B C xb x) (hb : Below W.heap.size W W2) : Ib w W2 va vb vc A B C xb x := ⟨h.t.on hb, (hb.block xb (Array.getElem?_eq_some_iff.1 h.bx).1).trans h.bx, h.cx⟩
theorem Ib.app {w W w2 : World} {va vb vc vc' : Value} {A B C C' : List H} {xb : Nat} {x : H} (h : Ib w W va vb vc A B C xb x) (ho : OwR cH 58 w2 vc' C') (hm : Mw (fun k => vc.ownBlock = some k) (fun k => vc'.ownBlock = some k) W w2) : Ib w w2 va vb vc' A B C' xb x := by
  have hl : xb < W.heap.size := (Array.getElem?_eq_some_iff.1 h.bx).1
  refine ⟨h.t.app ho hm, (hm.fr.block xb hl (fun e => by have := h.cx xb e; omega)).trans h.bx, fun k e => ?_⟩
  rcases Nat.lt_or_ge k W.heap.size with g | g
  · exact h.cx k (hm.new k g e)
  · omega
theorem Ib.cells {w W : World} {va vb vc : Value} {A B C : List H} {xb : Nat} {y1 y2 y3 y4 y5 y6 y7 y8 y9 : Int} (h : Ib w W va vb vc A B C xb ((y1, y2, y3), (y4, y5, y6), y7, y8, y9)) : W.cell? ⟨xb, 0, none⟩ = some (.int .i64 y1) ∧ W.cell? ⟨xb, 1, none⟩ = some (.int .i64 y2) ∧ W.cell? ⟨xb, 2, none⟩ = some (.int .i64 y3) ∧ W.cell? ⟨xb, 3, none⟩ = some (.int .i64 y4) ∧ W.cell? ⟨xb, 4, none⟩ = some (.int .i64 y5) ∧ W.cell? ⟨xb, 5, none⟩ = some (.int .i64 y6) ∧ W.cell? ⟨xb, 6, none⟩ = some (.int .i64 y7) ∧ W.cell? ⟨xb, 7, none⟩ = some (.int .i64 y8) ∧ W.cell? ⟨xb, 8, none⟩ = some (.int .i64 y9) :=
  ⟨cellB h.bx 0, cellB h.bx 1, cellB h.bx 2, cellB h.bx 3, cellB h.bx 4, cellB h.bx 5, cellB h.bx 6, cellB h.bx 7, cellB h.bx 8⟩
theorem Ib.lt {w W : World} {va vb vc : Value} {A B C : List H} {xb : Nat} {x : H} (h : Ib w W va vb vc A B C xb x) : xb < W.heap.size := (Array.getElem?_eq_some_iff.1 h.bx).1
theorem Ib.start {w W : World} {va vb : Value} {A B : List H} (h : T2 cH 58 cH 58 w W va vb A B) (x : H) : Ib w ((W.alloc (.cells (hcs x) 58)).alloc (.cells #[] 58)) va vb (.slice (some ⟨W.heap.size + 1, 0, none⟩) 0 0) A B [] W.heap.size x := by
  have e : (W.alloc (.cells (hcs x) 58)).heap.size = W.heap.size + 1 := by simp
  have h1 := T3.start (h.on (al W (.cells (hcs x) 58)))
  rw [e] at h1
  refine ⟨h1, ((al _ _).block _ (by simp)).trans (newB _ _), fun k e => ?_⟩
  simp [Value.ownBlock] at e
  omega
/-- The messages' row beside the two others. -/
structure Om (w W : World) (va vb vo : Value) (A B : List H) (O : List M) : Prop where
  t : T2 cH 58 cH 58 w W va vb A B
  ro : OwR cM 30 W vo O
  no : ∀ k, vo.ownBlock = some k → w.heap.size ≤ k
  ao : ∀ k, vo.ownBlock = some k → va.ownBlock ≠ some k
  bo : ∀ k, vo.ownBlock = some k → vb.ownBlock ≠ some k
theorem Om.on {w W W2 : World} {va vb vo : Value} {A B : List H} {O : List M} (h : Om w W va vb vo A B O) (hb : Below W.heap.size W W2) : Om w W2 va vb vo A B O := ⟨h.t.on hb, h.ro.below hb, h.no, h.ao, h.bo⟩
theorem Om.app {w W w2 : World} {va vb vo vo' : Value} {A B : List H} {O O' : List M} (h : Om w W va vb vo A B O) (ho : OwR cM 30 w2 vo' O') (hm : Mw (fun k => vo.ownBlock = some k) (fun k => vo'.ownBlock = some k) W w2) : Om w w2 va vb vo' A B O' :=
  ⟨⟨h.t.ra.keep hm.fr (fun g e s => h.ao g s e), h.t.rb.keep hm.fr (fun g e s => h.bo g s e), h.t.na, h.t.nb, h.t.ne, h.t.bel.trans (hm.fr.below h.t.bel.size h.no)⟩, ho, fun k e => new_ge h.t.bel.size h.no hm e, fun k e f => h.ao k (hm.new k (h.t.ra.lt f) e) f, fun k e f => h.bo k (hm.new k (h.t.rb.lt f) e) f⟩
theorem Om.start {w W : World} {va vb : Value} {A B : List H} (h : T2 cH 58 cH 58 w W va vb A B) : Om w (W.alloc (.cells #[] 30)) va vb (.slice (some ⟨W.heap.size, 0, none⟩) 0 0) A B [] := by
  refine ⟨h.on (al _ _), OwR.made cM _ W, fun k e => ?_, fun k e f => ?_, fun k e f => ?_⟩
  · simp [Value.ownBlock] at e
    have := h.bel.size
    omega
  · simp [Value.ownBlock] at e
    have := h.ra.lt f
    omega
  · simp [Value.ownBlock] at e
    have := h.rb.lt f
    omega
theorem ropen_fin {X : Nat → Prop} {w W : World} {fl : Int} {ms : List M} {L A B : List H} {b : Nat} {v va vb : Value} {a : Option Addr} {n c : Nat} (t : Int) (h : RQ X w fl L b v) (ht : Om w W va vb (.slice a n c) A B ms) (hl : B.length ≤ 256) : OutR X w t ms B b v (.returned (.slice a n c)) ((W.setCell ⟨b, 1, none⟩ vb).setCell ⟨b, 0, none⟩ (.int .i64 t)) := by
  have hm : Mw (fun k => v.ownBlock = some k) (fun k => vb.ownBlock = some k) w W := ⟨Fr.of_below ht.t.bel, fun k hk e => by have := ht.t.nb k e; omega⟩
  obtain ⟨g1, g2⟩ := h.put hm ht.t.rb hl
  obtain ⟨g3, g4⟩ := g1.floor t
  have hlt := h.lt
  refine ⟨a, n, c, vb, rfl, (ht.ro.keep ((Fr.refl (fun k => k = b) _).setCell _ _ (Or.inl rfl)) (fun k e s => by have := ht.no k e; omega)).keep ((Fr.refl (fun k => k = b) _).setCell _ _ (Or.inl rfl)) (fun k e s => by have := ht.no k e; omega), fun k e => ⟨ht.no k e, fun d => ?_⟩, g3, g2.trans g4⟩
  rcases d with d | d
  · have := ht.no k e
    omega
  · exact ht.bo k e d
theorem open_snoc {t : Int} {l : List H} {i : Nat} {x : H} (hi : i < l.length) (hx : nth cH l i = x) : Stb.isort leH ((l.take (i + 1)).filter (low t)) = (if low t x = true then Stb.ins leH (Stb.isort leH ((l.take i).filter (low t))) x else Stb.isort leH ((l.take i).filter (low t))) ∧ (l.take (i + 1)).filter (fun x => !low t x) = (if low t x = true then (l.take i).filter (fun x => !low t x) else (l.take i).filter (fun x => !low t x) ++ [x]) := by
  rw [filter_snoc hi hx, filter_snoc hi hx]
  cases h : low t x
  · simp
  · refine ⟨?_, by simp⟩
    simp only [if_true]
    unfold Stb.isort
    rw [List.foldl_append]
    rfl
set_option maxRecDepth 100000 in
set_option maxHeartbeats 8000000 in
theorem ropen_any {X : Nat → Prop} {w : World} {fl : Int} {L : List H} {b : Nat} {v : Value} (h : RQ X w fl L b v) (t : Int) :
    Calls Try.prog 17 #[.pointer (some ⟨b, 0, none⟩), .int .i64 t] w (OutR X w (max fl t) (openG t L) (L.filter (fun x => !low t x)) b v) := by
  have mixed : Try.prog.follows .mixedOrders = true := by kernel_rfl
  obtain ⟨a, c, rfl, hr⟩ := h.row.rd (N := fun _ => True) (fun _ _ => trivial)
  have hcap := h.cap
  obtain ⟨n, hn⟩ : ∃ n, L.length = n := ⟨_, rfl⟩
  have HRD : Hid (∀ W, Below w.heap.size w W → W.cell? ⟨b, 1, none⟩ = some (.slice a n c) ∧ W.frozen? ⟨b, 1, none⟩ = false ∧ b < W.heap.size ∧ W.cell? ⟨b, 0, none⟩ = some (.int .i64 fl) ∧ W.frozen? ⟨b, 0, none⟩ = false) := fun W hW => by
    have q := h.below hW
    exact ⟨by rw [← hn]; exact q.c1, q.froz 1, q.lt, q.c0, q.froz 0⟩
  have HR : Hid (∀ W, Below w.heap.size w W → RdN cH (fun _ => True) W a L) := fun W hW => hr.below hW
  have HN : Hid (L.length = n) := hn
  have hn256 : n ≤ 256 := by omega
  have HFIN : Hid (∀ {W : World} {oa : Option Addr} {on oc : Nat} {va vl : Value} {A : List H}, Om w W va vl (.slice oa on oc) A (L.filter (fun x => !low t x)) (openG t L) → OutR X w (max fl t) (openG t L) (L.filter (fun x => !low t x)) b (.slice a n c) (.returned (.slice oa on oc)) ((W.setCell ⟨b, 1, none⟩ vl).setCell ⟨b, 0, none⟩ (.int .i64 (max fl t)))) := fun {W oa on oc va vl A} ht => by
    have := ropen_fin (max fl t) h ht (Nat.le_trans (List.length_filter_le _ _) hcap)
    rw [hn] at this
    exact this
  have HT0 : Hid (T2 cH 58 cH 58 w ((w.alloc (.cells #[] 58)).alloc (.cells #[] 58)) (.slice (some ⟨w.heap.size, 0, none⟩) 0 0) (.slice (some ⟨w.heap.size + 1, 0, none⟩) 0 0) [] []) := T2.start cH 58 cH 58 (Below.refl _ w)
  rw [hn]
  clear h hr hcap hn
  go_enter Try.func17, Try.ntmps17
  go_wp2
  go_loopw [5, 6, 7] (fun s5 s6 s7 wr => ∃ (i : Nat) (ga la : Option Addr) (gn gc ln lc : Nat) (G R : List H), s7 = .int .i64 i ∧ i ≤ n ∧ s5 = .slice ga gn gc ∧ s6 = .slice la ln lc ∧ Hid (T2 cH 58 cH 58 w wr (.slice ga gn gc) (.slice la ln lc) G R) ∧ Hid (G = Stb.isort leH ((L.take i).filter (low t)) ∧ R = (L.take i).filter (fun x => !low t x))) (fun _ _ s7 _ => n - (intOf s7).toNat)
  case atStart => exact ⟨0, _, _, 0, 0, 0, 0, [], [], rfl, Nat.zero_le _, rfl, rfl, HT0, (⟨rfl, rfl⟩ : ([] : List H) = Stb.isort leH ((L.take 0).filter (low t)) ∧ ([] : List H) = (L.take 0).filter (fun x => !low t x))⟩
  case round =>
    clear HT0
    obtain ⟨i, ga, la, gn, gc, ln, lc, G, R, rfl, hi, rfl, rfl, HT, HE⟩ := hrel
    obtain ⟨g1, gf, gbl, g0, g0f⟩ := HRD.out wr HT.out.bel
    have hlens : G.length + R.length ≤ i := by
      rw [HE.out.1, HE.out.2, Stb.isort_len]
      have := parts_len2 (low t) (L.take i)
      rw [List.length_take] at this
      omega
    by_cases hlt : i < n
    · have hlt' : (i : Int) < (n : Int) := by omega
      have hil : i < L.length := by rw [HN.out]; exact hlt
      obtain ⟨x, hx⟩ : ∃ x, nth cH L i = x := ⟨_, rfl⟩
      obtain ⟨rb, off, rfl, hgb, hgN, x0, x1, x2, x3, x4, x5, x6, x7, x8⟩ := (HR.out wr HT.out.bel).held hil hx
      obtain ⟨e1, e2⟩ := open_snoc (t := t) hil hx
      rw [← HE.out.1] at e1
      rw [← HE.out.2] at e2
      obtain ⟨⟨y1, y2, y3⟩, ⟨y4, y5, y6⟩, y7, y8, y9⟩ := x
      dsimp only at x0 x1 x2 x3 x4 x5 x6 x7 x8
      have hlo : low t ((y1, y2, y3), (y4, y5, y6), y7, y8, y9) = decide (y1 < t) := rfl
      rw [hlo] at e1 e2
      by_cases hyt : y1 < t
      · have hyd : decide (y1 < t) = true := by simpa using hyt
        have hyn : ¬ t ≤ y1 := by omega
        rw [hyd] at e1 e2
        simp only [if_true] at e1 e2
        obtain ⟨T, hT⟩ : ∃ T, Stb.ins leH G ((y1, y2, y3), (y4, y5, y6), y7, y8, y9) = T := ⟨_, rfl⟩
        rw [hT] at e1
        have HE2 : Hid (T = Stb.isort leH ((L.take (i + 1)).filter (low t)) ∧ R = (L.take (i + 1)).filter (fun x => !low t x)) := ⟨e1.symm, e2.symm⟩
        have HJ0 : Hid (Jn G ((y1, y2, y3), (y4, y5, y6), y7, y8, y9) T 0 false []) := by show Jn _ _ _ _ _ _; rw [← hT]; exact Jn.start G ((y1, y2, y3), (y4, y5, y6), y7, y8, y9)
        have HTL : Hid (T.length = G.length + 1) := by show _ = _; rw [← hT, Stb.ins_len]
        have HIB : Hid (Ib w ((wr.alloc (.cells #[.int .i64 y1, .int .i64 y2, .int .i64 y3, .int .i64 y4, .int .i64 y5, .int .i64 y6, .int .i64 y7, .int .i64 y8, .int .i64 y9] 58)).alloc (.cells #[] 58)) (.slice ga gn gc) (.slice la ln lc) (.slice (some ⟨wr.heap.size + 1, 0, none⟩) 0 0) G R [] wr.heap.size ((y1, y2, y3), (y4, y5, y6), y7, y8, y9)) := Ib.start HT.out ((y1, y2, y3), (y4, y5, y6), y7, y8, y9)
        obtain ⟨xb, hxb⟩ : ∃ xb, wr.heap.size = xb := ⟨_, rfl⟩
        have HGN : Hid (G.length = gn) := HT.out.ra.look.1.symm
        have hgn : gn ≤ 256 := by rw [← HGN.out]; omega
        have HLX : Hid (G.length + R.length ≤ i) := hlens
        have HXB : Hid (wr.heap.size = xb) := hxb
        clear e1 e2 hx hil hT hlo hyd hlens HT HE
        go_wp2_with fail
        simp only [HXB.out] at HIB ⊢
        clear hxb
        go_wp2
        go_loopw [9, 10, 11] (fun s9 s10 s11 wr => ∃ (k cn cc : Nat) (ca : Option Addr) (d : Bool) (C : List H), s11 = .int .i64 k ∧ k ≤ gn ∧ s10 = .bool d ∧ s9 = .slice ca cn cc ∧ Hid (Ib w wr (.slice ga gn gc) (.slice la ln lc) (.slice ca cn cc) G R C xb ((y1, y2, y3), (y4, y5, y6), y7, y8, y9)) ∧ Hid (Jn G ((y1, y2, y3), (y4, y5, y6), y7, y8, y9) T k d C)) (fun _ _ s11 _ => gn - (intOf s11).toNat)
        case atStart => exact ⟨0, 0, 0, _, false, [], rfl, Nat.zero_le _, rfl, rfl, HIB, HJ0⟩
        case round =>
          clear HIB HJ0 g1 gf gbl g0 g0f x0 x1 x2 x3 x4 x5 x6 x7 x8 hgb HXB
          obtain ⟨k, cn, cc, ca, d, C, rfl, hk, rfl, rfl, HI, HJ⟩ := hrel
          have HLC : Hid (C.length ≤ 257) := by have h1 := HJ.out.len; have := HTL.out; have := HLX.out; show C.length ≤ 257; omega
          obtain ⟨b0, b1, b2, b3, b4, b5, b6, b7, b8⟩ := HI.out.cells
          have lxb := HI.out.lt
          by_cases hkn : k < gn
          · have hkn' : (k : Int) < (gn : Int) := by omega
            have hkg : k < G.length := by rw [HGN.out]; exact hkn
            obtain ⟨⟨⟨z1, z2, z3⟩, ⟨z4, z5, z6⟩, z7, z8, z9⟩, hgx⟩ : ∃ x, nth cH G k = x := ⟨_, rfl⟩
            obtain ⟨gb, rfl, lgb, v0, v1, v2, v3, v4, v5, v6, v7, v8⟩ := HI.out.t.t.ra.held hkg hgx
            dsimp only at v0 v1 v2 v3 v4 v5 v6 v7 v8
            cases d
            · obtain ⟨r, hr⟩ : ∃ r, kcmp (y1, y2, y3) (z1, z2, z3) = r := ⟨_, rfl⟩
              have hkl : klt (y1, y2, y3) (z1, z2, z3) = decide (r < 0) := by rw [← hr]; rfl
              have HCM : Hid (Calls Try.prog 23 #[.agg #[.int .i64 y1, .int .i64 y2, .int .i64 y3], .agg #[.int .i64 z1, .int .i64 z2, .int .i64 z3]] wr.drew fun e w' => e = .returned (.int .i64 r) ∧ Below wr.heap.size wr w') := (refcmp_any (y1, y2, y3) (z1, z2, z3) wr.drew).mono fun e w' ⟨he, hb⟩ => ⟨by rw [he, hr], ⟨hb.os, hb.tape, hb.output, hb.size, hb.block⟩⟩
              have HS14 : Hid (∀ W, Below wr.heap.size wr W → W.cell? ⟨xb, 0, none⟩ = some (.int .i64 y1) ∧ W.cell? ⟨xb, 1, none⟩ = some (.int .i64 y2) ∧ W.cell? ⟨xb, 2, none⟩ = some (.int .i64 y3) ∧ W.cell? ⟨gb, k * 9, none⟩ = some (.int .i64 z1) ∧ W.cell? ⟨gb, k * 9 + 1, none⟩ = some (.int .i64 z2) ∧ W.cell? ⟨gb, k * 9 + 2, none⟩ = some (.int .i64 z3)) := fun W hW => by
                have hc := fun o => hW.cell (p := ⟨gb, o, none⟩) lgb
                have hd := fun o => hW.cell (p := ⟨xb, o, none⟩) lxb
                exact ⟨(hd _).trans b0, (hd _).trans b1, (hd _).trans b2, (hc _).trans v0, (hc _).trans v1, (hc _).trans v2⟩
              have HGX : Hid (k < G.length ∧ nth cH G k = ((z1, z2, z3), (z4, z5, z6), z7, z8, z9)) := ⟨hkg, hgx⟩
              by_cases hr0 : r < 0
              · have hrd : decide (r < 0) = true := by simpa using hr0
                have HJ2 := HJ.out.ahead hkg hgx (by show klt (y1, y2, y3) (z1, z2, z3) = true; rw [hkl, hrd])
                obtain ⟨Y1, hY1⟩ : ∃ Y1, C ++ [((y1, y2, y3), (y4, y5, y6), y7, y8, y9)] = Y1 := ⟨_, rfl⟩
                obtain ⟨Y2, hY2⟩ : ∃ Y2, Y1 ++ [((z1, z2, z3), (z4, z5, z6), z7, z8, z9)] = Y2 := ⟨_, rfl⟩
                rw [hY1, hY2] at HJ2
                have HJ3 : Hid (Jn G ((y1, y2, y3), (y4, y5, y6), y7, y8, y9) T (k + 1) true Y2) := HJ2
                have HY1 : Hid (C ++ [((y1, y2, y3), (y4, y5, y6), y7, y8, y9)] = Y1) := hY1
                have HY2 : Hid (Y1 ++ [((z1, z2, z3), (z4, z5, z6), z7, z8, z9)] = Y2) := hY2
                clear HJ2 hY1 hY2 hr hkl hgx hkg HJ
                go_wp2_with fail
                go_region_held3 (fun w' => w'.cell? ⟨xb, 0, none⟩ = some (.int .i64 y1) ∧ w'.cell? ⟨xb, 1, none⟩ = some (.int .i64 y2) ∧ w'.cell? ⟨xb, 2, none⟩ = some (.int .i64 y3) ∧ w'.cell? ⟨gb, k * 9, none⟩ = some (.int .i64 z1) ∧ w'.cell? ⟨gb, k * 9 + 1, none⟩ = some (.int .i64 z2) ∧ w'.cell? ⟨gb, k * 9 + 2, none⟩ = some (.int .i64 z3)) (first | (go_keep; done) | exact Hid.out KEEP) (first
                  | (go_at_call 23; refine (Hid.out HCM).mono ?_; rintro e w2 ⟨rfl, hb2⟩; have HI2 : Hid (Ib w w2 (.slice (some ⟨gb, 0, none⟩) gn gc) (.slice la ln lc) (.slice ca cn cc) G R C xb ((y1, y2, y3), (y4, y5, y6), y7, y8, y9)) := (Hid.out HI).on hb2; have KEEP : Hid (w2.cell? ⟨xb, 0, none⟩ = some (.int .i64 y1) ∧ w2.cell? ⟨xb, 1, none⟩ = some (.int .i64 y2) ∧ w2.cell? ⟨xb, 2, none⟩ = some (.int .i64 y3) ∧ w2.cell? ⟨gb, k * 9, none⟩ = some (.int .i64 z1) ∧ w2.cell? ⟨gb, k * 9 + 1, none⟩ = some (.int .i64 z2) ∧ w2.cell? ⟨gb, k * 9 + 2, none⟩ = some (.int .i64 z3)) := Hid.out HS14 w2 hb2; obtain ⟨q0, q1, q2, q3, q4, q5, q6, q7, q8⟩ := (Hid.out HI2).cells; have lx2 := (Hid.out HI2).lt; clear hb2 HCM))
                go_wp2_with (first
                  | (at_builtin; refine wpList_append_R tyP (fun _ => True) _ rfl (.tmp 65) (.tmp 70) rfl (.slice a1 Y1.length c1) _ _ Y1 [((z1, z2, z3), (z4, z5, z6), z7, z8, z9)] rfl rfl (((Hid.out HI3).on (al _ _)).t.rc) (RdN.newAt cH _ _ _ _ _ (by simp) rfl trivial) (by have := HLC.out; first | omega | (rw [← (Hid.out HY1)]; simp; omega)) (by simp) Y2 HY2.out ?_; intro a2 c2 w4 ho hm; have HI4 : Hid (Ib w w4 (.slice (some ⟨gb, 0, none⟩) gn gc) (.slice la ln lc) (.slice a2 Y2.length c2) G R Y2 xb ((y1, y2, y3), (y4, y5, y6), y7, y8, y9)) := ((Hid.out HI3).on (al _ _)).app ho hm; clear ho hm)
                  | (at_builtin; refine wpList_append_R tyP (fun _ => True) _ rfl (.tmp 61) (.tmp 63) rfl (.slice ca cn cc) _ _ C [((y1, y2, y3), (y4, y5, y6), y7, y8, y9)] rfl rfl (((Hid.out HI2).on (al _ _)).t.rc) (RdN.newAt cH _ _ _ _ _ (by simp) rfl trivial) (by have := HLC.out; first | omega | (rw [← (Hid.out HY1)]; simp; omega)) (by simp) Y1 HY1.out ?_; intro a1 c1 w3 ho hm; have HI3 : Hid (Ib w w3 (.slice (some ⟨gb, 0, none⟩) gn gc) (.slice la ln lc) (.slice a1 Y1.length c1) G R Y1 xb ((y1, y2, y3), (y4, y5, y6), y7, y8, y9)) := ((Hid.out HI2).on (al _ _)).app ho hm; obtain ⟨gb', eg', lg2, u0, u1, u2, u3, u4, u5, u6, u7, u8⟩ := (Hid.out HI3).t.t.ra.held (Hid.out HGX).1 (Hid.out HGX).2; simp only [Option.some.injEq, Addr.mk.injEq, and_true] at eg'; subst eg'; dsimp only at u0 u1 u2 u3 u4 u5 u6 u7 u8; clear ho hm))
                go_roundw
                case rel => exact ⟨k + 1, Y2.length, c2, a2, true, Y2, by go_num, by omega, rfl, rfl, HI4, HJ3⟩
                case measure => simp [intOf]; omega
              · have hrd : decide (r < 0) = false := by simpa using hr0
                have HJ2 := HJ.out.past hkg hgx (by show klt (y1, y2, y3) (z1, z2, z3) = false; rw [hkl, hrd])
                obtain ⟨Y2, hY2⟩ : ∃ Y2, C ++ [((z1, z2, z3), (z4, z5, z6), z7, z8, z9)] = Y2 := ⟨_, rfl⟩
                rw [hY2] at HJ2
                have HJ3 : Hid (Jn G ((y1, y2, y3), (y4, y5, y6), y7, y8, y9) T (k + 1) false Y2) := HJ2
                have HY2 : Hid (C ++ [((z1, z2, z3), (z4, z5, z6), z7, z8, z9)] = Y2) := hY2
                clear HJ2 hY2 hr hkl hgx hkg HJ
                go_wp2_with fail
                go_region_held3 (fun w' => w'.cell? ⟨xb, 0, none⟩ = some (.int .i64 y1) ∧ w'.cell? ⟨xb, 1, none⟩ = some (.int .i64 y2) ∧ w'.cell? ⟨xb, 2, none⟩ = some (.int .i64 y3) ∧ w'.cell? ⟨gb, k * 9, none⟩ = some (.int .i64 z1) ∧ w'.cell? ⟨gb, k * 9 + 1, none⟩ = some (.int .i64 z2) ∧ w'.cell? ⟨gb, k * 9 + 2, none⟩ = some (.int .i64 z3)) (first | (go_keep; done) | exact Hid.out KEEP) (first
                  | (go_at_call 23; refine (Hid.out HCM).mono ?_; rintro e w2 ⟨rfl, hb2⟩; have HI2 : Hid (Ib w w2 (.slice (some ⟨gb, 0, none⟩) gn gc) (.slice la ln lc) (.slice ca cn cc) G R C xb ((y1, y2, y3), (y4, y5, y6), y7, y8, y9)) := (Hid.out HI).on hb2; have KEEP : Hid (w2.cell? ⟨xb, 0, none⟩ = some (.int .i64 y1) ∧ w2.cell? ⟨xb, 1, none⟩ = some (.int .i64 y2) ∧ w2.cell? ⟨xb, 2, none⟩ = some (.int .i64 y3) ∧ w2.cell? ⟨gb, k * 9, none⟩ = some (.int .i64 z1) ∧ w2.cell? ⟨gb, k * 9 + 1, none⟩ = some (.int .i64 z2) ∧ w2.cell? ⟨gb, k * 9 + 2, none⟩ = some (.int .i64 z3)) := Hid.out HS14 w2 hb2; obtain ⟨gb', eg', lg2, u0, u1, u2, u3, u4, u5, u6, u7, u8⟩ := (Hid.out HI2).t.t.ra.held (Hid.out HGX).1 (Hid.out HGX).2; simp only [Option.some.injEq, Addr.mk.injEq, and_true] at eg'; subst eg'; dsimp only at u0 u1 u2 u3 u4 u5 u6 u7 u8; clear hb2 HCM))
                go_wp2_with (at_builtin; refine wpList_append_R tyP (fun _ => True) _ rfl (.tmp 65) (.tmp 70) rfl (.slice ca cn cc) _ _ C [((z1, z2, z3), (z4, z5, z6), z7, z8, z9)] rfl rfl (((Hid.out HI2).on (al _ _)).t.rc) (RdN.newAt cH _ _ _ _ _ (by simp) rfl trivial) (by have := HLC.out; first | omega | (rw [← (Hid.out HY1)]; simp; omega)) (by simp) Y2 HY2.out ?_; intro a2 c2 w4 ho hm; have HI4 : Hid (Ib w w4 (.slice (some ⟨gb, 0, none⟩) gn gc) (.slice la ln lc) (.slice a2 Y2.length c2) G R Y2 xb ((y1, y2, y3), (y4, y5, y6), y7, y8, y9)) := ((Hid.out HI2).on (al _ _)).app ho hm; clear ho hm)
                go_roundw
                case rel => exact ⟨k + 1, Y2.length, c2, a2, false, Y2, by go_num, by omega, rfl, rfl, HI4, HJ3⟩
                case measure => simp [intOf]; omega
            · have HJ2 := HJ.out.on hkg hgx
              obtain ⟨Y2, hY2⟩ : ∃ Y2, C ++ [((z1, z2, z3), (z4, z5, z6), z7, z8, z9)] = Y2 := ⟨_, rfl⟩
              rw [hY2] at HJ2
              have HJ3 : Hid (Jn G ((y1, y2, y3), (y4, y5, y6), y7, y8, y9) T (k + 1) true Y2) := HJ2
              have HY2 : Hid (C ++ [((z1, z2, z3), (z4, z5, z6), z7, z8, z9)] = Y2) := hY2
              have HGX : Hid (k < G.length ∧ nth cH G k = ((z1, z2, z3), (z4, z5, z6), z7, z8, z9)) := ⟨hkg, hgx⟩
              clear HJ2 hY2 hgx hkg HJ
              go_wp2_with fail
              go_quiet (fail)
              obtain ⟨w2, hw2⟩ : ∃ w2, wr.drewN nq = w2 := ⟨_, rfl⟩
              have hbd : Below wr.heap.size wr w2 := by rw [← hw2]; exact ⟨rfl, rfl, rfl, Nat.le_refl _, fun _ _ => rfl⟩
              rw [hw2]
              have HI2 : Hid (Ib w w2 (.slice (some ⟨gb, 0, none⟩) gn gc) (.slice la ln lc) (.slice ca cn cc) G R C xb ((y1, y2, y3), (y4, y5, y6), y7, y8, y9)) := HI.out.on hbd
              obtain ⟨gb', eg', lg2, u0, u1, u2, u3, u4, u5, u6, u7, u8⟩ := HI2.out.t.t.ra.held HGX.out.1 HGX.out.2
              simp only [Option.some.injEq, Addr.mk.injEq, and_true] at eg'
              subst eg'
              dsimp only at u0 u1 u2 u3 u4 u5 u6 u7 u8
              clear hw2 hbd
              go_wp2_with (at_builtin; refine wpList_append_R tyP (fun _ => True) _ rfl (.tmp 65) (.tmp 70) rfl (.slice ca cn cc) _ _ C [((z1, z2, z3), (z4, z5, z6), z7, z8, z9)] rfl rfl (((Hid.out HI2).on (al _ _)).t.rc) (RdN.newAt cH _ _ _ _ _ (by simp) rfl trivial) (by have := HLC.out; first | omega | (rw [← (Hid.out HY1)]; simp; omega)) (by simp) Y2 HY2.out ?_; intro a2 c2 w4 ho hm; have HI4 : Hid (Ib w w4 (.slice (some ⟨gb, 0, none⟩) gn gc) (.slice la ln lc) (.slice a2 Y2.length c2) G R Y2 xb ((y1, y2, y3), (y4, y5, y6), y7, y8, y9)) := ((Hid.out HI2).on (al _ _)).app ho hm; clear ho hm)
              go_roundw
              case rel => exact ⟨k + 1, Y2.length, c2, a2, true, Y2, by go_num, by omega, rfl, rfl, HI4, HJ3⟩
              case measure => simp [intOf]; omega
          · have hkn' : ¬ (k : Int) < (gn : Int) := by omega
            have hkl : G.length ≤ k := by rw [HGN.out]; omega
            cases d
            · have HY2 : Hid (C ++ [((y1, y2, y3), (y4, y5, y6), y7, y8, y9)] = T) := HJ.out.endF hkl
              clear HJ hkl
              go_wp2_with (at_builtin; refine wpList_append_R tyP (fun _ => True) _ rfl (.tmp 74) (.tmp 76) rfl (.slice ca cn cc) _ _ C [((y1, y2, y3), (y4, y5, y6), y7, y8, y9)] rfl rfl (((Hid.out HI).on (al _ _)).t.rc) (RdN.newAt cH _ _ _ _ _ (by simp) rfl trivial) (by have := HLC.out; first | omega | (rw [← (Hid.out HY1)]; simp; omega)) (by simp) T HY2.out ?_; intro a2 c2 w4 ho hm; have HI4 : Hid (Ib w w4 (.slice ga gn gc) (.slice la ln lc) (.slice a2 T.length c2) G R T xb ((y1, y2, y3), (y4, y5, y6), y7, y8, y9)) := ((Hid.out HI).on (al _ _)).app ho hm; clear ho hm)
              go_roundw
              case rel => exact ⟨i + 1, a2, la, T.length, c2, ln, lc, T, R, by go_num, by omega, rfl, rfl, HI4.out.t.over, HE2.out⟩
              case measure => simp [intOf]; omega
            · have hC := HJ.out.endT hkl
              subst hC
              have HT5 : Hid (T2 cH 58 cH 58 w wr (.slice ca cn cc) (.slice la ln lc) C R) := HI.out.t.over
              clear HJ hkl HI
              go_wp2
              go_roundw
              case rel => exact ⟨i + 1, ca, la, cn, cc, ln, lc, C, R, by go_num, by omega, rfl, rfl, HT5, HE2⟩
              case measure => simp [intOf]; omega
      · have hyd : decide (y1 < t) = false := by simpa using hyt
        have hyn : t ≤ y1 := by omega
        rw [hyd] at e1 e2
        simp only [Bool.false_eq_true, if_false] at e1 e2
        obtain ⟨Y, hY⟩ : ∃ Y, R ++ [((y1, y2, y3), (y4, y5, y6), y7, y8, y9)] = Y := ⟨_, rfl⟩
        rw [hY] at e2
        have HE2 : Hid (G = Stb.isort leH ((L.take (i + 1)).filter (low t)) ∧ Y = (L.take (i + 1)).filter (fun x => !low t x)) := ⟨e1.symm, e2.symm⟩
        have HY : Hid (R ++ [((y1, y2, y3), (y4, y5, y6), y7, y8, y9)] = Y) := hY
        have HLX : Hid (G.length + R.length ≤ i) := hlens
        clear e1 e2 hx hil hY hlo hyd hlens HE
        go_wp2_with (at_builtin; refine wpList_append_R tyP (fun _ => True) _ rfl (.tmp 37) (.tmp 39) rfl (.slice la ln lc) _ _ R [((y1, y2, y3), (y4, y5, y6), y7, y8, y9)] rfl rfl ((((Hid.out HT).on (al _ _)).on (al _ _)).rb) (RdN.newAt cH _ _ _ _ _ (by simp) rfl trivial) (by have := HLX.out; omega) (by simp) Y HY.out ?_; intro a' c' w3 ho hm; have HT3 : Hid (T2 cH 58 cH 58 w w3 (.slice ga gn gc) (.slice a' Y.length c') G Y) := (((((Hid.out HT).on (al _ _)).on (al _ _)).flip).app ho hm).flip; clear ho hm)
        go_roundw
        case rel => exact ⟨i + 1, ga, a', gn, gc, Y.length, c', G, Y, by go_num, by omega, rfl, rfl, HT3.out, HE2.out⟩
        case measure => simp [intOf]; omega
    · obtain rfl : i = n := by omega
      have hE := HE.out
      rw [List.take_of_length_le (by rw [HN.out]; exact Nat.le_refl _)] at hE
      have HER : Hid (R = L.filter (fun x => !low t x)) := hE.2
      have HEO : Hid (msgs G = openG t L) := by show _ = _; rw [hE.1]; rfl
      have HOM : Hid (Om w (wr.alloc (.cells #[] 30)) (.slice ga gn gc) (.slice la ln lc) (.slice (some ⟨wr.heap.size, 0, none⟩) 0 0) G R []) := Om.start HT.out
      have HGN : Hid (G.length = gn) := HT.out.ra.look.1.symm
      have hgn : gn ≤ 256 := by rw [← HGN.out]; omega
      clear hE HE HT hlens
      go_wp2
      clear g1 gf gbl g0 g0f
      go_loopw [12, 13] (fun s12 s13 wr => ∃ (k : Nat) (oa : Option Addr) (oc : Nat), s13 = .int .i64 k ∧ k ≤ gn ∧ s12 = .slice oa k oc ∧ Hid (Om w wr (.slice ga gn gc) (.slice la ln lc) (.slice oa k oc) G R (msgs (G.take k)))) (fun _ s13 _ => gn - (intOf s13).toNat)
      case atStart => exact ⟨0, _, 0, rfl, Nat.zero_le _, rfl, HOM⟩
      case round =>
        clear HOM
        obtain ⟨k, oa, oc, rfl, hk, rfl, HO⟩ := hrel
        by_cases hkn : k < gn
        · have hkn' : (k : Int) < (gn : Int) := by omega
          have hkg : k < G.length := by rw [HGN.out]; exact hkn
          obtain ⟨⟨⟨z1, z2, z3⟩, ⟨z4, z5, z6⟩, z7, z8, z9⟩, hgx⟩ : ∃ x, nth cH G k = x := ⟨_, rfl⟩
          obtain ⟨gb, rfl, lgb, v0, v1, v2, v3, v4, v5, v6, v7, v8⟩ := HO.out.t.ra.held hkg hgx
          dsimp only at v0 v1 v2 v3 v4 v5 v6 v7 v8
          have hX : msgs (G.take k) ++ [((z4, z5, z6), z7, z8, z9)] = msgs (G.take (k + 1)) := by
            unfold msgs
            rw [List.take_add_one, List.map_append, List.getElem?_eq_getElem hkg]
            rw [nth_get hkg] at hgx
            simp [hgx]
          obtain ⟨Y, hXe⟩ : ∃ Y, Y = msgs (G.take (k + 1)) := ⟨_, rfl⟩
          rw [← hXe] at hX
          have HX : Hid (msgs (G.take k) ++ [((z4, z5, z6), z7, z8, z9)] = Y) := hX
          have HL : Hid (Y.length = k + 1) := by rw [hXe]; show (msgs (G.take (k + 1))).length = k + 1; rw [msgs_len, List.length_take]; omega
          have HXE : Hid (Y = msgs (G.take (k + 1))) := hXe
          clear hX hgx hXe hkg
          go_wp2_with (at_builtin; refine wpList_append_R tyM (fun _ => True) _ rfl (.tmp 86) (.tmp 92) rfl (.slice oa k oc) _ _ (msgs (G.take k)) [((z4, z5, z6), z7, z8, z9)] rfl rfl (((Hid.out HO).on (al _ _)).ro) (RdN.newAt cM _ _ _ _ _ (by simp) rfl trivial) (by rw [msgs_len, List.length_take]; omega) (by simp) Y HX.out ?_; intro a' c' w3 ho hm; have HO3 : Hid (Om w w3 (.slice (some ⟨gb, 0, none⟩) gn gc) (.slice la ln lc) (.slice a' Y.length c') G R Y) := ((Hid.out HO).on (al _ _)).app ho hm; clear ho hm)
          go_roundw
          case rel =>
            refine ⟨k + 1, a', c', by go_num, by omega, by rw [HL.out], ?_⟩
            have h1 : Om w w3 (.slice (some ⟨gb, 0, none⟩) gn gc) (.slice la ln lc) (.slice a' Y.length c') G R Y := HO3.out
            rw [HL.out, HXE.out] at h1
            exact h1
          case measure => simp [intOf]; omega
        · obtain rfl : k = gn := by omega
          have hO := HO.out
          rw [List.take_of_length_le (by rw [HGN.out]; exact Nat.le_refl _), HEO.out, HER.out] at hO
          obtain ⟨g1, gf, gbl, g0, g0f⟩ := HRD.out wr hO.t.bel
          have HO9 : Hid (Om w wr (.slice ga k gc) (.slice la ln lc) (.slice oa k oc) G (L.filter (fun x => !low t x)) (openG t L)) := hO
          clear hO HO
          go_wp2
          go_ret
          exact HFIN.out HO9.out
end Go.Proofs.Ytpkemgpnpadkfaa
