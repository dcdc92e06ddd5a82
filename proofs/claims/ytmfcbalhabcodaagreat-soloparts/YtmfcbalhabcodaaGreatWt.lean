/- Proved: contracts of the library's SortFunc at the pile, of the pile's list and of Waiting: what waits, in order. -/
import Derived.Test.YtmfcbalhabcodaaGreatLw0
import Derived.Test.YtmfcbalhabcodaaGreatShlf
namespace Go.Proofs.YtmfcbalhabcodaaGreat.H
open Go.RowKit Go.Sort Go.Shelf
set_option linter.unusedVariables false

theorem ltOf_cf (x y : M) : ltOf tcmp x y = klt x y := rfl
theorem swoM : SWO (ltOf tcmp) where
  irrefl x := klt_irrefl _
  trans x y z h1 h2 := klt_trans h1 h2
  ntrans x y z h1 h2 := kle_trans h2 h1
theorem cmpLaysM (blk off size : Nat) (w : World) : CmpLays Tryz.prog 65 #[] enc 6 tcmp blk off size w := fun _ _ _ _ x y => inTurn_t x y _
theorem isAggM : ∀ w, (isAgg 38).run Tryz.prog w = .ok true w := Tryz.isAgg38
theorem sizeOfM : ∀ w, (Go.sizeOf 38).run Tryz.prog w = .ok 6 w := Tryz.sizeOf38
theorem len_any (n : Nat) (hn : n ≤ 100000) (w : World) : Calls Tryz.prog 95 #[.int .u64 (n : Int)] w fun e w' => e = .returned (.int .i64 (Lib.bitLen n : Nat)) ∧ w' = w := by
  have h := Any.bits_Len (SlLaysF0.n15.bits (P := Tryz.prog) (ρ := Tryz.sortMsg_ren) { Tryz.sortMsg with }) (n : Int) w (by omega) (by omega)
  rw [Int.toNat_natCast] at h
  exact h

set_option maxRecDepth 100000 in
set_option maxHeartbeats 2000000 in
theorem sortFunc_any {w : World} {v : Value} {l : List M} (h : Own w v l) (hlen : l.length ≤ 100000) :
    Calls Tryz.prog 64 #[v, .func (.func 65) #[] #[]] w fun e w' => e = .returned (.tuple #[]) ∧ ∃ l', Own w' v l' ∧ l'.Perm l ∧ l'.Pairwise (fun a b => klt b a = false) ∧ Fr (fun k => v.ownBlock = some k) w w' := by
  have hl := len_any l.length hlen w
  have wr : IntKind.u64.wrap (l.length : Int) = l.length := by simp [IntKind.wrap, IntKind.bits, IntKind.signed]; omega
  cases l with
  | nil =>
    obtain ⟨a, cap, rfl, _⟩ := h.rd
    have hp0 := fun lim => AnyF.pdqsortCmpFunc_none Tryz.sortMsg a cap lim (.func (.func 65) #[] #[]) w
    have hp : ∀ lim : Int, Calls Tryz.prog 94 #[.slice a 0 cap, .int .i64 0, .int .i64 0, .int .i64 lim, .func (.func 65) #[] #[]] w fun e w' => e = .returned (.tuple #[]) ∧ w' = w := hp0
    have HO : Hid _ := h
    simp only [List.length_nil] at hl wr
    clear h hp0
    go_enter Tryz.func64, Tryz.ntmps64
    go_wp2_with fail
    refine hl.mono ?_
    rintro e w1 ⟨rfl, hw1⟩
    have hw1' := hw1.symm
    subst hw1'
    go_wp2_with fail
    refine (hp _).mono ?_
    rintro e w2 ⟨rfl, hw2⟩
    have hw2' := hw2.symm
    subst hw2'
    go_wp2_with fail
    go_end0
    exact ⟨rfl, [], HO.out, List.Perm.refl _, List.Pairwise.nil, Fr.refl _ _⟩
  | cons x r =>
    obtain ⟨g, cap, hv, hg⟩ := own_nonempty h (i := 0) (by simp)
    subst hv
    have eg : ∀ args w, (callFunc 65 args).run Tryz.prog w = .ok (.enter 65 args) w := enters_of Tryz.func65 (by kernel_rfl) rfl
    have hsz : (x :: r).toArray.size < 4611686018427387904 := by simp at hlen ⊢; omega
    have hlim : Lib.bitLen (x :: r).toArray.size < 4611686018427387904 := Nat.lt_of_le_of_lt (Lib.bitLen_le _ 62 (by omega) (by omega)) (by omega)
    have hp0 := AnyQ.pdqsortCmpFunc_all (P := Tryz.prog) (ρ := Tryz.sortMsg_ren) Tryz.sortMsg 6 isAggM sizeOfM enc tcmp 65 #[] swoM g 0 cap (x :: r).toArray w eg (cmpLaysM g 0 _ w) ⟨enc_len, enc_one, h.holds, hg⟩ ((x :: r).toArray.size + 1) 0 (x :: r).toArray.size (Lib.bitLen (x :: r).toArray.size) (x :: r).toArray w (by omega) rfl (SWK.start h.holds) (Nat.zero_le _) (Nat.le_refl _) hsz hlim (Or.inl rfl)
    have hp : Calls Tryz.prog 94 #[.slice (some ⟨g, 0, none⟩) (x :: r).length cap, .int .i64 0, .int .i64 ((x :: r).length : Int), .int .i64 (Lib.bitLen (x :: r).length : Nat), .func (.func 65) #[] #[]] w fun e w' => e = .returned (.tuple #[]) ∧ ∃ n os, w' = sortWorldK enc 6 w g 0 n (pdq (ltOf tcmp) (x :: r).toArray 0 (x :: r).toArray.size (Lib.bitLen (x :: r).toArray.size) true true) os := hp0
    have hso := pdq_sorts (ltOf tcmp) swoM (x :: r).toArray 0 (x :: r).toArray.size (Lib.bitLen (x :: r).toArray.size) true true (Nat.zero_le _) (Nat.le_refl _) (Or.inl rfl)
    obtain ⟨d', hd'⟩ : ∃ d', pdq (ltOf tcmp) (x :: r).toArray 0 (x :: r).toArray.size (Lib.bitLen (x :: r).toArray.size) true true = d' := ⟨_, rfl⟩
    rw [hd'] at hp hso
    obtain ⟨⟨hp1, _, hp3⟩, hs⟩ := hso
    have hsz2 : d'.size = (x :: r).length := by simpa using hp1
    have hperm : d'.toList.Perm (x :: r) := by
      have e1 : (d'.extract 0 (x :: r).toArray.size).toList = d'.toList := by rw [← hp1]; simp
      rw [e1] at hp3
      simpa using hp3
    have hl' : d'.toList.length = (x :: r).length := hperm.length_eq
    have HR : Hid (∀ n os, ∃ l', Own (sortWorldK enc 6 w g 0 n d' os) (.slice (some ⟨g, 0, none⟩) (x :: r).length cap) l' ∧ l'.Perm (x :: r) ∧ l'.Pairwise (fun a b => klt b a = false) ∧ Fr (fun k => (Value.slice (some ⟨g, 0, none⟩) (x :: r).length cap).ownBlock = some k) w (sortWorldK enc 6 w g 0 n d' os)) := fun n os => by
      refine ⟨d'.toList, ?_, hperm, ?_, ?_⟩
      · have h1 := h.put (d' := d'.toList) hl' n
        rw [hl'] at h1
        exact h1.keep (S := fun _ => False) (Fr.of_below (below_grow _ 0 os)) (fun _ _ g => g)
      · rw [List.pairwise_iff_getElem]
        intro i j hi hj hij
        have := hs i j (Nat.zero_le _) hij (by simpa [hsz2] using hj)
        rw [getElem!_pos d' j (by simpa using hj), getElem!_pos d' i (by simpa using hi), ltOf_cf] at this
        simpa using this
      · have f1 : Fr (fun k => k = g) w (putRowK enc 6 (Sort.ahead w n) g 0 d') := fr_mapBlock w n g _
        exact (f1.wide (S' := fun k => (Value.slice (some ⟨g, 0, none⟩) (x :: r).length cap).ownBlock = some k) (fun k hk => by subst hk; rfl)).then (Fr.of_below (below_grow _ 0 os))
    obtain ⟨n, hn⟩ : ∃ n, (x :: r).length = n := ⟨_, rfl⟩
    rw [hn] at hp hl wr HR ⊢
    have hn2 : n ≤ 100000 := by omega
    clear h hp0 hd' hp1 hp3 hs hsz2 hperm hl' hsz hlim hg hn hlen
    go_enter Tryz.func64, Tryz.ntmps64
    go_wp2_with fail
    refine hl.mono ?_
    rintro e w1 ⟨rfl, hw1⟩
    have hw1' := hw1.symm
    subst hw1'
    go_wp2_with fail
    refine hp.mono ?_
    rintro e w2 ⟨rfl, m, os, hw2⟩
    have hR := HR.out m os
    rw [← hw2] at hR
    clear hw2
    go_wp2_with fail
    go_end0
    exact ⟨rfl, hR⟩
end Go.Proofs.YtmfcbalhabcodaaGreat.H
namespace Go.Proofs.YtmfcbalhabcodaaGreat
open Go.RowKit Go.Shelf
set_option linter.unusedVariables false

theorem infoP : (Tryz.prog.info? 38).map (fun i => (i.zero, i.size, i.bytes)) = some (some (.agg #[.int .i64 0, .int .i64 0, .int .i64 0, .int .i64 0, .int .i64 0, .int .i64 0]), 6, 48) := by kernel_rfl

theorem appP (w : World) (a : Option Addr) (n c : Nat) (ys : List Value) (hlen : ys.length = n * 6) (hn : n ≤ 10000) (hone : ∀ v ∈ ys, v.oneCell' = true)
    (hc : n ≠ 0 → ∃ b off, a = some ⟨b, off, none⟩ ∧ b < w.heap.size ∧ ∀ j u, ys[j]? = some u → w.cell? ⟨b, off + j, none⟩ = some u) (ty : TypeId) :
    ∃ a' c' w', (Builtin.append_ #[67, 67] ty #[.slice (some ⟨w.heap.size, 0, none⟩) 0 0, .slice a n c]).run Tryz.prog (w.alloc (.cells #[] 38)) = .ok (.slice a' n c') w' ∧ w'.ownsRow w.heap.size 38 6 (.slice a' n c') n ys ∧ Below w.heap.size w w' := by
  obtain ⟨i0, hi0, hz0, hz1, hz2⟩ := info_parts infoP
  have hm : (w.alloc (.cells #[] 38)).ownsRow w.heap.size 38 6 (.slice (some ⟨w.heap.size, 0, none⟩) 0 0) 0 [] := World.ownsRow_made w #[] 0 (Nat.le_refl _) (Nat.zero_le _) (by simp)
  have hb := al w (.cells #[] 38)
  cases a with
  | none =>
    have h0 : n = 0 := Classical.byContradiction fun g => by
      obtain ⟨b, off, e, _⟩ := hc g
      cases e
    subst h0
    have hy : ys = [] := List.length_eq_zero_iff.1 (by omega)
    subst hy
    have hr := run_append_owned_none (P := Tryz.prog) _ w.heap.size 67 ty 38 i0 6 Tryz.underlying67 hi0 _ 0 [] hm
    exact ⟨_, _, _, (by first | exact hr | (have := hr; simpa using this)), hm, hb⟩
  | some ad =>
    obtain ⟨v', w', hr, h3, h4, h5, h6⟩ := run_append_own_at (P := Tryz.prog) _ w.heap.size 67 ty 38 i0 _ 6 48 Tryz.underlying67 hi0 hz0 hz1 hz2 rfl (by decide) _ 0 [] hm ad n c ys hlen (fun j u hj => by
      have hj' : j < n * 6 := by have := (List.getElem?_eq_some_iff.1 hj).1; omega
      obtain ⟨b, off, e, hB, hcc⟩ := hc (by intro e; simp [e] at hj')
      simp at e
      subst e
      rw [Addr.add_lit]
      exact (hb.cell (p := ⟨b, off + j, none⟩) hB).trans (hcc j u hj)) hone (by unfold maxLen; omega) (by omega) hb.size
    rw [Nat.zero_add, List.nil_append] at h3
    obtain ⟨a', c', rfl⟩ := shape_of h3
    exact ⟨a', c', w', hr, h3, hb.grown h4 hb.size (fun k e => by simp [Value.ownBlock] at e; omega)⟩
set_option maxRecDepth 100000 in
set_option maxHeartbeats 400000 in
theorem cloneP_any (w : World) (a : Option Addr) (n c : Nat) (ys : List Value) (hlen : ys.length = n * 6) (hn : n ≤ 10000) (hone : ∀ v ∈ ys, v.oneCell' = true)
    (hc : n ≠ 0 → ∃ b off, a = some ⟨b, off, none⟩ ∧ b < w.heap.size ∧ ∀ j u, ys[j]? = some u → w.cell? ⟨b, off + j, none⟩ = some u) :
    Calls Tryz.prog 63 #[.slice a n c] w fun e w' => ∃ a' c', e = .returned (.slice a' n c') ∧ w'.ownsRow w.heap.size 38 6 (.slice a' n c') n ys ∧ Below w.heap.size w w' := by
  have q22 : ∀ (w : World) (a : Option Addr) (n c n' c' : Nat), (binOp .eql 67 (.slice a n c) (.slice none n' c')).run Tryz.prog w = .ok (.bool a.isNone) w := fun w a n c n' c' => Lib.run_eql_slice_nil w _ _ a n c n' c' Tryz.underlying67
  cases a with
  | none =>
    have h0 : n = 0 := Classical.byContradiction fun g => by
      obtain ⟨b, off, e, _⟩ := hc g
      cases e
    subst h0
    have hy : ys = [] := List.length_eq_zero_iff.1 (by omega)
    subst hy
    clear hc hone hlen
    go_enter Tryz.func63, Tryz.ntmps63
    go_wp2
    go_ret
    exact ⟨_, _, rfl, World.ownsRow_nil _ _ _ _, Below.refl _ _⟩
  | some ad =>
    obtain ⟨a', c', w', hrun, ho, hb⟩ := appP w (some ad) n c ys hlen hn hone hc 67
    have HRUN : Hid _ := hrun
    clear hc hone hlen hrun
    go_enter Tryz.func63, Tryz.ntmps63
    go_wp2_with (at_builtin; refine wpList_append_run _ rfl _ _ 67 rfl rfl rfl HRUN.out ?_)
    go_ret
    exact ⟨_, _, rfl, ho, hb⟩

theorem own_base {w : World} {b0 e size n : Nat} {v : Value} {xs : List Value} (h : w.ownsRow 0 e size v n xs) (hb : ∀ k, v.ownBlock = some k → b0 ≤ k) : w.ownsRow b0 e size v n xs := by
  refine ⟨h.1, ?_⟩
  rcases h.2 with g | ⟨g, cap, cur, h1, h2, h3, h4⟩
  · exact .inl g
  · exact .inr ⟨g, cap, cur, h1, hb g (by rw [h1]; rfl), h3, h4⟩
theorem sorted_unique {l l' : List M} (hs : Srt l) (hp : l'.Perm l) (h : l'.Pairwise (fun a b => ahd b a = false)) : l' = l := by
  induction l generalizing l' with
  | nil => exact hp.eq_nil
  | cons x r ih =>
    cases l' with
    | nil => have := hp.length_eq; simp at this
    | cons y r' =>
      have hy : y ∈ x :: r := (hp.mem_iff).1 (by simp)
      have hx : x ∈ y :: r' := (hp.mem_iff).2 (by simp)
      have e : y = x := by
        rcases List.mem_cons.1 hy with e | hy
        · exact e
        · rcases List.mem_cons.1 hx with e | hx
          · exact e.symm
          · exfalso
            have h1 := (List.pairwise_cons.1 hs).1 y hy
            have h2 := (List.pairwise_cons.1 h).1 x hx
            have h3 := (ahd_iff x y).2 h1
            rw [h3] at h2
            cases h2
      subst e
      rw [ih (List.pairwise_cons.1 hs).2 ((List.perm_cons _).1 hp) (List.pairwise_cons.1 h).2]
theorem flat_toT (l : List M) : H.flat (l.map toT) = flatM l := by
  induction l with
  | nil => rfl
  | cons x r ih =>
    show H.enc (toT x) ++ H.flat (r.map toT) = encM x ++ flatM r
    rw [ih]
    rfl
set_option maxRecDepth 100000 in
set_option maxHeartbeats 1000000 in
theorem list_any {w : World} {pb : Nat} {v : Value} {wt : List M} (h : Pil w pb v wt) (hs : Srt wt) (hl : wt.length ≤ 10000) :
    Calls Tryz.prog 38 #[.pointer (some ⟨pb, 0, none⟩)] w fun e w' => ∃ a c, e = .returned (.slice a wt.length c) ∧ RowM w w' (.slice a wt.length c) wt := by
  have x0 := h.cell
  obtain ⟨d, h1, h2, h3⟩ := h
  have hdl : d.length = wt.length := h3.length_eq
  obtain ⟨a, cap, hv⟩ := shape_of h1.own
  rw [List.length_map] at hv
  subst hv
  have hown : w.ownsRow 0 38 6 (.slice a d.length cap) d.length (flatM d) := by
    have := h1.own
    unfold H.Own at this
    rw [flat_toT, List.length_map] at this
    exact this
  have K := cloneP_any w a d.length cap (flatM d) (flatM_len d) (by omega) (flatM_one d) (fun hn => by
    rcases hown.2 with ⟨e, h0⟩ | ⟨g, cap', cur, e, _, hg, _⟩
    · exact absurd h0 hn
    · simp at e
      obtain ⟨rfl, rfl⟩ := e
      refine ⟨g, 0, rfl, (Array.getElem?_eq_some_iff.1 hg).1, fun j u hj => ?_⟩
      have hj' : j < d.length * 6 := by have := (List.getElem?_eq_some_iff.1 hj).1; rwa [flatM_len] at this
      rw [Nat.zero_add, World.ownsRow.cellAt hown j hj', hj])
  have HP : Hid (d.Perm wt) := h3
  have HS : Hid _ := hs
  rw [hdl] at K x0
  obtain ⟨n, hn⟩ : ∃ n, wt.length = n := ⟨_, rfl⟩
  rw [hn] at K x0
  have HN : Hid _ := hn
  have HDN : Hid (d.length = n) := hdl.trans hn
  clear h1 h2 h3 hown hs hdl
  rw [hn]
  go_enter Tryz.func38, Tryz.ntmps38
  go_wp2_with fail
  refine K.mono ?_
  rintro e w1 ⟨a1, c1, rfl, ho, hb⟩
  have ho2 : H.Own w1 (.slice a1 n c1) (d.map toT) := by
    unfold H.Own
    rw [flat_toT, List.length_map, HDN.out]
    exact own_since ho (Nat.zero_le _)
  have C := H.sortFunc_any ho2 (by rw [List.length_map, HDN.out]; omega)
  have HGE : Hid (∀ k, (Value.slice a1 n c1).ownBlock = some k → w.heap.size ≤ k) := fun k hk => (own_lt ho hk).2
  have HB : Hid _ := hb
  clear K ho ho2 hb x0
  go_wp2_with fail
  refine C.mono ?_
  rintro e w2 ⟨rfl, l', q1, q2, q3, q4⟩
  have HR : Hid (RowM w w2 (.slice a1 n c1) wt) := by
    have e1 : l' = wt.map toT := by
      have p1 : (l'.map ofT).Perm wt := by
        have := q2.map ofT
        rw [map_of_to] at this
        exact this.trans HP.out
      have p2 : (l'.map ofT).Pairwise (fun a b => ahd b a = false) := by
        rw [List.pairwise_map]
        refine q3.imp fun {a b} hab => ?_
        rw [← klt_toT, to_of, to_of]
        exact hab
      have := sorted_unique HS.out p1 p2
      rw [← this, map_to_of]
    subst e1
    refine ⟨?_, (HB.out).trans (q4.below (HB.out).size HGE.out)⟩
    have q5 : w2.ownsRow 0 38 6 (.slice a1 n c1) wt.length (flatM wt) := by
      have := q1
      unfold H.Own at this
      rw [flat_toT, List.length_map] at this
      exact this
    exact own_base q5 HGE.out
  clear C q1 q2 q3 q4
  go_wp2_with fail
  go_ret
  exact ⟨_, _, rfl, HR.out⟩

set_option maxRecDepth 100000 in
set_option maxHeartbeats 400000 in
theorem waiting_any {w : World} {rb : Nat} {D : Wd} {r : Rn} {F : Nat → Prop} (h : RunF rb D r w F) (hl : r.dn.length ≤ 400) :
    Calls Tryz.prog 17 #[.pointer (some ⟨rb, 0, none⟩)] w fun e w' => ∃ a c, e = .returned (.slice a r.wt.length c) ∧ RowM w w' (.slice a r.wt.length c) r.wt := by
  obtain ⟨lo, hi, D', fv, pv, pb, E, hR, _⟩ := h
  obtain ⟨_, _, _, _, x4⟩ := hR.lay.cellsR
  have hs : Srt r.wt := by
    have h1 := hR.inv.srt
    unfold allR at h1
    exact (List.pairwise_append.1 h1).2.1
  have C := list_any hR.lay.pil hs (by have := hR.wl; omega)
  clear hR hs
  go_enter Tryz.func17, Tryz.ntmps17
  go_wp2_with fail
  refine C.mono ?_
  rintro e w1 ⟨a, c, rfl, h1⟩
  go_wp2_with fail
  go_ret
  exact ⟨_, _, rfl, h1⟩
theorem Lv.waiting {w0 : World} {rb : Nat} {D : Wd} {r : Rn} {W : World} (h : Lv w0 rb D r W) (hl : r.dn.length ≤ 400) :
    Calls Tryz.prog 17 #[.pointer (some ⟨rb, 0, none⟩)] W fun e w' => ∃ a c, e = .returned (.slice a r.wt.length c) ∧ RowM W w' (.slice a r.wt.length c) r.wt := by
  obtain ⟨F, h1, _⟩ := h
  exact waiting_any h1 hl
set_option maxRecDepth 100000 in
set_option maxHeartbeats 400000 in
theorem same_yes (w : World) (a b : Option Addr) (c d : Nat) (l : List M) (ha : RdM w a l) (hb : RdM w b l) (hl : l.length ≤ 100000) :
    Calls Tryz.prog 16 #[.slice a l.length c, .slice b l.length d] w fun e w' => e = .returned (.bool true) ∧ Below w.heap.size w w' := by
  have mixed : Tryz.prog.follows .mixedOrders = true := by kernel_rfl
  have HA : Hid _ := ha
  have HB : Hid _ := hb
  clear ha hb
  go_enter Tryz.func16, Tryz.ntmps16
  go_wp2_with fail
  go_loopw [5] (fun s5 wr => ∃ k : Nat, k ≤ l.length ∧ s5 = .int .i64 k ∧ Below w.heap.size w wr) (fun s5 _ => l.length - (intOf s5).toNat)
  case atStart => exact ⟨0, Nat.zero_le _, rfl, Below.refl _ _⟩
  case round =>
    obtain ⟨k, hk, rfl, hbw⟩ := hrel
    by_cases hkl : k < l.length
    · have hk' : (k : Int) < (l.length : Int) := by omega
      obtain ⟨x, hx⟩ : ∃ x, nthM l k = x := ⟨_, rfl⟩
      obtain ⟨b1, o1, rfl, _, x0, x1, x2, x3, x4, x5⟩ := (RdM.below HA.out hbw).cells hkl hx
      obtain ⟨b2, o2, rfl, _, y0, y1, y2, y3, y4, y5⟩ := (RdM.below HB.out hbw).cells hkl hx
      clear hx
      go_wp2_with fail
      go_quiet (fail)
      go_wp2
      go_roundw
      case rel => exact ⟨k + 1, by omega, by go_num, hbw.trans (below_drewN _ _ _)⟩
      case measure => simp [intOf]; omega
    · obtain rfl : k = l.length := by omega
      go_wp2
      go_ret
      exact ⟨rfl, hbw⟩
end Go.Proofs.YtmfcbalhabcodaaGreat
