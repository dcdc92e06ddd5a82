/- Proved: contracts of prio's inOrder and of a Queue's List; how one message is put behind others. -/
import Derived.Test.YtadmojehemdoaaaGreatQQueue3
import Derived.Test.YtadmojehemdoaaaGreatQShelf
namespace Go.Proofs.YtadmojehemdoaaaGreat.Q
open Go.RowKit Go.Sort
set_option linter.unusedVariables false
set_option maxRecDepth 100000

def cfM (x y : M) : Int := kcmp x.1 y.1
theorem ltOf_cfM (x y : M) : ltOf cfM x y = klt x.1 y.1 := rfl
theorem swoM : SWO (ltOf cfM) where
  irrefl x := klt_irrefl _
  trans x y z h1 h2 := klt_trans h1 h2
  ntrans x y z h1 h2 := kle_trans h2 h1
theorem cmpLaysM (blk off size : Nat) (w : World) : CmpLays Tryz.prog 121 #[] enc 6 cfM blk off size w := fun _ _ _ _ x y => byKey_any x y _
theorem isAgg30 : ∀ w, (isAgg 39).run Tryz.prog w = .ok true w := Tryz.isAgg39
theorem sizeOf30 : ∀ w, (Go.sizeOf 39).run Tryz.prog w = .ok 6 w := Tryz.sizeOf39

set_option maxHeartbeats 1000000 in
theorem sortFunc_any {w : World} {v : Value} {l : List M} (h : Own w v l) (hn : (l.map Prod.fst).Nodup) (hlen : l.length ≤ 100000) :
    Calls Tryz.prog 120 #[v, .func (.func 121) #[] #[]] w fun e w' => e = .returned (.tuple #[]) ∧ ∃ l', Own w' v l' ∧ l'.Perm l ∧ Srt l' ∧ Fr (fun k => v.ownBlock = some k) w w' := by
  cases l with
  | nil =>
    obtain ⟨a, cap, rfl, _⟩ := h.rd
    have hcon := AnyF.slices_SortFunc_none Tryz.sortMsg a cap (.func (.func 121) #[] #[]) w
    refine Calls.mono (P := Tryz.prog) (f := 120) hcon ?_
    rintro e w' ⟨rfl, rfl⟩
    exact ⟨rfl, [], h, List.Perm.refl _, List.Pairwise.nil, Fr.refl _ _⟩
  | cons x r =>
    obtain ⟨g, cap, rfl, hg⟩ := own_nonempty h (i := 0) (by simp)
    have eg : ∀ args w, (callFunc 121 args).run Tryz.prog w = .ok (.enter 121 args) w := enters_of Tryz.func121 (by kernel_rfl) rfl
    have hcon := AnyQ.slices_SortFunc Tryz.sortMsg 6 isAgg30 sizeOf30 enc enc_len enc_one cfM swoM 121 #[] g 0 cap (x :: r).toArray w eg (cmpLaysM g 0 _ w) h.holds hg (by simp at hlen ⊢; omega)
    refine Calls.mono (P := Tryz.prog) (f := 120) hcon ?_
    rintro e w' ⟨rfl, d', n, os, hp, hs, rfl⟩
    obtain ⟨hp1, _, hp3⟩ := hp
    have hsz : d'.size = (x :: r).length := by simpa using hp1
    have hperm : d'.toList.Perm (x :: r) := by
      have e1 : (d'.extract 0 (x :: r).toArray.size).toList = d'.toList := by rw [← hp1]; simp
      rw [e1] at hp3
      simpa using hp3
    have hl' : d'.toList.length = (x :: r).length := hperm.length_eq
    refine ⟨rfl, d'.toList, ?_, hperm, ?_, ?_⟩
    · have h1 := h.put (d' := d'.toList) hl' n
      rw [hl'] at h1
      exact h1.keep (S := fun _ => False) (Fr.of_below (below_grow _ 0 os)) (fun _ _ g => g)
    · refine srt_of_sorted ((hperm.map Prod.fst).nodup_iff.2 hn) ?_
      rw [List.pairwise_iff_getElem]
      intro i j hi hj hij
      have := hs i j (Nat.zero_le _) hij (by simpa [hsz] using hj)
      rw [getElem!_pos d' j (by simpa using hj), getElem!_pos d' i (by simpa using hi), ltOf_cfM] at this
      simpa using this
    · have f1 : Fr (fun k => k = g) w (putRowK enc 6 (Sort.ahead w n) g 0 d') := fr_mapBlock w n g _
      exact (f1.wide (S' := fun k => (Value.slice (some ⟨g, 0, none⟩) (x :: r).length cap).ownBlock = some k) (fun k hk => by subst hk; rfl)).then (Fr.of_below (below_grow _ 0 os))

set_option maxHeartbeats 1000000 in
theorem inOrder_any {w : World} {v : Value} {l : List M} (h : Own w v l) (hn : (l.map Prod.fst).Nodup) (hlen : l.length ≤ 100000) :
    Calls Tryz.prog 88 #[v] w fun e w' => e = .returned v ∧ ∃ l', Own w' v l' ∧ l'.Perm l ∧ Srt l' ∧ Fr (fun k => v.ownBlock = some k) w w' := by
  have H := sortFunc_any h hn hlen
  obtain ⟨a, cap, rfl, _⟩ := h.rd
  go_enter Tryz.func88, Tryz.ntmps88
  go_wp2_with (go_at_call 120; refine H.mono ?_; rintro e w' ⟨rfl, hR⟩)
  go_ret
  exact ⟨rfl, hR⟩

set_option maxHeartbeats 1000000 in
theorem clone_any {w : World} {v : Value} {l : List M} (h : Own w v l) (hlen : l.length ≤ 100000) :
    Calls Tryz.prog 89 #[v] w fun e w' => ∃ v', e = .returned v' ∧ Own w' v' l ∧ (∀ k, v'.ownBlock = some k → w.heap.size ≤ k) ∧ Below w.heap.size w w' := by
  have h0 := h
  rcases h.2 with ⟨rfl, hn⟩ | ⟨g, cap, cur, rfl, _, hg, hnc, hcm, hcs, ht⟩
  · have hl : l = [] := List.length_eq_zero_iff.1 hn
    subst hl
    have hcon := AnyE.slices_Clone_nil Tryz.cloneMsg 0 0 w
    refine Calls.mono (P := Tryz.prog) (f := 89) hcon ?_
    rintro e w' ⟨rfl, rfl⟩
    exact ⟨_, rfl, h0, fun k hk => by simp [Value.ownBlock] at hk, Below.refl _ _⟩
  · obtain ⟨i0, hi0, hz0, hz1, hz2⟩ := info_parts info30
    have hcon := AnyE.slices_Clone Tryz.cloneMsg i0 (mv zeroM) 6 48 hi0 hz0 hz1 hz2 rfl (by decide) sizeOf30 g 0 l.length cap (flat l) w (flat_len l) (by unfold maxLen; omega) (by omega)
      (fun j u hj => by
        have hj' : j < l.length * 6 := by have := (List.getElem?_eq_some_iff.1 hj).1; rwa [flat_len] at this
        rw [Nat.zero_add, World.ownsRow.cellAt h0 j hj', hj]) (flat_one_cell l)
    refine Calls.mono (P := Tryz.prog) (f := 89) hcon ?_
    rintro e w' ⟨v', rfl, ho, _, hb⟩
    have ho1 := ho.1
    have ho2 := ho.2
    refine ⟨v', rfl, ⟨ho1, ?_⟩, ?_, hb⟩
    · rcases ho2 with h1 | ⟨g', cap', cur', e1, e2, e3⟩
      · exact .inl h1
      · exact .inr ⟨g', cap', cur', e1, Nat.zero_le _, e3⟩
    · intro k hk
      rcases ho2 with ⟨rfl, _⟩ | ⟨g', cap', cur', rfl, e2, e3⟩
      · simp [Value.ownBlock] at hk
      · simp [Value.ownBlock] at hk
        subst hk
        exact e2

set_option maxHeartbeats 1000000 in
theorem list_any {w : World} {F : Nat → Prop} {qb room : Nat} {s : List M} (h : IsQ w F qb room s) :
    Calls Tryz.prog 55 #[.pointer (some ⟨qb, 0, none⟩)] w fun e w' => ∃ v, e = .returned v ∧ Own w' v s ∧ (∀ k, v.ownBlock = some k → w.heap.size ≤ k) ∧ Below w.heap.size w w' := by
  obtain ⟨pb, mb, v, d, c0, c1, hp, ho, hpm, hs, hq, hr, hl, rfl⟩ := h
  have C := clone_any hp.own (by have := hp.len; omega)
  have hn := hp.nd
  have hlen := hp.len
  have p0 := hp.c0
  obtain ⟨a, cap, rfl, _⟩ := hp.own.rd
  have HP : Hid (IsP w pb mb (.slice a d.length cap) d) := hp
  clear hp
  go_enter Tryz.func55, Tryz.ntmps55
  go_wp2_with fail
  refine C.mono ?_
  rintro e w1 ⟨v1, rfl, h1, s1, b1⟩
  have I := inOrder_any h1 hn (by omega)
  obtain ⟨a1, cap1, rfl, _⟩ := h1.rd
  go_wp2_with fail
  refine I.mono ?_
  rintro e w2 ⟨rfl, l', h2, hp2, hs2, f2⟩
  go_wp2_with fail
  go_ret
  have e1 : l' = s := srt_unique hs2 hs (hp2.trans hpm)
  subst e1
  refine ⟨_, rfl, h2, s1, ?_⟩
  exact b1.trans (f2.below b1.size s1)
end Go.Proofs.YtadmojehemdoaaaGreat.Q
