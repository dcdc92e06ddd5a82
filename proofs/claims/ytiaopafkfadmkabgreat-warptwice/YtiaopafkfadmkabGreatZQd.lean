/- Joined: the texts that follow, each with its own sentence. -/
import Derived.Shelf.SlGeneric
import Derived.Shelf.SlSortCmp.NoneTotal
import Derived.Shelf.SlicesE.Clone
import Derived.Ground.SlsfProg
import Derived.Ground.SlgnProg
import Derived.Test.YtiaopafkfadmkabGreatProg
import Derived.Test.YtiaopafkfadmkabGreatZQc
/- Proved: contracts of the library (slices.SortFunc, slices.Clone), laid at this program by the command of the shelf, in plain words. -/
namespace Go.Proofs
open Go.Shelf
def Tryz.sortMsg_ren : Go.Shelf.Ren := ⟨fun | 6 => 105 | 15 => 130 | 14 => 129 | 28 => 155 | 29 => 156 | 20 => 147 | 21 => 148 | 22 => 149 | 23 => 150 | 24 => 151 | 25 => 152 | 26 => 153 | 27 => 154 | 46 => 164 | 47 => 165 | 48 => 166 | 49 => 167 | 50 => 168 | 57 => 169 | n => n, fun | 22 => 47 | 24 => 39 | 25 => 172 | 3 => 3 | 39 => 166 | 0 => 0 | 53 => 225 | 55 => 227 | 4 => 4 | 46 => 219 | 45 => 218 | 50 => 132 | 5 => 5 | 9 => 9 | 66 => 235 | 70 => 239 | 76 => 241 | 77 => 242 | n => n, fun | n => n⟩
theorem Tryz.sortMsg : Go.Proofs.SlLaysF0.n6 Tryz.prog Tryz.sortMsg_ren := {
  mixed := by kernel_rfl
  f6 := ⟨Tryz.f105.name, by decide, Tryz.func105.trans (congrArg some (by kernel_rfl))⟩
  f14 := ⟨Tryz.f129.name, by decide, Tryz.func129.trans (congrArg some (by kernel_rfl))⟩
  f15 := Tryz.func130.trans (congrArg some (by kernel_rfl))
  f20 := ⟨Tryz.f147.name, by decide, Tryz.func147.trans (congrArg some (by kernel_rfl))⟩
  f21 := ⟨Tryz.f148.name, by decide, Tryz.func148.trans (congrArg some (by kernel_rfl))⟩
  f22 := ⟨Tryz.f149.name, by decide, Tryz.func149.trans (congrArg some (by kernel_rfl))⟩
  f23 := ⟨Tryz.f150.name, by decide, Tryz.func150.trans (congrArg some (by kernel_rfl))⟩
  f24 := ⟨Tryz.f151.name, by decide, Tryz.func151.trans (congrArg some (by kernel_rfl))⟩
  f25 := ⟨Tryz.f152.name, by decide, Tryz.func152.trans (congrArg some (by kernel_rfl))⟩
  f26 := ⟨Tryz.f153.name, by decide, Tryz.func153.trans (congrArg some (by kernel_rfl))⟩
  f27 := ⟨Tryz.f154.name, by decide, Tryz.func154.trans (congrArg some (by kernel_rfl))⟩
  f28 := Tryz.func155.trans (congrArg some (by kernel_rfl))
  f29 := Tryz.func156.trans (congrArg some (by kernel_rfl))
  f46 := ⟨Tryz.f164.name, by decide, Tryz.func164.trans (congrArg some (by kernel_rfl))⟩
  f47 := Tryz.func165.trans (congrArg some (by kernel_rfl))
  f48 := Tryz.func166.trans (congrArg some (by kernel_rfl))
  f49 := ⟨Tryz.f167.name, by decide, Tryz.func167.trans (congrArg some (by kernel_rfl))⟩
  f50 := ⟨Tryz.f168.name, by decide, Tryz.func168.trans (congrArg some (by kernel_rfl))⟩
  f57 := ⟨Tryz.f169.name, by decide, Tryz.func169.trans (congrArg some (by kernel_rfl))⟩
  t0 := Tryz.underlying0
  a0 := Tryz.isAgg0
  z0 := Tryz.sizeOf0
  v0 := Tryz.zeroValue0
  t3 := Tryz.underlying3
  a3 := Tryz.isAgg3
  z3 := Tryz.sizeOf3
  v3 := Tryz.zeroValue3
  t4 := Tryz.underlying4
  a4 := Tryz.isAgg4
  z4 := Tryz.sizeOf4
  v4 := Tryz.zeroValue4
  t5 := Tryz.underlying5
  a5 := Tryz.isAgg5
  z5 := Tryz.sizeOf5
  v5 := Tryz.zeroValue5
  t9 := Tryz.underlying9
  a9 := Tryz.isAgg9
  z9 := Tryz.sizeOf9
  v9 := Tryz.zeroValue9
  t22 := Tryz.underlying47
  a22 := Tryz.isAgg47
  z22 := Tryz.sizeOf47
  v22 := Tryz.zeroValue47
  t25 := Tryz.underlying172
  a25 := Tryz.isAgg172
  z25 := Tryz.sizeOf172
  v25 := Tryz.zeroValue172
  t39 := Tryz.underlying166
  a39 := Tryz.isAgg166
  z39 := Tryz.sizeOf166
  v39 := Tryz.zeroValue166
  t45 := Tryz.underlying218
  a45 := Tryz.isAgg218
  z45 := Tryz.sizeOf218
  v45 := Tryz.zeroValue218
  t46 := Tryz.underlying219
  a46 := Tryz.isAgg219
  z46 := Tryz.sizeOf219
  v46 := Tryz.zeroValue219
  t50 := Tryz.underlying132
  a50 := Tryz.isAgg132
  z50 := Tryz.sizeOf132
  v50 := Tryz.zeroValue132
  t53 := Tryz.underlying225
  a53 := Tryz.isAgg225
  z53 := Tryz.sizeOf225
  v53 := Tryz.zeroValue225
  t55 := Tryz.underlying227
  a55 := Tryz.isAgg227
  z55 := Tryz.sizeOf227
  v55 := Tryz.zeroValue227
  t66 := Tryz.underlying235
  a66 := Tryz.isAgg235
  z66 := Tryz.sizeOf235
  v66 := Tryz.zeroValue235
  t70 := Tryz.underlying239
  a70 := Tryz.isAgg239
  z70 := Tryz.sizeOf239
  v70 := Tryz.zeroValue239
  t76 := Tryz.underlying241
  a76 := Tryz.isAgg241
  z76 := Tryz.sizeOf241
  v76 := Tryz.zeroValue241
  t77 := Tryz.underlying242
  a77 := Tryz.isAgg242
  z77 := Tryz.sizeOf242
  v77 := Tryz.zeroValue242 }
def Tryz.cloneMsg_ren : Go.Shelf.Ren := ⟨fun | 41 => 72 | n => n, fun | 22 => 47 | 23 => 39 | 4 => 4 | n => n, fun | n => n⟩
theorem Tryz.cloneMsg : Go.Proofs.SlLaysE0.n41 Tryz.prog Tryz.cloneMsg_ren := {
  mixed := by kernel_rfl
  f41 := ⟨Tryz.f72.name, by decide, Tryz.func72.trans (congrArg some (by kernel_rfl))⟩
  t4 := Tryz.underlying4
  a4 := Tryz.isAgg4
  z4 := Tryz.sizeOf4
  v4 := Tryz.zeroValue4
  t22 := Tryz.underlying47
  a22 := Tryz.isAgg47
  z22 := Tryz.sizeOf47
  v22 := Tryz.zeroValue47 }
end Go.Proofs
/- Proved: contracts of prio's inOrder and of a Queue's List; how one message is put behind others. -/
namespace Go.Proofs.YtiaopafkfadmkabGreat.Q
open Go.RowKit Go.Sort
set_option linter.unusedVariables false
set_option maxRecDepth 100000

def cfM (x y : M) : Int := kcmp x.1 y.1
theorem ltOf_cfM (x y : M) : ltOf cfM x y = klt x.1 y.1 := rfl
theorem swoM : SWO (ltOf cfM) where
  irrefl x := klt_irrefl _
  trans x y z h1 h2 := klt_trans h1 h2
  ntrans x y z h1 h2 := kle_trans h2 h1
theorem cmpLaysM (blk off size : Nat) (w : World) : CmpLays Tryz.prog 106 #[] enc 6 cfM blk off size w := fun _ _ _ _ x y => byKey_any x y _
theorem isAgg30 : ∀ w, (isAgg 39).run Tryz.prog w = .ok true w := Tryz.isAgg39
theorem sizeOf30 : ∀ w, (Go.sizeOf 39).run Tryz.prog w = .ok 6 w := Tryz.sizeOf39

set_option maxHeartbeats 1000000 in
theorem sortFunc_any {w : World} {v : Value} {l : List M} (h : Own w v l) (hn : (l.map Prod.fst).Nodup) (hlen : l.length ≤ 100000) :
    Calls Tryz.prog 105 #[v, .func (.func 106) #[] #[]] w fun e w' => e = .returned (.tuple #[]) ∧ ∃ l', Own w' v l' ∧ l'.Perm l ∧ Srt l' ∧ Fr (fun k => v.ownBlock = some k) w w' := by
  cases l with
  | nil =>
    obtain ⟨a, cap, rfl, _⟩ := h.rd
    have hcon := AnyF.slices_SortFunc_none Tryz.sortMsg a cap (.func (.func 106) #[] #[]) w
    refine Calls.mono (P := Tryz.prog) (f := 105) hcon ?_
    rintro e w' ⟨rfl, rfl⟩
    exact ⟨rfl, [], h, List.Perm.refl _, List.Pairwise.nil, Fr.refl _ _⟩
  | cons x r =>
    obtain ⟨g, cap, rfl, hg⟩ := own_nonempty h (i := 0) (by simp)
    have eg : ∀ args w, (callFunc 106 args).run Tryz.prog w = .ok (.enter 106 args) w := enters_of Tryz.func106 (by kernel_rfl) rfl
    have hcon := AnyQ.slices_SortFunc Tryz.sortMsg 6 isAgg30 sizeOf30 enc enc_len enc_one cfM swoM 106 #[] g 0 cap (x :: r).toArray w eg (cmpLaysM g 0 _ w) h.holds hg (by simp at hlen ⊢; omega)
    refine Calls.mono (P := Tryz.prog) (f := 105) hcon ?_
    rintro e w' ⟨rfl, d', n, os, hp, hs, rfl⟩
    obtain ⟨hp1, _, hp3⟩ := hp
    have hsz : d'.size = (x :: r).length := by simpa using hp1
    have hperm : d'.toList.Perm (x :: r) := by
      have e1 : (d'.extract 0 (x :: r).toArray.size).toList = d'.toList := by rw [← hp1]; simp
      rw [e1] at hp3
      simpa using hp3
    have hl' : d'.toList.length = (x :: r).length := hperm.length_eq
    refine ⟨rfl, d'.toList, ?_, hperm, ?_, ?_⟩
    · have h1 := h.put (d' := d'.toList) hl' n
      rw [hl'] at h1
      exact h1.keep (S := fun _ => False) (Fr.of_below (below_grow _ 0 os)) (fun _ _ g => g)
    · refine srt_of_sorted ((hperm.map Prod.fst).nodup_iff.2 hn) ?_
      rw [List.pairwise_iff_getElem]
      intro i j hi hj hij
      have := hs i j (Nat.zero_le _) hij (by simpa [hsz] using hj)
      rw [getElem!_pos d' j (by simpa using hj), getElem!_pos d' i (by simpa using hi), ltOf_cfM] at this
      simpa using this
    · have f1 : Fr (fun k => k = g) w (putRowK enc 6 (Sort.ahead w n) g 0 d') := fr_mapBlock w n g _
      exact (f1.wide (S' := fun k => (Value.slice (some ⟨g, 0, none⟩) (x :: r).length cap).ownBlock = some k) (fun k hk => by subst hk; rfl)).then (Fr.of_below (below_grow _ 0 os))

set_option maxHeartbeats 1000000 in
theorem inOrder_any {w : World} {v : Value} {l : List M} (h : Own w v l) (hn : (l.map Prod.fst).Nodup) (hlen : l.length ≤ 100000) :
    Calls Tryz.prog 71 #[v] w fun e w' => e = .returned v ∧ ∃ l', Own w' v l' ∧ l'.Perm l ∧ Srt l' ∧ Fr (fun k => v.ownBlock = some k) w w' := by
  have H := sortFunc_any h hn hlen
  obtain ⟨a, cap, rfl, _⟩ := h.rd
  go_enter Tryz.func71, Tryz.ntmps71
  go_wp2_with (go_at_call 105; refine H.mono ?_; rintro e w' ⟨rfl, hR⟩)
  go_ret
  exact ⟨rfl, hR⟩

set_option maxHeartbeats 1000000 in
theorem clone_any {w : World} {v : Value} {l : List M} (h : Own w v l) (hlen : l.length ≤ 100000) :
    Calls Tryz.prog 72 #[v] w fun e w' => ∃ v', e = .returned v' ∧ Own w' v' l ∧ (∀ k, v'.ownBlock = some k → w.heap.size ≤ k) ∧ Below w.heap.size w w' := by
  have h0 := h
  rcases h.2 with ⟨rfl, hn⟩ | ⟨g, cap, cur, rfl, _, hg, hnc, hcm, hcs, ht⟩
  · have hl : l = [] := List.length_eq_zero_iff.1 hn
    subst hl
    have hcon := AnyE.slices_Clone_nil Tryz.cloneMsg 0 0 w
    refine Calls.mono (P := Tryz.prog) (f := 72) hcon ?_
    rintro e w' ⟨rfl, rfl⟩
    exact ⟨_, rfl, h0, fun k hk => by simp [Value.ownBlock] at hk, Below.refl _ _⟩
  · obtain ⟨i0, hi0, hz0, hz1, hz2⟩ := info_parts info30
    have hcon := AnyE.slices_Clone Tryz.cloneMsg i0 (mv zeroM) 6 48 hi0 hz0 hz1 hz2 rfl (by decide) sizeOf30 g 0 l.length cap (flat l) w (flat_len l) (by unfold maxLen; omega) (by omega)
      (fun j u hj => by
        have hj' : j < l.length * 6 := by have := (List.getElem?_eq_some_iff.1 hj).1; rwa [flat_len] at this
        rw [Nat.zero_add, World.ownsRow.cellAt h0 j hj', hj]) (flat_one_cell l)
    refine Calls.mono (P := Tryz.prog) (f := 72) hcon ?_
    rintro e w' ⟨v', rfl, ho, _, hb⟩
    have ho1 := ho.1
    have ho2 := ho.2
    refine ⟨v', rfl, ⟨ho1, ?_⟩, ?_, hb⟩
    · rcases ho2 with h1 | ⟨g', cap', cur', e1, e2, e3⟩
      · exact .inl h1
      · exact .inr ⟨g', cap', cur', e1, Nat.zero_le _, e3⟩
    · intro k hk
      rcases ho2 with ⟨rfl, _⟩ | ⟨g', cap', cur', rfl, e2, e3⟩
      · simp [Value.ownBlock] at hk
      · simp [Value.ownBlock] at hk
        subst hk
        exact e2

set_option maxHeartbeats 1000000 in
theorem list_any {w : World} {F : Nat → Prop} {qb room : Nat} {s : List M} (h : IsQ w F qb room s) :
    Calls Tryz.prog 37 #[.pointer (some ⟨qb, 0, none⟩)] w fun e w' => ∃ v, e = .returned v ∧ Own w' v s ∧ (∀ k, v.ownBlock = some k → w.heap.size ≤ k) ∧ Below w.heap.size w w' := by
  obtain ⟨pb, mb, v, d, c0, c1, hp, ho, hpm, hs, hq, hr, hl, rfl⟩ := h
  have C := clone_any hp.own (by have := hp.len; omega)
  have hn := hp.nd
  have hlen := hp.len
  have p0 := hp.c0
  obtain ⟨a, cap, rfl, _⟩ := hp.own.rd
  have HP : Hid (IsP w pb mb (.slice a d.length cap) d) := hp
  clear hp
  go_enter Tryz.func37, Tryz.ntmps37
  go_wp2_with fail
  refine C.mono ?_
  rintro e w1 ⟨v1, rfl, h1, s1, b1⟩
  have I := inOrder_any h1 hn (by omega)
  obtain ⟨a1, cap1, rfl, _⟩ := h1.rd
  go_wp2_with fail
  refine I.mono ?_
  rintro e w2 ⟨rfl, l', h2, hp2, hs2, f2⟩
  go_wp2_with fail
  go_ret
  have e1 : l' = s := srt_unique hs2 hs (hp2.trans hpm)
  subst e1
  refine ⟨_, rfl, h2, s1, ?_⟩
  exact b1.trans (f2.below b1.size s1)
end Go.Proofs.YtiaopafkfadmkabGreat.Q
