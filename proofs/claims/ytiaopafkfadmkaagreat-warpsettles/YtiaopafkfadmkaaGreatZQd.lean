/- Joined: the texts that follow, each with its own sentence. -/
import Derived.Shelf.SlGeneric
import Derived.Shelf.SlSortCmp.NoneTotal
import Derived.Shelf.SlicesE.Clone
import Derived.Ground.SlsfProg
import Derived.Ground.SlgnProg
import Derived.Test.YtiaopafkfadmkaaGreatProg
import Derived.Test.YtiaopafkfadmkaaGreatZQc
set_option linter.unusedVariables false
set_option maxRecDepth 100000
namespace Go.Proofs
open Go.Shelf
def Tryz.sortMsg_ren : Go.Shelf.Ren := ⟨fun | 6 => 167 | 15 => 193 | 14 => 192 | 28 => 219 | 29 => 220 | 20 => 211 | 21 => 212 | 22 => 213 | 23 => 214 | 24 => 215 | 25 => 216 | 26 => 217 | 27 => 218 | 46 => 228 | 47 => 229 | 48 => 230 | 49 => 231 | 50 => 232 | 57 => 233 | n => n, fun | 22 => 53 | 24 => 39 | 25 => 220 | 3 => 3 | 39 => 214 | 0 => 0 | 53 => 269 | 55 => 271 | 4 => 4 | 46 => 263 | 45 => 262 | 50 => 111 | 5 => 5 | 9 => 9 | 66 => 279 | 70 => 283 | 76 => 285 | 77 => 286 | n => n, fun | n => n⟩
theorem Tryz.sortMsg : Go.Proofs.SlLaysF0.n6 Tryz.prog Tryz.sortMsg_ren := {
 mixed := by kernel_rfl
 f6 := ⟨Tryz.f167.name, by decide, Tryz.func167.trans (congrArg some (by kernel_rfl))⟩
 f14 := ⟨Tryz.f192.name, by decide, Tryz.func192.trans (congrArg some (by kernel_rfl))⟩
 f15 := Tryz.func193.trans (congrArg some (by kernel_rfl))
 f20 := ⟨Tryz.f211.name, by decide, Tryz.func211.trans (congrArg some (by kernel_rfl))⟩
 f21 := ⟨Tryz.f212.name, by decide, Tryz.func212.trans (congrArg some (by kernel_rfl))⟩
 f22 := ⟨Tryz.f213.name, by decide, Tryz.func213.trans (congrArg some (by kernel_rfl))⟩
 f23 := ⟨Tryz.f214.name, by decide, Tryz.func214.trans (congrArg some (by kernel_rfl))⟩
 f24 := ⟨Tryz.f215.name, by decide, Tryz.func215.trans (congrArg some (by kernel_rfl))⟩
 f25 := ⟨Tryz.f216.name, by decide, Tryz.func216.trans (congrArg some (by kernel_rfl))⟩
 f26 := ⟨Tryz.f217.name, by decide, Tryz.func217.trans (congrArg some (by kernel_rfl))⟩
 f27 := ⟨Tryz.f218.name, by decide, Tryz.func218.trans (congrArg some (by kernel_rfl))⟩
 f28 := Tryz.func219.trans (congrArg some (by kernel_rfl))
 f29 := Tryz.func220.trans (congrArg some (by kernel_rfl))
 f46 := ⟨Tryz.f228.name, by decide, Tryz.func228.trans (congrArg some (by kernel_rfl))⟩
 f47 := Tryz.func229.trans (congrArg some (by kernel_rfl))
 f48 := Tryz.func230.trans (congrArg some (by kernel_rfl))
 f49 := ⟨Tryz.f231.name, by decide, Tryz.func231.trans (congrArg some (by kernel_rfl))⟩
 f50 := ⟨Tryz.f232.name, by decide, Tryz.func232.trans (congrArg some (by kernel_rfl))⟩
 f57 := ⟨Tryz.f233.name, by decide, Tryz.func233.trans (congrArg some (by kernel_rfl))⟩
 t0 := Tryz.underlying0
 a0 := Tryz.isAgg0
 z0 := Tryz.sizeOf0
 v0 := Tryz.zeroValue0
 t3 := Tryz.underlying3
 a3 := Tryz.isAgg3
 z3 := Tryz.sizeOf3
 v3 := Tryz.zeroValue3
 t4 := Tryz.underlying4
 a4 := Tryz.isAgg4
 z4 := Tryz.sizeOf4
 v4 := Tryz.zeroValue4
 t5 := Tryz.underlying5
 a5 := Tryz.isAgg5
 z5 := Tryz.sizeOf5
 v5 := Tryz.zeroValue5
 t9 := Tryz.underlying9
 a9 := Tryz.isAgg9
 z9 := Tryz.sizeOf9
 v9 := Tryz.zeroValue9
 t22 := Tryz.underlying53
 a22 := Tryz.isAgg53
 z22 := Tryz.sizeOf53
 v22 := Tryz.zeroValue53
 t25 := Tryz.underlying220
 a25 := Tryz.isAgg220
 z25 := Tryz.sizeOf220
 v25 := Tryz.zeroValue220
 t39 := Tryz.underlying214
 a39 := Tryz.isAgg214
 z39 := Tryz.sizeOf214
 v39 := Tryz.zeroValue214
 t45 := Tryz.underlying262
 a45 := Tryz.isAgg262
 z45 := Tryz.sizeOf262
 v45 := Tryz.zeroValue262
 t46 := Tryz.underlying263
 a46 := Tryz.isAgg263
 z46 := Tryz.sizeOf263
 v46 := Tryz.zeroValue263
 t50 := Tryz.underlying111
 a50 := Tryz.isAgg111
 z50 := Tryz.sizeOf111
 v50 := Tryz.zeroValue111
 t53 := Tryz.underlying269
 a53 := Tryz.isAgg269
 z53 := Tryz.sizeOf269
 v53 := Tryz.zeroValue269
 t55 := Tryz.underlying271
 a55 := Tryz.isAgg271
 z55 := Tryz.sizeOf271
 v55 := Tryz.zeroValue271
 t66 := Tryz.underlying279
 a66 := Tryz.isAgg279
 z66 := Tryz.sizeOf279
 v66 := Tryz.zeroValue279
 t70 := Tryz.underlying283
 a70 := Tryz.isAgg283
 z70 := Tryz.sizeOf283
 v70 := Tryz.zeroValue283
 t76 := Tryz.underlying285
 a76 := Tryz.isAgg285
 z76 := Tryz.sizeOf285
 v76 := Tryz.zeroValue285
 t77 := Tryz.underlying286
 a77 := Tryz.isAgg286
 z77 := Tryz.sizeOf286
 v77 := Tryz.zeroValue286 }
def Tryz.cloneMsg_ren : Go.Shelf.Ren := ⟨fun | 41 => 131 | n => n, fun | 22 => 53 | 23 => 39 | 4 => 4 | n => n, fun | n => n⟩
theorem Tryz.cloneMsg : Go.Proofs.SlLaysE0.n41 Tryz.prog Tryz.cloneMsg_ren := {
 mixed := by kernel_rfl
 f41 := ⟨Tryz.f131.name, by decide, Tryz.func131.trans (congrArg some (by kernel_rfl))⟩
 t4 := Tryz.underlying4
 a4 := Tryz.isAgg4
 z4 := Tryz.sizeOf4
 v4 := Tryz.zeroValue4
 t22 := Tryz.underlying53
 a22 := Tryz.isAgg53
 z22 := Tryz.sizeOf53
 v22 := Tryz.zeroValue53 }
end Go.Proofs
namespace Go.Proofs.YtiaopafkfadmkaaGreat.Q
open Go.RowKit Go.Sort
def cfM (x y : M) : Int := kcmp x.1 y.1
theorem ltOf_cfM (x y : M) : ltOf cfM x y = klt x.1 y.1 := rfl
theorem swoM : SWO (ltOf cfM) where
 irrefl x := klt_irrefl _
 trans x y z h1 h2 := klt_trans h1 h2
 ntrans x y z h1 h2 := kle_trans h2 h1
theorem cmpLaysM (blk off size : Nat) (w : World) : CmpLays Tryz.prog 168 #[] enc 6 cfM blk off size w := fun _ _ _ _ x y => byKey_any x y _
theorem isAgg30 : ∀ w, (isAgg 39).run Tryz.prog w = .ok true w := Tryz.isAgg39
theorem sizeOf30 : ∀ w, (Go.sizeOf 39).run Tryz.prog w = .ok 6 w := Tryz.sizeOf39
set_option maxHeartbeats 1000000 in
theorem sortFunc_any {w : World} {v : Value} {l : List M} (h : Own w v l) (hn : (l.map Prod.fst).Nodup) (hlen : l.length ≤ 100000) :
  Calls Tryz.prog 167 #[v, .func (.func 168) #[] #[]] w fun e w' => e = .returned (.tuple #[]) ∧ ∃ l', Own w' v l' ∧ l'.Perm l ∧ Srt l' ∧ Fr (fun k => v.ownBlock = some k) w w' := by
 cases l with
 | nil =>
  obtain ⟨a, cap, rfl, _⟩ := h.rd
  have hcon := AnyF.slices_SortFunc_none Tryz.sortMsg a cap (.func (.func 168) #[] #[]) w
  refine Calls.mono (P := Tryz.prog) (f := 167) hcon ?_
  rintro e w' ⟨rfl, rfl⟩
  exact ⟨rfl, [], h, List.Perm.refl _, List.Pairwise.nil, Fr.refl _ _⟩
 | cons x r =>
  obtain ⟨g, cap, rfl, hg⟩ := own_nonempty h (i := 0) (by simp)
  have eg : ∀ args w, (callFunc 168 args).run Tryz.prog w = .ok (.enter 168 args) w := enters_of Tryz.func168 (by kernel_rfl) rfl
  have hcon := AnyQ.slices_SortFunc Tryz.sortMsg 6 isAgg30 sizeOf30 enc enc_len enc_one cfM swoM 168 #[] g 0 cap (x :: r).toArray w eg (cmpLaysM g 0 _ w) h.holds hg (by simp at hlen ⊢; omega)
  refine Calls.mono (P := Tryz.prog) (f := 167) hcon ?_
  rintro e w' ⟨rfl, d', n, os, hp, hs, rfl⟩
  obtain ⟨hp1, _, hp3⟩ := hp
  have hsz : d'.size = (x :: r).length := by simpa using hp1
  have hperm : d'.toList.Perm (x :: r) := by
   have e1 : (d'.extract 0 (x :: r).toArray.size).toList = d'.toList := by rw [← hp1]; simp
   rw [e1] at hp3
   simpa using hp3
  have hl' : d'.toList.length = (x :: r).length := hperm.length_eq
  refine ⟨rfl, d'.toList, ?_, hperm, ?_, ?_⟩
  ·have h1 := h.put (d' := d'.toList) hl' n
   rw [hl'] at h1
   exact h1.keep (S := fun _ => False) (Fr.of_below (below_grow _ 0 os)) (fun _ _ g => g)
  ·refine srt_of_sorted ((hperm.map Prod.fst).nodup_iff.2 hn) ?_
   rw [List.pairwise_iff_getElem]
   intro i j hi hj hij
   have := hs i j (Nat.zero_le _) hij (by simpa [hsz] using hj)
   rw [getElem!_pos d' j (by simpa using hj), getElem!_pos d' i (by simpa using hi), ltOf_cfM] at this
   simpa using this
  ·have f1 : Fr (fun k => k = g) w (putRowK enc 6 (Sort.ahead w n) g 0 d') := fr_mapBlock w n g _
   exact (f1.wide (S' := fun k => (Value.slice (some ⟨g, 0, none⟩) (x :: r).length cap).ownBlock = some k) (fun k hk => by subst hk; rfl)).then (Fr.of_below (below_grow _ 0 os))
set_option maxHeartbeats 1000000 in
theorem inOrder_any {w : World} {v : Value} {l : List M} (h : Own w v l) (hn : (l.map Prod.fst).Nodup) (hlen : l.length ≤ 100000) :
  Calls Tryz.prog 130 #[v] w fun e w' => e = .returned v ∧ ∃ l', Own w' v l' ∧ l'.Perm l ∧ Srt l' ∧ Fr (fun k => v.ownBlock = some k) w w' := by
 have H := sortFunc_any h hn hlen
 obtain ⟨a, cap, rfl, _⟩ := h.rd
 go_enter Tryz.func130, Tryz.ntmps130
 go_wp2_with (go_at_call 167; refine H.mono ?_; rintro e w' ⟨rfl, hR⟩)
 go_ret
 exact ⟨rfl, hR⟩
set_option maxHeartbeats 1000000 in
theorem clone_any {w : World} {v : Value} {l : List M} (h : Own w v l) (hlen : l.length ≤ 100000) :
  Calls Tryz.prog 131 #[v] w fun e w' => ∃ v', e = .returned v' ∧ Own w' v' l ∧ (∀ k, v'.ownBlock = some k → w.heap.size ≤ k) ∧ Below w.heap.size w w' := by
 have h0 := h
 rcases h.2 with ⟨rfl, hn⟩ | ⟨g, cap, cur, rfl, _, hg, hnc, hcm, hcs, ht⟩
 ·have hl : l = [] := List.length_eq_zero_iff.1 hn
  subst hl
  have hcon := AnyE.slices_Clone_nil Tryz.cloneMsg 0 0 w
  refine Calls.mono (P := Tryz.prog) (f := 131) hcon ?_
  rintro e w' ⟨rfl, rfl⟩
  exact ⟨_, rfl, h0, fun k hk => by simp [Value.ownBlock] at hk, Below.refl _ _⟩
 ·obtain ⟨i0, hi0, hz0, hz1, hz2⟩ := info_parts info30
  have hcon := AnyE.slices_Clone Tryz.cloneMsg i0 (mv zeroM) 6 48 hi0 hz0 hz1 hz2 rfl (by decide) sizeOf30 g 0 l.length cap (flat l) w (flat_len l) (by unfold maxLen; omega) (by omega)
   (fun j u hj => by
    have hj' : j < l.length * 6 := by have := (List.getElem?_eq_some_iff.1 hj).1; rwa [flat_len] at this
    rw [Nat.zero_add, World.ownsRow.cellAt h0 j hj', hj]) (flat_one_cell l)
  refine Calls.mono (P := Tryz.prog) (f := 131) hcon ?_
  rintro e w' ⟨v', rfl, ho, _, hb⟩
  have ho1 := ho.1
  have ho2 := ho.2
  refine ⟨v', rfl, ⟨ho1, ?_⟩, ?_, hb⟩
  ·rcases ho2 with h1 | ⟨g', cap', cur', e1, e2, e3⟩
   ·exact .inl h1
   ·exact .inr ⟨g', cap', cur', e1, Nat.zero_le _, e3⟩
  ·intro k hk
   rcases ho2 with ⟨rfl, _⟩ | ⟨g', cap', cur', rfl, e2, e3⟩
   ·simp [Value.ownBlock] at hk
   ·simp [Value.ownBlock] at hk
    subst hk
    exact e2
set_option maxHeartbeats 1000000 in
theorem list_any {w : World} {F : Nat → Prop} {qb room : Nat} {s : List M} (h : IsQ w F qb room s) :
  Calls Tryz.prog 84 #[.pointer (some ⟨qb, 0, none⟩)] w fun e w' => ∃ v, e = .returned v ∧ Own w' v s ∧ (∀ k, v.ownBlock = some k → w.heap.size ≤ k) ∧ Below w.heap.size w w' := by
 obtain ⟨pb, mb, v, d, c0, c1, hp, ho, hpm, hs, hq, hr, hl, rfl⟩ := h
 have C := clone_any hp.own (by have := hp.len; omega)
 have hn := hp.nd
 have hlen := hp.len
 have p0 := hp.c0
 obtain ⟨a, cap, rfl, _⟩ := hp.own.rd
 have HP : Hid (IsP w pb mb (.slice a d.length cap) d) := hp
 clear hp
 go_enter Tryz.func84, Tryz.ntmps84
 go_wp2_with fail
 refine C.mono ?_
 rintro e w1 ⟨v1, rfl, h1, s1, b1⟩
 have I := inOrder_any h1 hn (by omega)
 obtain ⟨a1, cap1, rfl, _⟩ := h1.rd
 go_wp2_with fail
 refine I.mono ?_
 rintro e w2 ⟨rfl, l', h2, hp2, hs2, f2⟩
 go_wp2_with fail
 go_ret
 have e1 : l' = s := srt_unique hs2 hs (hp2.trans hpm)
 subst e1
 refine ⟨_, rfl, h2, s1, ?_⟩
 exact b1.trans (f2.below b1.size s1)
end Go.Proofs.YtiaopafkfadmkaaGreat.Q
