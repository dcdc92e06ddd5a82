/- Proved: the contract of slices.SortFunc at messages. -/
import Derived.Test.YtjkcdkoomipfkaaOne
import Derived.Test.YtjkcdkoomipfkaaSwap3
import Derived.Test.YtjkcdkoomipfkaaShelf
namespace Go.Proofs.Ytjkcdkoomipfkaa
open Go.RowKit Go.Sort
set_option linter.unusedVariables false

def cfM (x y : M) : Int := kcmp x.1 y.1
theorem ltOf_cfM (x y : M) : ltOf cfM x y = klt x.1 y.1 := rfl
theorem swoM : SWO (ltOf cfM) where
  irrefl x := klt_irrefl _
  trans x y z h1 h2 := klt_trans h1 h2
  ntrans x y z h1 h2 := kle_trans h2 h1
/-- The function g compares messages by their keys, and makes new blocks alone. -/
def CmpM (g : Nat) : Prop := (∀ (x y : M) (w : World), Calls Try.prog g #[mv x, mv y] w fun e w' => e = .returned (.int .i64 (kcmp x.1 y.1)) ∧ ∃ q os, w' = grow (w.drewN q) os) ∧ ∀ args w, (callFunc g args).run Try.prog w = .ok (.enter g args) w
theorem cmpLaysM {f : Nat} (hc : CmpM f) (blk off size : Nat) (w : World) : CmpLays Try.prog f #[] enc 6 cfM blk off size w := fun _ _ _ _ x y => hc.1 x y _
theorem isAgg30 : ∀ w, (isAgg 32).run Try.prog w = .ok true w := Try.isAgg32
theorem sizeOf30 : ∀ w, (Go.sizeOf 32).run Try.prog w = .ok 6 w := Try.sizeOf32

set_option maxHeartbeats 1000000 in
theorem sortFunc_any {f : Nat} (hc : CmpM f) {w : World} {v : Value} {l : List M} (h : Own w v l) (hn : (l.map Prod.fst).Nodup) (hlen : l.length ≤ 100000) :
    Calls Try.prog 46 #[v, .func (.func f) #[] #[]] w fun e w' => e = .returned (.tuple #[]) ∧ ∃ l', Own w' v l' ∧ l'.Perm l ∧ Srt l' ∧ Fr (fun k => v.ownBlock = some k) w w' := by
  cases l with
  | nil =>
    obtain ⟨a, cap, rfl, _⟩ := h.rd
    have hcon := AnyF.slices_SortFunc_none Try.sortMsg a cap (.func (.func f) #[] #[]) w
    refine Calls.mono (P := Try.prog) (f := 46) hcon ?_
    rintro e w' ⟨rfl, rfl⟩
    exact ⟨rfl, [], h, List.Perm.refl _, List.Pairwise.nil, Fr.refl _ _⟩
  | cons x r =>
    obtain ⟨g, cap, rfl, hg⟩ := own_nonempty h (i := 0) (by simp)
    have hcon := AnyQ.slices_SortFunc Try.sortMsg 6 isAgg30 sizeOf30 enc enc_len enc_one cfM swoM f #[] g 0 cap (x :: r).toArray w hc.2 (cmpLaysM hc g 0 _ w) h.holds hg (by simp at hlen ⊢; omega)
    refine Calls.mono (P := Try.prog) (f := 46) hcon ?_
    rintro e w' ⟨rfl, d', n, os, hp, hs, rfl⟩
    obtain ⟨hp1, _, hp3⟩ := hp
    have hsz : d'.size = (x :: r).length := by simpa using hp1
    have hperm : d'.toList.Perm (x :: r) := by
      have e1 : (d'.extract 0 (x :: r).toArray.size).toList = d'.toList := by rw [← hp1]; simp
      rw [e1] at hp3
      simpa using hp3
    have hl' : d'.toList.length = (x :: r).length := hperm.length_eq
    refine ⟨rfl, d'.toList, ?_, hperm, ?_, ?_⟩
    · have h1 := h.put (d' := d'.toList) hl' n
      rw [hl'] at h1
      exact h1.keep (S := fun _ => False) (Fr.of_below (below_grow _ 0 os)) (fun _ _ g => g)
    · refine srt_of_sorted ((hperm.map Prod.fst).nodup_iff.2 hn) ?_
      rw [List.pairwise_iff_getElem]
      intro i j hi hj hij
      have := hs i j (Nat.zero_le _) hij (by simpa [hsz] using hj)
      rw [getElem!_pos d' j (by simpa using hj), getElem!_pos d' i (by simpa using hi), ltOf_cfM] at this
      simpa using this
    · have f1 : Fr (fun k => k = g) w (putRowK enc 6 (Sort.ahead w n) g 0 d') := fr_mapBlock w n g _
      exact (f1.wide (S' := fun k => (Value.slice (some ⟨g, 0, none⟩) (x :: r).length cap).ownBlock = some k) (fun k hk => by subst hk; rfl)).then (Fr.of_below (below_grow _ 0 os))

end Go.Proofs.Ytjkcdkoomipfkaa
