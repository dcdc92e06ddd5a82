/- Proved: to whom what goes, as plain data. -/
import Derived.Test.YtpifkoblcbjiiaaMrw
namespace Go.Proofs.Ytpifkoblcbjiiaa
open Go.RowKit Go.Shelf
set_option linter.unusedVariables false

/-- Does a federate hear a class? -/
def hrs (d : Wd) (c : Int) (f : Fd) : Bool := f.ss.any (fun x => decide (x ∈ abv d.ps c))
/-- Who hears what f sends, of the first n. -/
def rtsF (d : Wd) (f c : Int) (n : Nat) : List Int := ((List.range n).filter (fun i : Nat => decide (Int.ofNat i ≠ f) && hrs d c (nthF d.fs i))).map Int.ofNat
def rts (d : Wd) (f c : Int) : List Int := rtsF d f c d.fs.length
theorem rtsF_succ (d : Wd) (f c : Int) (n : Nat) : rtsF d f c (n + 1) = rtsF d f c n ++ (if (decide ((n : Int) ≠ f) && hrs d c (nthF d.fs n)) = true then [(n : Int)] else []) := by
  unfold rtsF
  rw [List.range_succ, List.filter_append, List.map_append]
  congr 1
  by_cases e : (decide ((n : Int) ≠ f) && hrs d c (nthF d.fs n)) = true
  · rw [if_pos e]
    have e' : (decide (Int.ofNat n ≠ f) && hrs d c (nthF d.fs n)) = true := e
    simp only [List.filter, e']
    rfl
  · rw [if_neg e]
    have e' : (decide (Int.ofNat n ≠ f) && hrs d c (nthF d.fs n)) = false := by simpa using e
    simp only [List.filter, e']
    rfl
theorem rtsF_yes {d : Wd} {f c : Int} {n : Nat} (h1 : (n : Int) ≠ f) (h2 : hrs d c (nthF d.fs n) = true) : rtsF d f c (n + 1) = rtsF d f c n ++ [(n : Int)] := by
  rw [rtsF_succ, decide_eq_true h1, h2]; rfl
theorem rtsF_own {d : Wd} {f c : Int} {n : Nat} (h1 : (n : Int) = f) : rtsF d f c (n + 1) = rtsF d f c n := by
  rw [rtsF_succ, decide_eq_false (p := (n : Int) ≠ f) (fun g => g h1)]; simp
theorem rtsF_not {d : Wd} {f c : Int} {n : Nat} (h2 : hrs d c (nthF d.fs n) = false) : rtsF d f c (n + 1) = rtsF d f c n := by
  rw [rtsF_succ, h2]; simp
theorem rtsF_len (d : Wd) (f c : Int) (n : Nat) : (rtsF d f c n).length ≤ n := by
  unfold rtsF
  rw [List.length_map]
  exact Nat.le_trans (List.length_filter_le _ _) (by simp)
theorem mem_rts {d : Wd} {f c t : Int} : t ∈ rts d f c ↔ ∃ i : Nat, i < d.fs.length ∧ t = (i : Int) ∧ t ≠ f ∧ hrs d c (nthF d.fs i) = true := by
  unfold rts rtsF
  simp only [List.mem_map, List.mem_filter, List.mem_range, Bool.and_eq_true, decide_eq_true_eq]
  constructor
  · rintro ⟨i, ⟨h1, h2, h3⟩, rfl⟩; exact ⟨i, h1, rfl, h2, h3⟩
  · rintro ⟨i, h1, rfl, h2, h3⟩; exact ⟨i, ⟨h1, h2, h3⟩, rfl⟩
theorem rts_nodup (d : Wd) (f c : Int) : (rts d f c).Nodup := by
  unfold rts rtsF
  refine List.Pairwise.map _ (fun a b h => ?_) (List.Pairwise.filter _ List.nodup_range)
  intro e
  exact h (Int.ofNat.inj e)
/-- The message of a send. -/
def sentM (f q n b : Int) (o : O) : M := ⟨vadd n o.2.1, f, q, -1, o.1, (b + o.2.2) % 1000⟩
def toM (m : M) (t : Int) : M := ⟨m.t, m.fr, m.sq, t, m.cl, m.bd⟩
/-- What the i-th send comes to. -/
def oneM (d : Wd) (f q n b : Int) (os : List O) (i : Nat) : List M := (rts d f (nthO os i).1).map (toM (sentM f (q + (i : Int)) n b (nthO os i)))
def sprF (d : Wd) (f q n b : Int) (os : List O) (k : Nat) : List M := (List.range k).flatMap (oneM d f q n b os)
def spr (d : Wd) (f q n b : Int) (os : List O) : List M := sprF d f q n b os os.length
theorem sprF_succ (d : Wd) (f q n b : Int) (os : List O) (k : Nat) : sprF d f q n b os (k + 1) = sprF d f q n b os k ++ oneM d f q n b os k := by
  unfold sprF
  rw [List.range_succ]
  simp
theorem oneM_len (d : Wd) (f q n b : Int) (os : List O) (i : Nat) : (oneM d f q n b os i).length ≤ d.fs.length := by
  unfold oneM
  rw [List.length_map]
  exact rtsF_len d f _ _
theorem sprF_len {d : Wd} {m : Nat} (hm : d.fs.length ≤ m) (f q n b : Int) (os : List O) (k : Nat) : (sprF d f q n b os k).length ≤ k * m := by
  induction k with
  | zero => simp [sprF]
  | succ k ih =>
    rw [sprF_succ, List.length_append]
    have := oneM_len d f q n b os k
    rw [Nat.add_mul]
    omega
def stsF (d : Wd) (k : Nat) : List M := (List.range k).flatMap (fun i : Nat => spr d (i : Int) 0 0 0 (nthF d.fs i).is)
def sts (d : Wd) : List M := stsF d d.fs.length
theorem stsF_succ (d : Wd) (k : Nat) : stsF d (k + 1) = stsF d k ++ spr d (k : Int) 0 0 0 (nthF d.fs k).is := by
  unfold stsF
  rw [List.range_succ]
  simp
theorem stsF_len {d : Wd} (hm : d.fs.length ≤ 20) (hl : ∀ f ∈ d.fs, LtF f) (k : Nat) (hk : k ≤ d.fs.length) : (stsF d k).length ≤ k * 400 := by
  induction k with
  | zero => simp [stsF]
  | succ k ih =>
    rw [stsF_succ, List.length_append]
    have h1 := ih (by omega)
    have h2 : (spr d (k : Int) 0 0 0 (nthF d.fs k).is).length ≤ (nthF d.fs k).is.length * 20 := sprF_len hm _ _ _ _ _ _
    have h3 := (hl _ (nthF_mem (i := k) (by omega))).i
    omega
end Go.Proofs.Ytpifkoblcbjiiaa
