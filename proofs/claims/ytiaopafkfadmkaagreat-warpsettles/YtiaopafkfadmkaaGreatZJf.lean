/- Joined: the texts that follow, each with its own sentence. -/
import Derived.Test.YtiaopafkfadmkaaGreatZJe
import Derived.Test.YtiaopafkfadmkaaGreatZJd
set_option linter.unusedVariables false
set_option maxRecDepth 100000
namespace Go.Proofs.YtiaopafkfadmkaaGreat
open Go.RowKit Go.Shelf
theorem al (w : World) (o : Obj) : Below w.heap.size w (w.alloc o) := (Below.refl _ w).alloc (Nat.le_refl _) _
def Apt (x y : M) : Prop := x.fr ≠ y.fr ∨ x.sq ≠ y.sq ∨ x.dst ≠ y.dst
theorem sprF_mem {d : Wd} {f q n b : Int} {os : List O} {k : Nat} {x : M} (h : x ∈ sprF d f q n b os k) : ∃ i, i < k ∧ x ∈ oneM d f q n b os i := by
 unfold sprF at h
 obtain ⟨i, hi, hx⟩ := List.mem_flatMap.1 h
 exact ⟨i, by simpa using hi, hx⟩
end Go.Proofs.YtiaopafkfadmkaaGreat
namespace Go.Proofs.YtiaopafkfadmkaaGreat
open Go.RowKit Go.Shelf
def InB (w : World) (a : Option Addr) (z : List Int) : Prop :=
 (∀ i, i < z.length → 0 ≤ nthI z i ∧ nthI z i ≤ 255) ∧ (z ≠ [] → ∃ b off, a = some ⟨b, off, none⟩ ∧ b < w.heap.size ∧ ∀ i, i < z.length → w.cell? ⟨b, off + i, none⟩ = some (.int .u8 (nthI z i)))
theorem fstE_zero {l : List Int} (h : fstE l = 0) : ∀ x ∈ l, x = 0 := by
 induction l with
 | nil => intro x hx; cases hx
 | cons a r ih =>
  simp only [fstE] at h
  split at h
  ·rename_i e
   intro x hx
   rcases List.mem_cons.1 hx with rfl | hx
   ·exact e
   ·exact ih h x hx
  ·exact absurd h ‹_›
theorem unl_zero {b : Bool} {e : Int} (he : e ≠ 0) (h : unl b e = 0) : b = true := by
 cases b
 ·exact absurd h he
 ·rfl
theorem fedsE_zero {m : Nat} {l : List Fd} {j : Nat} (h : (fedsE m j l).2 = 0) : ∀ f ∈ l, fedE f m = 0 := by
 induction l generalizing j with
 | nil => intro f hf; cases hf
 | cons a r ih =>
  simp only [fedsE] at h
  split at h
  ·rename_i e
   intro f hf
   rcases List.mem_cons.1 hf with rfl | hf
   ·exact e
   ·exact ih h f hf
  ·exact absurd h ‹_›
theorem wld_ok {D : Wd} {N : Int} (h : wldE D = (N, 0)) : OKT D.ps ∧ 1 ≤ D.fs.length ∧ D.fs.length ≤ 8 ∧ ∀ f ∈ D.fs, fedE f D.ps.length = 0 := by
 unfold wldE at h
 split at h
 ·rename_i e
  have e2 := fstE_zero (l := [chk D.ps, unl (wi D.en 0 1099511627776 && wi D.fs.length 1 8) 1]) e
  have h1 := e2 _ (by simp : chk D.ps ∈ _)
  have h2 := unl_zero (by decide) (e2 _ (by simp : unl (wi D.en 0 1099511627776 && wi D.fs.length 1 8) 1 ∈ _))
  rw [Bool.and_eq_true] at h2
  have h3 := of_decide_eq_true h2.2
  refine ⟨?_, by omega, by omega, fedsE_zero (j := 0) (by rw [h])⟩
  unfold chk at h1
  split at h1
  ·rename_i g; exact (okT_iff _).1 g
  ·cases h1
 ·rename_i e
  have := congrArg Prod.snd h
  exact absurd this e
theorem fed_ok {f : Fd} {m : Nat} (h : fedE f m = 0) : (1 ≤ f.lk ∧ f.lk ≤ 1048576) ∧ (∀ r ∈ f.rs, ∀ o ∈ r.os, o.1 ∈ f.ps ∧ f.lk ≤ o.2.1 ∧ o.2.1 ≤ 1048576) ∧ (∀ r ∈ f.rs, r.os.length ≤ 3) := by
 have h2 := fstE_zero (l := [unl (wi f.kd 0 1) 1, unl (wi f.lk 1 1048576) 80, unl (wi f.st 0 7) 70, chkE f.rs, unl (cls f.ps m && cls f.ss m) 81, rulsE f.ps f.lk m f.rs, unl (iniB f.ps f.is) 82]) h
 have hl := of_decide_eq_true (unl_zero (by decide) (h2 _ (by simp : unl (wi f.lk 1 1048576) 80 ∈ _)))
 have hc : chkE f.rs = 0 := h2 _ (by simp)
 have hr : rulsE f.ps f.lk m f.rs = 0 := h2 _ (by simp)
 have hall : ∀ r ∈ f.rs, okR r = true := by
  unfold chkE at hc
  split at hc
  ·rename_i g
   unfold chkB at g
   simp only [Bool.and_eq_true] at g
   exact List.all_eq_true.1 g.2.1
  ·cases hc
 refine ⟨hl, fun r hr' o ho => ?_, fun r hr' => ?_⟩
 ·have h3 : rulE f.ps f.lk m r = 0 := fstE_zero hr _ (List.mem_map.2 ⟨r, hr', rfl⟩)
  have h4 : sndsE f.ps f.lk r.os = 0 := fstE_zero h3 _ (by simp)
  have h5 : sndE f.ps f.lk o = 0 := fstE_zero h4 _ (List.mem_map.2 ⟨o, ho, rfl⟩)
  have h6 := fstE_zero h5
  have h7 := of_decide_eq_true (unl_zero (by decide) (h6 _ (by simp : unl (decide (o.1 ∈ f.ps)) 81 ∈ _)))
  have h8 := of_decide_eq_true (unl_zero (by decide) (h6 _ (by simp : unl (decide (f.lk ≤ o.2.1)) 80 ∈ _)))
  have h9 := hall r hr'
  unfold okR at h9
  simp only [Bool.and_eq_true] at h9
  have h10 := List.all_eq_true.1 h9.2.2.2.2 o ho
  unfold okO at h10
  simp only [Bool.and_eq_true] at h10
  have h11 := of_decide_eq_true h10.2.1
  exact ⟨h7, h8, by omega⟩
 ·have h9 := hall r hr'
  unfold okR at h9
  simp only [Bool.and_eq_true] at h9
  exact of_decide_eq_true h9.2.2.2.1
end Go.Proofs.YtiaopafkfadmkaaGreat
namespace Go.Proofs.YtiaopafkfadmkaaGreat
open Go.RowKit Go.Shelf
theorem rtsF_congr {D D' : Wd} (h1 : D'.ps = D.ps) (h : ∀ i, i < D.fs.length → (nthF D'.fs i).ss = (nthF D.fs i).ss) (f c : Int) (n : Nat) (hn : n ≤ D.fs.length) : rtsF D' f c n = rtsF D f c n := by
 induction n with
 | zero => rfl
 | succ n ih =>
  rw [rtsF_succ, rtsF_succ, ih (by omega)]
  have : hrs D' c (nthF D'.fs n) = hrs D c (nthF D.fs n) := by
   unfold hrs
   rw [h n (by omega), h1]
  rw [this]
abbrev xcs (D : Wd) (v : Value) : Array Value := #[.slice D.pa D.ps.length D.pc, v, .int .i64 D.en]
structure Kx (W1 : World) (XB : Nat) (D : Wd) (wr : World) (v : Value) (l : List Fd) : Prop where
 bel : Below W1.heap.size W1 wr
 sz : W1.heap.size = XB
 bx : wr.heap[XB]? = some (.cells (xcs D v) 25 (0, 0))
 row : wr.ownsRow (XB + 1) 77 7 v l.length (flatG l)
end Go.Proofs.YtiaopafkfadmkaaGreat
namespace Go.Proofs.YtiaopafkfadmkaaGreat
open Go.RowKit Go.Shelf
def ahP (a b : M) : Prop := a.t < b.t ∨ (a.t = b.t ∧ (a.fr < b.fr ∨ (a.fr = b.fr ∧ (a.sq < b.sq ∨ (a.sq = b.sq ∧ a.dst < b.dst)))))
abbrev Srt (l : List M) : Prop := l.Pairwise ahP
structure Dn where
 m : M
 s : Int
structure Rn where
 st : List Int
 sq : List Int
 wt : List M
 dn : List Dn
def nthD (l : List Dn) (i : Nat) : Dn := l.getD i ⟨⟨0, 0, 0, 0, 0, 0⟩, 0⟩
def logR (r : Rn) (f : Int) : List Dn := r.dn.filter (fun d => decide (d.m.dst = f))
end Go.Proofs.YtiaopafkfadmkaaGreat
namespace Go.Proofs.YtiaopafkfadmkaaGreat
open Go.RowKit Go.Shelf
theorem spr_mem {d : Wd} {f q n b : Int} {os : List O} {x : M} (h : x ∈ spr d f q n b os) : ∃ i : Nat, i < os.length ∧ x.fr = f ∧ x.sq = q + (i : Int) ∧ x.cl = (nthO os i).1 ∧ x.t = vadd n (nthO os i).2.1 ∧ x.bd = (b + (nthO os i).2.2) % 1000 ∧ x.dst ∈ rts d f (nthO os i).1 := by
 obtain ⟨i, hi, hx⟩ := sprF_mem h
 unfold oneM at hx
 obtain ⟨t, ht, rfl⟩ := List.mem_map.1 hx
 exact ⟨i, hi, rfl, rfl, rfl, rfl, rfl, ht⟩
theorem rts_mem {d : Wd} {f c t : Int} (h : t ∈ rts d f c) : 0 ≤ t ∧ t < (d.fs.length : Int) ∧ t ≠ f := by
 obtain ⟨i, hi, rfl, hne, _⟩ := mem_rts.1 h
 exact ⟨by omega, by omega, hne⟩
theorem stp_os (l : List Rl) (s c : Int) : (stp l s c).2 = [] ∨ ∃ r ∈ l, (stp l s c).2 = r.os := by
 rcases idxP_cases (isB s c) l with ⟨e, _⟩ | ⟨k, hk, e, _⟩
 ·left
  unfold stp
  rw [fnd_idx, e]
  rfl
 ·right
  refine ⟨nthR l k, nthR_mem hk, ?_⟩
  unfold stp
  rw [fnd_idx, e, if_neg (by omega)]
  simp
structure OkD (D : Wd) : Prop where
 en : D.en ≤ 1099511627776
 ln : 1 ≤ D.fs.length ∧ D.fs.length ≤ 8
 fe : ∀ f ∈ D.fs, fedE f D.ps.length = 0
theorem fed_ok2 {f : Fd} {m : Nat} (h : fedE f m = 0) : f.is.length ≤ 4 := by
 have h2 := fstE_zero (l := [unl (wi f.kd 0 1) 1, unl (wi f.lk 1 1048576) 80, unl (wi f.st 0 7) 70, chkE f.rs, unl (cls f.ps m && cls f.ss m) 81, rulsE f.ps f.lk m f.rs, unl (iniB f.ps f.is) 82]) h
 have := unl_zero (by decide) (h2 _ (by simp : unl (iniB f.ps f.is) 82 ∈ _))
 unfold iniB at this
 rw [Bool.and_eq_true] at this
 exact of_decide_eq_true this.1
def allR (r : Rn) : List M := r.dn.map (·.m) ++ r.wt
structure Inv (D : Wd) (r : Rn) : Prop where
 ls : r.st.length = D.fs.length
 lq : r.sq.length = D.fs.length
 srt : Srt (allR r)
 mem : ∀ m ∈ allR r, (0 ≤ m.fr ∧ m.fr < (D.fs.length : Int)) ∧ (0 ≤ m.dst ∧ m.dst < (D.fs.length : Int)) ∧ m.dst ≠ m.fr ∧ (0 ≤ m.sq ∧ m.sq < nthI r.sq m.fr.toNat) ∧ 0 ≤ m.t
 uni : ∀ m ∈ allR r, ∀ m' ∈ allR r, m.fr = m'.fr → m.sq = m'.sq → m.t = m'.t ∧ m.cl = m'.cl ∧ m.bd = m'.bd
 apt : (allR r).Pairwise Apt
 nn : ∀ i, i < D.fs.length → 0 ≤ nthI r.sq i ∧ nthI r.sq i ≤ 4 + 3 * (r.dn.length : Int)
 end_ : ∀ d ∈ r.dn, d.m.t < D.en
end Go.Proofs.YtiaopafkfadmkaaGreat
namespace Go.Proofs.YtiaopafkfadmkaaGreat
open Go.RowKit Go.Shelf
def fld (rs : List Rl) (s : Int) (l : List Dn) : Int := l.foldl (fun s d => (stp rs s d.m.cl).1) s
structure StI (D : Wd) (r : Rn) : Prop where
 st : ∀ f : Nat, f < D.fs.length → nthI r.st f = fld (nthF D.fs f).rs (nthF D.fs f).st (logR r (f : Int))
 lg : ∀ f : Nat, f < D.fs.length → ∀ i, i < (logR r (f : Int)).length → (nthD (logR r (f : Int)) i).s = fld (nthF D.fs f).rs (nthF D.fs f).st ((logR r (f : Int)).take (i + 1))
end Go.Proofs.YtiaopafkfadmkaaGreat
namespace Go.Proofs.YtiaopafkfadmkaaGreat
open Go.RowKit Go.Shelf
theorem Fr.trans {S S' : Nat → Prop} {a b c : World} (h : Fr S a b) (k : Fr S' b c) (hs : ∀ i, i < a.heap.size → S' i → S i) : Fr S a c :=
 ⟨k.os.trans h.os, k.tape.trans h.tape, k.output.trans h.output, Nat.le_trans h.size k.size, fun i hi hn => (k.block i (Nat.lt_of_lt_of_le hi h.size) (fun g => hn (hs i hi g))).trans (h.block i hi hn)⟩
theorem Fr.wide {S S' : Nat → Prop} {a b : World} (h : Fr S a b) (hs : ∀ i, S i → S' i) : Fr S' a b :=
 ⟨h.os, h.tape, h.output, h.size, fun i hi hn => h.block i hi fun g => hn (hs i g)⟩
theorem Fr.below {S : Nat → Prop} {a b : World} {B : Nat} (h : Fr S a b) (hB : B ≤ a.heap.size) (hs : ∀ i, S i → B ≤ i) : Below B a b :=
 ⟨h.os, h.tape, h.output, h.size, fun i hi => h.block i (Nat.lt_of_lt_of_le hi hB) fun g => by have := hs i g; omega⟩
theorem Fr.drew {S : Nat → Prop} {a b : World} (h : Fr S a b) : Fr S a b.drew := ⟨h.os, h.tape, h.output, h.size, h.block⟩
theorem Fr.frozen {S : Nat → Prop} {a b : World} (h : Fr S a b) {p : Addr} (hp : p.block < a.heap.size) (hn : ¬ S p.block) : b.frozen? p = a.frozen? p := World.frozen?_of_block (h.block _ hp hn)
def Step (F F2 : Nat → Prop) (w w' : World) : Prop := Fr F w w' ∧ ∀ k, F2 k → F k ∨ w.heap.size ≤ k
structure Th (P : World → (Nat → Prop) → Prop) : Prop where
 lt : ∀ {w F}, P w F → ∀ k, F k → k < w.heap.size
 keep : ∀ {S w w' F}, P w F → Fr S w w' → (∀ k, F k → ¬ S k) → P w' F
def L2 (w W : World) (Z : Nat → Prop) (P Q : World → (Nat → Prop) → Prop) : Prop :=
 ∃ F G, P W F ∧ Q W G ∧ (∀ k, F k → ¬ G k) ∧ (∀ k, F k → w.heap.size ≤ k) ∧ (∀ k, G k → w.heap.size ≤ k) ∧ Below w.heap.size w W ∧ ∀ k, Z k → ¬ F k ∧ ¬ G k ∧ k < W.heap.size ∧ w.heap.size ≤ k
theorem cell_set {W : World} {p : Addr} {v u : Value} (h : W.cell? p = some u) : (W.setCell p v).cell? p = some v := World.cell?_setCell_same' _ _ _ (by rw [h]; rfl)
end Go.Proofs.YtiaopafkfadmkaaGreat
