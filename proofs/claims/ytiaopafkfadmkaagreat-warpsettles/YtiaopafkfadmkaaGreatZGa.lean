/- Joined: the texts that follow, each with its own sentence. -/
import Derived.Test.YtiaopafkfadmkaaGreatZB
set_option linter.unusedVariables false
set_option maxRecDepth 100000
namespace Go.Proofs.YtiaopafkfadmkaaGreat.B.Stb
theorem merge_split {α : Type} (le : α → α → Bool) (L2 R2 : List α) : ∀ (n : Nat) (L1 R1 : List α), L1.length + R1.length = n → (∀ x ∈ L1, ∀ y ∈ R2, le x y = true) → (∀ y ∈ R1, ∀ x ∈ L2, le x y = false) →
  List.merge (L1 ++ L2) (R1 ++ R2) le = List.merge L1 R1 le ++ List.merge L2 R2 le
 | 0, L1, R1, hn, h1, h2 => by
  obtain rfl : L1 = [] := List.length_eq_zero_iff.1 (by omega)
  obtain rfl : R1 = [] := List.length_eq_zero_iff.1 (by omega)
  simp
 | n + 1, [], [], hn, h1, h2 => by simp
 | n + 1, x :: L1, [], hn, h1, h2 => by
  have ih := merge_split le L2 R2 n L1 [] (by simp at hn; simpa using hn) (fun a ha => h1 a (List.mem_cons_of_mem _ ha)) h2
  cases R2 with
  | nil => simp
  | cons y t =>
   have hx := h1 x (by simp) y (by simp)
   simp only [List.nil_append, List.cons_append, List.merge_right] at ih ⊢
   rw [List.cons_merge_cons]
   simp only [hx, if_true]
   rw [ih]
 | n + 1, [], y :: R1, hn, h1, h2 => by
  have ih := merge_split le L2 R2 n [] R1 (by simp at hn; simpa using hn) h1 (fun a ha => h2 a (List.mem_cons_of_mem _ ha))
  cases L2 with
  | nil => simp
  | cons x t =>
   have hx := h2 y (by simp) x (by simp)
   simp only [List.nil_append, List.cons_append, List.nil_merge] at ih ⊢
   rw [List.cons_merge_cons]
   simp only [hx]
   rw [ih]
   simp
 | n + 1, x :: L1, y :: R1, hn, h1, h2 => by
  have ia := merge_split le L2 R2 n L1 (y :: R1) (by simp at hn ⊢; omega) (fun a ha => h1 a (List.mem_cons_of_mem _ ha)) h2
  have ib := merge_split le L2 R2 n (x :: L1) R1 (by simp at hn ⊢; omega) h1 (fun a ha => h2 a (List.mem_cons_of_mem _ ha))
  simp only [List.cons_append] at ia ib ⊢
  rw [List.cons_merge_cons, List.cons_merge_cons]
  by_cases h : le x y = true
  ·simp only [h, if_true, List.cons_append]
   rw [ia]
  ·simp only [h]
   simp only [Bool.false_eq_true, if_false, List.cons_append]
   rw [ib]
def ins {α : Type} (le : α → α → Bool) : List α → α → List α
 | [], x => [x]
 | a :: r, x => if le a x = true then a :: ins le r x else x :: a :: r
def isort {α : Type} (le : α → α → Bool) (l : List α) : List α := l.foldl (ins le) []
def Srt {α : Type} (le : α → α → Bool) (l : List α) : Prop := l.Pairwise (fun a b => le a b = true)
structure Tot {α : Type} (le : α → α → Bool) : Prop where
 tr : ∀ a b c, le a b = true → le b c = true → le a c = true
 or : ∀ a b, le a b = true ∨ le b a = true
theorem ins_mem {α : Type} {le : α → α → Bool} {l : List α} {x y : α} : y ∈ ins le l x ↔ y ∈ l ∨ y = x := by
 induction l with
 | nil => simp [ins]
 | cons a r ih =>
  unfold ins
  split
  ·simp only [List.mem_cons, ih, or_assoc]
  ·simp only [List.mem_cons]; exact or_comm
theorem Srt.ins {α : Type} {le : α → α → Bool} (ht : Tot le) {l : List α} (h : Srt le l) (x : α) : Srt le (ins le l x) := by
 induction l with
 | nil => exact List.pairwise_singleton _ _
 | cons a r ih =>
  obtain ⟨h1, h2⟩ := List.pairwise_cons.1 h
  unfold Stb.ins
  split
  ·rename_i e
   refine List.pairwise_cons.2 ⟨fun y hy => ?_, ih h2⟩
   rcases ins_mem.1 hy with g | rfl
   ·exact h1 y g
   ·exact e
  ·rename_i e
   have hxa : le x a = true := (ht.or x a).resolve_right e
   refine List.pairwise_cons.2 ⟨fun y hy => ?_, h⟩
   rcases List.mem_cons.1 hy with rfl | g
   ·exact hxa
   ·exact ht.tr _ _ _ hxa (h1 y g)
theorem ins_len {α : Type} {le : α → α → Bool} (l : List α) (x : α) : (ins le l x).length = l.length + 1 := by
 induction l with
 | nil => rfl
 | cons a r ih =>
  unfold ins
  split
  ·simp [ih]
  ·simp
theorem isort_len {α : Type} {le : α → α → Bool} (l : List α) : (isort le l).length = l.length := by
 have : ∀ (l s : List α), (l.foldl (ins le) s).length = s.length + l.length := by
  intro l
  induction l with
  | nil => intro s; rfl
  | cons a r ih =>
   intro s
   show (r.foldl (ins le) (ins le s a)).length = _
   rw [ih, ins_len, List.length_cons]
   omega
 have h := this l []
 unfold isort
 simpa using h
theorem isort_srt {α : Type} {le : α → α → Bool} (ht : Tot le) (l : List α) : Srt le (isort le l) := by
 have : ∀ (l s : List α), Srt le s → Srt le (l.foldl (ins le) s) := by
  intro l
  induction l with
  | nil => intro s h; exact h
  | cons a r ih => intro s h; exact ih _ (h.ins ht a)
 exact this l [] List.Pairwise.nil
theorem merge_ins {α : Type} {le : α → α → Bool} (ht : Tot le) (y : α) : ∀ (s t : List α), List.merge s (ins le t y) le = ins le (List.merge s t le) y
 | [], t => by simp
 | a :: r, [] => by
  have ih := merge_ins ht y r []
  simp only [ins, List.merge_right] at ih ⊢
  rw [List.cons_merge_cons]
  by_cases h : le a y = true
  ·simp only [h, if_true]
   rw [ih]
  ·simp only [h]
   simp
 | a :: r, b :: q => by
  have ia := merge_ins ht y r (b :: q)
  have ib := merge_ins ht y (a :: r) q
  by_cases hab : le a b = true
  ·rw [List.cons_merge_cons]
   simp only [hab, if_true]
   by_cases hby : le b y = true
   ·have hay := ht.tr _ _ _ hab hby
    have e1 : ins le (b :: q) y = b :: ins le q y := by simp [ins, hby]
    rw [e1] at ia ⊢
    rw [List.cons_merge_cons]
    simp only [hab, if_true]
    rw [ia]
    simp [ins, hay]
   ·have e1 : ins le (b :: q) y = y :: b :: q := by simp [ins, hby]
    rw [e1] at ia ⊢
    rw [List.cons_merge_cons]
    by_cases hay : le a y = true
    ·simp only [hay, if_true]
     rw [ia]
     simp [ins, hay]
    ·simp only [hay]
     simp only [Bool.false_eq_true, if_false]
     rw [List.cons_merge_cons]
     simp [ins, hay, hab]
  ·rw [List.cons_merge_cons]
   simp only [hab]
   simp only [Bool.false_eq_true, if_false]
   by_cases hby : le b y = true
   ·have e1 : ins le (b :: q) y = b :: ins le q y := by simp [ins, hby]
    rw [e1, List.cons_merge_cons]
    simp only [hab]
    simp only [Bool.false_eq_true, if_false]
    rw [ib]
    simp [ins, hby]
   ·have hyb : le y b = true := (ht.or y b).resolve_right hby
    have hay : le a y = false := by
     cases h : le a y
     ·rfl
     ·exact absurd (ht.tr _ _ _ h hyb) hab
    have e1 : ins le (b :: q) y = y :: b :: q := by simp [ins, hby]
    rw [e1, List.cons_merge_cons]
    simp only [hay]
    simp only [Bool.false_eq_true, if_false]
    rw [List.cons_merge_cons]
    simp [ins, hby, hab]
theorem merge_foldl {α : Type} {le : α → α → Bool} (ht : Tot le) : ∀ (ys s t : List α), List.merge s (ys.foldl (ins le) t) le = ys.foldl (ins le) (List.merge s t le)
 | [], s, t => rfl
 | y :: ys, s, t => by
  show List.merge s (ys.foldl (ins le) (ins le t y)) le = ys.foldl (ins le) (ins le (List.merge s t le) y)
  rw [merge_foldl ht ys s (ins le t y), merge_ins ht]
theorem isort_append {α : Type} {le : α → α → Bool} (ht : Tot le) (xs ys : List α) : isort le (xs ++ ys) = List.merge (isort le xs) (isort le ys) le := by
 unfold isort
 rw [merge_foldl ht, List.foldl_append, List.merge_right]
theorem merge_one_left {α : Type} (le : α → α → Bool) (x : α) (A B : List α) (hA : ∀ y ∈ A, le x y = false) (hB : ∀ y ∈ B, le x y = true) : List.merge [x] (A ++ B) le = A ++ x :: B := by
 have h := merge_split le [x] B _ [] A rfl (fun a ha => by cases ha) (fun y hy a ha => by rw [show a = x by simpa using ha]; exact hA y hy)
 simp only [List.nil_append, List.nil_merge] at h
 rw [h]
 congr 1
 cases B with
 | nil => simp
 | cons b r => rw [List.cons_merge_cons]; simp [hB b (by simp)]
theorem merge_one_right {α : Type} (le : α → α → Bool) (y : α) (A B : List α) (hA : ∀ x ∈ A, le x y = true) (hB : ∀ x ∈ B, le x y = false) : List.merge (A ++ B) [y] le = A ++ y :: B := by
 have h := merge_split le B [y] _ A [] rfl (fun a ha z hz => by rw [show z = y by simpa using hz]; exact hA a ha) (fun z hz => by cases hz)
 simp only [List.nil_append, List.merge_right] at h
 rw [h]
 congr 1
 cases B with
 | nil => simp
 | cons b r => rw [List.cons_merge_cons]; simp [hB b (by simp)]
theorem isort_of_srt {α : Type} {le : α → α → Bool} {l : List α} (h : Srt le l) : isort le l = l := by
 have snoc : ∀ (s : List α) (x : α), (∀ a ∈ s, le a x = true) → ins le s x = s ++ [x] := by
  intro s
  induction s with
  | nil => intro x _; rfl
  | cons a r ih =>
   intro x hx
   simp [ins, hx a (by simp), ih x (fun b hb => hx b (List.mem_cons_of_mem _ hb))]
 have : ∀ (l s : List α), Srt le (s ++ l) → l.foldl (ins le) s = s ++ l := by
  intro l
  induction l with
  | nil => intro s _; simp
  | cons a r ih =>
   intro s hs
   have h1 := (List.pairwise_append.1 hs).2.2
   show r.foldl (ins le) (ins le s a) = _
   rw [snoc s a (fun b hb => h1 b hb a (by simp)), ih (s ++ [a]) (by simpa using hs)]
   simp
 exact this l [] h
end Go.Proofs.YtiaopafkfadmkaaGreat.B.Stb
namespace Go.Proofs.YtiaopafkfadmkaaGreat.G
open Go.Proofs.YtiaopafkfadmkaaGreat.B
open Go.RowKit Go.Shelf Go.Sort
abbrev H := K × M
def encH (x : H) : List Value := [.int .i64 x.1.1, .int .i64 x.1.2.1, .int .i64 x.1.2.2, .int .i64 x.2.1.1, .int .i64 x.2.1.2.1, .int .i64 x.2.1.2.2, .int .i64 x.2.2.1, .int .i64 x.2.2.2.1, .int .i64 x.2.2.2.2]
abbrev hv (x : H) : Value := .agg #[.int .i64 x.1.1, .int .i64 x.1.2.1, .int .i64 x.1.2.2, .int .i64 x.2.1.1, .int .i64 x.2.1.2.1, .int .i64 x.2.1.2.2, .int .i64 x.2.2.1, .int .i64 x.2.2.2.1, .int .i64 x.2.2.2.2]
abbrev hcs (x : H) : Array Value := #[.int .i64 x.1.1, .int .i64 x.1.2.1, .int .i64 x.1.2.2, .int .i64 x.2.1.1, .int .i64 x.2.1.2.1, .int .i64 x.2.1.2.2, .int .i64 x.2.2.1, .int .i64 x.2.2.2.1, .int .i64 x.2.2.2.2]
theorem encH_one (x : H) : ∀ v ∈ encH x, v.oneCell' = true := by
 intro v hv
 simp [encH] at hv
 rcases hv with rfl | rfl | rfl | rfl | rfl | rfl | rfl | rfl | rfl <;> rfl
def cH : Cd H := ⟨encH, 9, ((0, 0, 0), (0, 0, 0), 0, 0, 0), fun _ => rfl, encH_one, by decide⟩
def tyH : Ty cH 168 189 := ⟨.agg #[.int .i64 0, .int .i64 0, .int .i64 0, .int .i64 0, .int .i64 0, .int .i64 0, .int .i64 0, .int .i64 0, .int .i64 0], 72, Tryz.underlying168, by kernel_rfl, rfl, by decide⟩
theorem _root_.Go.Proofs.YtiaopafkfadmkaaGreat.B.RdN.held {N : Nat → Prop} {W : World} {a : Option Addr} {l : List H} (h : RdN cH N W a l) {i : Nat} (hi : i < l.length) {x : H} (hx : nth cH l i = x) :
  ∃ b off, a = some ⟨b, off, none⟩ ∧ b < W.heap.size ∧ N b ∧ W.cell? ⟨b, off + i * 9, none⟩ = some (.int .i64 x.1.1) ∧ W.cell? ⟨b, off + i * 9 + 1, none⟩ = some (.int .i64 x.1.2.1) ∧ W.cell? ⟨b, off + i * 9 + 2, none⟩ = some (.int .i64 x.1.2.2) ∧ W.cell? ⟨b, off + i * 9 + 3, none⟩ = some (.int .i64 x.2.1.1) ∧ W.cell? ⟨b, off + i * 9 + 4, none⟩ = some (.int .i64 x.2.1.2.1) ∧ W.cell? ⟨b, off + i * 9 + 5, none⟩ = some (.int .i64 x.2.1.2.2) ∧ W.cell? ⟨b, off + i * 9 + 6, none⟩ = some (.int .i64 x.2.2.1) ∧ W.cell? ⟨b, off + i * 9 + 7, none⟩ = some (.int .i64 x.2.2.2.1) ∧ W.cell? ⟨b, off + i * 9 + 8, none⟩ = some (.int .i64 x.2.2.2.2) := by
 obtain ⟨b, off, rfl, hB, hb, hc⟩ := h (by intro e; simp [e] at hi)
 subst hx
 have g := hc i hi
 exact ⟨b, off, rfl, hB, hb, g 0 (by decide), g 1 (by decide), g 2 (by decide), g 3 (by decide), g 4 (by decide), g 5 (by decide), g 6 (by decide), g 7 (by decide), g 8 (by decide)⟩
theorem _root_.Go.Proofs.YtiaopafkfadmkaaGreat.B.RdN.msg {N : Nat → Prop} {W : World} {a : Option Addr} {l : List M} (h : RdN cM N W a l) {i : Nat} (hi : i < l.length) {x : M} (hx : nth cM l i = x) :
  ∃ b off, a = some ⟨b, off, none⟩ ∧ b < W.heap.size ∧ N b ∧ W.cell? ⟨b, off + i * 6, none⟩ = some (.int .i64 x.1.1) ∧ W.cell? ⟨b, off + i * 6 + 1, none⟩ = some (.int .i64 x.1.2.1) ∧ W.cell? ⟨b, off + i * 6 + 2, none⟩ = some (.int .i64 x.1.2.2) ∧ W.cell? ⟨b, off + i * 6 + 3, none⟩ = some (.int .i64 x.2.1) ∧ W.cell? ⟨b, off + i * 6 + 4, none⟩ = some (.int .i64 x.2.2.1) ∧ W.cell? ⟨b, off + i * 6 + 5, none⟩ = some (.int .i64 x.2.2.2) := by
 obtain ⟨b, off, rfl, hB, hb, hc⟩ := h (by intro e; simp [e] at hi)
 subst hx
 have g := hc i hi
 exact ⟨b, off, rfl, hB, hb, g 0 (by decide), g 1 (by decide), g 2 (by decide), g 3 (by decide), g 4 (by decide), g 5 (by decide)⟩
theorem cellB {W : World} {b : Nat} {cs : Array Value} {t : TypeId} {f : Nat × Nat} (h : W.heap[b]? = some (.cells cs t f)) (i : Nat) : W.cell? ⟨b, i, none⟩ = cs[i]? := by simp [World.cell?, h]
theorem newB (w : World) (o : Obj) : (w.alloc o).heap[w.heap.size]? = some o := (MapKept.heap_alloc w _).1
theorem wrapN (j : Nat) (h : j ≤ 1000000) : IntKind.i64.wrap (j : Int) = (j : Int) := by
 rw [IntKind.wrap_i64]; omega
theorem new_ge {w W w2 : World} {v v' : Value} (hs : w.heap.size ≤ W.heap.size) (h : ∀ k, v.ownBlock = some k → w.heap.size ≤ k) (hm : Mw (fun k => v.ownBlock = some k) (fun k => v'.ownBlock = some k) W w2) {k : Nat} (e : v'.ownBlock = some k) : w.heap.size ≤ k := by
 rcases Nat.lt_or_ge k W.heap.size with g | g
 ·exact h k (hm.new k g e)
 ·omega
def D (b : Nat) (v : Value) (k : Nat) : Prop := k = b ∨ v.ownBlock = some k
structure GQ (X : Nat → Prop) (W : World) (fl : Int) (L : List H) (b : Nat) (v : Value) : Prop where
 blk : W.heap[b]? = some (.cells #[v, .int .i64 fl] 170 (0, 0))
 row : OwR cH 189 W v L
 nb : v.ownBlock ≠ some b
 xb : ¬ X b
 xv : ∀ k, v.ownBlock = some k → ¬ X k
 xl : ∀ k, X k → k < W.heap.size
 cap : L.length ≤ 256
theorem GQ.lt {X : Nat → Prop} {W : World} {fl : Int} {l : List H} {b : Nat} {v : Value} (h : GQ X W fl l b v) : b < W.heap.size := (Array.getElem?_eq_some_iff.1 h.blk).1
theorem GQ.dlt {X : Nat → Prop} {W : World} {fl : Int} {l : List H} {b : Nat} {v : Value} (h : GQ X W fl l b v) {k : Nat} (hk : D b v k) : k < W.heap.size := by
 rcases hk with rfl | hk
 ·exact h.lt
 ·exact h.row.lt hk
theorem GQ.dx {X : Nat → Prop} {W : World} {fl : Int} {l : List H} {b : Nat} {v : Value} (h : GQ X W fl l b v) {k : Nat} (hk : D b v k) : ¬ X k := by
 rcases hk with rfl | hk
 ·exact h.xb
 ·exact h.xv k hk
theorem GQ.c0 {X : Nat → Prop} {W : World} {fl : Int} {l : List H} {b : Nat} {v : Value} (h : GQ X W fl l b v) : W.cell? ⟨b, 0, none⟩ = some v := cellB h.blk 0
theorem GQ.c1 {X : Nat → Prop} {W : World} {fl : Int} {l : List H} {b : Nat} {v : Value} (h : GQ X W fl l b v) : W.cell? ⟨b, 1, none⟩ = some (.int .i64 fl) := cellB h.blk 1
theorem GQ.froz {X : Nat → Prop} {W : World} {fl : Int} {l : List H} {b : Nat} {v : Value} (h : GQ X W fl l b v) (i : Nat) : W.frozen? ⟨b, i, none⟩ = false := by simp [World.frozen?, h.blk]
theorem GQ.keep {X X' S : Nat → Prop} {W W' : World} {fl : Int} {l : List H} {b : Nat} {v : Value} (h : GQ X W fl l b v) (hf : Fr S W W') (hS : ∀ k, S k → ¬ D b v k) (hX : ∀ k, k < W.heap.size → X' k → ¬ D b v k) (hl : ∀ k, X' k → k < W'.heap.size) : GQ X' W' fl l b v :=
 ⟨(hf.block b h.lt (fun e => hS _ e (Or.inl rfl))).trans h.blk, h.row.keep hf (fun g e s => hS _ s (Or.inr e)), h.nb, fun e => hX _ h.lt e (Or.inl rfl), fun k e s => hX k (h.row.lt e) s (Or.inr e), hl, h.cap⟩
theorem GQ.below {X : Nat → Prop} {W W' : World} {fl : Int} {l : List H} {b : Nat} {v : Value} (h : GQ X W fl l b v) (hb : Below W.heap.size W W') : GQ X W' fl l b v :=
 h.keep (Fr.of_below (S := fun _ => False) hb) (fun _ e => e.elim) (fun k _ e d => h.dx d e) (fun k e => Nat.lt_of_lt_of_le (h.xl k e) hb.size)
theorem GQ.put {X : Nat → Prop} {W w2 : World} {fl : Int} {l l' : List H} {b : Nat} {v v' : Value} (h : GQ X W fl l b v) (hm : Mw (fun k => v.ownBlock = some k) (fun k => v'.ownBlock = some k) W w2) (hr : OwR cH 189 w2 v' l') (hl : l'.length ≤ 256) :
  GQ X (w2.setCell ⟨b, 0, none⟩ v') fl l' b v' ∧ Mw (D b v) (D b v') W (w2.setCell ⟨b, 0, none⟩ v') := by
 have hb := (hm.fr.block b h.lt (fun e => h.nb e)).trans h.blk
 have nb' : v'.ownBlock ≠ some b := fun e => h.nb (hm.new b h.lt e)
 have f1 : Fr (fun k => k = b) w2 (w2.setCell ⟨b, 0, none⟩ v') := (Fr.refl _ _).setCell _ _ (Or.inl rfl)
 refine ⟨⟨?_, hr.keep f1 (fun g e s => nb' (by rw [← s]; exact e)), nb', h.xb, fun k e s => h.xv k (hm.new k (h.xl k s) e) s, fun k e => Nat.lt_of_lt_of_le (h.xl k e) (Nat.le_trans hm.fr.size f1.size), hl⟩, ⟨?_, ?_⟩⟩
 ·have := heap_setCell_same w2 b 0 _ _ v' hb
  rw [this]
  rfl
 ·exact (hm.fr.wide (fun i e => Or.inr e)).then (f1.wide (fun i e => Or.inl e))
 ·intro k hk e
  rcases e with e | e
  ·exact Or.inl e
  ·exact Or.inr (hm.new k hk e)
theorem GQ.floor {X : Nat → Prop} {W : World} {fl : Int} {l : List H} {b : Nat} {v : Value} (h : GQ X W fl l b v) (t : Int) :
  GQ X (W.setCell ⟨b, 1, none⟩ (.int .i64 t)) t l b v ∧ Mw (D b v) (D b v) W (W.setCell ⟨b, 1, none⟩ (.int .i64 t)) := by
 have f1 : Fr (fun k => k = b) W (W.setCell ⟨b, 1, none⟩ (.int .i64 t)) := (Fr.refl _ _).setCell _ _ (Or.inl rfl)
 refine ⟨⟨?_, h.row.keep f1 (fun g e s => h.nb (by rw [← s]; exact e)), h.nb, h.xb, h.xv, fun k e => Nat.lt_of_lt_of_le (h.xl k e) f1.size, h.cap⟩, ⟨f1.wide (fun i e => Or.inl e), fun _ _ e => e⟩⟩
 have := heap_setCell_same W b 1 _ _ (.int .i64 t) h.blk
 rw [this]
 rfl
def leH (x y : H) : Bool := !klt y.1 x.1
theorem leH_tot : Stb.Tot leH := ⟨fun a b c h g => by unfold leH at *; simp only [Bool.not_eq_true'] at *; exact kle_trans h g, fun a b => by
 unfold leH
 cases h : klt b.1 a.1
 ·exact Or.inl rfl
 ·exact Or.inr (by rw [klt_asymm h]; rfl)⟩
def holdE (fl : Int) (L : List H) (x : H) : Int := if x.1.1 < fl then 110 else if 256 ≤ L.length then 2 else 0
def holdL (fl : Int) (L : List H) (x : H) : List H := if holdE fl L x = 0 then L ++ [x] else L
def befK (k : K) (x : H) : Bool := klt x.1 k
def low (t : Int) (x : H) : Bool := decide (x.1.1 < t)
def hasK (k : K) (x : H) : Bool := decide (x.2.1 = k)
def msgs (L : List H) : List M := L.map (fun x => x.2)
theorem msgs_len (L : List H) : (msgs L).length = L.length := by simp [msgs]
def dropG (k : K) (L : List H) : List M := msgs (L.filter (fun x => !befK k x))
def openG (t : Int) (L : List H) : List M := msgs (Stb.isort leH (L.filter (low t)))
end Go.Proofs.YtiaopafkfadmkaaGreat.G
