/- Proved: contracts of a ring: place, put, first, drop. -/
import Derived.Test.YtkngokpildoljaaBas
namespace Go.Proofs.Ytkngokpildoljaa
open Go.RowKit Go.Shelf
set_option linter.unusedVariables false

theorem place_any (w : World) (B p st k : Nat) (h1 : w.cell? ⟨B, p + 128, none⟩ = some (.int .i64 st)) (hs : st < 16) (hk : k ≤ 16) :
    Calls Try.prog 36 #[.pointer (some ⟨B, p, none⟩), .int .i64 k] w fun e w' => e = .returned (.int .i64 (((st + k) % 16 : Nat) : Int)) ∧ w = w' := by
  have hs' : (st : Int) < 16 := by omega
  have hk' : (k : Int) ≤ 16 := by omega
  go_enter Try.func36, Try.ntmps36
  go_wp2
  go_ret
  exact ⟨rfl, rfl⟩

set_option maxRecDepth 100000 in
theorem first_some (w : World) (B p st : Nat) (hb : B < w.heap.size) (x : It) (n : Int) (hn : n ≠ 0) (hs : st < 16) (h1 : w.cell? ⟨B, p + 128, none⟩ = some (.int .i64 st)) (h2 : w.cell? ⟨B, p + 129, none⟩ = some (.int .i64 n))
    (c0 : w.cell? ⟨B, p + st * 8, none⟩ = some (.int .i64 x.k)) (c1 : w.cell? ⟨B, p + st * 8 + 1, none⟩ = some (.int .i64 x.t)) (c2 : w.cell? ⟨B, p + st * 8 + 2, none⟩ = some (.int .i64 x.fr)) (c3 : w.cell? ⟨B, p + st * 8 + 3, none⟩ = some (.int .i64 x.sq)) (c4 : w.cell? ⟨B, p + st * 8 + 4, none⟩ = some (.int .i64 x.dst)) (c5 : w.cell? ⟨B, p + st * 8 + 5, none⟩ = some (.int .i64 x.cl)) (c6 : w.cell? ⟨B, p + st * 8 + 6, none⟩ = some (.int .i64 x.bd)) (c7 : w.cell? ⟨B, p + st * 8 + 7, none⟩ = some (.int .i64 x.co)) :
    Calls Try.prog 30 #[.pointer (some ⟨B, p, none⟩)] w fun e w' => e = .returned (.tuple #[iv x, .bool true]) ∧ Below w.heap.size w w' := by
  have hs' : (st : Int) < 16 := by omega
  have hn' : (n == 0) = false := by simpa using hn
  go_enter Try.func30, Try.ntmps30
  go_wp2
  go_region
  go_wp2
  exact bodyPost_ret (v := .tuple #[iv x, .bool true]) (by simp [results, Try.results30, go_sem]) rfl ⟨rfl, ((Below.refl _ w).alloc (Nat.le_refl _) _).drew⟩
theorem first_none (w : World) (B p : Nat) (h2 : w.cell? ⟨B, p + 129, none⟩ = some (.int .i64 0)) (hb : B < w.heap.size) :
    Calls Try.prog 30 #[.pointer (some ⟨B, p, none⟩)] w fun e w' => e = .returned (.tuple #[iv it0, .bool false]) ∧ Below w.heap.size w w' := by
  go_enter Try.func30, Try.ntmps30
  go_wp2
  exact bodyPost_ret (v := .tuple #[iv it0, .bool false]) (by simp [results, Try.results30, go_sem, it0]) rfl ⟨rfl, ((Below.refl _ w).alloc (Nat.le_refl _) _)⟩

/-! ### Eight numbers at once -/
def put8 (f : Nat → Int) (q : Nat) (x : It) : Nat → Int := upF (upF (upF (upF (upF (upF (upF (upF f q x.k) (q + 1) x.t) (q + 2) x.fr) (q + 3) x.sq) (q + 4) x.dst) (q + 5) x.cl) (q + 6) x.bd) (q + 7) x.co
abbrev st8 (w : World) (B q : Nat) (x : It) : World := (((((((w.setCell ⟨B, q, none⟩ (.int .i64 x.k)).setCell ⟨B, q + 1, none⟩ (.int .i64 x.t)).setCell ⟨B, q + 2, none⟩ (.int .i64 x.fr)).setCell ⟨B, q + 3, none⟩ (.int .i64 x.sq)).setCell ⟨B, q + 4, none⟩ (.int .i64 x.dst)).setCell ⟨B, q + 5, none⟩ (.int .i64 x.cl)).setCell ⟨B, q + 6, none⟩ (.int .i64 x.bd)).setCell ⟨B, q + 7, none⟩ (.int .i64 x.co)
theorem Blk.set8 {w : World} {B : Nat} {f : Nat → Int} (h : Blk w B f) (q : Nat) (x : It) : Blk (st8 w B q x) B (put8 f q x) :=
  (((((((h.set q x.k).set (q + 1) x.t).set (q + 2) x.fr).set (q + 3) x.sq).set (q + 4) x.dst).set (q + 5) x.cl).set (q + 6) x.bd).set (q + 7) x.co
theorem fr8 (w : World) (B q : Nat) (x : It) : Fr (fun k => k = B) w (st8 w B q x) :=
  ((((((((Fr.refl (fun k => k = B) w).setCell ⟨B, q, none⟩ _ (.inl rfl)).setCell ⟨B, q + 1, none⟩ _ (.inl rfl)).setCell ⟨B, q + 2, none⟩ _ (.inl rfl)).setCell ⟨B, q + 3, none⟩ _ (.inl rfl)).setCell ⟨B, q + 4, none⟩ _ (.inl rfl)).setCell ⟨B, q + 5, none⟩ _ (.inl rfl)).setCell ⟨B, q + 6, none⟩ _ (.inl rfl)).setCell ⟨B, q + 7, none⟩ _ (.inl rfl)
theorem put8_out (f : Nat → Int) (q : Nat) (x : It) (j : Nat) (h : j < q ∨ q + 8 ≤ j) : put8 f q x j = f j := by
  unfold put8 upF
  rw [if_neg (by omega), if_neg (by omega), if_neg (by omega), if_neg (by omega), if_neg (by omega), if_neg (by omega), if_neg (by omega), if_neg (by omega)]
/-- At q stand the eight numbers of x. -/
def ItAt (f : Nat → Int) (q : Nat) (x : It) : Prop := f q = x.k ∧ f (q + 1) = x.t ∧ f (q + 2) = x.fr ∧ f (q + 3) = x.sq ∧ f (q + 4) = x.dst ∧ f (q + 5) = x.cl ∧ f (q + 6) = x.bd ∧ f (q + 7) = x.co
theorem put8_at (f : Nat → Int) (q : Nat) (x : It) : ItAt (put8 f q x) q x := by
  refine ⟨?_, ?_, ?_, ?_, ?_, ?_, ?_, ?_⟩ <;> simp [put8, upF]
theorem ItAt.keep {f g : Nat → Int} {q : Nat} {x : It} (h : ItAt f q x) (e : ∀ j, j < 8 → g (q + j) = f (q + j)) : ItAt g q x :=
  ⟨(e 0 (by omega)).trans h.1, (e 1 (by omega)).trans h.2.1, (e 2 (by omega)).trans h.2.2.1, (e 3 (by omega)).trans h.2.2.2.1, (e 4 (by omega)).trans h.2.2.2.2.1, (e 5 (by omega)).trans h.2.2.2.2.2.1, (e 6 (by omega)).trans h.2.2.2.2.2.2.1, (e 7 (by omega)).trans h.2.2.2.2.2.2.2⟩
theorem Blk.at {w : World} {B : Nat} {f : Nat → Int} (h : Blk w B f) {i : Nat} (hi : i < 8322) {v : Int} (hv : f i = v) : w.cell? ⟨B, i, none⟩ = some (.int .i64 v) := hv ▸ (h.c i hi).1
theorem Blk.drew {w : World} {B : Nat} {f : Nat → Int} (h : Blk w B f) : Blk w.drew B f := ⟨h.c⟩
theorem cellB {W : World} {B : Nat} {cs : Array Value} {t : TypeId} {fz : Nat × Nat} (h : W.heap[B]? = some (.cells cs t fz)) (i : Nat) : W.cell? ⟨B, i, none⟩ = cs[i]? := by
  simp [World.cell?, h]
theorem box8 (w : World) (x : It) (t : TypeId) : (w.alloc (.cells (ics x) t)).cell? ⟨w.heap.size, 0, none⟩ = some (.int .i64 x.k) ∧ (w.alloc (.cells (ics x) t)).cell? ⟨w.heap.size, 1, none⟩ = some (.int .i64 x.t) ∧ (w.alloc (.cells (ics x) t)).cell? ⟨w.heap.size, 2, none⟩ = some (.int .i64 x.fr) ∧ (w.alloc (.cells (ics x) t)).cell? ⟨w.heap.size, 3, none⟩ = some (.int .i64 x.sq) ∧ (w.alloc (.cells (ics x) t)).cell? ⟨w.heap.size, 4, none⟩ = some (.int .i64 x.dst) ∧ (w.alloc (.cells (ics x) t)).cell? ⟨w.heap.size, 5, none⟩ = some (.int .i64 x.cl) ∧ (w.alloc (.cells (ics x) t)).cell? ⟨w.heap.size, 6, none⟩ = some (.int .i64 x.bd) ∧ (w.alloc (.cells (ics x) t)).cell? ⟨w.heap.size, 7, none⟩ = some (.int .i64 x.co) := by
  have := World.alloc_heap_new w (.cells (ics x) t)
  exact ⟨cellB this 0, cellB this 1, cellB this 2, cellB this 3, cellB this 4, cellB this 5, cellB this 6, cellB this 7⟩

theorem box8d (w : World) (x : It) (t : TypeId) : (w.alloc (.cells (ics x) t)).drew.cell? ⟨w.heap.size, 0, none⟩ = some (.int .i64 x.k) ∧ (w.alloc (.cells (ics x) t)).drew.cell? ⟨w.heap.size, 1, none⟩ = some (.int .i64 x.t) ∧ (w.alloc (.cells (ics x) t)).drew.cell? ⟨w.heap.size, 2, none⟩ = some (.int .i64 x.fr) ∧ (w.alloc (.cells (ics x) t)).drew.cell? ⟨w.heap.size, 3, none⟩ = some (.int .i64 x.sq) ∧ (w.alloc (.cells (ics x) t)).drew.cell? ⟨w.heap.size, 4, none⟩ = some (.int .i64 x.dst) ∧ (w.alloc (.cells (ics x) t)).drew.cell? ⟨w.heap.size, 5, none⟩ = some (.int .i64 x.cl) ∧ (w.alloc (.cells (ics x) t)).drew.cell? ⟨w.heap.size, 6, none⟩ = some (.int .i64 x.bd) ∧ (w.alloc (.cells (ics x) t)).drew.cell? ⟨w.heap.size, 7, none⟩ = some (.int .i64 x.co) := box8 w x t
set_option maxRecDepth 100000 in
set_option maxHeartbeats 1000000 in
theorem put_any (w : World) (B p st n : Nat) (f : Nat → Int) (h : Blk w B f) (hp : p + 130 ≤ 8322) (x : It) (hs : st < 16) (hn : n < 16) (g1 : f (p + 128) = st) (g2 : f (p + 129) = n) :
    Calls Try.prog 28 #[.pointer (some ⟨B, p, none⟩), iv x] w fun e w' => e = .returned (.tuple #[]) ∧ Blk w' B (upF (put8 f (p + (st + n) % 16 * 8) x) (p + 129) ((n : Int) + 1)) ∧ Fr (fun k => k = B) w w' := by
  have hs' : (st : Int) < 16 := by omega
  have hn' : (n : Int) < 16 := by omega
  have hb := h.lt
  have h1 := h.at (by omega) g1
  have h2 := h.at (by omega) g2
  have P := fun W h1 => place_any W B p st n h1 hs (by omega)
  obtain ⟨q, hq⟩ : ∃ q, (st + n) % 16 = q := ⟨_, rfl⟩
  have hq1 : (q : Int) < 16 := by omega
  have hq0 : q < 16 := by omega
  rw [hq] at P ⊢
  have e0 := (h.c (p + q * 8) (by omega)).1
  have e1 := (h.c (p + q * 8 + 1) (by omega)).1
  have e2 := (h.c (p + q * 8 + 2) (by omega)).1
  have e3 := (h.c (p + q * 8 + 3) (by omega)).1
  have e4 := (h.c (p + q * 8 + 4) (by omega)).1
  have e5 := (h.c (p + q * 8 + 5) (by omega)).1
  have e6 := (h.c (p + q * 8 + 6) (by omega)).1
  have e7 := (h.c (p + q * 8 + 7) (by omega)).1
  have f0 := (h.c (p + q * 8) (by omega)).2
  have f1 := (h.c (p + q * 8 + 1) (by omega)).2
  have f2 := (h.c (p + q * 8 + 2) (by omega)).2
  have f3 := (h.c (p + q * 8 + 3) (by omega)).2
  have f4 := (h.c (p + q * 8 + 4) (by omega)).2
  have f5 := (h.c (p + q * 8 + 5) (by omega)).2
  have f6 := (h.c (p + q * 8 + 6) (by omega)).2
  have f7 := (h.c (p + q * 8 + 7) (by omega)).2
  have hB8 : Blk ((st8 w B (p + q * 8) x).alloc (.cells (ics x) 35)).drew B (put8 f (p + q * 8) x) := ((h.set8 (p + q * 8) x).below (al _ _)).drew
  have hF8 : Fr (fun k => k = B) w ((st8 w B (p + q * 8) x).alloc (.cells (ics x) 35)).drew := ((fr8 w B (p + q * 8) x).alloc _).drew
  have k1 := hB8.at (i := p + 128) (by omega) ((put8_out f (p + q * 8) x (p + 128) (by omega)).trans g1)
  have k2 := hB8.at (i := p + 129) (by omega) ((put8_out f (p + q * 8) x (p + 129) (by omega)).trans g2)
  have kb := box8d (st8 w B (p + q * 8) x) x 35
  have hz : (st8 w B (p + q * 8) x).heap.size = w.heap.size := by simp [st8]
  rw [hz] at kb
  have KEEP : Hid (((st8 w B (p + q * 8) x).alloc (.cells (ics x) 35)).drew.cell? ⟨B, p + 129, none⟩ = some (.int .i64 n) ∧ ((st8 w B (p + q * 8) x).alloc (.cells (ics x) 35)).drew.cell? ⟨B, p + 128, none⟩ = some (.int .i64 st) ∧ ((st8 w B (p + q * 8) x).alloc (.cells (ics x) 35)).drew.cell? ⟨w.heap.size, 0, none⟩ = some (.int .i64 x.k) ∧ ((st8 w B (p + q * 8) x).alloc (.cells (ics x) 35)).drew.cell? ⟨w.heap.size, 1, none⟩ = some (.int .i64 x.t) ∧ ((st8 w B (p + q * 8) x).alloc (.cells (ics x) 35)).drew.cell? ⟨w.heap.size, 2, none⟩ = some (.int .i64 x.fr) ∧ ((st8 w B (p + q * 8) x).alloc (.cells (ics x) 35)).drew.cell? ⟨w.heap.size, 3, none⟩ = some (.int .i64 x.sq) ∧ ((st8 w B (p + q * 8) x).alloc (.cells (ics x) 35)).drew.cell? ⟨w.heap.size, 4, none⟩ = some (.int .i64 x.dst) ∧ ((st8 w B (p + q * 8) x).alloc (.cells (ics x) 35)).drew.cell? ⟨w.heap.size, 5, none⟩ = some (.int .i64 x.cl) ∧ ((st8 w B (p + q * 8) x).alloc (.cells (ics x) 35)).drew.cell? ⟨w.heap.size, 6, none⟩ = some (.int .i64 x.bd) ∧ ((st8 w B (p + q * 8) x).alloc (.cells (ics x) 35)).drew.cell? ⟨w.heap.size, 7, none⟩ = some (.int .i64 x.co)) := ⟨k2, k1, kb⟩
  have HK : Hid _ := k2
  have HF : Hid _ := (hB8.c (p + 129) (by omega)).2
  have HB : Hid _ := hB8
  have HR : Hid _ := hF8
  have HP : Hid _ := P
  have h1' : (w.alloc (.cells (ics x) 35)).cell? ⟨B, p + 128, none⟩ = some (.int .i64 st) := ((al w _).cell (p := ⟨B, p + 128, none⟩) hb).trans h1
  have h2' : (w.alloc (.cells (ics x) 35)).cell? ⟨B, p + 129, none⟩ = some (.int .i64 n) := ((al w _).cell (p := ⟨B, p + 129, none⟩) hb).trans h2
  clear h P hq k1 k2 kb hB8 hF8 g1 g2 hz
  go_enter Try.func28, Try.ntmps28
  go_wp2
  go_region_held3 (fun w' => w'.cell? ⟨B, p + 129, none⟩ = some (.int .i64 n) ∧ w'.cell? ⟨B, p + 128, none⟩ = some (.int .i64 st) ∧ w'.cell? ⟨w.heap.size, 0, none⟩ = some (.int .i64 x.k) ∧ w'.cell? ⟨w.heap.size, 1, none⟩ = some (.int .i64 x.t) ∧ w'.cell? ⟨w.heap.size, 2, none⟩ = some (.int .i64 x.fr) ∧ w'.cell? ⟨w.heap.size, 3, none⟩ = some (.int .i64 x.sq) ∧ w'.cell? ⟨w.heap.size, 4, none⟩ = some (.int .i64 x.dst) ∧ w'.cell? ⟨w.heap.size, 5, none⟩ = some (.int .i64 x.cl) ∧ w'.cell? ⟨w.heap.size, 6, none⟩ = some (.int .i64 x.bd) ∧ w'.cell? ⟨w.heap.size, 7, none⟩ = some (.int .i64 x.co)) (first | (go_keep; done) | exact Hid.out KEEP) (first | (go_at_call 36; refine (Hid.out HP _ (by first | assumption | go_keep)).mono ?_; rintro e w' ⟨rfl, rfl⟩))
  clear e0 e1 e2 e3 e4 e5 e6 e7 f0 f1 f2 f3 f4 f5 f6 f7 HP h1' h2' h1 h2 KEEP
  have z1 := HK.out
  have z2 := HF.out
  obtain ⟨W9, hW⟩ : ∃ W9, W9 = ((st8 w B (p + q * 8) x).alloc (.cells (ics x) 35)).drew := ⟨_, rfl⟩
  rw [← hW] at HB HR z1 z2
  rw [← hW]
  clear hW HK HF
  go_wp2
  go_end0
  exact ⟨rfl, HB.out.set (p + 129) _, HR.out.setCell ⟨B, p + 129, none⟩ _ (.inl rfl)⟩

set_option maxRecDepth 100000 in
set_option maxHeartbeats 1000000 in
theorem drop_any (w : World) (B p st n : Nat) (f : Nat → Int) (h : Blk w B f) (hp : p + 130 ≤ 8322) (hs : st < 16) (hn : n ≤ 16) (hn1 : 1 ≤ n) (g1 : f (p + 128) = st) (g2 : f (p + 129) = n) :
    Calls Try.prog 31 #[.pointer (some ⟨B, p, none⟩)] w fun e w' => e = .returned (.tuple #[]) ∧ Blk w' B (upF (upF (put8 f (p + st * 8) it0) (p + 128) (((st + 1) % 16 : Nat) : Int)) (p + 129) ((n : Int) - 1)) ∧ Fr (fun k => k = B) w w' := by
  have hs' : (st : Int) < 16 := by omega
  have hn' : (n : Int) ≤ 16 := by omega
  have hn2 : 1 ≤ (n : Int) := by omega
  have hb := h.lt
  have h1 := h.at (by omega) g1
  have h2 := h.at (by omega) g2
  obtain ⟨q, hq⟩ : ∃ q, (st + 1) % 16 = q := ⟨_, rfl⟩
  have P : ∀ W : World, W.cell? ⟨B, p + 128, none⟩ = some (.int .i64 st) → Calls Try.prog 36 #[.pointer (some ⟨B, p, none⟩), .int .i64 1] W fun e w' => e = .returned (.int .i64 (q : Int)) ∧ W = w' := fun W h1 => by
    rw [← hq]
    exact place_any W B p st 1 h1 hs (by omega)
  rw [hq]
  have e0 := (h.c (p + st * 8) (by omega)).1
  have e1 := (h.c (p + st * 8 + 1) (by omega)).1
  have e2 := (h.c (p + st * 8 + 2) (by omega)).1
  have e3 := (h.c (p + st * 8 + 3) (by omega)).1
  have e4 := (h.c (p + st * 8 + 4) (by omega)).1
  have e5 := (h.c (p + st * 8 + 5) (by omega)).1
  have e6 := (h.c (p + st * 8 + 6) (by omega)).1
  have e7 := (h.c (p + st * 8 + 7) (by omega)).1
  have f0 := (h.c (p + st * 8) (by omega)).2
  have f1 := (h.c (p + st * 8 + 1) (by omega)).2
  have f2 := (h.c (p + st * 8 + 2) (by omega)).2
  have f3 := (h.c (p + st * 8 + 3) (by omega)).2
  have f4 := (h.c (p + st * 8 + 4) (by omega)).2
  have f5 := (h.c (p + st * 8 + 5) (by omega)).2
  have f6 := (h.c (p + st * 8 + 6) (by omega)).2
  have f7 := (h.c (p + st * 8 + 7) (by omega)).2
  have hB8 : Blk (st8 w B (p + st * 8) it0).drew B (put8 f (p + st * 8) it0) := (h.set8 (p + st * 8) it0).drew
  have hF8 : Fr (fun k => k = B) w (st8 w B (p + st * 8) it0).drew := (fr8 w B (p + st * 8) it0).drew
  have k1 := hB8.at (i := p + 128) (by omega) ((put8_out f (p + st * 8) it0 (p + 128) (by omega)).trans g1)
  have k2 := hB8.at (i := p + 129) (by omega) ((put8_out f (p + st * 8) it0 (p + 129) (by omega)).trans g2)
  have z1 := (hB8.c (p + 128) (by omega)).2
  have z2 := (hB8.c (p + 129) (by omega)).2
  obtain ⟨W9, hW⟩ : ∃ W9, W9 = (st8 w B (p + st * 8) it0).drew := ⟨_, rfl⟩
  rw [← hW] at hB8 hF8 k1 k2 z1 z2
  have k3 := (hB8.set (p + 128) (q : Int)).at (i := p + 129) (by omega) (show upF (put8 f (p + st * 8) it0) (p + 128) q (p + 129) = (n : Int) by rw [show upF (put8 f (p + st * 8) it0) (p + 128) q (p + 129) = put8 f (p + st * 8) it0 (p + 129) by simp [upF], put8_out f (p + st * 8) it0 (p + 129) (by omega), g2])
  have HB : Hid _ := hB8
  have HR : Hid _ := hF8
  have HP : Hid _ := P
  clear h P hq hB8 hF8 g1 g2
  go_enter Try.func31, Try.ntmps31
  go_wp2
  go_region
  clear e0 e1 e2 e3 e4 e5 e6 e7 f0 f1 f2 f3 f4 f5 f6 f7 h1 h2
  simp only [st8, it0] at hW
  rw [← hW]
  clear hW
  go_wp2_with (go_at_call 36; refine (Hid.out HP _ (by assumption)).mono ?_; rintro e w' ⟨rfl, rfl⟩)
  go_end0
  exact ⟨rfl, (HB.out.set (p + 128) _).set (p + 129) _, (HR.out.setCell ⟨B, p + 128, none⟩ _ (.inl rfl)).setCell ⟨B, p + 129, none⟩ _ (.inl rfl)⟩
end Go.Proofs.Ytkngokpildoljaa
