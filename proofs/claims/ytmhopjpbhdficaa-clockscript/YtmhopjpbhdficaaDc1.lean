/- Proved: the contract of New of the document's clocks; both clocks beside each other, and their calls. -/
import Derived.Test.YtmhopjpbhdficaaDc0
import Derived.Test.YtmhopjpbhdficaaStp
import Derived.Laws.MakeOwn
namespace Go.Proofs.Ytmhopjpbhdficaa
open Go.RowKit Go.Shelf Go.Sort
set_option linter.unusedVariables false

theorem infoI : (Try.prog.info? 3).map (fun i => (i.zero, i.size, i.bytes)) = some (some (.int .i64 0), 1, 8) := by kernel_rfl
theorem make_n (w : World) (n : Nat) (h : n ≤ 8) : ∃ cs : Array Value, (∀ k, k < n → cs[k]? = some (.int .i64 0)) ∧ (Instr.makeSlice 41 (.int .i64 (n : Int)) (.int .i64 (n : Int))).run Try.prog w = .ok (.slice (some ⟨w.heap.size, 0, none⟩) n n) (w.alloc (.cells cs 3)) := by
  obtain ⟨i0, hi, hz0, hz1, hz2⟩ := info_parts infoI
  have := run_makeSlice (P := Try.prog) w 41 3 i0 _ Try.underlying41 hi hz0 .i64 .i64 (n : Int) (n : Int) (by omega) (by omega) (by rw [hz1]; simp; omega) (by rw [hz2]; omega) (by omega)
  rw [hz1] at this
  refine ⟨_, fun k hk => ?_, by simpa using this⟩
  simp [madeCells, Value.cells, hk, Nat.mod_one]
set_option maxRecDepth 100000 in
set_option maxHeartbeats 1000000 in
theorem dnew_ok (w : World) (n me : Nat) (h1 : 1 ≤ n) (h2 : n ≤ 8) (h3 : me < n) :
    Calls Try.prog 9 #[.int .i64 n, .int .i64 me] w fun e w' => e = .returned (.tuple #[.pointer (some ⟨w.heap.size + 1, 0, none⟩), .int .i64 0]) ∧ DC n me noC 0 (w.heap.size + 1) w.heap.size w' ∧ Below w.heap.size w w' := by
  obtain ⟨cs, hcs, mk⟩ := make_n w n h2
  have hn8 : (n : Int) ≤ 8 := by omega
  have hn1 : (1 : Int) ≤ n := by omega
  have hmn : (me : Int) < n := by omega
  have HD : Hid (DC n me noC 0 (w.heap.size + 1) w.heap.size ((w.alloc (.cells cs 3)).alloc (.cells #[.slice (some ⟨w.heap.size, 0, none⟩) n n, .int .i64 me, .int .i64 0] 51))) := by
    have k1 := (MapKept.heap_alloc (w.alloc (.cells cs 3)) (.cells #[.slice (some ⟨w.heap.size, 0, none⟩) n n, .int .i64 me, .int .i64 0] 51)).1
    rw [World.size_alloc] at k1
    have k0 : ((w.alloc (.cells cs 3)).alloc (.cells #[.slice (some ⟨w.heap.size, 0, none⟩) n n, .int .i64 me, .int .i64 0] 51)).heap[w.heap.size]? = some (.cells cs 3 (0, 0)) := (Below.heap_alloc _ _ _ (by simp)).trans (MapKept.heap_alloc w _).1
    refine ⟨k1, fun j hj hm => ⟨?_, ?_⟩, by simp; omega, by omega, noC_ok _ _, by decide, by decide, h2, h3⟩
    · rw [cellB k0 j]; exact hcs j hj
    · unfold World.frozen?
      simp only [k0]
      rfl
  clear hcs
  go_enter Try.func9, Try.ntmps9
  go_wp2
  go_ret2
  exact ⟨rfl, HD.out, Below.on (al w _) (al _ _)⟩
set_option maxRecDepth 100000 in
set_option maxHeartbeats 1000000 in
theorem dnew_no (w : World) (n me : Int) (h : ¬ (1 ≤ n ∧ n ≤ 8 ∧ 0 ≤ me ∧ me < n)) :
    Calls Try.prog 9 #[.int .i64 n, .int .i64 me] w fun e w' => e = .returned (.tuple #[.pointer none, .int .i64 1]) ∧ w = w' := by
  by_cases h1 : n < 1
  · go_enter Try.func9, Try.ntmps9
    go_wp2
    go_ret2
    exact ⟨rfl, rfl⟩
  by_cases h2 : 8 < n
  · go_enter Try.func9, Try.ntmps9
    go_wp2
    go_ret2
    exact ⟨rfl, rfl⟩
  by_cases h3 : me < 0
  · go_enter Try.func9, Try.ntmps9
    go_wp2
    go_ret2
    exact ⟨rfl, rfl⟩
  have h4 : n ≤ me := by omega
  clear h
  go_enter Try.func9, Try.ntmps9
  go_wp2
  go_ret2
  exact ⟨rfl, rfl⟩

/-- A call in a block of its own. -/
structure BoxS (w : World) (B : Nat) (s : St) : Prop where
  b : w.heap[B]? = some (.cells (scs s) 31 (0, 0))
theorem BoxS.lt {w : World} {B : Nat} {s : St} (h : BoxS w B s) : B < w.heap.size := (Array.getElem?_eq_some_iff.1 h.b).1
theorem BoxS.new (w : World) (s : St) : BoxS (w.alloc (.cells (scs s) 31)) w.heap.size s := ⟨(MapKept.heap_alloc w _).1⟩
theorem BoxS.keep {S : Nat → Prop} {w W : World} {B : Nat} {s : St} (h : BoxS w B s) (hf : Fr S w W) (hn : ¬ S B) : BoxS W B s := ⟨(hf.block B h.lt hn).trans h.b⟩
theorem BoxS.below {w W : World} {B : Nat} {s : St} (h : BoxS w B s) (hb : Below w.heap.size w W) : BoxS W B s := h.keep (Fr.of_below (S := fun _ => False) hb) (fun g => g)
theorem BoxS.cells {w : World} {B : Nat} {s : St} (h : BoxS w B s) : w.cell? ⟨B, 0, none⟩ = some (.int .i64 s.k) ∧ w.cell? ⟨B, 1, none⟩ = some (.int .i64 s.a) ∧ w.cell? ⟨B, 2, none⟩ = some (.int .i64 s.b) := ⟨cellB h.b 0, cellB h.b 1, cellB h.b 2⟩

/-- Both clocks, made since w: the program's at c, t, the document's at d, u. -/
structure P2 (w W : World) (n me : Nat) (c : Int → Int) (t : Int) (d : Int → Int) (u : Int) (b mb db rb : Nat) : Prop where
  x : P1 w W n me c t b mb
  y : DC n me d u db rb W
  ly : w.heap.size ≤ db
  lr : w.heap.size ≤ rb
  n1 : b ≠ db
  n2 : b ≠ rb
  n3 : mb ≠ db
  n4 : mb ≠ rb
theorem P2.on {w W W2 : World} {n me : Nat} {c : Int → Int} {t : Int} {d : Int → Int} {u : Int} {b mb db rb : Nat} (h : P2 w W n me c t d u b mb db rb) (hb : Below W.heap.size W W2) : P2 w W2 n me c t d u b mb db rb := ⟨h.x.on hb, h.y.below hb, h.ly, h.lr, h.n1, h.n2, h.n3, h.n4⟩
theorem P2.wx {w W W2 : World} {n me : Nat} {c c2 : Int → Int} {t t2 : Int} {d : Int → Int} {u : Int} {b mb db rb : Nat} {S : Nat → Prop} (h : P2 w W n me c t d u b mb db rb) (hn : PC n me c2 t2 b mb W2) (hf : Fr S W W2) (hs : ∀ k, S k → k = b ∨ k = mb) : P2 w W2 n me c2 t2 d u b mb db rb :=
  ⟨h.x.wr hn hf hs, h.y.keep hf (fun g => by rcases hs _ g with e | e; exact h.n1 e.symm; exact h.n3 e.symm) (fun g => by rcases hs _ g with e | e; exact h.n2 e.symm; exact h.n4 e.symm), h.ly, h.lr, h.n1, h.n2, h.n3, h.n4⟩
theorem P2.wy {w W W2 : World} {n me : Nat} {c : Int → Int} {t : Int} {d d2 : Int → Int} {u u2 : Int} {b mb db rb : Nat} {S : Nat → Prop} (h : P2 w W n me c t d u b mb db rb) (hn : DC n me d2 u2 db rb W2) (hf : Fr S W W2) (hs : ∀ k, S k → k = db ∨ k = rb) : P2 w W2 n me c t d2 u2 b mb db rb :=
  ⟨⟨h.x.pc.keep hf (fun g => by rcases hs _ g with e | e; exact h.n1 e; exact h.n2 e) (fun g => by rcases hs _ g with e | e; exact h.n3 e; exact h.n4 e), h.x.lo, h.x.ml, h.x.bel.trans (hf.below h.x.bel.size (fun i e => by rcases hs i e with rfl | rfl; exact h.ly; exact h.lr))⟩, hn, h.ly, h.lr, h.n1, h.n2, h.n3, h.n4⟩
/-- Both, and a call's box that is none of theirs. -/
structure P3 (w W : World) (n me : Nat) (c : Int → Int) (t : Int) (d : Int → Int) (u : Int) (b mb db rb ob : Nat) (s : St) : Prop where
  p : P2 w W n me c t d u b mb db rb
  bx : BoxS W ob s
  o1 : ob ≠ b
  o2 : ob ≠ mb
  o3 : ob ≠ db
  o4 : ob ≠ rb
theorem P3.on {w W W2 : World} {n me : Nat} {c : Int → Int} {t : Int} {d : Int → Int} {u : Int} {b mb db rb ob : Nat} {s : St} (h : P3 w W n me c t d u b mb db rb ob s) (hb : Below W.heap.size W W2) : P3 w W2 n me c t d u b mb db rb ob s := ⟨h.p.on hb, h.bx.below hb, h.o1, h.o2, h.o3, h.o4⟩
theorem P3.hearx {w W : World} {n me : Nat} {c : Int → Int} {t : Int} {d : Int → Int} {u : Int} {b mb db rb ob : Nat} {s : St} (h : P3 w W n me c t d u b mb db rb ob s) (j x : Int) (hj : wfI j) :
    Calls Try.prog 10 #[.pointer (some ⟨b, 0, none⟩), .int .i64 j, .int .i64 x] W fun e w' => e = .returned (.int .i64 (hrE n me c j x)) ∧ P3 w w' n me (hrC n me c j x) t d u b mb db rb ob s :=
  (hear_any h.p.x.pc j x hj).mono fun e w' ⟨he, hp, hf⟩ => ⟨he, h.p.wx hp hf (fun k e => Or.inr e), h.bx.keep hf h.o2, h.o1, h.o2, h.o3, h.o4⟩
theorem P3.heary {w W : World} {n me : Nat} {c : Int → Int} {t : Int} {d : Int → Int} {u : Int} {b mb db rb ob : Nat} {s : St} (h : P3 w W n me c t d u b mb db rb ob s) (j x : Int) :
    Calls Try.prog 11 #[.pointer (some ⟨db, 0, none⟩), .int .i64 j, .int .i64 x] W fun e w' => e = .returned (.int .i64 (hrE n me d j x)) ∧ P3 w w' n me c t (hrC n me d j x) u b mb db rb ob s :=
  (dhear_any h.p.y j x).mono fun e w' ⟨he, hp, hf⟩ => ⟨he, h.p.wy hp hf (fun k e => Or.inr e), h.bx.keep hf h.o4, h.o1, h.o2, h.o3, h.o4⟩
theorem P3.tellx {w W : World} {n me : Nat} {c : Int → Int} {t : Int} {d : Int → Int} {u : Int} {b mb db rb ob : Nat} {s : St} (h : P3 w W n me c t d u b mb db rb ob s) (j x : Int) :
    Calls Try.prog 12 #[.pointer (some ⟨b, 0, none⟩), .int .i64 j, .int .i64 x] W fun e w' => e = .returned (.tuple #[.int .i64 (tlT n me c t j x), .bool (tlB n me c t j x)]) ∧ P3 w w' n me c (tlT n me c t j x) d u b mb db rb ob s :=
  (tell_any h.p.x.pc j x).mono fun e w' ⟨he, hp, hf⟩ => ⟨he, h.p.wx hp hf (fun k e => Or.inl e), h.bx.keep hf h.o1, h.o1, h.o2, h.o3, h.o4⟩
theorem P3.telly {w W : World} {n me : Nat} {c : Int → Int} {t : Int} {d : Int → Int} {u : Int} {b mb db rb ob : Nat} {s : St} (h : P3 w W n me c t d u b mb db rb ob s) (j x : Int) :
    Calls Try.prog 13 #[.pointer (some ⟨db, 0, none⟩), .int .i64 j, .int .i64 x] W fun e w' => e = .returned (.tuple #[.int .i64 (tlT n me d u j x), .bool (tlB n me d u j x)]) ∧ P3 w w' n me c t d (tlT n me d u j x) b mb db rb ob s :=
  (dtell_any h.p.y j x).mono fun e w' ⟨he, hp, hf⟩ => ⟨he, h.p.wy hp hf (fun k e => Or.inl e), h.bx.keep hf h.o3, h.o1, h.o2, h.o3, h.o4⟩
theorem P3.boundx {w W : World} {n me : Nat} {c : Int → Int} {t : Int} {d : Int → Int} {u : Int} {b mb db rb ob : Nat} {s : St} (h : P3 w W n me c t d u b mb db rb ob s) :
    Calls Try.prog 16 #[.pointer (some ⟨b, 0, none⟩)] W fun e w' => e = .returned (.int .i64 (bnd n me c)) ∧ P3 w w' n me c t d u b mb db rb ob s :=
  (bound_any h.p.x.pc).mono fun e w' ⟨he, hb⟩ => ⟨he, h.on hb⟩
theorem P3.boundy {w W : World} {n me : Nat} {c : Int → Int} {t : Int} {d : Int → Int} {u : Int} {b mb db rb ob : Nat} {s : St} (h : P3 w W n me c t d u b mb db rb ob s) :
    Calls Try.prog 17 #[.pointer (some ⟨db, 0, none⟩)] W fun e w' => e = .returned (.int .i64 (bnd n me d)) ∧ P3 w w' n me c t d u b mb db rb ob s :=
  (dbound_any h.p.y).mono fun e w' ⟨he, hb⟩ => ⟨he, by rw [← hb]; exact h⟩
theorem P3.atx {w W : World} {n me : Nat} {c : Int → Int} {t : Int} {d : Int → Int} {u : Int} {b mb db rb ob : Nat} {s : St} (h : P3 w W n me c t d u b mb db rb ob s) (j : Int) (hj : wfI j) :
    Calls Try.prog 14 #[.pointer (some ⟨b, 0, none⟩), .int .i64 j] W fun e w' => e = .returned (.int .i64 (atC n me c j)) ∧ P3 w w' n me c t d u b mb db rb ob s :=
  (at_any h.p.x.pc j hj).mono fun e w' ⟨he, hb⟩ => ⟨he, by rw [← hb]; exact h⟩
theorem P3.aty {w W : World} {n me : Nat} {c : Int → Int} {t : Int} {d : Int → Int} {u : Int} {b mb db rb ob : Nat} {s : St} (h : P3 w W n me c t d u b mb db rb ob s) (j : Int) :
    Calls Try.prog 15 #[.pointer (some ⟨db, 0, none⟩), .int .i64 j] W fun e w' => e = .returned (.int .i64 (atC n me d j)) ∧ P3 w w' n me c t d u b mb db rb ob s :=
  (dat_any h.p.y j).mono fun e w' ⟨he, hb⟩ => ⟨he, by rw [← hb]; exact h⟩
theorem P3.toldx {w W : World} {n me : Nat} {c : Int → Int} {t : Int} {d : Int → Int} {u : Int} {b mb db rb ob : Nat} {s : St} (h : P3 w W n me c t d u b mb db rb ob s) :
    Calls Try.prog 18 #[.pointer (some ⟨b, 0, none⟩)] W fun e w' => e = .returned (.int .i64 t) ∧ P3 w w' n me c t d u b mb db rb ob s :=
  (told_any h.p.x.pc).mono fun e w' ⟨he, hb⟩ => ⟨he, by rw [← hb]; exact h⟩
theorem P3.toldy {w W : World} {n me : Nat} {c : Int → Int} {t : Int} {d : Int → Int} {u : Int} {b mb db rb ob : Nat} {s : St} (h : P3 w W n me c t d u b mb db rb ob s) :
    Calls Try.prog 19 #[.pointer (some ⟨db, 0, none⟩)] W fun e w' => e = .returned (.int .i64 u) ∧ P3 w w' n me c t d u b mb db rb ob s :=
  (dtold_any h.p.y).mono fun e w' ⟨he, hb⟩ => ⟨he, by rw [← hb]; exact h⟩
end Go.Proofs.Ytmhopjpbhdficaa
