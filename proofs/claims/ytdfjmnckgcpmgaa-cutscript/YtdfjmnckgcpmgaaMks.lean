/- Proved: rows of one-cell values: how they lie in memory, how they are made; a cut's calls write its own block alone. -/
import Derived.Test.YtdfjmnckgcpmgaaLq
import Derived.Laws.MakeOwn
namespace Go.Proofs.Ytdfjmnckgcpmgaa
open Go.RowKit Go.Shelf
open K
set_option linter.unusedVariables false

structure Rv (w : World) (b n : Nat) (f : Nat → Value) : Prop where
  lt : b < w.heap.size
  c : ∀ i, i < n → w.cell? ⟨b, i, none⟩ = some (f i) ∧ w.frozen? ⟨b, i, none⟩ = false
theorem Rv.keep {S : Nat → Prop} {w w' : World} {b n : Nat} {f : Nat → Value} (h : Rv w b n f) (hf : Fr S w w') (hn : ¬ S b) : Rv w' b n f := ⟨Nat.lt_of_lt_of_le h.lt hf.size, fun i hi =>
  ⟨(hf.cell (p := ⟨b, i, none⟩) h.lt hn).trans (h.c i hi).1, (hf.frozen (p := ⟨b, i, none⟩) h.lt hn).trans (h.c i hi).2⟩⟩
theorem Rv.below {w w' : World} {b n : Nat} {f : Nat → Value} (h : Rv w b n f) (hb : Below w.heap.size w w') : Rv w' b n f := h.keep (Fr.of_below (S := fun _ => False) hb) (fun g => g)
theorem Rv.set {w : World} {b n : Nat} {f : Nat → Value} (h : Rv w b n f) (i : Nat) (v : Value) : Rv (w.setCell ⟨b, i, none⟩ v) b n (upV f i v) := ⟨by simpa using h.lt, fun j hj => by
  by_cases e : j = i
  · subst e
    refine ⟨?_, ?_⟩
    · rw [World.cell?_setCell_same' _ _ _ (by rw [(h.c j hj).1]; rfl)]
      simp [upV]
    · rw [World.frozen?_setCell]; exact (h.c j hj).2
  · refine ⟨?_, ?_⟩
    · rw [World.cell?_setCell_other _ _ _ _ (by intro g; exact e (by cases g; rfl))]
      simp [upV, e, (h.c j hj).1]
    · rw [World.frozen?_setCell]; exact (h.c j hj).2⟩
theorem Rv.same {w : World} {b n : Nat} {f g : Nat → Value} (h : Rv w b n f) (e : ∀ i, i < n → f i = g i) : Rv w b n g := ⟨h.lt, fun i hi => by rw [← e i hi]; exact h.c i hi⟩
theorem Rv.at {w : World} {b n : Nat} {f : Nat → Value} (h : Rv w b n f) {i : Nat} (hi : i < n) {v : Value} (hv : f i = v) : w.cell? ⟨b, i, none⟩ = some v := hv ▸ (h.c i hi).1
theorem Rv.new (w : World) (n : Nat) (f : Nat → Value) (cs : Array Value) (t : TypeId) (h : ∀ k, k < n → cs[k]? = some (f k)) : Rv (w.alloc (.cells cs t)) w.heap.size n f :=
  ⟨by simp, fun i hi => ⟨(cellB (newB w _) i).trans (h i hi), frozB (newB w _) i⟩⟩
theorem infoI : (Try.prog.info? 3).map (fun i => (i.zero, i.size, i.bytes)) = some (some (.int .i64 0), 1, 8) := by kernel_rfl
theorem infoB : (Try.prog.info? 4).map (fun i => (i.zero, i.size, i.bytes)) = some (some (.bool false), 1, 1) := by kernel_rfl
theorem make_i (w : World) (n : Nat) (h : n ≤ 8) : ∃ cs : Array Value, (∀ k, k < n → cs[k]? = some (.int .i64 0)) ∧ (Instr.makeSlice 38 (.int .i64 (n : Int)) (.int .i64 (n : Int))).run Try.prog w = .ok (.slice (some ⟨w.heap.size, 0, none⟩) n n) (w.alloc (.cells cs 3)) := by
  obtain ⟨i0, hi, hz0, hz1, hz2⟩ := info_parts infoI
  have := run_makeSlice (P := Try.prog) w 38 3 i0 _ Try.underlying38 hi hz0 .i64 .i64 (n : Int) (n : Int) (by omega) (by omega) (by rw [hz1]; simp; omega) (by rw [hz2]; omega) (by omega)
  rw [hz1] at this
  refine ⟨_, fun k hk => ?_, by simpa using this⟩
  simp [madeCells, Value.cells, hk, Nat.mod_one]
theorem make_b (w : World) (n : Nat) (h : n ≤ 8) : ∃ cs : Array Value, (∀ k, k < n → cs[k]? = some (.bool false)) ∧ (Instr.makeSlice 39 (.int .i64 (n : Int)) (.int .i64 (n : Int))).run Try.prog w = .ok (.slice (some ⟨w.heap.size, 0, none⟩) n n) (w.alloc (.cells cs 4)) := by
  obtain ⟨i0, hi, hz0, hz1, hz2⟩ := info_parts infoB
  have := run_makeSlice (P := Try.prog) w 39 4 i0 _ Try.underlying39 hi hz0 .i64 .i64 (n : Int) (n : Int) (by omega) (by omega) (by rw [hz1]; simp; omega) (by rw [hz2]; omega) (by omega)
  rw [hz1] at this
  refine ⟨_, fun k hk => ?_, by simpa using this⟩
  simp [madeCells, Value.cells, hk, Nat.mod_one]
/-! ### A cut's calls write its own block alone -/
theorem C1.beginF {w W : World} {B : Nat} {c : Cu} {b : Nat} (h : C1 w B c b W) :
    Calls Try.prog 10 #[pp b] W fun e w' => e = .returned (.int .i64 (begE c)) ∧ C1 w B (begC c) b w' ∧ Fr (fun k => k = b) W w' := (begin_any h.pt).mono fun e w' ⟨he, hp, hf⟩ => ⟨he, h.wr hp hf, hf⟩
theorem C1.sentF {w W : World} {B : Nat} {c : Cu} {b : Nat} (h : C1 w B c b W) (hB : B ≤ 1000000) (i t : Int) :
    Calls Try.prog 12 #[pp b, .int .i64 i, .int .i64 t] W fun e w' => e = .returned (.tuple #[.int .i64 (senK c i t), .int .i64 (senE c i t)]) ∧ C1 w (B + 1) (senC c i t) b w' ∧ Fr (fun k => k = b) W w' := (sent_any h.pt hB i t).mono fun e w' ⟨he, hp, hf⟩ => ⟨he, h.wr hp hf, hf⟩
theorem C1.gotF {w W : World} {B : Nat} {c : Cu} {b : Nat} (h : C1 w B c b W) (hB : B ≤ 1000000) (i k : Int) :
    Calls Try.prog 14 #[pp b, .int .i64 i, .int .i64 k] W fun e w' => e = .returned (.int .i64 (gotE c i k)) ∧ C1 w B (gotC c i k) b w' ∧ Fr (fun k => k = b) W w' := (got_any h.pt hB i k).mono fun e w' ⟨he, hp, hf⟩ => ⟨he, h.wr hp hf, hf⟩
theorem C1.turnF {w W : World} {B : Nat} {c : Cu} {b : Nat} (h : C1 w B c b W) (i : Int) :
    Calls Try.prog 16 #[pp b, .int .i64 i] W fun e w' => e = .returned (.int .i64 (turE c i)) ∧ C1 w B (turC c i) b w' ∧ Fr (fun k => k = b) W w' := (turn_any h.pt i).mono fun e w' ⟨he, hp, hf⟩ => ⟨he, h.wr hp hf, hf⟩
theorem C1.reportF {w W : World} {B : Nat} {c : Cu} {b : Nat} (h : C1 w B c b W) (hB : B ≤ 1000000) (i t : Int) :
    Calls Try.prog 18 #[pp b, .int .i64 i, .int .i64 t] W fun e w' => e = .returned (.int .i64 (repE c i t)) ∧ C1 w (B + 1) (repC c i t) b w' ∧ Fr (fun k => k = b) W w' := (report_any h.pt hB i t).mono fun e w' ⟨he, hp, hf⟩ => ⟨he, h.wr hp hf, hf⟩
theorem C1.keep {S : Nat → Prop} {w W W2 : World} {B : Nat} {c : Cu} {b : Nat} (h : C1 w B c b W) (hf : Fr S W W2) (hn : ¬ S b) (hs : ∀ i, S i → w.heap.size ≤ i) : C1 w B c b W2 := ⟨h.pt.keep hf hn, h.bel.trans (hf.below h.bel.size hs), h.ge⟩
theorem Q.keep {S : Nat → Prop} {w W W2 : World} {b m n : Nat} {is : Bool} {k : Int} {f g : Nat → Bool} {o0 o1 le v r : Int} (h : Q w b W m n is k f g o0 o1 le v r) (hf : Fr S W W2) (hn : ¬ S b) (hs : ∀ i, S i → w.heap.size ≤ i) : Q w b W2 m n is k f g o0 o1 le v r := by obtain ⟨c, h1, h2⟩ := h; exact ⟨c, h1.keep hf hn hs, h2⟩
theorem Q.turnF {w W : World} {b m n : Nat} {k : Int} {f g : Nat → Bool} {o0 o1 le v r : Int} (h : Q w b W m n true k f g o0 o1 le v r) {a : Nat} (ha : a < n) (hf : f a = false) :
    Calls Try.prog 16 #[pp b, .int .i64 a] W fun e w' => e = .returned (.int .i64 0) ∧ Q w b w' m n true k (too f a) g o0 o1 le v r ∧ Fr (fun k => k = b) W w' := by
  obtain ⟨c, h1, h2⟩ := h
  have C := h1.turnF a
  rw [(h2.tur ha hf).1] at C
  exact C.mono fun e w' ⟨he, h, hF⟩ => ⟨he, ⟨_, h, (h2.tur ha hf).2⟩, hF⟩
theorem Q.turn2F {w W : World} {b m n : Nat} {k : Int} {f g : Nat → Bool} {o0 o1 le v r : Int} (h : Q w b W m n true k f g o0 o1 le v r) {a : Nat} (ha : a < n) (hf : f a = true) :
    Calls Try.prog 16 #[pp b, .int .i64 a] W fun e w' => e = .returned (.int .i64 130) ∧ Q w b w' m n true k f g o0 o1 le v r ∧ Fr (fun k => k = b) W w' := by
  obtain ⟨c, h1, h2⟩ := h
  have C := h1.turnF a
  rw [(h2.tur2 ha hf).1, (h2.tur2 ha hf).2] at C
  exact C.mono fun e w' ⟨he, h, hF⟩ => ⟨he, ⟨_, h, h2⟩, hF⟩
theorem Q.ge {w W : World} {b m n : Nat} {is : Bool} {k : Int} {f g : Nat → Bool} {o0 o1 le v r : Int} (h : Q w b W m n is k f g o0 o1 le v r) : b < W.heap.size := by obtain ⟨c, h1, h2⟩ := h; exact h1.pt.lt
/-- Beside it a row tells who has turned. -/
structure QB (w : World) (b tb : Nat) (W : World) (m n : Nat) (k : Int) (f F : Nat → Bool) (v r : Int) : Prop where
  q : Q w b W m n true k f nob 0 0 inf v r
  row : Rv W tb n (fun i => .bool (F i))
  ne : tb ≠ b
  ge : w.heap.size ≤ tb
theorem QB.start {w W : World} {b m n : Nat} {k v r : Int} (h : Q w b W m n true k nob nob 0 0 inf v r) (cs : Array Value) (hcs : ∀ k, k < n → cs[k]? = some (.bool false)) : QB w b W.heap.size (W.alloc (.cells cs 4)) m n k nob nob v r :=
  ⟨h.on (al _ _), Rv.new W n _ cs 4 hcs, by have := h.ge; omega, h.bel.size⟩
theorem QB.turn {w W : World} {b tb m n : Nat} {k v r : Int} {f F : Nat → Bool} (h : QB w b tb W m n k f F v r) {a : Nat} (ha : a < n) (hf : f a = false) :
    Calls Try.prog 16 #[pp b, .int .i64 a] W fun e w' => e = .returned (.int .i64 0) ∧ QB w b tb w' m n k (too f a) F v r := (h.q.turnF ha hf).mono fun e w' ⟨he, h1, h2⟩ => ⟨he, h1, h.row.keep h2 h.ne, h.ne, h.ge⟩
theorem QB.turn2 {w W : World} {b tb m n : Nat} {k v r : Int} {f F : Nat → Bool} (h : QB w b tb W m n k f F v r) {a : Nat} (ha : a < n) (hf : f a = true) :
    Calls Try.prog 16 #[pp b, .int .i64 a] W fun e w' => e = .returned (.int .i64 130) ∧ QB w b tb w' m n k f F v r := (h.q.turn2F ha hf).mono fun e w' ⟨he, h1, h2⟩ => ⟨he, h1, h.row.keep h2 h.ne, h.ne, h.ge⟩
theorem QB.mark {w W : World} {b tb m n : Nat} {k v r : Int} {f F : Nat → Bool} (h : QB w b tb W m n k f F v r) (a : Nat) : QB w b tb (W.setCell ⟨tb, a, none⟩ (.bool true)) m n k f (too F a) v r := by
  have hF : Fr (fun k => k = tb) W (W.setCell ⟨tb, a, none⟩ (.bool true)) := (Fr.refl _ W).setCell _ _ (.inl rfl)
  refine ⟨h.q.keep hF (fun e => h.ne e.symm) (fun i e => by rw [e]; exact h.ge), (h.row.set a (.bool true)).same (fun i hi => ?_), h.ne, h.ge⟩
  unfold upV too
  by_cases e : i = a <;> simp [e]
theorem QB.same {w W : World} {b tb m n : Nat} {k v r : Int} {f F f' : Nat → Bool} (h : QB w b tb W m n k f F v r) (e : ∀ i, i < n → f i = f' i) : QB w b tb W m n k f' F v r := ⟨h.q.same e (fun _ _ => rfl), h.row, h.ne, h.ge⟩
theorem RR.colour {w W : World} {b m n j : Nat} {k : Int} {o0 o1 le v r : Int} (h : RR w b W m n j k o0 o1 le v r) (hj : j ≤ n) {i : Nat} (hi : i < n) : Calls Try.prog 23 #[pp b, .int .i64 i] W fun e w' => e = .returned (.int .i64 (1 - k)) ∧ W = w' := by
  by_cases e : j = n
  · exact (h.fin e).colour hi
  · exact (h.go (by omega)).colour hi
end Go.Proofs.Ytdfjmnckgcpmgaa
