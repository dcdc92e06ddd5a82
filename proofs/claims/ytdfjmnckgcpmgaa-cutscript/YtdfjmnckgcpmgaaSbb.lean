/- Proved: the program's cut and the document's beside each other, and a call's box; slices of calls that came in. -/
import Derived.Test.YtdfjmnckgcpmgaaDc3
import Derived.Test.YtdfjmnckgcpmgaaNum
namespace Go.Proofs.Ytdfjmnckgcpmgaa
open Go.ChangeShapes Go.WideShapes Go.ChangeAt Go.RowKit Go.Deep Go.Joins Go.Shelf
open K (Cu begC begE senC senE senK gotC gotE turC turE repC repE colE okT addOn_rest)
set_option linter.unusedVariables false

structure St where
  k : Int
  a : Int
  b : Int
def encS (s : St) : List Value := [.int .i64 s.k, .int .i64 s.a, .int .i64 s.b]
def st0 : St := ⟨0, 0, 0⟩
def nthS (l : List St) (i : Nat) : St := l.getD i st0
def RdS (w : World) (a : Option Addr) (l : List St) : Prop := l ≠ [] → ∃ b off, a = some ⟨b, off, none⟩ ∧ b < w.heap.size ∧ ∀ i, i < l.length → ∀ c, c < 3 → w.cell? ⟨b, off + i * 3 + c, none⟩ = (encS (nthS l i))[c]?
theorem RdS.cells {w : World} {a : Option Addr} {l : List St} (h : RdS w a l) {i : Nat} (hi : i < l.length) {s : St} (hs : nthS l i = s) :
    ∃ b off, a = some ⟨b, off, none⟩ ∧ b < w.heap.size ∧ ∀ W, Below w.heap.size w W → W.cell? ⟨b, off + i * 3, none⟩ = some (.int .i64 s.k) ∧ W.cell? ⟨b, off + i * 3 + 1, none⟩ = some (.int .i64 s.a) ∧ W.cell? ⟨b, off + i * 3 + 2, none⟩ = some (.int .i64 s.b) := by
  subst hs
  obtain ⟨b, off, rfl, hb, hc⟩ := h (by intro e; rw [e] at hi; simp at hi)
  refine ⟨b, off, rfl, hb, fun W hW => ?_⟩
  have g : ∀ c, c < 3 → W.cell? ⟨b, off + i * 3 + c, none⟩ = (encS (nthS l i))[c]? := fun c h3 => (hW.cell (p := ⟨b, off + i * 3 + c, none⟩) hb).trans (hc i hi c h3)
  exact ⟨g 0 (by omega), g 1 (by omega), g 2 (by omega)⟩
theorem cellsS : Try.prog.cellsOf 31 = 3 := by kernel_rfl
theorem list3 {cs : List Value} (h : cs.length = 3) : ∃ a b c, cs = [a, b, c] := by
  match cs, h with
  | [a, b, c], _ => exact ⟨a, b, c, rfl⟩
theorem open_j1 {H : Type} {en : TypeId × Value → H} {W : World} {base fuel : Nat} {spare : Nat → Bool} {held : Bool} {cs : List Value} {x : DataW H × List MemPlace} (h : DataW.trod en Try.prog W base spare held fuel 3 cs = some x) :
    ∃ a : Int, cs = [.int .i64 a] := by
  obtain ⟨p, e0, _, _⟩ := DataW.trod_int Try.underlying3 h
  exact ⟨p, e0⟩
theorem open_step {H : Type} {en : TypeId × Value → H} {W : World} {base fuel : Nat} {spare : Nat → Bool} {held : Bool} {cs : List Value} {x : DataW H × List MemPlace} (h : DataW.trod en Try.prog W base spare held fuel 31 cs = some x) :
    ∃ s : St, cs = encS s ∧ True := by
  obtain ⟨y0, y1, y2, n, _, hl, h0, h1, h2⟩ := trod_struct3 Try.underlying31 h
  rw [cellsS] at hl
  obtain ⟨a, b, c, rfl⟩ := list3 hl
  simp only [cells3] at h0 h1 h2
  obtain ⟨p, e0⟩ := open_j1 h0
  obtain ⟨q, e1⟩ := open_j1 h1
  obtain ⟨r, e2⟩ := open_j1 h2
  simp at e0 e1 e2
  subst e0 e1 e2
  exact ⟨⟨p, q, r⟩, rfl, trivial⟩
theorem open_stps {H : Type} {en : TypeId × Value → H} {W : World} {base fuel : Nat} {spare : Nat → Bool} {held : Bool} {v : Value} {x : DataW H × List MemPlace} (h : DataW.trod en Try.prog W base spare held fuel 22 [v] = some x) :
    ∃ (sa : Option Addr) (sc : Nat) (l : List St), v = .slice sa l.length sc ∧ l.length ≤ maxLen ∧ RdS W sa l := by
  obtain ⟨sa, sc, l, rfl, hm, hok, hrd⟩ := open_gen st0 31 22 encS 3 (by omega) (fun _ => rfl) cellsS Try.underlying22 (fun _ => True) (fun n cs x h => open_step h) h
  exact ⟨sa, sc, l, rfl, hm, hrd⟩
/-- The two cuts. -/
structure D2 (w : World) (B : Nat) (c : Cu) (b db : Nat) (W : World) : Prop where
  ex : ∃ rb tb eb, C1 w B c b W ∧ DT B c db rb tb eb W ∧ ∀ k, DS db rb tb eb k → k ≠ b ∧ w.heap.size ≤ k
def sv (s : St) (j : Nat) : Value := if j = 0 then .int .i64 s.k else if j = 1 then .int .i64 s.a else .int .i64 s.b
/-- And a call's box. -/
structure D3 (w : World) (B : Nat) (c : Cu) (B' : Nat) (c' : Cu) (b db ob : Nat) (s : St) (W : World) : Prop where
  ex : ∃ rb tb eb, C1 w B c b W ∧ DT B' c' db rb tb eb W ∧ (∀ k, DS db rb tb eb k → k ≠ b ∧ k ≠ ob ∧ w.heap.size ≤ k) ∧ Rv W ob 3 (sv s) ∧ ob ≠ b ∧ w.heap.size ≤ ob
theorem D2.bel {w : World} {B : Nat} {c : Cu} {b db : Nat} {W : World} (h : D2 w B c b db W) : Below w.heap.size w W := by obtain ⟨_, _, _, h1, _⟩ := h; exact h1.bel
theorem D3.bel {w : World} {B : Nat} {c : Cu} {B' : Nat} {c' : Cu} {b db ob : Nat} {s : St} {W : World} (h : D3 w B c B' c' b db ob s W) : Below w.heap.size w W := by obtain ⟨_, _, _, h1, _⟩ := h; exact h1.bel
theorem DT.lts {B : Nat} {c : Cu} {db rb tb eb : Nat} {W : World} (h : DT B c db rb tb eb W) : ∀ k, DS db rb tb eb k → k < W.heap.size := fun k hk => by
  rcases hk with rfl | rfl | rfl | rfl
  · exact h.rcd.lt
  · exact h.rco.lt
  · exact h.rtu.lt
  · exact h.rre.lt
theorem D2.box {w : World} {B : Nat} {c : Cu} {b db : Nat} {W : World} (h : D2 w B c b db W) (s : St) : D3 w B c B c b db W.heap.size s (W.alloc (.cells #[.int .i64 s.k, .int .i64 s.a, .int .i64 s.b] 31)) := by
  obtain ⟨rb, tb, eb, h1, h2, h3⟩ := h
  refine ⟨rb, tb, eb, h1.on (al _ _), h2.below (al _ _), fun k hk => ⟨(h3 k hk).1, by have := h2.lts k hk; omega, (h3 k hk).2⟩, Rv.new W 3 (sv s) _ _ (fun k hk => ?_), by have := h1.pt.lt; omega, h1.bel.size⟩
  have : k = 0 ∨ k = 1 ∨ k = 2 := by omega
  rcases this with rfl | rfl | rfl <;> rfl
theorem D3.out {w : World} {B : Nat} {c : Cu} {b db ob : Nat} {s : St} {W : World} (h : D3 w B c B c b db ob s W) : D2 w B c b db W := by
  obtain ⟨rb, tb, eb, h1, h2, h3, _⟩ := h
  exact ⟨rb, tb, eb, h1, h2, fun k hk => ⟨(h3 k hk).1, (h3 k hk).2.2⟩⟩
theorem D3.wide {w : World} {B B1 : Nat} {c : Cu} {B' B1' : Nat} {c' : Cu} {b db ob : Nat} {s : St} {W : World} (h : D3 w B c B' c' b db ob s W) (hB : B ≤ B1) (hB' : B' ≤ B1') : D3 w B1 c B1' c' b db ob s W := by
  obtain ⟨rb, tb, eb, h1, h2, h3⟩ := h
  exact ⟨rb, tb, eb, h1.wide hB, h2.wide hB', h3⟩
theorem D3.on {w : World} {B : Nat} {c : Cu} {B' : Nat} {c' : Cu} {b db ob : Nat} {s : St} {W W2 : World} (h : D3 w B c B' c' b db ob s W) (g : Below W.heap.size W W2) : D3 w B c B' c' b db ob s W2 := by
  obtain ⟨rb, tb, eb, h1, h2, h3, h4, h5⟩ := h
  exact ⟨rb, tb, eb, h1.on g, h2.below g, h3, h4.below g, h5⟩
theorem D3.cells {w : World} {B : Nat} {c : Cu} {B' : Nat} {c' : Cu} {b db ob : Nat} {s : St} {W : World} (h : D3 w B c B' c' b db ob s W) : W.cell? ⟨ob, 0, none⟩ = some (.int .i64 s.k) ∧ W.cell? ⟨ob, 1, none⟩ = some (.int .i64 s.a) ∧ W.cell? ⟨ob, 2, none⟩ = some (.int .i64 s.b) := by
  obtain ⟨rb, tb, eb, h1, h2, h3, h4, h5⟩ := h
  exact ⟨h4.at (i := 0) (by omega) rfl, h4.at (i := 1) (by omega) rfl, h4.at (i := 2) (by omega) rfl⟩
theorem D3.tells {w : World} {B : Nat} {c : Cu} {B' : Nat} {c' : Cu} {b db ob : Nat} {s : St} {W : World} (h : D3 w B c B' c' b db ob s W) : W.cell? ⟨db, 8, none⟩ = some (.int .i64 c'.v) ∧ W.cell? ⟨db, 9, none⟩ = some (.int .i64 c'.r) ∧ W.cell? ⟨db, 5, none⟩ = some (.bool c'.is) := by
  obtain ⟨rb, tb, eb, h1, h2, h3, h4, h5⟩ := h
  exact ⟨h2.rcd.at (i := 8) (by omega) rfl, h2.rcd.at (i := 9) (by omega) rfl, h2.rcd.at (i := 5) (by omega) rfl⟩
theorem D3.px {w : World} {B1 : Nat} {c1 : Cu} {B' : Nat} {c' : Cu} {b db ob : Nat} {s : St} {W W2 : World} {rb tb eb : Nat} (h2 : DT B' c' db rb tb eb W) (h3 : ∀ k, DS db rb tb eb k → k ≠ b ∧ k ≠ ob ∧ w.heap.size ≤ k) (h4 : Rv W ob 3 (sv s)) (h5 : ob ≠ b ∧ w.heap.size ≤ ob) (g : C1 w B1 c1 b W2) (hf : Fr (fun k => k = b) W W2) : D3 w B1 c1 B' c' b db ob s W2 :=
  ⟨rb, tb, eb, g, h2.keep hf (fun k hk e => (h3 k hk).1 e), h3, h4.keep hf h5.1, h5⟩
theorem D3.py {w : World} {B : Nat} {c : Cu} {B1' : Nat} {c1' : Cu} {b db ob : Nat} {s : St} {W W2 : World} {rb tb eb : Nat} (h1 : C1 w B c b W) (h3 : ∀ k, DS db rb tb eb k → k ≠ b ∧ k ≠ ob ∧ w.heap.size ≤ k) (h4 : Rv W ob 3 (sv s)) (h5 : ob ≠ b ∧ w.heap.size ≤ ob) (g : DT B1' c1' db rb tb eb W2) (hf : Fr (DS db rb tb eb) W W2) : D3 w B c B1' c1' b db ob s W2 :=
  ⟨rb, tb, eb, h1.keep hf (fun e => (h3 b e).1 rfl) (fun i e => (h3 i e).2.2), g, h3, h4.keep hf (fun e => (h3 ob e).2.1 rfl), h5⟩
theorem D3.beginx {w : World} {B : Nat} {c : Cu} {B' : Nat} {c' : Cu} {b db ob : Nat} {s : St} {W : World} (h : D3 w B c B' c' b db ob s W) :
    Calls Try.prog 10 #[pp b] W fun e w' => e = .returned (.int .i64 (begE c)) ∧ D3 w B (begC c) B' c' b db ob s w' := by
  obtain ⟨rb, tb, eb, h1, h2, h3, h4, h5⟩ := h
  exact (h1.beginF).mono fun e w' ⟨he, g, hf⟩ => ⟨he, D3.px h2 h3 h4 h5 g hf⟩
theorem D3.sentx {w : World} {B : Nat} {c : Cu} {B' : Nat} {c' : Cu} {b db ob : Nat} {s : St} {W : World} (h : D3 w B c B' c' b db ob s W) (hB : B ≤ 1000000) (i t : Int) :
    Calls Try.prog 12 #[pp b, .int .i64 i, .int .i64 t] W fun e w' => e = .returned (.tuple #[.int .i64 (senK c i t), .int .i64 (senE c i t)]) ∧ D3 w (B + 1) (senC c i t) B' c' b db ob s w' := by
  obtain ⟨rb, tb, eb, h1, h2, h3, h4, h5⟩ := h
  exact (h1.sentF hB i t).mono fun e w' ⟨he, g, hf⟩ => ⟨he, D3.px h2 h3 h4 h5 g hf⟩
theorem D3.senty {w : World} {B : Nat} {c : Cu} {B' : Nat} {c' : Cu} {b db ob : Nat} {s : St} {W : World} (h : D3 w B c B' c' b db ob s W) (hB : B' ≤ 1000000) (i t : Int) :
    Calls Try.prog 13 #[pp db, .int .i64 i, .int .i64 t] W fun e w' => e = .returned (.tuple #[.int .i64 (senK c' i t), .int .i64 (senE c' i t)]) ∧ D3 w B c (B' + 1) (senC c' i t) b db ob s w' := by
  obtain ⟨rb, tb, eb, h1, h2, h3, h4, h5⟩ := h
  exact (dsent_any h2 hB i t).mono fun e w' ⟨he, g, hf⟩ => ⟨he, D3.py h1 h3 h4 h5 g hf⟩
theorem D3.gotx {w : World} {B : Nat} {c : Cu} {B' : Nat} {c' : Cu} {b db ob : Nat} {s : St} {W : World} (h : D3 w B c B' c' b db ob s W) (hB : B ≤ 1000000) (i k : Int) :
    Calls Try.prog 14 #[pp b, .int .i64 i, .int .i64 k] W fun e w' => e = .returned (.int .i64 (gotE c i k)) ∧ D3 w B (gotC c i k) B' c' b db ob s w' := by
  obtain ⟨rb, tb, eb, h1, h2, h3, h4, h5⟩ := h
  exact (h1.gotF hB i k).mono fun e w' ⟨he, g, hf⟩ => ⟨he, D3.px h2 h3 h4 h5 g hf⟩
theorem D3.goty {w : World} {B : Nat} {c : Cu} {B' : Nat} {c' : Cu} {b db ob : Nat} {s : St} {W : World} (h : D3 w B c B' c' b db ob s W) (hB : B' ≤ 1000000) (i k : Int) :
    Calls Try.prog 15 #[pp db, .int .i64 i, .int .i64 k] W fun e w' => e = .returned (.int .i64 (gotE c' i k)) ∧ D3 w B c B' (gotC c' i k) b db ob s w' := by
  obtain ⟨rb, tb, eb, h1, h2, h3, h4, h5⟩ := h
  exact (dgot_any h2 hB i k).mono fun e w' ⟨he, g, hf⟩ => ⟨he, D3.py h1 h3 h4 h5 g hf⟩
theorem D3.turnx {w : World} {B : Nat} {c : Cu} {B' : Nat} {c' : Cu} {b db ob : Nat} {s : St} {W : World} (h : D3 w B c B' c' b db ob s W) (i : Int) :
    Calls Try.prog 16 #[pp b, .int .i64 i] W fun e w' => e = .returned (.int .i64 (turE c i)) ∧ D3 w B (turC c i) B' c' b db ob s w' := by
  obtain ⟨rb, tb, eb, h1, h2, h3, h4, h5⟩ := h
  exact (h1.turnF i).mono fun e w' ⟨he, g, hf⟩ => ⟨he, D3.px h2 h3 h4 h5 g hf⟩
theorem D3.turny {w : World} {B : Nat} {c : Cu} {B' : Nat} {c' : Cu} {b db ob : Nat} {s : St} {W : World} (h : D3 w B c B' c' b db ob s W) (i : Int) :
    Calls Try.prog 17 #[pp db, .int .i64 i] W fun e w' => e = .returned (.int .i64 (turE c' i)) ∧ D3 w B c B' (turC c' i) b db ob s w' := by
  obtain ⟨rb, tb, eb, h1, h2, h3, h4, h5⟩ := h
  exact (dturn_any h2 i).mono fun e w' ⟨he, g, hf⟩ => ⟨he, D3.py h1 h3 h4 h5 g hf⟩
theorem D3.reportx {w : World} {B : Nat} {c : Cu} {B' : Nat} {c' : Cu} {b db ob : Nat} {s : St} {W : World} (h : D3 w B c B' c' b db ob s W) (hB : B ≤ 1000000) (i t : Int) :
    Calls Try.prog 18 #[pp b, .int .i64 i, .int .i64 t] W fun e w' => e = .returned (.int .i64 (repE c i t)) ∧ D3 w (B + 1) (repC c i t) B' c' b db ob s w' := by
  obtain ⟨rb, tb, eb, h1, h2, h3, h4, h5⟩ := h
  exact (h1.reportF hB i t).mono fun e w' ⟨he, g, hf⟩ => ⟨he, D3.px h2 h3 h4 h5 g hf⟩
theorem D3.reporty {w : World} {B : Nat} {c : Cu} {B' : Nat} {c' : Cu} {b db ob : Nat} {s : St} {W : World} (h : D3 w B c B' c' b db ob s W) (hB : B' ≤ 1000000) (i t : Int) :
    Calls Try.prog 19 #[pp db, .int .i64 i, .int .i64 t] W fun e w' => e = .returned (.int .i64 (repE c' i t)) ∧ D3 w B c (B' + 1) (repC c' i t) b db ob s w' := by
  obtain ⟨rb, tb, eb, h1, h2, h3, h4, h5⟩ := h
  exact (dreport_any h2 hB i t).mono fun e w' ⟨he, g, hf⟩ => ⟨he, D3.py h1 h3 h4 h5 g hf⟩
theorem D3.beginy {w : World} {B : Nat} {c : Cu} {B' : Nat} {c' : Cu} {b db ob : Nat} {s : St} {W : World} (h : D3 w B c B' c' b db ob s W) :
    Calls Try.prog 11 #[pp db] W fun e w' => e = .returned (.int .i64 (begE c')) ∧ D3 w B c B' (begC c') b db ob s w' := by
  obtain ⟨rb, tb, eb, h1, h2, h3, h4, h5⟩ := h
  refine (dbegin_any h2).mono fun e w' ⟨he, tb', eb', g, hf, hn⟩ => ⟨he, rb, tb', eb', h1.keep hf (fun e => (h3 b e).1 rfl) (fun i e => (h3 i e).2.2), g, fun k hk => ?_, h4.keep hf (fun e => (h3 ob e).2.1 rfl), h5⟩
  have q1 := h1.pt.lt
  have q2 := h4.lt
  have q3 := h1.bel.size
  rcases hn with ⟨rfl, rfl⟩ | ⟨n1, n2⟩
  · exact h3 k hk
  · rcases hk with rfl | rfl | rfl | rfl
    · exact h3 _ (.inl rfl)
    · exact h3 _ (.inr (.inl rfl))
    · exact ⟨by omega, by omega, by omega⟩
    · exact ⟨by omega, by omega, by omega⟩
theorem D3.value {w : World} {B : Nat} {c : Cu} {B' : Nat} {c' : Cu} {b db ob : Nat} {s : St} {W : World} (h : D3 w B c B' c' b db ob s W) : Calls Try.prog 20 #[pp b] W fun e w' => e = .returned (.int .i64 c.v) ∧ w' = W := by
  obtain ⟨rb, tb, eb, h1, _⟩ := h
  exact h1.value.mono fun e w' ⟨he, hw⟩ => ⟨he, hw.symm⟩
theorem D3.rounds {w : World} {B : Nat} {c : Cu} {B' : Nat} {c' : Cu} {b db ob : Nat} {s : St} {W : World} (h : D3 w B c B' c' b db ob s W) : Calls Try.prog 21 #[pp b] W fun e w' => e = .returned (.int .i64 c.r) ∧ w' = W := by
  obtain ⟨rb, tb, eb, h1, _⟩ := h
  exact h1.rounds.mono fun e w' ⟨he, hw⟩ => ⟨he, hw.symm⟩
theorem D3.under {w : World} {B : Nat} {c : Cu} {B' : Nat} {c' : Cu} {b db ob : Nat} {s : St} {W : World} (h : D3 w B c B' c' b db ob s W) : Calls Try.prog 22 #[pp b] W fun e w' => e = .returned (.bool c.is) ∧ w' = W := by
  obtain ⟨rb, tb, eb, h1, _⟩ := h
  exact h1.under.mono fun e w' ⟨he, hw⟩ => ⟨he, hw.symm⟩
theorem D3.colourx {w : World} {B : Nat} {c : Cu} {B' : Nat} {c' : Cu} {b db ob : Nat} {s : St} {W : World} (h : D3 w B c B' c' b db ob s W) (i : Int) : Calls Try.prog 23 #[pp b, .int .i64 i] W fun e w' => e = .returned (.int .i64 (colE c i)) ∧ w' = W := by
  obtain ⟨rb, tb, eb, h1, _⟩ := h
  exact (h1.colour i).mono fun e w' ⟨he, hw⟩ => ⟨he, hw.symm⟩
theorem D3.coloury {w : World} {B : Nat} {c : Cu} {B' : Nat} {c' : Cu} {b db ob : Nat} {s : St} {W : World} (h : D3 w B c B' c' b db ob s W) (i : Int) : Calls Try.prog 24 #[pp db, .int .i64 i] W fun e w' => e = .returned (.int .i64 (colE c' i)) ∧ w' = W := by
  obtain ⟨rb, tb, eb, _, h2, _⟩ := h
  exact (dcolour_any h2 i).mono fun e w' ⟨he, hw⟩ => ⟨he, hw.symm⟩
theorem D2.new {w w1 : World} {n b : Nat} (h1 : 1 ≤ n) (h8 : n ≤ 8) (h : C1 w 0 (K.new n) b w1) :
    Calls Try.prog 9 #[.int .i64 n] w1 fun e w' => e = .returned (.tuple #[pp (w1.heap.size + 1 + 1 + 1), .int .i64 0]) ∧ D2 w 0 (K.new n) b (w1.heap.size + 1 + 1 + 1) w' := by
  refine (dnew_ok w1 n h1 h8).mono fun e w' ⟨he, rb, tb, eb, g, hb, g1, g2, g3⟩ => ⟨he, rb, tb, eb, h.on hb, g, fun k hk => ?_⟩
  have q1 := h.pt.lt
  have q2 := h.bel.size
  rcases hk with rfl | rfl | rfl | rfl
  · exact ⟨by omega, by omega⟩
  · exact ⟨by omega, by omega⟩
  · exact ⟨by omega, by omega⟩
  · exact ⟨by omega, by omega⟩
/-! ### How many there are -/
theorem len_beg (c : Cu) : (begC c).co.length = c.co.length := by unfold K.begC; split <;> rfl
theorem len_sen (c : Cu) (i t : Int) : (senC c i t).co.length = c.co.length := by
  unfold K.senC
  have e := (addOn_rest c (K.col c i) 1).1
  split
  · dsimp only
    split
    · exact congrArg List.length e
    · exact congrArg List.length e
  · rfl
theorem len_got (c : Cu) (i k : Int) : (gotC c i k).co.length = c.co.length := by
  unfold K.gotC
  split
  · exact congrArg List.length (addOn_rest c k (-1)).1
  · rfl
theorem len_tur (c : Cu) (i : Int) : (turC c i).co.length = c.co.length := by
  unfold K.turC
  split
  · exact List.length_set
  · rfl
theorem len_rep (c : Cu) (i t : Int) : (repC c i t).co.length = c.co.length := by
  unfold K.repC
  split
  · dsimp only
    split <;> rfl
  · rfl
end Go.Proofs.Ytdfjmnckgcpmgaa
