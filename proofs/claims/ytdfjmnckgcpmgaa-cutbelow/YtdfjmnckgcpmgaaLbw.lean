/- Proved: a cut beside a row of times and a row of what is on its way; slices of acts that came in. -/
import Derived.Test.YtdfjmnckgcpmgaaMks
import Derived.Test.YtdfjmnckgcpmgaaRow
import Derived.Test.YtdfjmnckgcpmgaaNum
namespace Go.Proofs.Ytdfjmnckgcpmgaa
open Go.ChangeShapes Go.WideShapes Go.ChangeAt Go.RowKit Go.Deep Go.Joins Go.Shelf
open K (H J Cu begC begE senC senE senK gotC gotE turC turE repC repE colE okT set_getD)
set_option linter.unusedVariables false

def encH (h : H) : List Value := [.int .i64 h.1, .int .i64 h.2.1, .int .i64 h.2.2]
theorem encH_one (h : H) : ∀ v ∈ encH h, v.oneCell' = true := by
  intro v hv
  simp only [encH, List.mem_cons, List.not_mem_nil, or_false] at hv
  rcases hv with rfl | rfl | rfl <;> rfl
def cH : Cd H := ⟨encH, 3, (0, 0, 0), fun _ => rfl, encH_one, by decide⟩
def tyH : Ty cH 47 51 := ⟨.agg #[.int .i64 0, .int .i64 0, .int .i64 0], 24, Try.underlying47, by kernel_rfl, rfl, by decide⟩
theorem held {N : Nat → Prop} {W : World} {a : Option Addr} {l : List H} (h : RdN cH N W a l) {i : Nat} (hi : i < l.length) {x : H} (hx : l.getD i (0, 0, 0) = x) :
    ∃ b off, a = some ⟨b, off, none⟩ ∧ b < W.heap.size ∧ N b ∧ W.cell? ⟨b, off + i * 3, none⟩ = some (.int .i64 x.1) ∧ W.cell? ⟨b, off + i * 3 + 1, none⟩ = some (.int .i64 x.2.1) ∧ W.cell? ⟨b, off + i * 3 + 2, none⟩ = some (.int .i64 x.2.2) := by
  obtain ⟨b, off, rfl, hb, hN, hc⟩ := h (by intro e; rw [e] at hi; simp at hi)
  have hx' : nth cH l i = x := hx
  have g : ∀ c, c < 3 → W.cell? ⟨b, off + i * 3 + c, none⟩ = (encH x)[c]? := fun c h3 => by rw [← hx']; exact hc i hi c h3
  exact ⟨b, off, rfl, hb, hN, g 0 (by omega), g 1 (by omega), g 2 (by omega)⟩
structure BW (w : World) (b ab n B : Nat) (c : Cu) (p : List Int) (l : List H) (va : Value) (W : World) : Prop where
  cut : C1 w B c b W
  row : Rv W ab n (fun i => .int .i64 (p.getD i 0))
  own : OwR cH 51 W va l
  nab : ab ≠ b
  gab : w.heap.size ≤ ab
  gva : ∀ g, va.ownBlock = some g → w.heap.size ≤ g ∧ g ≠ b ∧ g ≠ ab
theorem BW.on {w : World} {b ab n B : Nat} {c : Cu} {p : List Int} {l : List H} {va : Value} {W W2 : World} (h : BW w b ab n B c p l va W) (g : Below W.heap.size W W2) : BW w b ab n B c p l va W2 := ⟨h.cut.on g, h.row.below g, h.own.below g, h.nab, h.gab, h.gva⟩
theorem BW.wr {w : World} {b ab n B B' : Nat} {c c' : Cu} {p : List Int} {l : List H} {va : Value} {W W2 : World} (h : BW w b ab n B c p l va W) (g : C1 w B' c' b W2) (hf : Fr (fun k => k = b) W W2) : BW w b ab n B' c' p l va W2 := ⟨g, h.row.keep hf h.nab, h.own.keep hf (fun g e s => (h.gva g e).2.1 s), h.nab, h.gab, h.gva⟩
theorem BW.wide {w : World} {b ab n B B' : Nat} {c : Cu} {p : List Int} {l : List H} {va : Value} {W : World} (h : BW w b ab n B c p l va W) (hB : B ≤ B') : BW w b ab n B' c p l va W := ⟨h.cut.wide hB, h.row, h.own, h.nab, h.gab, h.gva⟩
theorem BW.bel {w : World} {b ab n B : Nat} {c : Cu} {p : List Int} {l : List H} {va : Value} {W : World} (h : BW w b ab n B c p l va W) : Below w.heap.size w W := h.cut.bel
theorem BW.put {w : World} {b ab n B : Nat} {c : Cu} {p : List Int} {l : List H} {va : Value} {W : World} (h : BW w b ab n B c p l va W) {i : Nat} (hi : i < p.length) (x : Int) : BW w b ab n B c (p.set i x) l va (W.setCell ⟨ab, i, none⟩ (.int .i64 x)) := by
  have hF : Fr (fun k => k = ab) W (W.setCell ⟨ab, i, none⟩ (.int .i64 x)) := (Fr.refl _ W).setCell _ _ (.inl rfl)
  refine ⟨h.cut.keep hF (fun e => h.nab e.symm) (fun j e => by rw [e]; exact h.gab), (h.row.set i _).same (fun j hj => ?_), h.own.keep hF (fun g e s => (h.gva g e).2.2 s), h.nab, h.gab, h.gva⟩
  unfold upV
  rw [set_getD p 0 x i j hi]
  split <;> rfl
theorem BW.app {w : World} {b ab n B : Nat} {c : Cu} {p : List Int} {l X : List H} {va vb : Value} {W W2 : World} (h : BW w b ab n B c p l va W) (ho : OwR cH 51 W2 vb X) (hm : Mw (fun k => va.ownBlock = some k) (fun k => vb.ownBlock = some k) W W2) : BW w b ab n B c p X vb W2 := by
  refine ⟨h.cut.keep hm.fr (fun e => (h.gva b e).2.1 rfl) (fun i e => (h.gva i e).1), h.row.keep hm.fr (fun e => (h.gva ab e).2.2 rfl), ho, h.nab, h.gab, fun g e => ?_⟩
  by_cases hg : g < W.heap.size
  · exact h.gva g (hm.new g hg e)
  · have h1 := h.cut.pt.lt
    have h2 := h.row.lt
    have h3 := h.cut.bel.size
    exact ⟨by omega, by omega, by omega⟩
/-- And beside them another row that grows. -/
structure BX (w : World) (b ab n B : Nat) (c : Cu) (p : List Int) (l : List H) (va : Value) (r : List H) (vr : Value) (W : World) : Prop where
  bw : BW w b ab n B c p l va W
  own : OwR cH 51 W vr r
  gvr : ∀ g, vr.ownBlock = some g → w.heap.size ≤ g ∧ g ≠ b ∧ g ≠ ab ∧ va.ownBlock ≠ some g
theorem BX.start {w : World} {b ab n B : Nat} {c : Cu} {p : List Int} {l : List H} {va : Value} {W : World} (h : BW w b ab n B c p l va W) : BX w b ab n B c p l va [] (.slice (some ⟨W.heap.size, 0, none⟩) 0 0) (W.alloc (.cells #[] 51)) := by
  refine ⟨h.on (al _ _), OwR.made _ _ _, fun g e => ?_⟩
  simp [Value.ownBlock] at e
  subst e
  have h1 := h.cut.pt.lt
  have h2 := h.row.lt
  have h3 := h.cut.bel.size
  exact ⟨h3, by omega, by omega, fun e => by have := h.own.lt e; omega⟩
theorem BX.app {w : World} {b ab n B : Nat} {c : Cu} {p : List Int} {l r X : List H} {va vr vb : Value} {W W2 : World} (h : BX w b ab n B c p l va r vr W) (ho : OwR cH 51 W2 vb X) (hm : Mw (fun k => vr.ownBlock = some k) (fun k => vb.ownBlock = some k) W W2) : BX w b ab n B c p l va X vb W2 := by
  refine ⟨⟨h.bw.cut.keep hm.fr (fun e => (h.gvr b e).2.1 rfl) (fun i e => (h.gvr i e).1), h.bw.row.keep hm.fr (fun e => (h.gvr ab e).2.2.1 rfl), h.bw.own.keep hm.fr (fun g e s => (h.gvr g s).2.2.2 e), h.bw.nab, h.bw.gab, h.bw.gva⟩, ho, fun g e => ?_⟩
  by_cases hg : g < W.heap.size
  · exact h.gvr g (hm.new g hg e)
  · have h1 := h.bw.cut.pt.lt
    have h2 := h.bw.row.lt
    have h3 := h.bw.cut.bel.size
    exact ⟨by omega, by omega, by omega, fun e => by have := h.bw.own.lt e; omega⟩
theorem BX.fin {w : World} {b ab n B : Nat} {c : Cu} {p : List Int} {l r : List H} {va vr : Value} {W : World} (h : BX w b ab n B c p l va r vr W) : BW w b ab n B c p r vr W := ⟨h.bw.cut, h.bw.row, h.own, h.bw.nab, h.bw.gab, fun g e => ⟨(h.gvr g e).1, (h.gvr g e).2.1, (h.gvr g e).2.2.1⟩⟩
/-- The calls. -/
theorem BW.begin {w : World} {b ab n B : Nat} {c : Cu} {p : List Int} {l : List H} {va : Value} {W : World} (h : BW w b ab n B c p l va W) :
    Calls Try.prog 10 #[pp b] W fun e w' => e = .returned (.int .i64 (begE c)) ∧ BW w b ab n B (begC c) p l va w' := h.cut.beginF.mono fun e w' ⟨he, h1, h2⟩ => ⟨he, h.wr h1 h2⟩
theorem BW.sent {w : World} {b ab n B : Nat} {c : Cu} {p : List Int} {l : List H} {va : Value} {W : World} (h : BW w b ab n B c p l va W) (hB : B ≤ 1000000) (i t : Int) :
    Calls Try.prog 12 #[pp b, .int .i64 i, .int .i64 t] W fun e w' => e = .returned (.tuple #[.int .i64 (senK c i t), .int .i64 (senE c i t)]) ∧ BW w b ab n (B + 1) (senC c i t) p l va w' := (h.cut.sentF hB i t).mono fun e w' ⟨he, h1, h2⟩ => ⟨he, h.wr h1 h2⟩
theorem BW.got {w : World} {b ab n B : Nat} {c : Cu} {p : List Int} {l : List H} {va : Value} {W : World} (h : BW w b ab n B c p l va W) (hB : B ≤ 1000000) (i k : Int) :
    Calls Try.prog 14 #[pp b, .int .i64 i, .int .i64 k] W fun e w' => e = .returned (.int .i64 (gotE c i k)) ∧ BW w b ab n B (gotC c i k) p l va w' := (h.cut.gotF hB i k).mono fun e w' ⟨he, h1, h2⟩ => ⟨he, h.wr h1 h2⟩
theorem BW.turn {w : World} {b ab n B : Nat} {c : Cu} {p : List Int} {l : List H} {va : Value} {W : World} (h : BW w b ab n B c p l va W) (i : Int) :
    Calls Try.prog 16 #[pp b, .int .i64 i] W fun e w' => e = .returned (.int .i64 (turE c i)) ∧ BW w b ab n B (turC c i) p l va w' := (h.cut.turnF i).mono fun e w' ⟨he, h1, h2⟩ => ⟨he, h.wr h1 h2⟩
theorem BW.report {w : World} {b ab n B : Nat} {c : Cu} {p : List Int} {l : List H} {va : Value} {W : World} (h : BW w b ab n B c p l va W) (hB : B ≤ 1000000) (i t : Int) :
    Calls Try.prog 18 #[pp b, .int .i64 i, .int .i64 t] W fun e w' => e = .returned (.int .i64 (repE c i t)) ∧ BW w b ab n (B + 1) (repC c i t) p l va w' := (h.cut.reportF hB i t).mono fun e w' ⟨he, h1, h2⟩ => ⟨he, h.wr h1 h2⟩
/-! ### Acts -/
structure Ac where
  k : Int
  a : Int
  b : Int
  la : Int
def encA (s : Ac) : List Value := [.int .i64 s.k, .int .i64 s.a, .int .i64 s.b, .int .u8 s.la]
def ac0 : Ac := ⟨0, 0, 0, 0⟩
def nthA (l : List Ac) (i : Nat) : Ac := l.getD i ac0
def RdA (w : World) (a : Option Addr) (l : List Ac) : Prop := (∀ i, i < l.length → 0 ≤ (nthA l i).la ∧ (nthA l i).la ≤ 255) ∧ (l ≠ [] → ∃ b off, a = some ⟨b, off, none⟩ ∧ b < w.heap.size ∧ ∀ i, i < l.length → ∀ c, c < 4 → w.cell? ⟨b, off + i * 4 + c, none⟩ = (encA (nthA l i))[c]?)
theorem RdA.cells {w : World} {a : Option Addr} {l : List Ac} (h : RdA w a l) {i : Nat} (hi : i < l.length) {s : Ac} (hs : nthA l i = s) :
    0 ≤ s.la ∧ s.la ≤ 255 ∧ ∃ b off, a = some ⟨b, off, none⟩ ∧ b < w.heap.size ∧ ∀ W, Below w.heap.size w W → W.cell? ⟨b, off + i * 4, none⟩ = some (.int .i64 s.k) ∧ W.cell? ⟨b, off + i * 4 + 1, none⟩ = some (.int .i64 s.a) ∧ W.cell? ⟨b, off + i * 4 + 2, none⟩ = some (.int .i64 s.b) ∧ W.cell? ⟨b, off + i * 4 + 3, none⟩ = some (.int .u8 s.la) := by
  subst hs
  refine ⟨(h.1 i hi).1, (h.1 i hi).2, ?_⟩
  obtain ⟨b, off, rfl, hb, hc⟩ := h.2 (by intro e; rw [e] at hi; simp at hi)
  refine ⟨b, off, rfl, hb, fun W hW => ?_⟩
  have g : ∀ c, c < 4 → W.cell? ⟨b, off + i * 4 + c, none⟩ = (encA (nthA l i))[c]? := fun c h3 => (hW.cell (p := ⟨b, off + i * 4 + c, none⟩) hb).trans (hc i hi c h3)
  exact ⟨g 0 (by omega), g 1 (by omega), g 2 (by omega), g 3 (by omega)⟩
theorem cellsA : Try.prog.cellsOf 49 = 4 := by kernel_rfl
theorem list4 {cs : List Value} (h : cs.length = 4) : ∃ a b c d, cs = [a, b, c, d] := by
  match cs, h with
  | [a, b, c, d], _ => exact ⟨a, b, c, d, rfl⟩
theorem open_i1 {H : Type} {en : TypeId × Value → H} {W : World} {base fuel : Nat} {spare : Nat → Bool} {held : Bool} {cs : List Value} {x : DataW H × List MemPlace} (h : DataW.trod en Try.prog W base spare held fuel 3 cs = some x) :
    ∃ a : Int, cs = [.int .i64 a] := by
  obtain ⟨p, e0, _, _⟩ := DataW.trod_int Try.underlying3 h
  exact ⟨p, e0⟩
theorem open_act {H : Type} {en : TypeId × Value → H} {W : World} {base fuel : Nat} {spare : Nat → Bool} {held : Bool} {cs : List Value} {x : DataW H × List MemPlace} (h : DataW.trod en Try.prog W base spare held fuel 49 cs = some x) :
    ∃ s : Ac, cs = encA s ∧ (0 ≤ s.la ∧ s.la ≤ 255) := by
  obtain ⟨y0, y1, y2, y3, n, _, hl, h0, h1, h2, h3⟩ := trod_struct4 Try.underlying49 h
  rw [cellsA] at hl
  obtain ⟨a, b, c, d, rfl⟩ := list4 hl
  simp only [cells3, cells5] at h0 h1 h2 h3
  obtain ⟨p, e0⟩ := open_i1 h0
  obtain ⟨q, e1⟩ := open_i1 h1
  obtain ⟨r, e2⟩ := open_i1 h2
  obtain ⟨s, e3, w3⟩ := open_byte1 h3
  simp at e0 e1 e2 e3
  subst e0 e1 e2 e3
  exact ⟨⟨p, q, r, s⟩, rfl, w3⟩
theorem open_acts {H : Type} {en : TypeId × Value → H} {W : World} {base fuel : Nat} {spare : Nat → Bool} {held : Bool} {v : Value} {x : DataW H × List MemPlace} (h : DataW.trod en Try.prog W base spare held fuel 46 [v] = some x) :
    ∃ (sa : Option Addr) (sc : Nat) (l : List Ac), v = .slice sa l.length sc ∧ l.length ≤ maxLen ∧ RdA W sa l := by
  obtain ⟨sa, sc, l, rfl, hm, hok, hrd⟩ := open_gen ac0 49 46 encA 4 (by omega) (fun _ => rfl) cellsA Try.underlying46 (fun s => 0 ≤ s.la ∧ s.la ≤ 255) (fun n cs x h => open_act h) h
  exact ⟨sa, sc, l, rfl, hm, fun i hi => hok _ (get_mem hi), hrd⟩
end Go.Proofs.Ytdfjmnckgcpmgaa
