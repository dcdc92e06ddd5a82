/- Proved: federates and federations as plain data, how they lie in memory, and what stays. -/
import Derived.Test.YtpifkoblcbjiiaaCf0
namespace Go.Proofs.Ytpifkoblcbjiiaa
open Go.RowKit Go.Shelf
set_option linter.unusedVariables false

/-- A federate: its kind, its lookahead, its start; its rules, what it publishes, what it subscribes to, what it sends at first. -/
structure Fd where
  kd : Int
  lk : Int
  st : Int
  ra : Option Addr
  rc : Nat
  rs : List Rl
  pa : Option Addr
  pc : Nat
  ps : List Int
  sa : Option Addr
  sc : Nat
  ss : List Int
  ia : Option Addr
  ic : Nat
  is : List O
def zeroF : Fd := ⟨0, 0, 0, none, 0, [], none, 0, [], none, 0, [], none, 0, []⟩
def encF (f : Fd) : List Value := [.int .i64 f.kd, .int .i64 f.lk, .int .i64 f.st, .slice f.ra f.rs.length f.rc, .slice f.pa f.ps.length f.pc, .slice f.sa f.ss.length f.sc, .slice f.ia f.is.length f.ic]
abbrev fv (f : Fd) : Value := .agg #[.int .i64 f.kd, .int .i64 f.lk, .int .i64 f.st, .slice f.ra f.rs.length f.rc, .slice f.pa f.ps.length f.pc, .slice f.sa f.ss.length f.sc, .slice f.ia f.is.length f.ic]
abbrev fcs (f : Fd) : Array Value := #[.int .i64 f.kd, .int .i64 f.lk, .int .i64 f.st, .slice f.ra f.rs.length f.rc, .slice f.pa f.ps.length f.pc, .slice f.sa f.ss.length f.sc, .slice f.ia f.is.length f.ic]
def nthF (l : List Fd) (i : Nat) : Fd := l.getD i zeroF
theorem memF (l : List Fd) (x : Fd) : x ∈ l ↔ ∃ i, i < l.length ∧ nthF l i = x := by
  rw [List.mem_iff_getElem]
  constructor
  · rintro ⟨i, hi, rfl⟩; exact ⟨i, hi, by simp [nthF, hi]⟩
  · rintro ⟨i, hi, rfl⟩; exact ⟨i, hi, by simp [nthF, hi]⟩
theorem nthF_mem {l : List Fd} {i : Nat} (h : i < l.length) : nthF l i ∈ l := (memF l _).2 ⟨i, h, rfl⟩
/-- What a federate has can be read. -/
structure okF (w : World) (f : Fd) : Prop where
  r : RdR w f.ra f.rs
  p : RdI w w.heap.size f.pa f.ps
  s : RdI w w.heap.size f.sa f.ss
  i : RdO w f.ia f.is
theorem RdI.belo {w W : World} {a : Option Addr} {zs : List Int} (h : RdI w w.heap.size a zs) (hb : Below w.heap.size w W) : RdI W W.heap.size a zs := h.go (Nat.le_refl _) hb
theorem okF.below {w W : World} {f : Fd} (h : okF w f) (hb : Below w.heap.size w W) : okF W f := ⟨h.r.below hb, h.p.belo hb, h.s.belo hb, h.i.below hb⟩
/-- Not heavy. -/
structure LtF (f : Fd) : Prop where
  r : Lt f.rs
  p : f.ps.length ≤ 50
  s : f.ss.length ≤ 50
  i : f.is.length ≤ 20
/-- The federates l can be read at a. -/
def RdF (w : World) (a : Option Addr) (l : List Fd) : Prop :=
  (l ≠ [] → ∃ b off, a = some ⟨b, off, none⟩ ∧ b < w.heap.size ∧ ∀ i, i < l.length → ∀ c, c < 7 → w.cell? ⟨b, off + i * 7 + c, none⟩ = (encF (nthF l i))[c]?) ∧ ∀ f ∈ l, okF w f
theorem RdF.below {w w' : World} {a : Option Addr} {l : List Fd} (h : RdF w a l) (hb : Below w.heap.size w w') : RdF w' a l := by
  refine ⟨fun g => ?_, fun f hf => (h.2 f hf).below hb⟩
  obtain ⟨b, off, rfl, hB, hc⟩ := h.1 g
  exact ⟨b, off, rfl, Nat.lt_of_lt_of_le hB hb.size, fun i hi c hc4 => (hb.cell (p := ⟨b, off + i * 7 + c, none⟩) hB).trans (hc i hi c hc4)⟩
theorem RdF.cells {w : World} {a : Option Addr} {l : List Fd} (h : RdF w a l) {i : Nat} (hi : i < l.length) {f : Fd} (hx : nthF l i = f) :
    ∃ b off, a = some ⟨b, off, none⟩ ∧ b < w.heap.size ∧ w.cell? ⟨b, off + i * 7, none⟩ = some (.int .i64 f.kd) ∧ w.cell? ⟨b, off + i * 7 + 1, none⟩ = some (.int .i64 f.lk) ∧ w.cell? ⟨b, off + i * 7 + 2, none⟩ = some (.int .i64 f.st) ∧ w.cell? ⟨b, off + i * 7 + 3, none⟩ = some (.slice f.ra f.rs.length f.rc) ∧ w.cell? ⟨b, off + i * 7 + 4, none⟩ = some (.slice f.pa f.ps.length f.pc) ∧ w.cell? ⟨b, off + i * 7 + 5, none⟩ = some (.slice f.sa f.ss.length f.sc) ∧ w.cell? ⟨b, off + i * 7 + 6, none⟩ = some (.slice f.ia f.is.length f.ic) := by
  obtain ⟨b, off, rfl, hB, hc⟩ := h.1 (by intro e; simp [e] at hi)
  subst hx
  exact ⟨b, off, rfl, hB, hc i hi 0 (by omega), hc i hi 1 (by omega), hc i hi 2 (by omega), hc i hi 3 (by omega), hc i hi 4 (by omega), hc i hi 5 (by omega), hc i hi 6 (by omega)⟩
theorem RdF.at {w : World} {a : Option Addr} {l : List Fd} (h : RdF w a l) {i : Nat} (hi : i < l.length) {f : Fd} (hx : nthF l i = f) : okF w f := h.2 f (hx ▸ nthF_mem hi)
/-- A federation: its classes' parents, its federates, its end. -/
structure Wd where
  pa : Option Addr
  pc : Nat
  ps : List Int
  fa : Option Addr
  fc : Nat
  fs : List Fd
  en : Int
abbrev wv (d : Wd) : Value := .agg #[.slice d.pa d.ps.length d.pc, .slice d.fa d.fs.length d.fc, .int .i64 d.en]
/-- A federation that can be read, and is not heavy. -/
structure Ww (w : World) (d : Wd) : Prop where
  p : RdI w w.heap.size d.pa d.ps
  f : RdF w d.fa d.fs
  pl : d.ps.length ≤ 50
  fl : d.fs.length ≤ 20
  lt : ∀ f ∈ d.fs, LtF f
theorem Ww.below {w W : World} {d : Wd} (h : Ww w d) (hb : Below w.heap.size w W) : Ww W d := ⟨h.p.belo hb, h.f.below hb, h.pl, h.fl, h.lt⟩

/-! ### Which federations may be -/
def sndE (ps : List Int) (lk : Int) (o : O) : Int := fstE [unl (decide (o.1 ∈ ps)) 81, unl (decide (lk ≤ o.2.1)) 80]
def sndsE (ps : List Int) (lk : Int) (os : List O) : Int := fstE (os.map (sndE ps lk))
def rulE (ps : List Int) (lk : Int) (m : Nat) (r : Rl) : Int := fstE [unl (inB r.cl m) 81, sndsE ps lk r.os]
def rulsE (ps : List Int) (lk : Int) (m : Nat) (rs : List Rl) : Int := fstE (rs.map (rulE ps lk m))
def okI (ps : List Int) (o : O) : Bool := decide (o.1 ∈ ps) && (wi o.2.1 0 1099511627776 && wi o.2.2 0 999)
def iniB (ps : List Int) (is : List O) : Bool := decide (is.length ≤ 4) && is.all (okI ps)
def fedE (f : Fd) (m : Nat) : Int := fstE [unl (wi f.kd 0 1) 1, unl (wi f.lk 1 1048576) 80, unl (wi f.st 0 7) 70, chkE f.rs, unl (cls f.ps m && cls f.ss m) 81, rulsE f.ps f.lk m f.rs, unl (iniB f.ps f.is) 82]
def allE (d : Wd) : Int := fstE [chk d.ps, unl (wi d.en 0 1099511627776 && wi d.fs.length 1 8) 1]
/-- The first federate with which something is wrong, and what. -/
def fedsE (m : Nat) : Nat → List Fd → Int × Int
  | _, [] => (-1, 0)
  | i, f :: r => if fedE f m = 0 then fedsE m (i + 1) r else ((i : Int), fedE f m)
def wldE (d : Wd) : Int × Int := if allE d = 0 then fedsE d.ps.length 0 d.fs else (-1, allE d)
theorem fedsE_at {m : Nat} {l : List Fd} {k : Nat} {e : Int} (j : Nat) (h : ∀ i, i < k → fedE (nthF l i) m = 0) (hk : k < l.length) (he : fedE (nthF l k) m = e) (h0 : e ≠ 0) : fedsE m j l = (((j + k : Nat) : Int), e) := by
  induction l generalizing k j with
  | nil => simp at hk
  | cons x r ih =>
    cases k with
    | zero =>
      have : fedE x m = e := by simpa [nthF] using he
      simp [fedsE, this, h0]
    | succ k =>
      have h1 : fedE x m = 0 := by simpa [nthF] using h 0 (by omega)
      simp only [fedsE, h1, if_true]
      rw [ih (k := k) (j + 1) (fun i hi => by have := h (i + 1) (by omega); simpa [nthF] using this) (by simpa using hk) (by simpa [nthF] using he)]
      congr 2
      omega
theorem fedsE_no {m : Nat} {l : List Fd} (j : Nat) (h : ∀ i, i < l.length → fedE (nthF l i) m = 0) : fedsE m j l = (-1, 0) := by
  induction l generalizing j with
  | nil => rfl
  | cons x r ih =>
    have h1 : fedE x m = 0 := by simpa [nthF] using h 0 (by simp)
    simp only [fedsE, h1, if_true]
    exact ih (j + 1) (fun i hi => by have := h (i + 1) (by simpa using hi); simpa [nthF] using this)
end Go.Proofs.Ytpifkoblcbjiiaa
