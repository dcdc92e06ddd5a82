/- Proved: a past beside a row of keys that grows, and its calls; what is said of both; the bound of the document. -/
import Derived.Test.YtgifanioeeacdaaTwo
import Derived.Test.YtgifanioeeacdaaStp
namespace Go.Proofs.Ytgifanioeeacdaa
open Go.RowKit Go.Shelf Go.Sort
set_option linter.unusedVariables false

set_option maxRecDepth 100000 in
set_option maxHeartbeats 1000000 in
theorem heavy_any (w : World) (sa : Option Addr) (sc : Nat) (z : List St) (hz : RdS w sa z) (hn : z.length ≤ maxLen) :
    Calls Try.prog 8 #[.slice sa z.length sc] w fun e w' => (e = .returned (.bool true) ∨ (e = .returned (.bool false) ∧ z.length ≤ 200 ∧ ∀ s ∈ z, s.e.p.os.length ≤ 20)) ∧ w = w' := by
  unfold maxLen at hn
  by_cases hl : 200 < z.length
  · have hl' : (200 : Int) < (z.length : Int) := by omega
    clear hz
    go_enter Try.func8, Try.ntmps8
    go_wp2
    go_ret
    exact ⟨Or.inl rfl, rfl⟩
  · have hl' : ¬ (200 : Int) < (z.length : Int) := by omega
    have HZ : Hid (RdS w sa z) := hz
    clear hz
    go_enter Try.func8, Try.ntmps8
    go_wp2
    go_loop [3] (fun s3 => ∃ i : Nat, s3 = .int .i64 i ∧ i ≤ z.length ∧ Hid (∀ j, j < i → (nth cS z j).e.p.os.length ≤ 20)) (fun s3 => z.length - (intOf s3).toNat)
    case atStart => exact ⟨0, rfl, Nat.zero_le _, (fun j hj => absurd hj (Nat.not_lt_zero _) : ∀ j, j < 0 → (nth cS z j).e.p.os.length ≤ 20)⟩
    case round =>
      obtain ⟨i, rfl, hi, HL⟩ := hrel
      by_cases hlt : i < z.length
      · have hlt' : (i : Int) < (z.length : Int) := by omega
        obtain ⟨s, hs⟩ : ∃ s, nth cS z i = s := ⟨_, rfl⟩
        obtain ⟨hro, b, off, rfl, hB, hc⟩ := HZ.out.cells hlt hs
        obtain ⟨_, _, _, _, _, _, _, _, _, _, c10⟩ := hc w (Below.refl _ _)
        have hos : s.e.p.os.length ≤ maxLen ∨ True := Or.inr trivial
        obtain ⟨n, hn'⟩ : ∃ n, s.e.p.os.length = n := ⟨_, rfl⟩
        rw [hn'] at c10
        by_cases hlong : 20 < n
        · have hlong' : (20 : Int) < (n : Int) := by omega
          clear hn' hs hc hro hos
          go_wp2
          go_ret
          exact ⟨Or.inl rfl, rfl⟩
        · have hlong' : ¬ (20 : Int) < (n : Int) := by omega
          have HN : Hid (s.e.p.os.length ≤ 20) := by show s.e.p.os.length ≤ 20; omega
          have HS : Hid (nth cS z i = s) := hs
          clear hn' hs hc hro hos
          go_wp2
          go_round
          case rel =>
            refine ⟨i + 1, by go_num, by omega, ?_⟩
            intro j hj
            rcases Nat.lt_or_ge j i with g | g
            · exact HL.out j g
            · obtain rfl : j = i := by omega
              rw [HS.out]; exact HN.out
          case measure => simp [intOf]; omega
      · obtain rfl : i = z.length := by omega
        go_wp2
        go_ret
        refine ⟨Or.inr ⟨rfl, by omega, fun s hs => ?_⟩, rfl⟩
        obtain ⟨j, hj, rfl⟩ := mem_nth cS hs
        exact HL.out j hj
/-- A past that was made since w, a row of keys that grows, rows of entries that are not written. -/
def Pk (w W : World) (fl : Int) (L : List P) (b : Nat) (va : Value) (gl : List K) (rs : RowsE) : Prop :=
  ∃ v, PP (fun k => k < w.heap.size ∨ va.ownBlock = some k) W fl L b v ∧ Below w.heap.size w W ∧ OwR cK 29 W va gl ∧ (∀ k, va.ownBlock = some k → w.heap.size ≤ k) ∧ ∀ r ∈ rs, RdN cE (fun k => ¬ D b v k ∧ va.ownBlock ≠ some k) W r.1 r.2
theorem Pk.bel {w W : World} {fl : Int} {L : List P} {b : Nat} {va : Value} {gl : List K} {rs : RowsE} (h : Pk w W fl L b va gl rs) : Below w.heap.size w W := by
  obtain ⟨v, _, hb, _⟩ := h
  exact hb
theorem Pk.srt {w W : World} {fl : Int} {L : List P} {b : Nat} {va : Value} {gl : List K} {rs : RowsE} (h : Pk w W fl L b va gl rs) : SrtP L ∧ L.length ≤ 64 := by
  obtain ⟨v, ⟨l, hl, hq, hs⟩, _⟩ := h
  exact ⟨hs, by rw [← hl, List.length_map]; exact hq.cap⟩
theorem Pk.less {w W : World} {fl : Int} {L : List P} {b : Nat} {va : Value} {gl : List K} {rs rs' : RowsE} (h : Pk w W fl L b va gl rs) (hs : ∀ r ∈ rs', r ∈ rs) : Pk w W fl L b va gl rs' := by
  obtain ⟨v, h1, h2, h3, h4, h5⟩ := h
  exact ⟨v, h1, h2, h3, h4, fun r hr => h5 r (hs r hr)⟩
theorem Pk.on {w W W2 : World} {fl : Int} {L : List P} {b : Nat} {va : Value} {gl : List K} {rs : RowsE} (h : Pk w W fl L b va gl rs) (hb : Below W.heap.size W W2) : Pk w W2 fl L b va gl rs := by
  obtain ⟨v, h1, h2, h3, h4, h5⟩ := h
  exact ⟨v, h1.below hb, Below.on h2 hb, h3.below hb, h4, fun r hr => (h5 r hr).below hb⟩
theorem Pk.own {w W : World} {fl : Int} {L : List P} {b : Nat} {va : Value} {gl : List K} {rs : RowsE} (h : Pk w W fl L b va gl rs) : OwR cK 29 W va gl := by
  obtain ⟨v, h1, h2, h3, h4, h5⟩ := h
  exact h3
theorem Pk.row {w W : World} {fl : Int} {L : List P} {b : Nat} {va : Value} {gl : List K} {rs : RowsE} (h : Pk w W fl L b va gl rs) {a : Option Addr} {l : List E} (hr : (a, l) ∈ rs) : RdN cE (fun _ => True) W a l := by
  obtain ⟨v, h1, h2, h3, h4, h5⟩ := h
  exact (h5 _ hr).wide (fun _ _ _ => trivial)
theorem Pk.start {w W : World} {fl : Int} {L : List P} {b : Nat} (h : One w W fl L b) : Pk w (W.alloc (.cells #[] 29)) fl L b (.slice (some ⟨W.heap.size, 0, none⟩) 0 0) [] [] := by
  obtain ⟨⟨v, h⟩, hb⟩ := h
  refine ⟨v, ?_, Below.on hb (al _ _), OwR.made _ _ _, fun k e => ?_, fun r hr => by cases hr⟩
  · refine h.keep (Fr.of_below (S := fun _ => False) (al _ _)) (fun _ e => e.elim) (fun k hk e => ?_) (fun k e => ?_)
    · rcases e with e | e
      · exact e
      · simp [Value.ownBlock] at e; omega
    · have := hb.size
      rcases e with e | e
      · simp; omega
      · simp [Value.ownBlock] at e; simp; omega
  · have := hb.size
    simp [Value.ownBlock] at e
    omega
theorem pk_new {w W w' : World} {fl : Int} {L : List P} {b : Nat} {va v v' : Value} {gl : List K} {rs : RowsE} (h1 : PP (fun k => k < w.heap.size ∨ va.ownBlock = some k) W fl L b v) (h2 : Below w.heap.size w W) (h3 : OwR cK 29 W va gl) (h5 : ∀ r ∈ rs, RdN cE (fun k => ¬ D b v k ∧ va.ownBlock ≠ some k) W r.1 r.2) (hm : Mw (D b v) (D b v') W w') :
    Below w.heap.size w w' ∧ OwR cK 29 w' va gl ∧ ∀ r ∈ rs, RdN cE (fun k => ¬ D b v' k ∧ va.ownBlock ≠ some k) w' r.1 r.2 :=
  ⟨h2.trans (hm.bel h2.size (fun i d => by have := h1.dx d; omega)), h3.keep hm.fr (fun g e d => h1.dx d (Or.inr e)), fun r hr => (h5 r hr).keep hm.fr (fun k hk g => ⟨g.1, fun d => g.1 (hm.new k hk d), g.2⟩)⟩
theorem Pk.push {w W : World} {fl : Int} {L : List P} {b : Nat} {va : Value} {gl : List K} {rs : RowsE} (h : Pk w W fl L b va gl rs) {N : Nat → Prop} {x : E} (ho : Out N W x) :
    Calls Try.prog 11 #[.pointer (some ⟨b, 0, none⟩), ev x] W fun e w' => e = .returned (.int .i64 (pushE fl L x.p)) ∧ Pk w w' fl (pushL fl L x.p) b va gl rs := by
  obtain ⟨v, h1, h2, h3, h4, h5⟩ := h
  refine (push_any h1 ho).mono fun e w' ⟨v', he, hp, hm⟩ => ?_
  obtain ⟨g1, g2, g3⟩ := pk_new h1 h2 h3 h5 hm
  exact ⟨he, v', hp, g1, g2, h4, g3⟩
theorem Pk.back {w W : World} {fl : Int} {L : List P} {b : Nat} {va : Value} {gl : List K} {rs : RowsE} (h : Pk w W fl L b va gl rs) (k : K) :
    Calls Try.prog 14 #[.pointer (some ⟨b, 0, none⟩), kv k] W fun e w' => ∃ a c, e = .returned (.slice a (gonK k L).length c) ∧ Pk w w' fl (L.filter (bef k)) b va gl rs := by
  obtain ⟨v, h1, h2, h3, h4, h5⟩ := h
  refine (back_any h1 k).mono fun e w' ⟨a, c, v', he, hg, hp, hm⟩ => ?_
  obtain ⟨g1, g2, g3⟩ := pk_new h1 h2 h3 h5 hm
  exact ⟨a, c, he, v', hp, g1, g2, h4, g3⟩
theorem Pk.settle {w W : World} {fl : Int} {L : List P} {b : Nat} {va : Value} {gl : List K} {rs : RowsE} (h : Pk w W fl L b va gl rs) (t : Int) :
    Calls Try.prog 16 #[.pointer (some ⟨b, 0, none⟩), .int .i64 t] W fun e w' => ∃ a c l, e = .returned (.slice a (gonT t L).length c) ∧ l.map E.p = gonT t L ∧ Pk w w' (max fl t) (L.filter (fun x => !low t x)) b va gl ((a, l) :: rs) := by
  obtain ⟨v, h1, h2, h3, h4, h5⟩ := h
  refine (settle_any h1 t).mono fun e w' ⟨a, c, v', he, hg, hp, hm⟩ => ?_
  obtain ⟨g1, g2, g3⟩ := pk_new h1 h2 h3 h5 hm
  obtain ⟨l, el, hrd, _⟩ := hg
  refine ⟨a, c, l, he, el, v', hp, g1, g2, h4, fun r hr => ?_⟩
  rcases List.mem_cons.1 hr with rfl | hr
  · exact hrd.wide (fun k _ g => ⟨g.2, fun e => g.1 (Or.inr e)⟩)
  · exact g3 r hr
theorem Pk.floor {w W : World} {fl : Int} {L : List P} {b : Nat} {va : Value} {gl : List K} {rs : RowsE} (h : Pk w W fl L b va gl rs) : Calls Try.prog 24 #[.pointer (some ⟨b, 0, none⟩)] W fun e w' => e = .returned (.int .i64 fl) ∧ W = w' := by
  obtain ⟨v, h1, h2, h3, h4, h5⟩ := h
  exact floor_any h1
theorem Pk.keys {w W : World} {fl : Int} {L : List P} {b : Nat} {va : Value} {gl : List K} {rs : RowsE} (h : Pk w W fl L b va gl rs) :
    Calls Try.prog 20 #[.pointer (some ⟨b, 0, none⟩)] W fun e w' => ∃ a c, e = .returned (.slice a L.length c) ∧ RdN cK (fun _ => True) w' a (keysP L) ∧ Pk w w' fl L b va gl rs := by
  have h0 := h
  obtain ⟨v, h1, h2, h3, h4, h5⟩ := h
  exact (keys_any h1).mono fun e w' ⟨a, c, he, ho, _, hb⟩ => ⟨a, c, he, ho.look.2.wide (fun _ _ _ => trivial), h0.on hb⟩
/-- What is put behind the row of keys. -/
theorem Pk.append {w W : World} {fl : Int} {L : List P} {b : Nat} {va v' : Value} {gl : List K} {rs : RowsE} (h : Pk w W fl L b va gl rs) {X : List K} {w' : World} (ho : OwR cK 29 w' v' X) (hm : Mw (fun k => va.ownBlock = some k) (fun k => v'.ownBlock = some k) W w') : Pk w w' fl L b v' X rs := by
  obtain ⟨v, h1, h2, h3, h4, h5⟩ := h
  refine ⟨v, ?_, h2.trans (hm.fr.below h2.size h4), ho, fun k e => ?_, fun r hr => (h5 r hr).keep hm.fr (fun k hk g => ⟨g.2, g.1, fun e => g.2 (hm.new k hk e)⟩)⟩
  · refine h1.keep hm.fr (fun k e => Or.inr e) (fun k hk e => ?_) (fun k e => ?_)
    · rcases e with e | e
      · exact Or.inl e
      · exact Or.inr (hm.new k hk e)
    · rcases e with e | e
      · exact Nat.lt_of_lt_of_le e (Nat.le_trans h2.size hm.fr.size)
      · exact ho.lt e
  · rcases Nat.lt_or_ge k W.heap.size with g | g
    · exact h4 k (hm.new k g e)
    · have := h2.size; omega
/-- The cells of a key of a row. -/
theorem RdN.key {N : Nat → Prop} {W : World} {a : Option Addr} {l : List K} (h : RdN cK N W a l) {i : Nat} (hi : i < l.length) {k1 k2 k3 : Int} (hx : nth cK l i = (k1, k2, k3)) :
    ∃ b off, a = some ⟨b, off, none⟩ ∧ b < W.heap.size ∧ W.cell? ⟨b, off + i * 3, none⟩ = some (.int .i64 k1) ∧ W.cell? ⟨b, off + i * 3 + 1, none⟩ = some (.int .i64 k2) ∧ W.cell? ⟨b, off + i * 3 + 2, none⟩ = some (.int .i64 k3) := by
  obtain ⟨b, off, rfl, hB, hb, hc⟩ := h (by intro e; simp [e] at hi)
  have g := hc i hi
  rw [hx] at g
  exact ⟨b, off, rfl, hB, g 0 (by decide), g 1 (by decide), g 2 (by decide)⟩
/-- What is said of what is there, and of what was settled. -/
structure Fit (fl : Int) (L : List P) (gl : List K) : Prop where
  f0 : 0 ≤ fl
  fL : ∀ x ∈ L, fl ≤ x.m.1.1
  fg : ∀ g ∈ gl, g.1 < fl
  sg : gl.Pairwise (fun a b => klt a b = true)
theorem Fit.push {fl : Int} {L : List P} {gl : List K} (h : Fit fl L gl) (p : P) : Fit fl (pushL fl L p) gl := by
  refine ⟨h.f0, fun x hx => ?_, h.fg, h.sg⟩
  unfold pushL at hx
  split at hx
  · rename_i e
    rcases List.mem_append.1 hx with g | g
    · exact h.fL x g
    · obtain rfl : x = p := by simpa using g
      unfold pushE at e
      split at e
      · simp at e
      · omega
  · exact h.fL x hx
theorem Fit.back {fl : Int} {L : List P} {gl : List K} (h : Fit fl L gl) (k : K) : Fit fl (L.filter (bef k)) gl := ⟨h.f0, fun x hx => h.fL x (List.mem_filter.1 hx).1, h.fg, h.sg⟩
theorem Fit.settle {fl : Int} {L : List P} {gl : List K} (h : Fit fl L gl) (hs : SrtP L) (t : Int) : Fit (max fl t) (L.filter (fun x => !low t x)) (gl ++ keysP (gonT t L)) := by
  refine ⟨by have := h.f0; omega, fun x hx => ?_, fun g hg => ?_, ?_⟩
  · obtain ⟨h1, h2⟩ := List.mem_filter.1 hx
    have := h.fL x h1
    simp [low] at h2
    omega
  · rcases List.mem_append.1 hg with e | e
    · have := h.fg g e
      omega
    · obtain ⟨x, hx, rfl⟩ := List.mem_map.1 e
      have := (List.mem_filter.1 hx).2
      simp [low] at this
      omega
  · refine List.pairwise_append.2 ⟨h.sg, ?_, fun a ha k hk => ?_⟩
    · unfold keysP
      rw [List.pairwise_map]
      exact hs.filter _
    · obtain ⟨x, hx, rfl⟩ := List.mem_map.1 hk
      have h1 := h.fg a ha
      have h2 := h.fL x (List.mem_filter.1 hx).1
      exact klt_of_T (by omega)
theorem keysP_srt {L : List P} (h : SrtP L) : (keysP L).Pairwise (fun a b => klt a b = true) := by
  unfold keysP
  rw [List.pairwise_map]
  exact h
theorem kcmp_up {l : List K} (h : l.Pairwise (fun a b => klt a b = true)) {i : Nat} (hi : i + 1 < l.length) : kcmp (nth cK l i) (nth cK l (i + 1)) < 0 := by
  rw [kcmp_neg]
  have := List.pairwise_iff_getElem.1 h i (i + 1) (by omega) hi (by omega)
  rw [nth_get (by omega), nth_get hi]
  exact this
end Go.Proofs.Ytgifanioeeacdaa
