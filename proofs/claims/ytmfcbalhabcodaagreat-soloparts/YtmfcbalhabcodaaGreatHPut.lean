/- Proved: contracts of the pile's put, first and drop: a heap is a list in order, of which the first is told and taken. -/
import Derived.Test.YtmfcbalhabcodaaGreatHHea
namespace Go.Proofs.YtmfcbalhabcodaaGreat
open Go.RowKit Go.Shelf
set_option linter.unusedVariables false

def toT (x : M) : H.M := ((x.t, x.fr, x.sq), x.dst, x.cl, x.bd)
def ofT (x : H.M) : M := ⟨x.1.1, x.1.2.1, x.1.2.2, x.2.1, x.2.2.1, x.2.2.2⟩
theorem of_to (x : M) : ofT (toT x) = x := rfl
theorem to_of (x : H.M) : toT (ofT x) = x := rfl
theorem map_of_to (l : List M) : (l.map toT).map ofT = l := by simp [Function.comp_def, of_to]
theorem map_to_of (l : List H.M) : (l.map ofT).map toT = l := by simp [Function.comp_def, to_of]
theorem klt_toT (a b : M) : H.klt (toT a) (toT b) = ahd a b := by
  cases e : ahd a b with
  | true =>
    rw [H.klt_iff]
    exact (ahd_iff a b).1 e
  | false =>
    rw [H.klt_false_iff]
    intro h
    have := (ahd_iff a b).2 h
    rw [e] at this
    cases this
theorem put1_perm (x : M) (l : List M) : (put1 x l).Perm (x :: l) := by
  induction l with
  | nil => exact List.Perm.refl _
  | cons y r ih =>
    unfold put1
    split
    · exact List.Perm.refl _
    · exact (ih.cons y).trans (List.Perm.swap x y r)
/-- The pile at block pb, its slice v, has the messages wt. -/
def Pil (w : World) (pb : Nat) (v : Value) (wt : List M) : Prop := ∃ d : List M, H.IsP w pb v (d.map toT) ∧ H.OK (d.map toT) (d.map toT).length ∧ d.Perm wt
theorem Pil.lt {w : World} {pb : Nat} {v : Value} {wt : List M} (h : Pil w pb v wt) : ∀ k, H.FP pb v k → k < w.heap.size := by
  obtain ⟨d, h1, _⟩ := h
  exact h1.lt
theorem Pil.nv {w : World} {pb : Nat} {v : Value} {wt : List M} (h : Pil w pb v wt) : v.ownBlock ≠ some pb := by
  obtain ⟨d, h1, _⟩ := h
  exact h1.nv
theorem Pil.keep {S : Nat → Prop} {w w' : World} {pb : Nat} {v : Value} {wt : List M} (h : Pil w pb v wt) (hf : Fr S w w') (hs : ∀ k, H.FP pb v k → ¬ S k) : Pil w' pb v wt := by
  obtain ⟨d, h1, h2, h3⟩ := h
  exact ⟨d, h1.keep hf hs, h2, h3⟩
theorem Pil.below {w w' : World} {pb : Nat} {v : Value} {wt : List M} (h : Pil w pb v wt) (hb : Below w.heap.size w w') : Pil w' pb v wt :=
  h.keep (Fr.of_below (S := fun _ => False) hb) (fun _ _ g => g)
theorem Pil.cell {w : World} {pb : Nat} {v : Value} {wt : List M} (h : Pil w pb v wt) : w.cell? ⟨pb, 0, none⟩ = some v := by
  obtain ⟨d, h1, _⟩ := h
  exact h1.c0
/-- The first one of a heap is the first one in order. -/
theorem Pil.head {d : List M} {m : M} {rest : List M} (ho : H.OK (d.map toT) (d.map toT).length) (hp : d.Perm (m :: rest)) (hs : Srt (m :: rest)) : H.nth (d.map toT) 0 = toT m := by
  have hl : 0 < d.length := by rw [hp.length_eq]; simp
  cases d with
  | nil => simp at hl
  | cons x r =>
    have e0 : H.nth ((x :: r).map toT) 0 = toT x := by simp [H.nth]
    rw [e0]
    have hx : x ∈ m :: rest := (hp.mem_iff).1 (by simp)
    rcases List.mem_cons.1 hx with rfl | hx
    · rfl
    · exfalso
      have h1 : ahP m x := (List.pairwise_cons.1 hs).1 x hx
      have hm : m ∈ x :: r := (hp.mem_iff).2 (by simp)
      obtain ⟨c, hc, e⟩ := List.mem_iff_getElem.1 hm
      have h2 := H.ok_first ho c (by simpa using hc)
      have e1 : H.key ((x :: r).map toT) c = toT m := by unfold H.key; rw [H.nth_get _ _ (by simpa using hc), List.getElem_map, e]
      have e2 : H.key ((x :: r).map toT) 0 = toT x := e0
      rw [e1, e2, klt_toT] at h2
      have := (ahd_iff m x).2 h1
      rw [h2] at this
      cases this

set_option maxRecDepth 100000 in
set_option maxHeartbeats 400000 in
theorem put_any {w : World} {pb : Nat} {v : Value} {wt : List M} (h : Pil w pb v wt) (m : M) (hl : wt.length < 20000) :
    Calls Tryz.prog 29 #[.pointer (some ⟨pb, 0, none⟩), mv m] w fun e w' => e = .returned (.tuple #[]) ∧ ∃ v', Pil w' pb v' (put1 m wt) ∧ Fr (H.FP pb v) w w' ∧ (∀ k, H.FP pb v' k → H.FP pb v k ∨ w.heap.size ≤ k) := by
  have hb0 := al w (.cells #[.int .i64 m.t, .int .i64 m.fr, .int .i64 m.sq, .int .i64 m.dst, .int .i64 m.cl, .int .i64 m.bd] 38)
  obtain ⟨d, h1, h2, h3⟩ := h.below hb0
  have P := H.hpush_any h1 h2 (toT m) (by rw [List.length_map, h3.length_eq]; exact hl)
  have HB : Hid _ := hb0
  have HD : Hid (d.Perm wt) := h3
  dsimp only [H.mv, toT] at P
  obtain ⟨t, fr, sq, dst, cl, bd⟩ := m
  dsimp only [mv] at P HB ⊢
  clear h h1 h2 h3 hb0
  go_enter Tryz.func29, Tryz.ntmps29
  go_wp2_with fail
  refine P.mono ?_
  rintro e w1 ⟨rfl, v', d', ⟨p1, p2, p3, p4⟩, p5⟩
  go_wp2_with fail
  go_end0
  have hsz := HB.out.size
  refine ⟨rfl, v', ⟨d'.map ofT, by rw [map_to_of]; exact p1, by rw [map_to_of]; exact p2, ?_⟩, (Fr.of_below HB.out).then p3, fun k hk => (p4 k hk).elim .inl (fun g => .inr (Nat.le_trans hsz g))⟩
  have q : (d'.map ofT).Perm (d ++ [⟨t, fr, sq, dst, cl, bd⟩]) := by
    have := p5.map ofT
    rw [List.map_append, map_of_to] at this
    exact this
  exact (q.trans (List.perm_append_comm.trans ((HD.out).cons _))).trans (put1_perm _ _).symm

set_option maxRecDepth 100000 in
set_option maxHeartbeats 400000 in
theorem first_none {w : World} {pb : Nat} {v : Value} (h : Pil w pb v []) :
    Calls Tryz.prog 32 #[.pointer (some ⟨pb, 0, none⟩)] w fun e w' => e = .returned (.tuple #[mv ⟨0, 0, 0, 0, 0, 0⟩, .bool false]) ∧ Below w.heap.size w w' := by
  have hb0 := al w (.cells #[.int .i64 0, .int .i64 0, .int .i64 0, .int .i64 0, .int .i64 0, .int .i64 0] 38)
  obtain ⟨d, h1, h2, h3⟩ := h.below hb0
  have L := H.plen_any h1
  have hd : d = [] := h3.eq_nil
  subst hd
  simp only [List.map_nil, List.length_nil] at L
  have HB : Hid _ := hb0
  clear h h1 h2 h3 hb0
  go_enter Tryz.func32, Tryz.ntmps32
  go_wp2_with fail
  refine L.mono ?_
  rintro e w1 ⟨rfl, hw⟩
  subst hw
  go_wp2_with fail
  exact bodyPost_ret (v := .tuple #[mv ⟨0, 0, 0, 0, 0, 0⟩, .bool false]) (by simp [results, Tryz.results32, go_sem]) rfl ⟨rfl, (Below.refl _ w).alloc (Nat.le_refl _) _⟩

set_option maxRecDepth 100000 in
set_option maxHeartbeats 400000 in
theorem first_some {w : World} {pb : Nat} {v : Value} {m : M} {rest : List M} (h : Pil w pb v (m :: rest)) (hs : Srt (m :: rest)) :
    Calls Tryz.prog 32 #[.pointer (some ⟨pb, 0, none⟩)] w fun e w' => e = .returned (.tuple #[mv m, .bool true]) ∧ Below w.heap.size w w' := by
  have hb0 := al w (.cells #[.int .i64 0, .int .i64 0, .int .i64 0, .int .i64 0, .int .i64 0, .int .i64 0] 38)
  obtain ⟨d, h1, h2, h3⟩ := h.below hb0
  have L := H.plen_any h1
  have hl : 0 < (d.map toT).length := by rw [List.length_map, h3.length_eq]; simp
  have hn := Pil.head h2 h3 hs
  rw [H.nth_get _ _ hl] at hn
  have hl2 := h1.len
  have c0 := h1.c0
  have lp := H.cell_lt c0
  obtain ⟨g, cap, rfl, hg⟩ := H.own_nonempty h1.own hl
  obtain ⟨x0, x1, x2, x3, x4, x5⟩ := H.own_cell h1.own hl hn
  simp only [Nat.zero_mul, Nat.zero_add, toT] at x0 x1 x2 x3 x4 x5
  obtain ⟨n, hnn⟩ : ∃ n, (d.map toT).length = n := ⟨_, rfl⟩
  rw [hnn] at L hl hl2 c0
  have hl' : (0 : Int) < (n : Int) := by omega
  have hne : ((n : Int) == 0) = false := by simp; omega
  have HB : Hid _ := hb0
  obtain ⟨t, fr, sq, dst, cl, bd⟩ := m
  dsimp only [mv] at x0 x1 x2 x3 x4 x5 ⊢
  clear h h1 h2 h3 hb0 hn hnn hs
  have fz : ∀ j, (w.alloc (.cells #[.int .i64 0, .int .i64 0, .int .i64 0, .int .i64 0, .int .i64 0, .int .i64 0] 38)).frozen? ⟨w.heap.size, j, none⟩ = false := fun j => by go_simp
  go_enter Tryz.func32, Tryz.ntmps32
  go_wp2_with fail
  refine L.mono ?_
  rintro e w1 ⟨rfl, hw⟩
  subst hw
  clear L
  go_wp2_with fail
  exact bodyPost_ret (v := .tuple #[mv ⟨t, fr, sq, dst, cl, bd⟩, .bool true]) (by simp [results, Tryz.results32, go_sem]) rfl ⟨rfl, (Below.refl _ w).alloc (Nat.le_refl _) _⟩

set_option maxRecDepth 100000 in
set_option maxHeartbeats 400000 in
theorem drop_any {w : World} {pb : Nat} {v : Value} {m : M} {rest : List M} (h : Pil w pb v (m :: rest)) (hs : Srt (m :: rest)) :
    Calls Tryz.prog 33 #[.pointer (some ⟨pb, 0, none⟩)] w fun e w' => e = .returned (.tuple #[]) ∧ ∃ v', Pil w' pb v' rest ∧ Fr (H.FP pb v) w w' ∧ (∀ k, H.FP pb v' k → H.FP pb v k ∨ w.heap.size ≤ k) := by
  obtain ⟨d, h1, h2, h3⟩ := h
  have hl : 0 < (d.map toT).length := by rw [List.length_map, h3.length_eq]; simp
  have hn := Pil.head h2 h3 hs
  have P := H.hpop_any h1 h2 hl
  rw [hn] at P
  dsimp only [H.mv, toT] at P
  have HD : Hid _ := h3
  obtain ⟨t, fr, sq, dst, cl, bd⟩ := m
  dsimp only at P
  clear h1 h2 h3 hn hs hl
  go_enter Tryz.func33, Tryz.ntmps33
  go_wp2_with fail
  refine P.mono ?_
  rintro e w1 ⟨rfl, v', d', ⟨p1, p2, p3, p4⟩, p5⟩
  go_wp2_with fail
  go_end0
  refine ⟨rfl, v', ⟨d'.map ofT, by rw [map_to_of]; exact p1, by rw [map_to_of]; exact p2, ?_⟩, p3, p4⟩
  have q : (d'.map ofT ++ [(⟨t, fr, sq, dst, cl, bd⟩ : M)]).Perm d := by
    have := p5.map ofT
    rw [List.map_append, map_of_to] at this
    exact this
  have q2 := (List.perm_append_comm.trans q).trans HD.out
  exact (List.perm_cons _).1 q2
end Go.Proofs.YtmfcbalhabcodaaGreat
