/- Proved: of plain data: what is sent and not received is, in whatever order, what all links have; what is counted of it. -/
import Derived.Test.YtkngokpildoljaaWOr
namespace Go.Proofs.Ytkngokpildoljaa
open Go.RowKit Go.Shelf
set_option linter.unusedVariables false

theorem flat_one {g h : Nat → List It} {x : It} {k : Nat} (h1 : (g k).Perm (x :: h k)) (h2 : ∀ j, j ≠ k → g j = h j) (n : Nat) :
    (k < n → ((List.range n).flatMap g).Perm (x :: (List.range n).flatMap h)) ∧ (n ≤ k → (List.range n).flatMap g = (List.range n).flatMap h) := by
  induction n with
  | zero => exact ⟨fun e => by omega, fun _ => rfl⟩
  | succ n ih =>
    have e1 : (List.range (n + 1)).flatMap g = (List.range n).flatMap g ++ g n := by simp [List.range_succ]
    have e2 : (List.range (n + 1)).flatMap h = (List.range n).flatMap h ++ h n := by simp [List.range_succ]
    rw [e1, e2]
    constructor
    · intro hk
      by_cases hkn : k = n
      · subst hkn
        rw [ih.2 (Nat.le_refl _)]
        exact ((List.Perm.refl _).append h1).trans List.perm_middle
      · rw [h2 n (fun e => hkn e.symm)]
        exact (ih.1 (by omega)).append (List.Perm.refl _)
    · intro hk
      rw [ih.2 (by omega), h2 n (by omega)]
/-- Where one link has one item more, all links have. -/
theorem itms_more {n : Nat} {L M : Ln} {a b : Int} {x : It} (hl : isL n a b = true) (h1 : (L a b).Perm (x :: M a b)) (h2 : ∀ c d, ¬ (c = a ∧ d = b) → L c d = M c d) : (itms n L).Perm (x :: itms n M) := by
  obtain ⟨⟨g1, g2⟩, ⟨g3, g4⟩, _⟩ := (isL_iff n a b).1 hl
  obtain ⟨p, rfl⟩ := Int.eq_ofNat_of_zero_le g1
  obtain ⟨q, rfl⟩ := Int.eq_ofNat_of_zero_le g3
  refine (flat_one (g := fun c => colsF L c n) (h := fun c => colsF M c n) (x := x) (k := p) ?_ ?_ n).1 (by omega)
  · exact (flat_one (g := fun d => L p d) (h := fun d => M p d) (x := x) (k := q) h1 (fun j hj => h2 _ _ (by omega)) n).1 (by omega)
  · intro j hj
    unfold colsF
    congr 1
    funext d
    exact h2 _ _ (by omega)
theorem itms_send {n r : Nat} {L : Ln} {a b : Int} {x : It} (h : sndE n r L a b x = 0) : (itms n (sndL n r L a b x)).Perm (x :: itms n L) ∧ okI x = true := by
  have hl : isL n a b = true ∧ okI x = true := by
    unfold sndE at h
    split at h
    · assumption
    · omega
  refine ⟨itms_more hl.1 ?_ (fun c d hc => snd_other x hc), hl.2⟩
  rw [snd_at, if_pos h]
  exact List.perm_append_comm
theorem itms_recv {n r : Nat} {L : Ln} (hok : OKL n r L) {a b : Int} (h : fstB (L a b) = true) : (itms n L).Perm (nthT (L a b) 0 :: itms n (rcvL L a b)) := by
  have hl : isL n a b = true := by
    cases e : isL n a b
    · rw [hok.no a b e] at h; simp [fstB] at h
    · rfl
  refine itms_more hl ?_ (fun c d hc => (rcv_other hc).symm)
  rw [rcv_at]
  have := head_tail h
  exact List.Perm.of_eq this.symm
/-- l is what all links have; each has a body below i of its own, and may be. -/
structure On (n : Nat) (L : Ln) (l : List It) (i : Int) : Prop where
  pm : l.Perm (itms n L)
  nd : (l.map (·.bd)).Nodup
  lt : ∀ x ∈ l, x.bd < i
  ok : ∀ x ∈ l, okI x = true
theorem itms_nil (n : Nat) : itms n noL = [] := by
  have h : ∀ m, rowsF n noL m = [] := fun m => by
    induction m with
    | zero => rfl
    | succ m ih =>
      rw [rowsF_succ, ih]
      have : ∀ k, colsF noL m k = [] := fun k => by
        induction k with
        | zero => rfl
        | succ k ih => rw [colsF_succ, ih]; rfl
      rw [this]; rfl
  exact h n
theorem On.start (n : Nat) : On n noL [] 0 := ⟨by rw [itms_nil], by simp, by simp, by simp⟩
theorem On.up {n : Nat} {L : Ln} {l : List It} {i : Int} (h : On n L l i) : On n L l (i + 1) := ⟨h.pm, h.nd, fun x hx => by have := h.lt x hx; omega, h.ok⟩
theorem On.send {n r : Nat} {L : Ln} {l : List It} {i : Int} (h : On n L l i) {a b : Int} {x : It} (hx : x.bd = i) (hs : sndE n r L a b x = 0) : On n (sndL n r L a b x) (l ++ [x]) (i + 1) := by
  obtain ⟨hp, ho⟩ := itms_send hs
  refine ⟨?_, ?_, ?_, ?_⟩
  · exact (List.perm_append_comm.trans ((List.perm_cons x).2 h.pm)).trans hp.symm
  · rw [List.map_append, List.nodup_append]
    refine ⟨h.nd, by simp, fun u hu v hv => ?_⟩
    simp at hv
    obtain ⟨y, hy, rfl⟩ := List.mem_map.1 hu
    have := h.lt y hy
    omega
  · intro y hy
    rcases List.mem_append.1 hy with g | g
    · have := h.lt y g; omega
    · simp at g; subst g; omega
  · intro y hy
    rcases List.mem_append.1 hy with g | g
    · exact h.ok y g
    · simp at g; subst g; exact ho
def wo (l : List It) (y : It) : List It := l.filter (fun x => !sameI x y)
theorem wo_app (l : List It) (y x : It) : wo (l ++ [x]) y = if sameI x y = true then wo l y else wo l y ++ [x] := by
  unfold wo
  by_cases h : sameI x y = true <;> simp [h]
theorem wo_le (l : List It) (y : It) : (wo l y).length ≤ l.length := List.length_filter_le _ _
theorem nodup_of_map {l : List It} (h : (l.map (·.bd)).Nodup) : l.Nodup := by
  induction l with
  | nil => simp
  | cons x r ih =>
    simp only [List.map_cons, List.nodup_cons] at h ⊢
    exact ⟨fun hx => h.1 (List.mem_map.2 ⟨x, hx, rfl⟩), ih h.2⟩
theorem On.recv {n r : Nat} {L : Ln} (hok : OKL n r L) {l : List It} {i : Int} (h : On n L l i) {a b : Int} (hf : fstB (L a b) = true) : On n (rcvL L a b) (wo l (nthT (L a b) 0)) i ∧ (wo l (nthT (L a b) 0)).length + 1 = l.length := by
  obtain ⟨y, hy⟩ : ∃ y, nthT (L a b) 0 = y := ⟨_, rfl⟩
  have hp := h.pm.trans (itms_recv hok hf)
  rw [hy] at hp ⊢
  have hnd := (hp.nodup_iff).1 (nodup_of_map h.nd)
  have hny : y ∉ itms n (rcvL L a b) := (List.nodup_cons.1 hnd).1
  have e : wo (itms n (rcvL L a b)) y = itms n (rcvL L a b) := by
    unfold wo
    rw [List.filter_eq_self]
    intro x hx
    have : x ≠ y := fun e => hny (e ▸ hx)
    rw [sameI_no this]; rfl
  have hw : (wo l y).Perm (itms n (rcvL L a b)) := by
    have := hp.filter (fun x => !sameI x y)
    rw [List.filter_cons_of_neg (by rw [sameI_self]; simp)] at this
    have e' : List.filter (fun x => !sameI x y) (itms n (rcvL L a b)) = itms n (rcvL L a b) := e
    rw [e'] at this
    exact this
  refine ⟨⟨hw, ?_, fun x hx => h.lt x (List.mem_filter.1 hx).1, fun x hx => h.ok x (List.mem_filter.1 hx).1⟩, ?_⟩
  · exact (List.filter_sublist.map _).nodup h.nd
  · have h1 := hp.length_eq
    have h2 := hw.length_eq
    simp at h1
    omega
/-! ### What is counted -/
def gmin (l : List It) : Int := l.foldl (fun m x => if (x.k != 2) = true then min m (max 0 x.t) else m) 1125899906842624
theorem gmin_app (l : List It) (x : It) : gmin (l ++ [x]) = if (x.k != 2) = true then min (gmin l) (max 0 x.t) else gmin l := by simp [gmin]
theorem On.carr {n : Nat} {L : Ln} {l : List It} {i : Int} (h : On n L l i) (c : Int) : carr c (itms n L) = carr c l := by
  unfold Go.Proofs.Ytkngokpildoljaa.carr
  exact ((h.pm.filter (isC c)).length_eq).symm
theorem On.all {n : Nat} {L : Ln} {l : List It} {i : Int} (h : On n L l i) : (itms n L).length = l.length := h.pm.length_eq.symm
theorem lst_perm {l m : List Int} (h : l.Perm m) : lstI l = lstI m := by
  unfold lstI
  exact h.foldl_eq' (fun x _ y _ z => by omega) _
theorem tms_perm {l m : List It} (h : l.Perm m) : (tms l).Perm (tms m) := by
  unfold tms
  exact (h.filter _).map _
theorem min_least (l : List It) : (gmin l ≤ 1099511627776 → lstI (tms l) = gmin l) ∧ (1099511627776 < gmin l → lstI (tms l) = 1125899906842624) := by
  have key : ∀ k, k ≤ l.length → (gmin (l.take k) ≤ 1099511627776 → lstI (tms (l.take k)) = gmin (l.take k)) ∧ (1099511627776 < gmin (l.take k) → lstI (tms (l.take k)) = 1125899906842624) ∧ gmin (l.take k) ≤ 1125899906842624 := by
    intro k
    induction k with
    | zero => intro _; exact ⟨fun h => by simp [gmin] at h, fun _ => rfl, by simp [gmin]⟩
    | succ k ih =>
      intro hk
      obtain ⟨h1, h2, h3⟩ := ih (by omega)
      rw [take_succ' l k (by omega), gmin_app, tms_app]
      obtain ⟨x, hx⟩ : ∃ x, nthT l k = x := ⟨_, rfl⟩
      rw [hx]
      by_cases hk2 : (x.k != 2) = true
      · rw [if_pos hk2, if_pos hk2, lstI_app]
        obtain ⟨g, hg⟩ : ∃ g, gmin (l.take k) = g := ⟨_, rfl⟩
        obtain ⟨m, hm⟩ : ∃ m, lstI (tms (l.take k)) = m := ⟨_, rfl⟩
        rw [hg, hm] at h1 h2
        rw [hg] at h3
        rw [hg, hm]
        rcases Int.lt_or_le 1099511627776 x.t with ht | ht
        · rw [cnt_big ht]
          refine ⟨fun h => ?_, fun h => ?_, ?_⟩ <;> omega
        · rcases Int.lt_or_le x.t 0 with h0 | h0
          · rw [cnt_low h0]
            refine ⟨fun h => ?_, fun h => ?_, ?_⟩ <;> omega
          · rw [cnt_mid h0 ht]
            refine ⟨fun h => ?_, fun h => ?_, ?_⟩ <;> omega
      · rw [if_neg hk2, if_neg hk2]
        exact ⟨h1, h2, h3⟩
  have := key l.length (Nat.le_refl _)
  rw [List.take_length] at this
  exact ⟨this.1, this.2.1⟩
theorem On.least {n : Nat} {L : Ln} {l : List It} {i : Int} (h : On n L l i) (hg : gmin l ≤ 1099511627776) : lstI (tms (itms n L)) = gmin l := by
  rw [lst_perm (tms_perm h.pm.symm)]
  exact (min_least l).1 hg
/-- Of two colours: what is none of 0 is of 1. -/
theorem ok_co {x : It} (h : okI x = true) : x.co = 0 ∨ x.co = 1 := by
  simp [okI] at h
  exact h.2
end Go.Proofs.Ytkngokpildoljaa
