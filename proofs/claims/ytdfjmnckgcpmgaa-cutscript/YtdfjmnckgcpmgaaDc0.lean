/- Proved: how the document's cut lies in memory; contracts of New, Begin, Got, Turn, Colour. -/
import Derived.Test.YtdfjmnckgcpmgaaMks
namespace Go.Proofs.Ytdfjmnckgcpmgaa
open Go.RowKit Go.Shelf
open K
set_option linter.unusedVariables false

def dv (c : Cu) (rb tb eb : Nat) (j : Nat) : Value :=
  if j = 0 then .slice (some ⟨rb, 0, none⟩) c.co.length c.co.length else if j = 1 then .slice (some ⟨tb, 0, none⟩) c.co.length c.co.length else if j = 2 then .slice (some ⟨eb, 0, none⟩) c.co.length c.co.length else if j = 3 then .int .i64 c.o0 else if j = 4 then .int .i64 c.o1 else if j = 5 then .bool c.is else if j = 6 then .int .i64 c.old else if j = 7 then .int .i64 c.le else if j = 8 then .int .i64 c.v else .int .i64 c.r
structure DT (B : Nat) (c : Cu) (db rb tb eb : Nat) (W : World) : Prop where
  ok : OK B c
  rcd : Rv W db 10 (dv c rb tb eb)
  rco : Rv W rb c.co.length (fun i => .int .i64 (c.co.getD i 0))
  rtu : Rv W tb c.co.length (fun i => .bool (c.tu.getD i false))
  rre : Rv W eb c.co.length (fun i => .bool (c.re.getD i false))
  n1 : rb ≠ db
  n2 : tb ≠ db
  n3 : eb ≠ db
  n4 : rb ≠ tb
  n5 : rb ≠ eb
  n6 : tb ≠ eb
def DS (db rb tb eb : Nat) (k : Nat) : Prop := k = db ∨ k = rb ∨ k = tb ∨ k = eb
theorem DT.keep {S : Nat → Prop} {B : Nat} {c : Cu} {db rb tb eb : Nat} {W W2 : World} (h : DT B c db rb tb eb W) (hf : Fr S W W2) (hn : ∀ k, DS db rb tb eb k → ¬ S k) : DT B c db rb tb eb W2 :=
  ⟨h.ok, h.rcd.keep hf (hn _ (.inl rfl)), h.rco.keep hf (hn _ (.inr (.inl rfl))), h.rtu.keep hf (hn _ (.inr (.inr (.inl rfl)))), h.rre.keep hf (hn _ (.inr (.inr (.inr rfl)))), h.n1, h.n2, h.n3, h.n4, h.n5, h.n6⟩
theorem DT.below {B : Nat} {c : Cu} {db rb tb eb : Nat} {W W2 : World} (h : DT B c db rb tb eb W) (hb : Below W.heap.size W W2) : DT B c db rb tb eb W2 := h.keep (Fr.of_below (S := fun _ => False) hb) (fun _ _ g => g)
theorem DT.drew {B : Nat} {c : Cu} {db rb tb eb : Nat} {W : World} (h : DT B c db rb tb eb W) : DT B c db rb tb eb W.drew := h.keep (Fr.drew (Fr.refl (fun _ => False) _)) (fun _ _ g => g)
theorem DT.wide {B B' : Nat} {c : Cu} {db rb tb eb : Nat} {W : World} (h : DT B c db rb tb eb W) (hB : B ≤ B') : DT B' c db rb tb eb W := { h with ok := h.ok.wide hB }
theorem dv_of {c : Cu} {rb tb eb : Nat} {f : Nat → Value} (g0 : f 0 = .slice (some ⟨rb, 0, none⟩) c.co.length c.co.length) (g1 : f 1 = .slice (some ⟨tb, 0, none⟩) c.co.length c.co.length) (g2 : f 2 = .slice (some ⟨eb, 0, none⟩) c.co.length c.co.length) (g3 : f 3 = .int .i64 c.o0) (g4 : f 4 = .int .i64 c.o1) (g5 : f 5 = .bool c.is) (g6 : f 6 = .int .i64 c.old) (g7 : f 7 = .int .i64 c.le) (g8 : f 8 = .int .i64 c.v) (g9 : f 9 = .int .i64 c.r) : ∀ i, i < 10 → f i = dv c rb tb eb i := fun i hi => by
  have : i = 0 ∨ i = 1 ∨ i = 2 ∨ i = 3 ∨ i = 4 ∨ i = 5 ∨ i = 6 ∨ i = 7 ∨ i = 8 ∨ i = 9 := by omega
  rcases this with rfl | rfl | rfl | rfl | rfl | rfl | rfl | rfl | rfl | rfl
  · exact g0
  · exact g1
  · exact g2
  · exact g3
  · exact g4
  · exact g5
  · exact g6
  · exact g7
  · exact g8
  · exact g9
theorem frD {w W : World} {db rb tb eb : Nat} (h : Fr (DS db rb tb eb) w W) (q i : Nat) (v : Value) (hq : DS db rb tb eb q) : Fr (DS db rb tb eb) w (W.setCell ⟨q, i, none⟩ v) := h.setCell _ _ (.inl hq)
theorem frD1 (w : World) {db rb tb eb : Nat} (q i : Nat) (v : Value) (hq : DS db rb tb eb q) : Fr (DS db rb tb eb) w (w.setCell ⟨q, i, none⟩ v) := frD (Fr.refl _ w) q i v hq
/-- A cell of the record is written; the rows stay. -/
theorem DT.wr {B B' : Nat} {c c' : Cu} {db rb tb eb : Nat} {W : World} (h : DT B c db rb tb eb W) (i : Nat) (v : Value) (ok : OK B' c') (hco : c'.co = c.co) (htu : c'.tu = c.tu) (hre : c'.re = c.re) (e : ∀ j, j < 10 → upV (dv c rb tb eb) i v j = dv c' rb tb eb j) : DT B' c' db rb tb eb (W.setCell ⟨db, i, none⟩ v) := by
  have hF : Fr (fun k => k = db) W (W.setCell ⟨db, i, none⟩ v) := (Fr.refl _ W).setCell _ _ (.inl rfl)
  refine ⟨ok, (h.rcd.set i v).same e, ?_, ?_, ?_, h.n1, h.n2, h.n3, h.n4, h.n5, h.n6⟩
  · rw [hco]; exact h.rco.keep hF h.n1
  · rw [hco, htu]; exact h.rtu.keep hF h.n2
  · rw [hco, hre]; exact h.rre.keep hF h.n3
set_option maxHeartbeats 1000000 in
theorem dis_any {B : Nat} {c : Cu} {db rb tb eb : Nat} {w : World} (h : DT B c db rb tb eb w) (i : Int) :
    Calls Try.prog 27 #[pp db, .int .i64 i] w fun e w' => e = .returned (.bool (isP c i)) ∧ w = w' := by
  have c0 := h.rcd.at (i := 0) (by omega) rfl
  have c0' : w.cell? ⟨db, 0, none⟩ = some (.slice (some ⟨rb, 0, none⟩) c.co.length c.co.length) := c0
  have h8 := h.ok.n8
  generalize hn : c.co.length = n at c0' h8
  by_cases h0 : 0 ≤ i
  · by_cases h1 : i < n
    · have e : isP c i = true := by unfold isP; rw [hn]; simp; omega
      rw [e]
      clear e hn h c0
      go_enter Try.func27, Try.ntmps27
      go_wp2
      go_ret
      exact ⟨rfl, rfl⟩
    · have e : isP c i = false := by unfold isP; rw [hn]; simp; omega
      rw [e]
      clear e hn h c0
      go_enter Try.func27, Try.ntmps27
      go_wp2
      go_ret
      exact ⟨rfl, rfl⟩
  · have e : isP c i = false := by unfold isP; simp; omega
    have h0' : ¬ 0 ≤ i := h0
    rw [e]
    clear e hn h c0
    go_enter Try.func27, Try.ntmps27
    go_wp2
    go_ret
    exact ⟨rfl, rfl⟩
set_option maxHeartbeats 1000000 in
theorem dcolour_any {B : Nat} {c : Cu} {db rb tb eb : Nat} {w : World} (h : DT B c db rb tb eb w) (i : Int) :
    Calls Try.prog 24 #[pp db, .int .i64 i] w fun e w' => e = .returned (.int .i64 (colE c i)) ∧ w = w' := by
  have HA := dis_any h i
  cases hp : isP c i
  · have e : colE c i = -1 := by unfold colE; rw [hp]; rfl
    rw [e]
    rw [hp] at HA
    clear e hp h
    go_enter Try.func24, Try.ntmps24
    go_wp2_with (go_at_call 27; refine HA.mono ?_; rintro e w' ⟨rfl, rfl⟩)
    go_ret
    exact ⟨rfl, rfl⟩
  · obtain ⟨k, rfl, hk⟩ := isP_yes hp
    have e : colE c k = c.co.getD k 0 := by unfold colE; rw [hp, if_pos rfl]; simp [K.col]
    have c0 : w.cell? ⟨db, 0, none⟩ = some (.slice (some ⟨rb, 0, none⟩) c.co.length c.co.length) := h.rcd.at (i := 0) (by omega) rfl
    have c1 := h.rco.at hk rfl
    have hk' : (k : Int) < (c.co.length : Int) := by omega
    rw [e]
    rw [hp] at HA
    generalize c.co.getD k 0 = q at c1
    generalize c.co.length = n at c0 hk'
    clear e hp h hk
    go_enter Try.func24, Try.ntmps24
    go_wp2_with (go_at_call 27; refine HA.mono ?_; rintro e w' ⟨rfl, rfl⟩)
    go_ret
    exact ⟨rfl, rfl⟩
theorem dnew_no (w : World) (n : Int) (h : ¬ (1 ≤ n ∧ n ≤ 8)) :
    Calls Try.prog 9 #[.int .i64 n] w fun e w' => e = .returned (.tuple #[.pointer none, .int .i64 1]) ∧ w = w' := by
  by_cases h1 : n < 1
  · go_enter Try.func9, Try.ntmps9
    go_wp2
    go_ret2
    exact ⟨rfl, rfl⟩
  · have h2 : 8 < n := by omega
    clear h
    go_enter Try.func9, Try.ntmps9
    go_wp2
    go_ret2
    exact ⟨rfl, rfl⟩
set_option maxRecDepth 100000 in
set_option maxHeartbeats 2000000 in
theorem dbegin_any {B : Nat} {c : Cu} {db rb tb eb : Nat} {w : World} (h : DT B c db rb tb eb w) :
    Calls Try.prog 11 #[pp db] w fun e w' => e = .returned (.int .i64 (begE c)) ∧ ∃ tb' eb', DT B (begC c) db rb tb' eb' w' ∧ Fr (DS db rb tb eb) w w' ∧ (tb' = tb ∧ eb' = eb ∨ w.heap.size ≤ tb' ∧ w.heap.size ≤ eb') := by
  have c5 : w.cell? ⟨db, 5, none⟩ = some (.bool c.is) := h.rcd.at (i := 5) (by omega) rfl
  cases hi : c.is
  · have e : begE c = 0 := by unfold begE; rw [if_neg (by simp [hi])]
    have eC : begC c = { c with is := true, old := K.col c 0, le := inf, tu := List.replicate c.co.length false, re := List.replicate c.co.length false } := by unfold begC; rw [if_neg (by simp [hi])]
    have ok := h.ok.beg
    have h1 := h.ok.n1
    have h8 := h.ok.n8
    obtain ⟨q, hq⟩ : ∃ q, K.col c 0 = q := ⟨_, rfl⟩
    have x0 := h.rco.at (i := 0) (by omega) (v := .int .i64 q) (by rw [← hq]; rfl)
    have y1 := (((h.rcd.set 5 (.bool true)).set 6 (.int .i64 q)).set 7 (.int .i64 1125899906842624))
    obtain ⟨W1, hW1⟩ : ∃ W1, ((w.setCell ⟨db, 5, none⟩ (.bool true)).setCell ⟨db, 6, none⟩ (.int .i64 q)).setCell ⟨db, 7, none⟩ (.int .i64 1125899906842624) = W1 := ⟨_, rfl⟩
    have F1 : Fr (fun k => k = db) w W1 := by rw [← hW1]; exact fr_set (fr_set (fr_set (Fr.refl _ w) 5 _) 6 _) 7 _
    rw [hW1] at y1
    obtain ⟨cs1, hcs1, mk1⟩ := make_b W1 c.co.length h8
    obtain ⟨t1, ht1⟩ : ∃ t1, W1.heap.size = t1 := ⟨_, rfl⟩
    have y2 := (y1.below (al W1 (.cells cs1 4))).set 1 (.slice (some ⟨t1, 0, none⟩) c.co.length c.co.length)
    have r1 := Rv.new W1 c.co.length (fun _ => .bool false) cs1 4 hcs1
    obtain ⟨W2, hW2⟩ : ∃ W2, (W1.alloc (.cells cs1 4)).setCell ⟨db, 1, none⟩ (.slice (some ⟨t1, 0, none⟩) c.co.length c.co.length) = W2 := ⟨_, rfl⟩
    have F2 : Fr (fun k => k = db) w W2 := by rw [← hW2]; exact fr_set (F1.then (Fr.of_below (al W1 _))) 1 _
    have hdb := h.rcd.lt
    have hdb1 : db < t1 := by rw [← ht1]; have := F1.size; omega
    have r2 : Rv W2 t1 c.co.length (fun _ => .bool false) := by
      rw [← hW2]
      rw [ht1] at r1
      exact r1.keep (S := fun k => k = db) ((Fr.refl _ _).setCell _ _ (.inl rfl)) (by omega)
    rw [hW2] at y2
    obtain ⟨cs2, hcs2, mk2⟩ := make_b W2 c.co.length h8
    obtain ⟨t2, ht2⟩ : ∃ t2, W2.heap.size = t2 := ⟨_, rfl⟩
    have ht12 : t1 < t2 := by rw [← ht2]; exact r2.lt
    have y3 := (y2.below (al W2 (.cells cs2 4))).set 2 (.slice (some ⟨t2, 0, none⟩) c.co.length c.co.length)
    have r3 := Rv.new W2 c.co.length (fun _ => .bool false) cs2 4 hcs2
    obtain ⟨W3, hW3⟩ : ∃ W3, (W2.alloc (.cells cs2 4)).setCell ⟨db, 2, none⟩ (.slice (some ⟨t2, 0, none⟩) c.co.length c.co.length) = W3 := ⟨_, rfl⟩
    have G3 : Fr (fun k => k = db) (W2.alloc (.cells cs2 4)) W3 := by rw [← hW3]; exact fr_set (Fr.refl _ _) 2 _
    have F3 : Fr (fun k => k = db) w W3 := (F2.then (Fr.of_below (al W2 _))).then G3
    rw [hW3] at y3
    rw [ht2] at r3
    have HN : Hid (DT B (begC c) db rb t1 t2 W3) := by
      rw [eC] at ok ⊢
      refine ⟨ok, y3.same (dv_of rfl rfl rfl rfl rfl rfl (by rw [hq]; rfl) rfl rfl rfl), h.rco.keep F3 h.n1, ?_, ?_, h.n1, by omega, by omega, ?_, ?_, by omega⟩
      · exact ((r2.below (al W2 _)).keep G3 (by omega)).same (fun i _ => by rw [rep_getD])
      · exact (r3.keep G3 (by omega)).same (fun i _ => by rw [rep_getD])
      · have := h.rco.lt; have := F1.size; omega
      · have := h.rco.lt; have := F1.size; omega
    have HF : Hid (Fr (DS db rb tb eb) w W3) := F3.wide (fun i e => .inl e)
    have hsz : w.heap.size ≤ t1 := by rw [← ht1]; exact F1.size
    have z6 := (h.rcd.set 5 (.bool true)).at (i := 6) (by omega) (v := .int .i64 c.old) rfl
    have z6f := ((h.rcd.set 5 (.bool true)).c 6 (by omega)).2
    have z7 := ((h.rcd.set 5 (.bool true)).set 6 (.int .i64 q)).at (i := 7) (by omega) (v := .int .i64 c.le) rfl
    have z7f := (((h.rcd.set 5 (.bool true)).set 6 (.int .i64 q)).c 7 (by omega)).2
    have z0 := (h.rcd.set 5 (.bool true)).at (i := 0) (by omega) (v := .slice (some ⟨rb, 0, none⟩) c.co.length c.co.length) rfl
    have zx : (w.setCell ⟨db, 5, none⟩ (.bool true)).cell? ⟨rb, 0, none⟩ = some (.int .i64 q) := ((fr1 w db 5 _).cell (p := ⟨rb, 0, none⟩) h.rco.lt h.n1).trans x0
    have f5 := (h.rcd.c 5 (by omega)).2
    have u0 := y1.at (i := 0) (by omega) (v := .slice (some ⟨rb, 0, none⟩) c.co.length c.co.length) rfl
    have u1 := (y1.below (al W1 (.cells cs1 4))).at (i := 1) (by omega) (v := .slice (some ⟨tb, 0, none⟩) c.co.length c.co.length) rfl
    have u1f := ((y1.below (al W1 (.cells cs1 4))).c 1 (by omega)).2
    have v0 := y2.at (i := 0) (by omega) (v := .slice (some ⟨rb, 0, none⟩) c.co.length c.co.length) rfl
    have v2 := (y2.below (al W2 (.cells cs2 4))).at (i := 2) (by omega) (v := .slice (some ⟨eb, 0, none⟩) c.co.length c.co.length) rfl
    have v2f := ((y2.below (al W2 (.cells cs2 4))).c 2 (by omega)).2
    rw [hi] at c5
    rw [e]
    rw [ht1] at mk1
    rw [ht2] at mk2
    have h1' : (0 : Int) < (c.co.length : Int) := by omega
    have h8' : (c.co.length : Int) ≤ 8 := by omega
    generalize c.co.length = n at *
    generalize c.old = old0 at z6
    generalize c.le = le0 at z7
    clear h y1 y2 y3 r1 r2 r3 F1 F2 F3 G3 eC ok hq hcs1 hcs2 hi e hdb hdb1 x0
    go_enter Try.func11, Try.ntmps11
    go_wp2
    go_ret
    exact ⟨rfl, t1, t2, HN.out, HF.out, .inr ⟨hsz, by omega⟩⟩
  · have e : begE c = 130 := by unfold begE; rw [if_pos hi]
    have e2 : begC c = c := by unfold begC; rw [if_pos hi]
    have HN : Hid (DT B c db rb tb eb w) := h
    rw [hi] at c5
    rw [e, e2]
    clear h hi e e2
    go_enter Try.func11, Try.ntmps11
    go_wp2
    go_ret
    exact ⟨rfl, tb, eb, HN.out, Fr.refl _ _, .inl ⟨rfl, rfl⟩⟩
end Go.Proofs.Ytdfjmnckgcpmgaa
