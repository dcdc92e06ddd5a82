/- Proved: the walk of the statement on Walk, in one part and in two. -/
import Derived.Test.YtddjfjecamcfnaaWlk
namespace Go.Proofs.Ytddjfjecamcfnaa
open Go.RowKit Go.Shelf
set_option linter.unusedVariables false

/-- A row of integers that a call has made since w. -/
def RowI (w : World) (W : World) (v : Value) (xs : List Int) : Prop := W.ownsRow w.heap.size 3 1 v xs.length (xs.map (Value.int .i64)) ∧ Below w.heap.size w W
theorem RowI.below {w W W' : World} {v : Value} {xs : List Int} (h : RowI w W v xs) (hb : Below W.heap.size W W') : RowI w W' v xs := by
  refine ⟨⟨h.1.1, ?_⟩, h.2.trans (hb.mono h.2.size)⟩
  rcases h.1.2 with g | ⟨g, cap, cur, h1, h2, h3, h4⟩
  · exact .inl g
  · exact .inr ⟨g, cap, cur, h1, h2, (hb.block g (Array.getElem?_eq_some_iff.1 h3).1).trans h3, h4⟩
theorem RowI.empty (w : World) : RowI w (w.alloc (.cells #[] 3)) (.slice (some ⟨w.heap.size, 0, none⟩) 0 0) [] := ⟨World.ownsRow_made w #[] 0 (Nat.le_refl _) (Nat.zero_le _) (by simp), (Below.refl _ _).alloc (Nat.le_refl _) _⟩
theorem RowI.rd {w W : World} {v : Value} {l : List Int} (h : RowI w W v l) : ∃ a c, v = .slice a l.length c ∧ RdI W W.heap.size a l := by
  have h0 := h.1
  rcases h.1.2 with ⟨rfl, hn⟩ | ⟨g, cap, cur, rfl, _, hg, _⟩
  · exact ⟨none, 0, by rw [hn], fun hl => absurd (List.length_eq_zero_iff.1 hn) hl⟩
  · refine ⟨_, cap, rfl, fun _ => ⟨g, 0, rfl, (Array.getElem?_eq_some_iff.1 hg).1, fun i hi => ?_⟩⟩
    rw [Nat.zero_add, World.ownsRow.cellAt h0 _ (by omega)]
    simp [nthI, hi]
theorem RowI.look {w W W' : World} {a : Option Addr} {c : Nat} {l : List Int} (h : RowI w W (.slice a l.length c) l) (hb : Below W.heap.size W W') : RdI W' W'.heap.size a l := by
  obtain ⟨a', c', e, hrd⟩ := (h.below hb).rd
  simp at e
  obtain ⟨rfl, rfl⟩ := e
  exact hrd
theorem rowI_ge {w W : World} {v : Value} {l : List Int} (h : RowI w W v l) {k : Nat} (e : v.ownBlock = some k) : w.heap.size ≤ k := by
  rcases h.1.2 with ⟨rfl, _⟩ | ⟨g, cap, cur, rfl, hg, _⟩
  · simp [Value.ownBlock] at e
  · simp [Value.ownBlock] at e; omega
theorem infoI : (Try.prog.info? 3).map (fun i => (i.zero, i.size, i.bytes)) = some (some (.int .i64 0), 1, 8) := by kernel_rfl
theorem append_I {w W : World} {v : Value} {a : Option Addr} {c : Nat} {l1 l2 : List Int} (h1 : RowI w W v l1) (h2 : RdI W W.heap.size a l2) (hl1 : l1.length ≤ 100000) (hl2 : l2.length ≤ 100000) (ty : TypeId) (X : List Int) (hX : l1 ++ l2 = X) :
    ∃ a' c' w', (Builtin.append_ #[40, 40] ty #[v, .slice a l2.length c]).run Try.prog W = .ok (.slice a' X.length c') w' ∧ RowI w w' (.slice a' X.length c') X := by
  obtain ⟨i0, hi0, hz0, hz1, hz2⟩ := info_parts infoI
  have fin : ∀ v' w', RowI w w' v' X → (Builtin.append_ #[40, 40] ty #[v, .slice a l2.length c]).run Try.prog W = .ok v' w' → ∃ a' c' w', (Builtin.append_ #[40, 40] ty #[v, .slice a l2.length c]).run Try.prog W = .ok (.slice a' X.length c') w' ∧ RowI w w' (.slice a' X.length c') X := fun v' w' h hr => by
    obtain ⟨a', c', rfl, _⟩ := h.rd
    exact ⟨a', c', w', hr, h⟩
  cases a with
  | none =>
    have hd : l2 = [] := Classical.byContradiction fun g => by
      obtain ⟨b, off, e, _⟩ := h2 g
      cases e
    subst hd
    rw [List.append_nil] at hX
    subst hX
    have hr := run_append_owned_none (P := Try.prog) W w.heap.size 40 ty 3 i0 1 Try.underlying40 hi0 v l1.length (l1.map (Value.int .i64)) h1.1
    exact fin _ _ h1 (by first | exact hr | (have := hr; simpa using this))
  | some ad =>
    obtain ⟨v', w', hr, h3, h4, h5, h6⟩ := run_append_own_at (P := Try.prog) W w.heap.size 40 ty 3 i0 _ 1 8 Try.underlying40 hi0 hz0 hz1 hz2 rfl (by decide) v l1.length (l1.map (Value.int .i64)) h1.1 ad l2.length c (l2.map (Value.int .i64)) (by simp) (fun j u hj => by
      have hj' : j < l2.length := by have := (List.getElem?_eq_some_iff.1 hj).1; simpa using this
      obtain ⟨b, off, e, _, hc⟩ := h2 (by intro e; simp [e] at hj')
      simp at e
      subst e
      rw [Addr.add_lit, hc j hj']
      simpa [nthI, hj'] using hj) (by intro u hu; simp at hu; obtain ⟨q, _, rfl⟩ := hu; rfl) (by unfold maxLen; omega) (by omega) h1.2.size
    refine fin v' w' ⟨?_, h1.2.grown h4 h1.2.size (fun k e => rowI_ge h1 e)⟩ hr
    rw [← hX, List.map_append, List.length_append]
    exact h3
theorem wpList_append_I (W : World) {ops : Array Oper} {rest : List Oper} {o : Oper} {a : Act} {Q : Exit → Act → World → Prop} (hgd : o.guard = none) (s x : Operand)
    (ho : o.op = .call { callee := .builtin .append, args := #[s, x], argTypes := #[40, 40] })
    (w : World) (v : Value) (ad : Option Addr) (c : Nat) (l1 l2 : List Int) (hs : a.eval s = v) (hx : a.eval x = .slice ad l2.length c) (h1 : RowI w W v l1) (h2 : RdI W W.heap.size ad l2) (hl1 : l1.length ≤ 100000) (hl2 : l2.length ≤ 100000) (X : List Int) (hX : l1 ++ l2 = X)
    (h : ∀ a' c' w', RowI w w' (.slice a' X.length c') X → wpList Try.prog ops Q rest (a.put o.dst (.slice a' X.length c')) w') :
    wpList Try.prog ops Q (o :: rest) a W := by
  refine wpList_plain hgd fun K hK => ?_
  obtain ⟨a', c', w', hr, h3⟩ := append_I (c := c) h1 h2 hl1 hl2 o.type X hX
  unfold Oper.wp execOp
  simp only [ho, resolve, invoke, builtin, Sem.run_bind, Sem.run_pure, Result.andThen_ok, List.map_toArray, List.map_cons, List.map_nil, hs, hx, hr]
  exact hK _ _ (h a' c' w' h3)
theorem Rs.walk {w : World} {a : Option Addr} {cp : Nat} {l : List Rl} (h : Rs w a cp l) (s : Int) {b : Option Addr} (d : Nat) {cs : List Int} (hi : RdI w w.heap.size b cs) (hc : cs.length ≤ 1000) {n : Int} {X : List O} (he : wlk l s cs = (n, X)) : Calls Try.prog 19 #[.slice a l.length cp, .int .i64 s, .slice b cs.length d] w fun e w' => ∃ a' c', e = .returned (.tuple #[.int .i64 n, .slice a' X.length c']) ∧ RowO w w' (.slice a' X.length c') X := by
  have := walk_any w a cp l s b d cs h hi hc
  rwa [he] at this
theorem Rs.rwalk {w : World} {a : Option Addr} {cp : Nat} {l : List Rl} (h : Rs w a cp l) (s : Int) {b : Option Addr} (d : Nat) {cs : List Int} (hi : RdI w w.heap.size b cs) (hc : cs.length ≤ 1000) {n : Int} {X : List O} (he : wlk l s cs = (n, X)) : Calls Try.prog 20 #[.slice a l.length cp, .int .i64 s, .slice b cs.length d] w fun e w' => ∃ a' c', e = .returned (.tuple #[.int .i64 n, .slice a' X.length c']) ∧ RowO w w' (.slice a' X.length c') X := by
  have := rwalk_any w a cp l s b d cs h hi hc
  rwa [he] at this

set_option maxRecDepth 100000 in
set_option maxHeartbeats 2000000 in
theorem walks_walk (w : World) (a : Option Addr) (cp : Nat) (l : List Rl) (s : Int) (a2 : Option Addr) (c2 : Nat) (z2 : List Int) (a3 : Option Addr) (c3 : Nat) (z3 : List Int) (hn : l.length ≤ maxLen) (h : RdR w a l) (hn2 : z2.length ≤ maxLen) (h2 : RdI w w.heap.size a2 z2) (hn3 : z3.length ≤ maxLen) (h3 : RdI w w.heap.size a3 z3) :
    Calls Try.prog 5 #[.slice a l.length cp, .int .i64 s, .slice a2 z2.length c2, .slice a3 z3.length c3] w fun e w' => e = .returned (.bool true) ∧ Below w.heap.size w w' := by
  have HV := heavy_any w a cp l h hn
  unfold maxLen at hn hn2 hn3
  cases hh : hvy l with
  | true =>
    rw [hh] at HV
    clear hh h h2 h3
    go_enter Try.func5, Try.ntmps5
    go_wp2_with (go_at_call 9; refine HV.mono ?_; rintro e w' ⟨rfl, rfl⟩)
    go_ret
    exact ⟨rfl, Below.refl _ _⟩
  | false =>
    rw [hh] at HV
    by_cases g2 : (100 : Int) < (z2.length : Int)
    · clear hh h h2 h3
      go_enter Try.func5, Try.ntmps5
      go_wp2_with (go_at_call 9; refine HV.mono ?_; rintro e w' ⟨rfl, rfl⟩)
      go_ret
      exact ⟨rfl, Below.refl _ _⟩
    · have g2' : decide ((100 : Int) < (z2.length : Int)) = false := decide_eq_false g2
      by_cases g3 : (100 : Int) < (z3.length : Int)
      · clear hh h h2 h3
        go_enter Try.func5, Try.ntmps5
        go_wp2_with (go_at_call 9; refine HV.mono ?_; rintro e w' ⟨rfl, rfl⟩)
        go_ret
        exact ⟨rfl, Below.refl _ _⟩
      · have g3' : decide ((100 : Int) < (z3.length : Int)) = false := decide_eq_false g3
        have R0 : Rs w a cp l := ⟨h, lt_of hh⟩
        have HR : Hid _ := R0
        have H2 : Hid _ := h2
        have H3 : Hid _ := h3
        have HE : Hid _ := RowI.empty w
        obtain ⟨x, P, hP⟩ : ∃ x P, wlk l s z2 = (x, P) := ⟨_, _, rfl⟩
        obtain ⟨y, Q, hQ⟩ : ∃ y Q, wlk l x z3 = (y, Q) := ⟨_, _, rfl⟩
        have hPQ : wlk l s (z2 ++ z3) = (y, P ++ Q) := by rw [wlk_append, hP]; dsimp only; rw [hQ]
        obtain ⟨X, hX⟩ : ∃ X, P ++ Q = X := ⟨_, rfl⟩
        obtain ⟨Z, hZ⟩ : ∃ Z, z2 ++ z3 = Z := ⟨_, rfl⟩
        have hPl : P.length ≤ 2000 := by have := wlk_len R0.lt s z2; rw [hP] at this; dsimp only at this; omega
        have hQl : Q.length ≤ 2000 := by have := wlk_len R0.lt x z3; rw [hQ] at this; dsimp only at this; omega
        have hXl : X.length ≤ 4000 := by rw [← hX, List.length_append]; omega
        have hZl : Z.length ≤ 200 := by rw [← hZ, List.length_append]; omega
        rw [hX, hZ] at hPQ
        have HP : Hid _ := hP
        have HQ : Hid _ := hQ
        have HPQ : Hid _ := hPQ
        have HX : Hid _ := hX
        have HZ : Hid _ := hZ
        clear hh h h2 h3 R0 hP hQ hPQ hX hZ
        go_enter Try.func5, Try.ntmps5
        go_wp2_with (first | (go_at_call 9; refine HV.mono ?_; rintro e w' ⟨rfl, rfl⟩) | (at_builtin; refine wpList_append_I _ rfl _ _ rfl w _ _ _ z2 z3 rfl rfl (Hid.out HR1) (RdI.below H3.out (HR1.out).2) (by omega) (by omega) Z HZ.out ?_; intro a5 c5 w2 hr2; have HR2 : Hid _ := hr2; clear hr2) | (at_builtin; refine wpList_append_I _ rfl _ _ rfl w _ _ _ [] z2 rfl rfl (Hid.out HE) (RdI.below H2.out (HE.out).2) (by simp) (by omega) z2 rfl ?_; intro a4 c4 w1 hr1; have HR1 : Hid _ := hr1; clear hr1))
        have hb2 := (HR2.out).2
        refine ((Rs.below HR.out hb2).walk s c5 (RowI.look HR2.out (Below.refl _ _)) (by omega) HPQ.out).mono ?_
        rintro e w3 ⟨a6, c6, rfl, hr3⟩
        have HR3 : Hid _ := hr3
        have h23 := hr3.2
        have hb3 := hb2.trans (h23.mono hb2.size)
        clear hr3
        go_wp2_with fail
        refine ((Rs.below HR.out hb3).walk s c2 (RdI.below H2.out hb3) (by omega) HP.out).mono ?_
        rintro e w4 ⟨a7, c7, rfl, hr4⟩
        have HR4 : Hid _ := hr4
        have h34 := hr4.2
        have hb4 := hb3.trans (h34.mono hb3.size)
        clear hr4
        go_wp2_with fail
        refine ((Rs.below HR.out hb4).walk x c3 (RdI.below H3.out hb4) (by omega) HQ.out).mono ?_
        rintro e w5 ⟨a8, c8, rfl, hr5⟩
        have HR5 : Hid _ := hr5
        have h45 := hr5.2
        have hb5 := hb4.trans (h45.mono hb4.size)
        clear hr5
        have h24 := h23.trans (h34.mono h23.size)
        have h25 := h24.trans (h45.mono h24.size)
        go_wp2_with fail
        refine ((Rs.below HR.out hb5).rwalk s c5 (RowI.look HR2.out h25) (by omega) HPQ.out).mono ?_
        rintro e w6 ⟨a9, c9, rfl, hr6⟩
        have HR6 : Hid _ := hr6
        have h56 := hr6.2
        have hb6 := hb5.trans (h56.mono hb5.size)
        clear hr6
        have h46 := h45.trans (h56.mono h45.size)
        have h36 := h34.trans (h46.mono h34.size)
        have HE6 : Hid _ := RowO.empty w6
        have HP6 : Hid _ := RowO.look HR4.out h46
        have HQ6 : Hid _ := RowO.look HR5.out h56
        have HX6 : Hid _ := RowO.look HR3.out h36
        have HK6 : Hid _ := RowO.look HR6.out (Below.refl _ _)
        go_wp2_with (first | (at_builtin; refine wpList_append_O _ rfl _ _ rfl w6 _ _ _ P Q rfl rfl (Hid.out HA1) (RdO.below HQ6.out (HA1.out).2) (by omega) (by omega) X HX.out ?_; intro b2 d2 v2 hs2; have HA2 : Hid _ := hs2; clear hs2; have S1 := same_yes v2 a6 a9 c6 c9 X (RdO.below HX6.out (HA2.out).2) (RdO.below HK6.out (HA2.out).2) (by omega)) | (at_builtin; refine wpList_append_O _ rfl _ _ rfl w6 _ _ _ [] P rfl rfl (Hid.out HE6) (RdO.below HP6.out (HE6.out).2) (by simp) (by omega) P rfl ?_; intro b1 d1 v1 hs1; have HA1 : Hid _ := hs1; clear hs1) | (go_at_call 16; refine S2.mono ?_; rintro e u2 ⟨rfl, hu2⟩) | (go_at_call 16; refine S1.mono ?_; rintro e u1 ⟨rfl, hu1⟩; clear S1; have S2 := same_yes u1 b2 a6 d2 c6 X (RowO.look HA2.out hu1) (RdO.below (RdO.below HX6.out (HA2.out).2) hu1) (by omega)))
        go_ret
        have hb7 := hb6.trans ((HA2.out).2.mono hb6.size)
        have hb8 := hb7.trans (hu1.mono hb7.size)
        exact ⟨rfl, hb8.trans (hu2.mono hb8.size)⟩
end Go.Proofs.Ytddjfjecamcfnaa
