/- Proved: what lines.numberOf tells of an error of lines.lineError's: its number. -/
import Derived.Test.YtjlcmgfgbmcjpaaDoorIs
namespace Go.Proofs.YtjlcmgfgbmcjpaaDoor
open Go.RowKit Go.Extern.Stop Go.Stop Go.Extern
set_option linter.unusedVariables false

/-! ### Closed facts on the model's entries for internal/reflectlite -/
theorem callValueOf75 (t : Addr) (w : World) : (callFunc 57 #[.iface 75 (.pointer (some t))]).run Tryd.prog w = .ok (.value (.agg #[.pointer (some ⟨9, 75, none⟩), .pointer (some ⟨w.heap.size, 0, none⟩), .int .u64 150])) (w.alloc (.cells #[.pointer (some t)] 75)) := by kernel_rfl
theorem callType75 (a : Addr) (w : World) : (callFunc 58 #[.agg #[.pointer (some ⟨9, 75, none⟩), .pointer (some a), .int .u64 150]]).run Tryd.prog w = .ok (.value (.iface 86 (.agg #[.pointer (some ⟨9, 75, none⟩)]))) w := by kernel_rfl
theorem mKind (h : Value) (w : World) : (Go.method 287 86 (.agg #[h]) "Kind").run Tryd.prog w = .ok (120, h) w := by kernel_rfl
theorem mElem (h : Value) (w : World) : (Go.method 287 86 (.agg #[h]) "Elem").run Tryd.prog w = .ok (130, .agg #[h]) w := by kernel_rfl
theorem mImplements (h : Value) (w : World) : (Go.method 287 86 (.agg #[h]) "Implements").run Tryd.prog w = .ok (131, .agg #[h]) w := by kernel_rfl
theorem mAssignable (h : Value) (w : World) : (Go.method 287 86 (.agg #[h]) "AssignableTo").run Tryd.prog w = .ok (128, .agg #[h]) w := by kernel_rfl
theorem callKind75 (w : World) : (callFunc 120 #[.pointer (some ⟨9, 75, none⟩)]).run Tryd.prog w = .ok (.value (.int .u8 22)) w := by kernel_rfl
theorem callKind68 (w : World) : (callFunc 120 #[.pointer (some ⟨9, 68, none⟩)]).run Tryd.prog w = .ok (.value (.int .u8 25)) w := by kernel_rfl
theorem callElem75 (w : World) : (callFunc 130 #[.agg #[.pointer (some ⟨9, 75, none⟩)]]).run Tryd.prog w = .ok (.value (.iface 86 (.agg #[.pointer (some ⟨9, 68, none⟩)]))) w := by kernel_rfl
theorem callImplements68 (w : World) : (callFunc 131 #[.agg #[.pointer (some ⟨9, 68, none⟩)], .iface 86 (.agg #[.pointer (some ⟨9, 50, none⟩)])]).run Tryd.prog w = .ok (.value (.bool true)) w := by kernel_rfl
theorem callTypeOf68 (v : Value) (w : World) : (callFunc 40 #[.iface 68 v]).run Tryd.prog w = .ok (.value (.iface 86 (.agg #[.pointer (some ⟨9, 68, none⟩)]))) w := by kernel_rfl
theorem callAssignable68 (w : World) : (callFunc 128 #[.agg #[.pointer (some ⟨9, 68, none⟩)], .iface 86 (.agg #[.pointer (some ⟨9, 68, none⟩)])]).run Tryd.prog w = .ok (.value (.bool true)) w := by kernel_rfl
theorem callValueOf68 (x y : Value) (w : World) : (callFunc 57 #[.iface 68 (.agg #[x, y])]).run Tryd.prog w = .ok (.value (.agg #[.pointer (some ⟨9, 68, none⟩), .pointer (some ⟨w.heap.size, 0, none⟩), .int .u64 153])) (w.alloc (.cells #[x, y] 68)) := by kernel_rfl

/-! ### The entries that read or write memory -/
theorem parts75 (a : Addr) (w : World) : (ReflectliteValue.parts (.agg #[.pointer (some ⟨9, 75, none⟩), .pointer (some a), .int .u64 150])).run Tryd.prog w = .ok (some (75, a, 150)) w := by kernel_rfl
theorem parts68 (a : Addr) (w : World) : (ReflectliteValue.parts (.agg #[.pointer (some ⟨9, 68, none⟩), .pointer (some a), .int .u64 153])).run Tryd.prog w = .ok (some (68, a, 153)) w := by kernel_rfl
theorem parts68a (a : Addr) (w : World) : (ReflectliteValue.parts (.agg #[.pointer (some ⟨9, 68, none⟩), .pointer (some a), .int .u64 409])).run Tryd.prog w = .ok (some (68, a, 409)) w := by kernel_rfl
theorem elemOf75 (w : World) : (Rtype.elem? 75).run Tryd.prog w = .ok (some 68) w := by kernel_rfl
theorem mk68 (p : Addr) (w : World) : (ReflectliteValue.mk 68 p ReflectliteValue.flagAddr).run Tryd.prog w = .ok (.agg #[.pointer (some ⟨9, 68, none⟩), .pointer (some p), .int .u64 409]) w := by kernel_rfl
theorem direct68 (w : World) : (Rtype.directlyAssignable 68 68).run Tryd.prog w = .ok true w := by kernel_rfl
theorem callIsNil (a p : Addr) (W : World) (ha : W.cell? a = some (.pointer (some p))) :
    (callFunc 59 #[.agg #[.pointer (some ⟨9, 75, none⟩), .pointer (some a), .int .u64 150]]).run Tryd.prog W = .ok (.value (.bool false)) W := by
  rw [@run_callFunc_extern Tryd.prog 59 _ (ReflectliteValue.method (ReflectliteValue.valueError "reflectlite.Value.IsNil" 0) ReflectliteValue.isNil) Tryd.func59 (by kernel_rfl) (by kernel_rfl) (by kernel_rfl) (by kernel_rfl)]
  show (Sem.run Tryd.prog (Bind.bind (ReflectliteValue.parts (.agg #[.pointer (some ⟨9, 75, none⟩), .pointer (some a), .int .u64 150])) _) W).andThen _ = _
  simp only [Sem.run_bind, parts75, Result.andThen]
  simp [ReflectliteValue.isNil, loadVar, isAgg, underlying, Tryd.underlying75, ha, Result.andThen]
theorem callElemV (a p : Addr) (W : World) (ha : W.cell? a = some (.pointer (some p))) :
    (callFunc 79 #[.agg #[.pointer (some ⟨9, 75, none⟩), .pointer (some a), .int .u64 150]]).run Tryd.prog W = .ok (.value (.agg #[.pointer (some ⟨9, 68, none⟩), .pointer (some p), .int .u64 409])) W := by
  rw [@run_callFunc_extern Tryd.prog 79 _ (ReflectliteValue.method (ReflectliteValue.valueError "reflectlite.Value.Elem" 0) ReflectliteValue.elem) Tryd.func79 (by kernel_rfl) (by kernel_rfl) (by kernel_rfl) (by kernel_rfl)]
  show (Sem.run Tryd.prog (Bind.bind (ReflectliteValue.parts (.agg #[.pointer (some ⟨9, 75, none⟩), .pointer (some a), .int .u64 150])) _) W).andThen _ = _
  simp only [Sem.run_bind, parts75, Result.andThen]
  simp [ReflectliteValue.elem, loadVar, isAgg, underlying, Tryd.underlying75, ha, Result.andThen, elemOf75, mk68]
theorem load68 (bb : Nat) (x y : Value) (W : World) (h0 : W.cell? ⟨bb, 0, none⟩ = some x) (h1 : W.cell? ⟨bb, 1, none⟩ = some y) : (loadVar 68 ⟨bb, 0, none⟩).run Tryd.prog W = .ok (.agg #[x, y]) W := by
  have hl := run_loadCells_list (P := Tryd.prog) W ⟨bb, 0, none⟩ [x, y] (fun j v hj => by
    match j, hj with
    | 0, hj => simp at hj; subst hj; exact h0
    | 1, hj => simp at hj; subst hj; exact h1)
  simp only [List.length_cons, List.length_nil] at hl
  unfold loadVar
  simp only [Sem.run_bind, Tryd.isAgg68, Result.andThen]
  simp [hl, Result.andThen]
theorem store68 (tb : Nat) (x y o0 o1 : Value) (W : World) (hx : x.oneCell' = true) (hy : y.oneCell' = true) (h0 : W.cell? ⟨tb, 0, none⟩ = some o0) (h1 : W.cell? ⟨tb, 1, none⟩ = some o1) (f0 : W.frozen? ⟨tb, 0, none⟩ = false) (f1 : W.frozen? ⟨tb, 1, none⟩ = false) :
    (storeVar 68 ⟨tb, 0, none⟩ (.agg #[x, y])).run Tryd.prog W = .ok () ((W.setCell ⟨tb, 0, none⟩ x).setCell ⟨tb, 1, none⟩ y) := by
  have h1' : (W.setCell ⟨tb, 0, none⟩ x).cell? ⟨tb, 1, none⟩ = some o1 := by rw [World.cell?_setCell_other (h := by simp)]; exact h1
  have e0 : (⟨tb, 0, none⟩ : Addr).add 0 = ⟨tb, 0, none⟩ := rfl
  have e1 : (⟨tb, 0, none⟩ : Addr).add 1 = ⟨tb, 1, none⟩ := rfl
  unfold storeVar
  simp only [Sem.run_bind, Tryd.sizeOf68, Result.andThen]
  simp [Value.cells, storeCells, e0, e1, Result.andThen, run_store _ _ _ _ _ hx, run_store _ _ _ _ _ hy, h0, f0, h1', f1]
theorem callSet68 (tb bb : Nat) (x y o0 o1 : Value) (W : World) (hx : x.oneCell' = true) (hy : y.oneCell' = true) (b0 : W.cell? ⟨bb, 0, none⟩ = some x) (b1 : W.cell? ⟨bb, 1, none⟩ = some y)
    (h0 : W.cell? ⟨tb, 0, none⟩ = some o0) (h1 : W.cell? ⟨tb, 1, none⟩ = some o1) (f0 : W.frozen? ⟨tb, 0, none⟩ = false) (f1 : W.frozen? ⟨tb, 1, none⟩ = false) :
    (callFunc 80 #[.agg #[.pointer (some ⟨9, 68, none⟩), .pointer (some ⟨tb, 0, none⟩), .int .u64 409], .agg #[.pointer (some ⟨9, 68, none⟩), .pointer (some ⟨bb, 0, none⟩), .int .u64 153]]).run Tryd.prog W
      = .ok (.value (.tuple #[])) ((W.setCell ⟨tb, 0, none⟩ x).setCell ⟨tb, 1, none⟩ y) := by
  rw [@run_callFunc_extern Tryd.prog 80 _ ReflectliteValue.set Tryd.func80 (by kernel_rfl) (by kernel_rfl) (by kernel_rfl) (by kernel_rfl)]
  show (Sem.run Tryd.prog (Bind.bind (ReflectliteValue.parts (.agg #[.pointer (some ⟨9, 68, none⟩), .pointer (some ⟨tb, 0, none⟩), .int .u64 409])) (fun p => Bind.bind (ReflectliteValue.parts (.agg #[.pointer (some ⟨9, 68, none⟩), .pointer (some ⟨bb, 0, none⟩), .int .u64 153])) _)) W).andThen _ = _
  simp only [Sem.run_bind, parts68a, parts68, Result.andThen]
  have hl := load68 bb x y W b0 b1
  have hs := store68 tb x y o0 o1 W hx hy h0 h1 f0 f1
  simp [ReflectliteValue.flagAddr, hl, direct68, hs, Result.andThen]

/-- What errors.errorType holds: the handle of the type 'error'. -/
def ErrTypeAt (w : World) : Prop := w.cell? ⟨0, 0, none⟩ = some (.iface 86 (.agg #[.pointer (some ⟨9, 50, none⟩)]))

set_option maxRecDepth 100000 in
set_option maxHeartbeats 4000000 in
theorem as_line (x y : Value) (w : World) (hx : x.oneCell' = true) (hy : y.oneCell' = true) (hg0 : ErrTypeAt w) (hlt : 0 < w.heap.size) :
    Calls Tryd.prog 42 #[.iface 68 (.agg #[x, y]), .iface 75 (.pointer (some ⟨w.heap.size, 0, none⟩))] (w.alloc (.cells #[.int .i64 0, .nilIface] 68)) fun e w' => e = .returned (.bool true) ∧ w'.cell? ⟨w.heap.size, 0, none⟩ = some x ∧ Below w.heap.size w w' := by
  have tO := callTypeOf68
  have v68 := callValueOf68
  have v75 := callValueOf75
  have t75 := callType75
  have mK := mKind
  have mE := mElem
  have mI := mImplements
  have mA := mAssignable
  have k75 := callKind75
  have k68 := callKind68
  have e75 := callElem75
  have i68 := callImplements68
  have a68 := callAssignable68
  obtain ⟨w0, hw0⟩ : ∃ w0, w0 = w.alloc (.cells #[.int .i64 0, .nilIface] 68) := ⟨_, rfl⟩
  have hs0 : w0.heap.size = w.heap.size + 1 := by rw [hw0]; simp
  have hg : w0.cell? ⟨0, 0, none⟩ = some (.iface 86 (.agg #[.pointer (some ⟨9, 50, none⟩)])) := by
    rw [hw0, World.cell?_alloc_lt _ _ ⟨0, 0, none⟩ hlt]; exact hg0
  have c0 : w0.cell? ⟨w.heap.size, 0, none⟩ = some (.int .i64 0) := by rw [hw0, World.cell?_alloc_at _ _ _ _ rfl]; rfl
  have c1 : w0.cell? ⟨w.heap.size, 1, none⟩ = some .nilIface := by rw [hw0, World.cell?_alloc_at _ _ _ _ rfl]; rfl
  have f0 : w0.frozen? ⟨w.heap.size, 0, none⟩ = false := by rw [hw0]; exact World.frozen?_alloc_at _ _ _ _ rfl
  have f1 : w0.frozen? ⟨w.heap.size, 1, none⟩ = false := by rw [hw0]; exact World.frozen?_alloc_at _ _ _ _ rfl
  have hB : Below w.heap.size w w0 := by rw [hw0]; exact (Below.refl _ _).alloc (Nat.le_refl _) _
  rw [← hw0]
  obtain ⟨tb, htb⟩ : ∃ tb, tb = w.heap.size := ⟨_, rfl⟩
  rw [← htb] at c0 c1 f0 f1 hs0 hB ⊢
  have HB := hide hB
  clear hw0 hB hg0 hlt htb
  have d1 : ∀ o, (w0.alloc o).heap.size = tb + 1 + 1 := fun o => by simp [hs0]
  have cv : ∀ o2 o3 : Obj, (((w0.alloc (.cells #[.pointer (some ⟨tb, 0, none⟩)] 75)).alloc o2).alloc o3).cell? ⟨tb + 1, 0, none⟩ = some (.pointer (some ⟨tb, 0, none⟩)) := fun o2 o3 => by
    rw [World.cell?_alloc_lt _ _ _ (by simp [hs0]), World.cell?_alloc_lt _ _ _ (by simp [hs0]), World.cell?_alloc_at _ _ _ _ hs0.symm]; rfl
  have el := callElemV ⟨tb + 1, 0, none⟩ ⟨tb, 0, none⟩ _ (cv (.cells #[.pointer (some ⟨9, 75, none⟩), .pointer (some ⟨tb + 1, 0, none⟩), .int .u64 150] 99) (.cells #[.pointer (some ⟨9, 75, none⟩), .pointer (some ⟨tb + 1, 0, none⟩), .int .u64 150] 99))
  have old : ∀ (i : Nat) (o1 o2 o3 o4 : Obj), ((((w0.alloc o1).alloc o2).alloc o3).alloc o4).cell? ⟨tb, i, none⟩ = w0.cell? ⟨tb, i, none⟩ := fun i o1 o2 o3 o4 => by
    rw [World.cell?_alloc_lt _ _ _ (by simp [hs0]; omega), World.cell?_alloc_lt _ _ _ (by simp [hs0]; omega), World.cell?_alloc_lt _ _ _ (by simp [hs0]; omega), World.cell?_alloc_lt _ _ _ (by simp [hs0])]
  have oldf : ∀ (i : Nat) (o1 o2 o3 o4 : Obj), ((((w0.alloc o1).alloc o2).alloc o3).alloc o4).frozen? ⟨tb, i, none⟩ = w0.frozen? ⟨tb, i, none⟩ := fun i o1 o2 o3 o4 => by
    rw [World.frozen?_alloc_past _ _ _ (by simp [hs0]; omega), World.frozen?_alloc_past _ _ _ (by simp [hs0]; omega), World.frozen?_alloc_past _ _ _ (by simp [hs0]; omega), World.frozen?_alloc_past _ _ _ (by simp [hs0])]
  have newc : ∀ (i : Nat) (o1 o2 o3 : Obj), ((((w0.alloc o1).alloc o2).alloc o3).alloc (.cells #[x, y] 68)).cell? ⟨tb + 1 + 1 + 1 + 1, i, none⟩ = #[x, y][i]? := fun i o1 o2 o3 => by
    rw [World.cell?_alloc_at _ _ _ _ (by simp [hs0])]
  have st := callSet68 tb (tb + 1 + 1 + 1 + 1) x y (.int .i64 0) .nilIface ((((w0.alloc (.cells #[.pointer (some ⟨tb, 0, none⟩)] 75)).alloc (.cells #[.pointer (some ⟨9, 75, none⟩), .pointer (some ⟨tb + 1, 0, none⟩), .int .u64 150] 99)).alloc (.cells #[.pointer (some ⟨9, 75, none⟩), .pointer (some ⟨tb + 1, 0, none⟩), .int .u64 150] 99)).alloc (.cells #[x, y] 68))
    hx hy (newc 0 _ _ _) (newc 1 _ _ _) ((old 0 _ _ _ _).trans c0) ((old 1 _ _ _ _).trans c1) ((oldf 0 _ _ _ _).trans f0) ((oldf 1 _ _ _ _).trans f1)
  clear cv
  have HO := hide old
  have HOF := hide oldf
  clear old oldf newc
  have n8 := callIsNil ⟨tb + 1, 0, none⟩ ⟨tb, 0, none⟩ ((w0.alloc (.cells #[.pointer (some ⟨tb, 0, none⟩)] 75)).alloc (.cells #[.pointer (some ⟨9, 75, none⟩), .pointer (some ⟨tb + 1, 0, none⟩), .int .u64 150] 99))
    (by rw [World.cell?_alloc_lt _ _ _ (by simp [hs0]), World.cell?_alloc_at _ _ _ _ hs0.symm]; rfl)
  go_enter Tryd.func42, Tryd.ntmps42
  go_wp2
  refine wp_loop_rounds 1 ?_
  rw [rounds_succ]
  go_wp2
  go_ret
  refine ⟨rfl, ?_, ?_⟩
  · rw [World.cell?_alloc_lt _ _ _ (by simp [hs0]; omega), World.cell?_alloc_lt _ _ _ (by simp [hs0]; omega), World.cell?_alloc_lt _ _ _ (by simp [hs0]; omega), World.cell?_alloc_lt _ _ _ (by simp [hs0]), World.cell?_setCell_other (h := by simp), World.cell?_setCell_same (h := c0)]
  · exact (((((HB.out.setCell (p := ⟨tb, 0, none⟩) (Nat.le_refl _) _).setCell (p := ⟨tb, 1, none⟩) (Nat.le_refl _) _).alloc (by simp [hs0]) _).alloc (by simp [hs0]; omega) _).alloc (by simp [hs0]; omega) _).alloc (by simp [hs0]; omega) _

set_option maxRecDepth 100000 in
set_option maxHeartbeats 1000000 in
theorem numberOf_line (n : Int) (w : World) (hg : ErrTypeAt w) (hlt : 0 < w.heap.size) :
    Calls Tryd.prog 30 #[.iface 68 (.agg #[.int .i64 n, .iface 24 (.int .i64 20)])] w fun e w' => e = .returned (.int .i64 n) ∧ Below w.heap.size w w' := by
  have hcall := as_line (.int .i64 n) (.iface 24 (.int .i64 20)) w rfl rfl hg hlt
  go_enter Tryd.func30, Tryd.ntmps30
  go_wp2_with (go_at_call 42; refine hcall.mono ?_; rintro e w1 ⟨rfl, hc, hb⟩; have HB := hide hb; clear hb)
  go_ret
  exact ⟨rfl, HB.out⟩
end Go.Proofs.YtjlcmgfgbmcjpaaDoor
