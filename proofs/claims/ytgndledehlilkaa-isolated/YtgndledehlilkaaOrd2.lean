/-
  Ordered: alike.
-/
import Derived.Test.YtgndledehlilkaaOrd1
namespace Go.Proofs.Ytgndledehlilkaa
open Go.RowKit

theorem neRoute (x : RouteD) (w : World) : (binOp .neq 34 (.agg #[.int .i64 x.addr, .int .i64 x.len, .int .i64 x.hop, .int .i64 x.from_]) (.agg #[.int .i64 x.addr, .int .i64 x.len, .int .i64 x.hop, .int .i64 x.from_])).run Try.prog w = .ok (.bool false) w := by
  have hu := Try.underlying34
  have hf : Try.prog.underlying 34 = some (.struct (Try.prog.fieldsOf 34)) := by unfold Program.fieldsOf; rw [hu]
  have hp : Try.prog.stoodInHeld 34 = false := by kernel_rfl
  rw [run_neq_struct, run_equalIn_struct w 9999 _ _ _ hf hp]
  unfold Program.fieldsOf
  rw [hu]
  simp [Op.eqFields, go_sem, Try.underlying3]
set_option maxHeartbeats 2000000 in
/-- Of two lists of the same routes. -/
theorem alikeK {w : World} {base base' : Nat} {v u : Value} {l : List RouteD} (h : w.ownsRow base 34 4 v l.length (l.flatMap routeCells)) (h' : w.ownsRow base' 34 4 u l.length (l.flatMap routeCells)) (hl : l.length ≤ 1000000) :
    Calls Try.prog 18 #[v, u] w fun e w' => e = .returned (.bool true) ∧ Still w w' := by
  obtain ⟨va, vc, rfl, hv1, hv2⟩ := ownsRow_slice h
  obtain ⟨ua, uc, rfl, hu1, hu2⟩ := ownsRow_slice h'
  unfold maxLen at hv2 hu2
  have HR := hide h
  have HR' := hide h'
  have HW0 : Hid (Still w w) := Kept.refl _ _
  clear h h'
  go_enter Try.func18, Try.ntmps18
  go_wp2
  go_loopw [5] (fun s w' => ∃ k : Nat, k ≤ l.length ∧ s = .int .i64 k ∧ Still w w') (fun s _ => l.length - (intOf s).toNat)
  case atStart => exact ⟨0, Nat.zero_le _, rfl, unhide HW0⟩
  case round =>
    obtain ⟨k, hk, rfl, hw⟩ := hrel
    have HW := hide hw
    clear hw
    by_cases hlt : k < l.length
    · obtain ⟨g, rfl, hg⟩ := ownsRow_some (unhide HR) (by omega)
      obtain ⟨g', rfl, hg'⟩ := ownsRow_some (unhide HR') (by omega)
      have hr := kept_row (unhide HR) (unhide HW) (fun _ _ q => q)
      have hr' := kept_row (unhide HR') (unhide HW) (fun _ _ q => q)
      obtain ⟨x0, x1, x2, x3⟩ := rowCell hr rfl hlt
      obtain ⟨y0, y1, y2, y3⟩ := rowCell hr' rfl hlt
      have hgw : g < wr.heap.size := ownsRow_lt hr rfl
      have hgw' : g' < wr.heap.size := ownsRow_lt hr' rfl
      have hk0 : (0 : Int) ≤ (k : Int) := by omega
      have hkl : (k : Int) < (l.length : Int) := by omega
      have hE := fun w => neRoute (l.getD k rt0) w
      clear hr hr'
      generalize l.getD k rt0 = y at *
      go_wp2_with fail
      go_quiet (fail)
      go_wp2
      go_roundw
      case rel => exact ⟨k + 1, by omega, by go_num, (unhide HW).drewN _⟩
      case measure => simp [intOf]; omega
    · obtain rfl : k = l.length := by omega
      go_wp2
      go_ret
      exact ⟨rfl, unhide HW⟩
end Go.Proofs.Ytgndledehlilkaa
