/-
  Ordered: shared.
-/
import Derived.Test.YtgndledehlilkaaOrd2
namespace Go.Proofs.Ytgndledehlilkaa
open Go.RowKit

/-- Two marks out of a raw number. -/
def mF (raw s : Int) : Int := bits .and .i64 (raw / 2 ^ s.toNat) 3
theorem mF_range (raw s : Int) : 0 ≤ mF raw s ∧ mF raw s ≤ 255 := by
  unfold mF
  generalize raw / 2 ^ s.toNat = x
  have h3 : (BitVec.ofInt 64 (3 : Int)).toNat = 3 := by decide
  have hb : (BitVec.ofInt 64 x &&& BitVec.ofInt 64 (3 : Int)).toNat ≤ 3 := by
    rw [BitVec.toNat_and, h3]
    exact Nat.and_le_right
  show 0 ≤ IntKind.i64.wrap ((BitVec.ofInt 64 x &&& BitVec.ofInt 64 (3 : Int)).toNat : Int) ∧ IntKind.i64.wrap ((BitVec.ofInt 64 x &&& BitVec.ofInt 64 (3 : Int)).toNat : Int) ≤ 255
  generalize (BitVec.ofInt 64 x &&& BitVec.ofInt 64 (3 : Int)).toNat = z at *
  rw [wrap_small (by omega) (by omega)]
  omega
def gS (raw : Int) (gv : Nat → Int) (j : Nat) : Nat → Int := fun i => if i < j then mF raw (4 * (i : Int)) else gv i
def tS (raw : Int) (tk : Nat → Int) (j : Nat) : Nat → Int := fun i => if i < j then mF raw (4 * (i : Int) + 2) else tk i
theorem upd_next (f : Nat → Int) (gv : Nat → Int) (j : Nat) : upd (fun i => if i < j then f i else gv i) j (f j) = fun i => if i < j + 1 then f i else gv i := by
  funext i
  unfold upd
  by_cases e : i = j
  · subst e
    rw [if_pos rfl, if_pos (by omega)]
  · rw [if_neg e]
    show (if i < j then f i else gv i) = _
    by_cases h : i < j
    · rw [if_pos h, if_pos (by omega)]
    · rw [if_neg h, if_neg (by omega)]
theorem gS_zero (raw : Int) (gv : Nat → Int) : gS raw gv 0 = gv := by funext i; unfold gS; rw [if_neg (by omega)]
theorem tS_zero (raw : Int) (tk : Nat → Int) : tS raw tk 0 = tk := by funext i; unfold tS; rw [if_neg (by omega)]
theorem gS_next (raw : Int) (gv : Nat → Int) (j : Nat) : upd (gS raw gv j) j (mF raw (4 * (j : Int))) = gS raw gv (j + 1) := upd_next (fun i => mF raw (4 * (i : Int))) gv j
theorem tS_next (raw : Int) (tk : Nat → Int) (j : Nat) : upd (tS raw tk j) j (mF raw (4 * (j : Int) + 2)) = tS raw tk (j + 1) := upd_next (fun i => mF raw (4 * (i : Int) + 2)) tk j
theorem Now.again {w0 w w1 w2 : World} {O O1 : Tag} {e b : Nat} {r : RefS} (hA : ∀ k, k < w.heap.size → O1 k = O k) (hK : Kept (mineX O e) w w1) (h : Now w0 w1 O1 e b r w2) : Now w0 w O e b r w2 := by
  obtain ⟨O2, h1, h2, h3, h4⟩ := h
  refine ⟨O2, fun k hk => (h1 k (Nat.lt_of_lt_of_le hk hK.size)).trans (hA k hk), h2, Kept.trans' hK h3 (fun i hi q => ?_), h4⟩
  unfold mineX at q ⊢
  rw [hA i hi] at q
  exact q
set_option maxHeartbeats 4000000 in
theorem sharedK {w0 w : World} {O : Tag} {e b : Nat} {q gv tk : Nat → Int} {M : List RouteD} (h : On w0 w O e b (sR q gv tk M)) (raw : Int) :
    Calls Try.prog 20 #[.pointer (some ⟨b, 0, none⟩), .int .i64 raw] w fun en w' => en = .returned (.bool true) ∧ Now w0 w O e b (sR q (gS raw gv 3) (tS raw tk 3) M) w' := by
  have hN0 : Now w0 w O e b (sR q (gS raw gv 0) (tS raw tk 0) M) w := by
    rw [gS_zero, tS_zero]
    exact ⟨cutK O w.heap.size, fun k hk => cutK_lt hk, h.cut, Kept.refl _ _, fun k hk => cutK_ge hk⟩
  have HN0 := hide hN0
  clear h hN0
  go_enter Try.func20, Try.ntmps20
  go_wp2
  go_loopw [5, 6] (fun i _ w' => ∃ k : Nat, k ≤ 3 ∧ i = .int .i64 k ∧ Now w0 w O e b (sR q (gS raw gv k) (tS raw tk k) M) w') (fun i _ _ => 3 - (intOf i).toNat)
  case atStart => exact ⟨0, by omega, rfl, unhide HN0⟩
  case round =>
    obtain ⟨k, hk, rfl, hn⟩ := hrel
    by_cases hlt : k < 3
    · obtain ⟨O1, hA, hon, hK, _⟩ := hn
      obtain ⟨e1, e2⟩ := sR_share (q := q) (gv := gS raw gv k) (tk := tS raw tk k) (M := M) hlt (mF_range raw (4 * (k : Int))) (mF_range raw (4 * (k : Int) + 2))
      rw [gS_next, tS_next] at e2
      have hw1 : IntKind.i64.wrap ((k : Int) + 1) = (k : Int) + 1 := wrap_small (by omega) (by omega)
      have hw4 : IntKind.i64.wrap (4 * (k : Int)) = 4 * (k : Int) := wrap_small (by omega) (by omega)
      have hw6 : IntKind.i64.wrap (4 * (k : Int) + 2) = 4 * (k : Int) + 2 := wrap_small (by omega) (by omega)
      have hk0 : (0 : Int) ≤ (k : Int) := by omega
      have hk3 : (k : Int) < 3 := by omega
      have hs4 : (0 : Int) ≤ 4 * (k : Int) := by omega
      have hs4' : 4 * (k : Int) ≤ 64 := by omega
      have hs6 : (0 : Int) ≤ 4 * (k : Int) + 2 := by omega
      have hs6' : 4 * (k : Int) + 2 ≤ 64 := by omega
      have E1 := hide e1
      have E2 := hide e2
      have HA := hide hA
      have HK := hide hK
      have HON := hide hon
      clear e1 e2 hA hK hon
      go_wp2_with fail
      have HONd := hide ((unhide HON).again ((Kept.refl _ wr).drew))
      have HKd : Hid (Kept (mineX O e) w wr.drew) := Kept.trans' (unhide HK) ((Kept.refl (fun _ => False) wr).drew) (fun _ _ q => q.elim)
      go_region_held3 (fun _ => True) (first | trivial | go_keep) ((go_at_call 28; refine (on_share0 (n := (k : Int) + 1) (g := mF raw (4 * (k : Int))) (k := mF raw (4 * (k : Int) + 2)) (unhide HONd) (unhide E1) (unhide E2)).mono ?_; rintro en w5 ⟨rfl, hn5⟩))
      have HN5 := hide (Now.again (unhide HA) (unhide HKd) hn5)
      clear hn5
      go_wp2
      go_roundw
      case rel => exact ⟨k + 1, by omega, by go_num, unhide HN5⟩
      case measure => simp [intOf]; omega
    · have hk3 : ¬ (k : Int) < 3 := by omega
      have hke : k = 3 := by omega
      rw [hke] at hn
      have HN := hide hn
      clear hn hke
      generalize (k : Int) = ki at *
      go_wp2
      go_ret
      exact ⟨rfl, unhide HN⟩
end Go.Proofs.Ytgndledehlilkaa
