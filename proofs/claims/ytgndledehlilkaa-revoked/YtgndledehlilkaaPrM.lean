/-
  Walks: district: offers.
-/
import Derived.Test.YtgndledehlilkaaPrL
namespace Go.Proofs.Ytgndledehlilkaa
open Go.RowKit

def comP (a b : Int) : Bool := bits BinOp.and IntKind.i64 a b != 0
def givesB (p : ProgS) (t g : Nat) : Bool := !((g : Int) == (t : Int)) && comP (p.gives g) (p.takes t)
/-- What is on offer, of the givers below G. -/
def offTo (p : ProgS) (t : Nat) : Nat → List RouteD
  | 0 => []
  | G + 1 => if givesB p t G = true then gto p t (offTo p t G) (p.own G) (p.own G).length else offTo p t G
theorem Good.nil : Good [] := ⟨by simp [Sorted], by simp⟩
theorem Good.off {p : ProgS} (hk : ProgOk p) (t : Nat) : ∀ G, G ≤ 8 → Good (offTo p t G)
  | 0, _ => Good.nil
  | G + 1, h => by
    unfold offTo
    split
    · exact (Good.off hk t G (by omega)).gto (hk.route G (by omega)) _ (Nat.le_refl _)
    · exact Good.off hk t G (by omega)
theorem zeroList : Try.zeroCells83 = (listCells 0 (fun _ => rt0)).toArray := by kernel_rfl
theorem LAt.zero (w : World) : LAt (w.alloc (.cells Try.zeroCells83 83)) w.heap.size 0 0 (pad []) := by
  refine LAt.ofRange (by simp) (fun j => World.frozen?_alloc_new _ _ _ _) (Nat.zero_le _) ?_
  intro j v hv
  have e : pad [] = fun _ => rt0 := by funext j; simp [pad]
  rw [e] at hv
  rw [World.cell?_alloc_new, zeroList]
  simpa using hv
theorem LAt.there {w : World} {b o n : Nat} {f : Nat → RouteD} (h : LAt w b o n f) (m : Nat) (g : Nat → RouteD) : w.there b o (listCells m g).toArray.size := by
  intro j hj
  refine ⟨h.range.isSome j ?_, h.fz _⟩
  rw [listCells_len]
  rw [List.size_toArray, listCells_len] at hj
  exact hj
theorem LAt.stored {w : World} {b o n : Nat} {f : Nat → RouteD} (h : LAt w b o n f) {m : Nat} (hm : m ≤ 64) (g : Nat → RouteD) : LAt (w.setCells b o (listCells m g).toArray.toList) b o m g := by
  have ht : w.there b o (listCells m g).length := by have := h.there m g; rw [List.size_toArray] at this; exact this
  have hr := World.rangeAt_setCells_same w b o (listCells m g) ht
  have hl := (Kept.setCells (Kept.refl (· = b) w) (.inl rfl) (listCells m g) o).size
  have hf : ∀ j, (w.setCells b o (listCells m g)).frozen? ⟨b, j, none⟩ = false := fun j => by rw [World.frozen?_setCells]; exact h.fz j
  have h0 := h.lt
  rw [List.toList_toArray]
  generalize w.setCells b o (listCells m g) = w' at *
  exact LAt.ofRange (by omega) hf hm hr
theorem infoList' (n : Nat) (f : Nat → RouteD) : (Try.prog.info? 83).map (·.size) = some (listCells n f).length := by rw [listCells_len]; exact infoList
theorem infoList'' (n : Nat) (f : Nat → RouteD) : (Try.prog.info? 83).map (·.size) = some (listCells n f).toArray.size := by rw [List.size_toArray, listCells_len]; exact infoList
set_option maxHeartbeats 4000000 in
theorem offers_any {w : World} {b : Nat} {p : ProgS} (h : XAt w b p) (hk : ProgOk p) {t : Nat} (ht : t < 8) :
    Calls Try.prog 58 #[.pointer (some ⟨b, 0, none⟩), .int .i64 (t : Int)] w fun en w' =>
      en = .returned (.agg (listCells (offTo p t 8).length (pad (offTo p t 8))).toArray) ∧ (offTo p t 8).length ≤ 64 ∧ Still w w' := by
  have hb := h.lt
  have hS2 : Still w ((w.alloc (.cells Try.zeroCells83 83)).alloc (.cells Try.zeroCells83 83)) := ((Kept.refl _ _).alloc _).alloc _
  have hn2 := LAt.zero (w.alloc (.cells Try.zeroCells83 83))
  have hz1 : (w.alloc (.cells Try.zeroCells83 83)).heap.size = w.heap.size + 1 := by simp
  have hn1 := (LAt.zero w).still ((Kept.refl _ (w.alloc (.cells Try.zeroCells83 83))).alloc (.cells Try.zeroCells83 83))
  rw [hz1] at hn2
  have HX := hide (h.still hS2)
  have HS2 := hide hS2
  have HN2 := hide hn2
  have HN1 := hide hn1
  have HK := hide hk
  have ht0 : (0 : Int) ≤ (t : Int) := by omega
  have ht8 : (t : Int) < 8 := by omega
  clear h hk hS2 hn2 hn1 hz1
  go_enter Try.func58, Try.ntmps58
  go_wp2
  generalize hsz : w.heap.size = s at *
  generalize (w.alloc (.cells Try.zeroCells83 83)).alloc (.cells Try.zeroCells83 83) = W2 at *
  go_loopw [6] (fun i w' => ∃ G : Nat, G ≤ 8 ∧ i = .int .i64 G ∧ LAt w' (s + 1) 0 (offTo p t G).length (pad (offTo p t G)) ∧ Kept (· = s + 1) W2 w') (fun i _ => 8 - (intOf i).toNat)
  case atStart => exact ⟨0, Nat.zero_le _, rfl, unhide HN2, Kept.refl _ _⟩
  case round =>
    obtain ⟨G, hG, rfl, hq, hkp⟩ := hrel
    have hbW := (unhide HX).lt
    have hx := (unhide HX).frame (hkp.block b hbW (by omega))
    have hst : Still w wr := Kept.trans' (unhide HS2) hkp (fun i hi q => by omega)
    have h1 : LAt wr s 0 0 (pad []) := (unhide HN1).frame (Nat.lt_of_lt_of_le (unhide HN1).lt hkp.size) (hkp.block s (unhide HN1).lt (by omega))
    have HQ := hide hq
    have HKP := hide hkp
    have HXR := hide hx
    have HST := hide hst
    have H1 := hide h1
    have hbr := hx.lt
    clear hq hkp hst h1
    by_cases hlt : G < 8
    · have c1 := hx.gives G hlt
      have c2 := hx.takes t ht
      clear hx
      have e1 : offTo p t (G + 1) = if givesB p t G = true then gto p t (offTo p t G) (p.own G) (p.own G).length else offTo p t G := rfl
      have hG0 : (0 : Int) ≤ (G : Int) := by omega
      have hG8 : (G : Int) < 8 := by omega
      cases hne : ((G : Int) != (t : Int)) with
      | false =>
        have hgb : givesB p t G = false := by
          unfold givesB
          have : ((G : Int) == (t : Int)) = true := by simpa using hne
          rw [this]; rfl
        rw [hgb, if_neg (by simp)] at e1
        have E1 := hide e1
        clear e1 hgb
        go_wp2_with fail
        go_quiet (fail)
        go_wp2
        go_roundw
        case rel => exact ⟨G + 1, by omega, by go_num, by rw [unhide E1]; exact (unhide HQ).still ((Kept.refl _ _).drewN _), (unhide HKP).drewN _⟩
        case measure => simp [intOf]; omega
      | true =>
        have hgb : givesB p t G = comP (p.gives G) (p.takes t) := by
          unfold givesB
          have : ((G : Int) == (t : Int)) = false := by simpa using hne
          rw [this]; rfl
        cases hcm : (bits BinOp.and IntKind.i64 (p.gives G) (p.takes t) != 0) with
        | false =>
          have hcm' : comP (p.gives G) (p.takes t) = false := hcm
          rw [hgb, hcm', if_neg (by simp)] at e1
          have E1 := hide e1
          clear e1 hgb hcm'
          go_wp2_with fail
          go_quiet (fail)
          go_wp2
          go_roundw
          case rel => exact ⟨G + 1, by omega, by go_num, by rw [unhide E1]; exact (unhide HQ).still ((Kept.refl _ _).drewN _), (unhide HKP).drewN _⟩
          case measure => simp [intOf]; omega
        | true =>
          have hcm' : comP (p.gives G) (p.takes t) = true := hcm
          rw [hgb, hcm', if_pos rfl] at e1
          have E1 := hide e1
          clear e1 hgb hcm'
          go_wp2_with fail
          go_quiet (fail)
          go_wp2_with fail
          refine (gather_any ((unhide HXR).still ((Kept.refl _ _).drewN _)) (unhide HK) ht hlt ((unhide HQ).still ((Kept.refl _ _).drewN _)) (Good.off (unhide HK) t G hG) (by omega)).mono ?_
          rintro e w3 ⟨rfl, hq3, hk3⟩
          have HQ3 := hide hq3
          have HK3 : Hid (Kept (· = s + 1) W2 w3) := ((unhide HKP).drewN _).trans hk3
          clear hq3 hk3
          go_wp2
          go_roundw
          case rel => exact ⟨G + 1, by omega, by go_num, by rw [unhide E1]; exact unhide HQ3, unhide HK3⟩
          case measure => simp [intOf]; omega
    · obtain rfl : G = 8 := by omega
      have hmost := (unhide HQ).most
      clear hx
      go_wp2_with (first | (refine wpList_load_mid rfl 83 _ rfl _ _ rfl (listCells (offTo p t 8).length (pad (offTo p t 8))) _ (unhide HQ).range Try.underlying83 rfl (infoList' _ _) ?_) | (refine wpList_store_mid rfl 83 _ _ rfl _ _ (listCells (offTo p t 8).length (pad (offTo p t 8))).toArray rfl rfl ((unhide H1).there _ _) (infoList'' _ _) (listCells_one _ _) ?_))
      refine bodyPost_ret (results_range1 rfl _ _ _ _ _ _ rfl ((unhide H1).stored hmost _).range Try.underlying83 rfl (infoList' _ _)) rfl ?_
      exact ⟨rfl, hmost, Kept.setCells (unhide HST) (.inr (by omega)) _ _⟩
end Go.Proofs.Ytgndledehlilkaa
