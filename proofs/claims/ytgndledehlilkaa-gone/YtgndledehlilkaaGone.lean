/-
  Gone: the walk.
-/
import Derived.Test.YtgndledehlilkaaGone1
namespace Go.Proofs.Ytgndledehlilkaa
open Go.RowKit

theorem RawIn.kept {w w' : World} {a : Option Addr} {n : Nat} {X : Nat → Int} (h : RawIn w a n X) (hs : Still w w') : RawIn w' a n X :=
  ⟨h.most, fun h0 => by
    obtain ⟨bs, off, e, hb, hX⟩ := h.at_ h0
    exact ⟨bs, off, e, Nat.lt_of_lt_of_le hb hs.size, fun i hi => ⟨(hs.cell bs _ hb).trans (hX i hi).1, (hX i hi).2⟩⟩⟩
/-- A list that is none of the engine's. -/
structure Aside (w : World) (O : Tag) (base : Nat) (v : Value) (L : List RouteD) : Prop where
  row : w.ownsRow base 52 5 v L.length (L.flatMap oneCells)
  off : ∀ g, v.ownBlock = some g → ¬ mineX O 1 g
theorem Aside.now {w w' : World} {O O' : Tag} {base : Nat} {v : Value} {L : List RouteD} (h : Aside w O base v L) (hk : Kept (mineX O 1) w w') (hO : ∀ k, k < w.heap.size → O' k = O k) : Aside w' O' base v L :=
  ⟨kept_row h.row hk h.off, fun g hg q => by
    unfold mineX at q
    rw [hO g (ownsRow_lt h.row hg)] at q
    exact h.off g hg q⟩
def eqS4 (a b c d a' b' c' d' : Int) : Bool := a == a' && (b == b' && (c == c' && d == d'))
theorem eqSums (q : Int) (w : World) : (binOp .eql 32 (.agg #[.int .i64 0, .int .i64 0, .int .i64 0, .int .i64 q]) (.agg #[.int .i64 0, .int .i64 0, .int .i64 0, .int .i64 q])).run Try.prog w = .ok (.bool true) w := by
  have hu := Try.underlying32
  have hf : Try.prog.underlying 32 = some (.struct (Try.prog.fieldsOf 32)) := by unfold Program.fieldsOf; rw [hu]
  have hp : Try.prog.stoodInHeld 32 = false := by kernel_rfl
  rw [run_eql_struct, run_equalIn_struct w 9999 _ _ _ hf hp]
  unfold Program.fieldsOf
  rw [hu]
  simp [Op.eqFields, go_sem, Try.underlying3]
theorem getD_mem {l : List RouteD} {k : Nat} (h : k < l.length) : l.getD k rt0 ∈ l := by
  rw [List.getD_eq_getElem?_getD, List.getElem?_eq_getElem h]
  exact List.getElem_mem h
set_option maxRecDepth 100000 in
set_option maxHeartbeats 4000000 in
theorem gone_any {w : World} {a : Option Addr} {n cap : Nat} {X : Nat → Int} (h : RawIn w a n X) (b c : Int) (b1 : -9223372036854775808 ≤ b) (b2 : b ≤ 9223372036854775807) (c1 : -9223372036854775808 ≤ c) (c2 : c ≤ 9223372036854775807) :
    Calls Try.prog 8 #[.slice a n cap, .int .i64 b, .int .i64 c] w fun e w' => e = .returned (.bool true) ∧ Still w w' := by
  have hrg := pickF_range b (n := 16) (by omega)
  generalize hrgE : pickF b 16 = rg at *
  have RGE := hide hrgE
  have hqr := pickF_range c (n := 10) (by omega)
  have hS0 : Still w (w.alloc (.cells #[.int .i64 10, .int .i64 30, .int .i64 24] 3)) := (Kept.refl _ _).alloc _
  have hcell : ∀ j, j < ([10, 30, 24] : List Int).length → (w.alloc (.cells #[.int .i64 10, .int .i64 30, .int .i64 24] 3)).cell? ⟨w.heap.size, j, none⟩ = some (.int .i64 (([10, 30, 24] : List Int).getD j 0)) := by
    intro j hj
    rw [World.cell?_alloc_new]
    have hj' : j < 3 := hj
    have : j = 0 ∨ j = 1 ∨ j = 2 := by omega
    rcases this with rfl | rfl | rfl <;> rfl
  have hg : w.heap.size < (w.alloc (.cells #[.int .i64 10, .int .i64 30, .int .i64 24] 3)).heap.size := by simp
  have hB := begunT (w := w.alloc (.cells #[.int .i64 10, .int .i64 30, .int .i64 24] 3)) (g := w.heap.size) (cap := 3) (Q := [10, 30, 24]) (T := tokG rg) (tokG_first rg) (fun _ => (0, 0, 0)) 1 (fun _ _ => by simp) (by
    intro j hj
    have hj' : j < 3 := hj
    have : j = 0 ∨ j = 1 ∨ j = 2 := by omega
    rcases this with rfl | rfl | rfl <;> decide) (by decide) (by decide) hg hcell
  rw [show ([10, 30, 24] : List Int).length = 3 from rfl, gR_zero] at hB
  have HB := hide hB
  have HS0 := hide hS0
  have HRAW := hide (h.kept hS0)
  obtain ⟨g1, g2, g3⟩ := gR_derive (rg := rg) hrg.1 (by omega)
  have G1 := hide g1
  have G2 := hide g2
  have G3 := hide g3
  clear hB hS0 hcell hg hrgE h g1 g2 g3
  go_enter Try.func8, Try.ntmps8
  go_wp2_with fail
  refine (unhide HB).mono ?_
  rintro en w1 ⟨bx, O1, rfl, _, hon⟩
  have HON := hide hon.cut
  clear hon HB
  generalize hV0 : w.alloc (.cells #[.int .i64 10, .int .i64 30, .int .i64 24] 3) = V0 at *
  clear hV0
  go_wp2_with fail
  refine (pickK _ _ _ (by omega) b1 b2).mono ?_
  rintro en w' ⟨rfl, hw⟩
  replace hw := hw.symm
  subst hw
  rw [unhide RGE]
  go_wp2_with fail
  refine (on_derive0 (unhide HON) (unhide G1) (unhide G2) (unhide G3)).mono ?_
  rintro en w2 ⟨rfl, O2, _, hon, _, hnew⟩
  have HON2 := hide hon
  have HNEW2 := hide hnew
  have HRAW2 := hide ((unhide HRAW).kept hon.still)
  clear hon hnew HON G1 G2 G3
  go_wp2_with fail
  refine (onesK (unhide HRAW2)).mono ?_
  rintro en w3 ⟨L, v, rfl, hok, hrow, hst⟩
  obtain ⟨la, lc, rfl, hl1, hl2⟩ := ownsRow_slice hrow
  have hll := hok.len
  have hz3 := hst.size
  have HOK := hide hok
  have hon3 := (unhide HON2).again hst
  have hz2 := (unhide HON2).still.size
  have HON3 := hide hon3
  have HAS3 : Hid (Aside w3 O2 w2.heap.size (.slice la L.length lc) L) := ⟨hrow, fun g hg => unhide HNEW2 g (hrow.lt g hg).1⟩
  clear hok hrow hst hon3 HON2 HNEW2 HRAW2 HRAW
  generalize w2.heap.size = s2 at *
  go_wp2
  go_loopw [11, 12, 13] (fun ok i _ w' => ∃ m : Nat, m ≤ 3 ∧ i = .int .i64 m ∧ ok = .bool true ∧ ∃ O' : Tag, On V0 w' O' 1 bx (gR rg 4 m []) ∧ Aside w' O' s2 (.slice la L.length lc) L) (fun _ i _ _ => 3 - (intOf i).toNat)
  case atStart => exact ⟨0, by omega, rfl, rfl, O2, unhide HON3, unhide HAS3⟩
  case round =>
    obtain ⟨m, hm, rfl, rfl, O4, hon, has⟩ := hrel
    have HON4 := hide hon
    have HAS4 := hide has
    clear hon has HON3 HAS3
    by_cases hlt : m < 3
    · obtain ⟨e1, e2⟩ := gR_share rg hlt []
      have E1 := hide e1
      have E2 := hide e2
      clear e1 e2
      go_wp2_with fail
      refine (on_share0 (unhide HON4) (unhide E1) (unhide E2)).mono ?_
      rintro en w5 ⟨rfl, O5, hO5, hon5, hk5, _⟩
      have HON5 := hide hon5
      have HAS5 := hide ((unhide HAS4).now hk5 hO5)
      clear hO5 hon5 hk5
      go_wp2
      go_roundw
      case rel => exact ⟨m + 1, by omega, by go_num, rfl, O5, unhide HON5, unhide HAS5⟩
      case measure => simp [intOf]; omega
    · have hm3 : m = 3 := by omega
      have hmi : ¬ (m : Int) < 3 := by omega
      have HON4b : Hid (On V0 wr O4 1 bx (gR rg 4 3 [])) := by
        have := unhide HON4
        rw [hm3] at this
        exact this
      clear HON4 hm3
      generalize (m : Int) = mi at *
      go_wp2
      go_loopw [11, 14, 15] (fun ok i _ w' => ∃ k : Nat, k ≤ L.length ∧ i = .int .i64 k ∧ ok = .bool true ∧ ∃ O' : Tag, On V0 w' O' 1 bx (gR rg 4 3 (L.take k)) ∧ Aside w' O' s2 (.slice la L.length lc) L) (fun _ i _ _ => L.length - (intOf i).toNat)
      case atStart => exact ⟨0, by omega, rfl, rfl, O4, unhide HON4b, unhide HAS4⟩
      case round =>
        obtain ⟨k, hk, rfl, rfl, O6, hon, has⟩ := hrel
        have HON6 := hide hon
        have HAS6 := hide has
        clear hon has HON4b HAS4
        by_cases hkl : k < L.length
        · obtain ⟨t, ht, hf, e1, e2⟩ := gR_insert (rg := rg) ((unhide HOK).take hkl)
          rw [take_snoc hkl] at e2
          obtain ⟨g, rfl, hgl⟩ := ownsRow_some (unhide HAS6).row (by omega)
          obtain ⟨o0, o1, o2, o3, _⟩ := oneCell (unhide HAS6).row rfl hkl
          rw [hf] at o0
          generalize L.getD k rt0 = x at *
          have hng := (unhide HAS6).off g rfl
          have HNG := hide hng
          have E1 := hide e1
          have E2 := hide e2
          have hk0 : (0 : Int) ≤ (k : Int) := by omega
          have hkll : (k : Int) < (L.length : Int) := by omega
          have hwt : IntKind.i64.wrap ((t : Int) + 1) = (t : Int) + 1 := wrap_small (by omega) (by omega)
          have ht0 : (0 : Int) ≤ (t : Int) := by omega
          have ht3 : (t : Int) < 3 := by omega
          clear e1 e2 hng hf
          go_wp2_with fail
          have HONd := hide ((unhide HON6).again ((Kept.refl _ wr).drew))
          have HASd : Hid (Aside wr.drew O6 s2 (.slice (some ⟨g, 0, none⟩) L.length lc) L) := (unhide HAS6).now ((Kept.refl _ wr).drew) (fun _ _ => rfl)
          go_region_held3 (fun w' => w'.cell? ⟨g, k * 5, none⟩ = some (.int .i64 (t : Int)) ∧ w'.cell? ⟨g, k * 5 + 1, none⟩ = some (.int .i64 x.addr) ∧ w'.cell? ⟨g, k * 5 + 2, none⟩ = some (.int .i64 x.len) ∧ w'.cell? ⟨g, k * 5 + 3, none⟩ = some (.int .i64 x.hop)) (first | go_keep | (go_split_ands; exact ⟨(hk5.cell (p := ⟨g, k * 5, none⟩) hgl (unhide HNG)).trans o0, (hk5.cell (p := ⟨g, k * 5 + 1, none⟩) hgl (unhide HNG)).trans o1, (hk5.cell (p := ⟨g, k * 5 + 2, none⟩) hgl (unhide HNG)).trans o2, (hk5.cell (p := ⟨g, k * 5 + 3, none⟩) hgl (unhide HNG)).trans o3⟩)) ((go_at_call 21; refine (on_insert0 (unhide HONd) (unhide E1) (unhide E2)).mono ?_; rintro en w5 ⟨rfl, O5, hO5, hon5, hk5, hnew5⟩))
          have HON5 := hide hon5
          have HAS5 := hide ((unhide HASd).now hk5 hO5)
          clear hO5 hon5 hk5 hnew5 o0 o1 o2 o3
          go_wp2
          go_roundw
          case rel => exact ⟨k + 1, by omega, by go_num, rfl, O5, unhide HON5, unhide HAS5⟩
          case measure => simp [intOf]; omega
        · obtain rfl : k = L.length := by omega
          have hfull : L.take L.length = L := List.take_of_length_le (Nat.le_refl _)
          have HON7 : Hid (On V0 wr O6 1 bx (gR rg 4 3 L)) := by
            have := unhide HON6
            rw [hfull] at this
            exact this
          clear HON6 HAS6 hfull
          obtain ⟨f1, f2, f3⟩ := gR_full rg L
          obtain ⟨d1, d2⟩ := gR_drop rg L
          obtain ⟨d3, d4⟩ := dR_drop rg L
          obtain ⟨z1, z2, z3, z4, z5, z6⟩ := dR_dead rg L
          obtain ⟨y1, y2, y3⟩ := dR_more rg L
          have F1 := hide f1
          have F2 := hide f2
          have F3 := hide f3
          have D1 := hide d1
          have D2 := hide d2
          have D3 := hide d3
          have D4 := hide d4
          have Z1 := hide z1
          have Z2 := hide z2
          have Z3 := hide z3
          have Z4 := hide z4
          have Z5 := hide z5
          have Z6 := hide z6
          have Y1 := hide y1
          have Y2 := hide y2
          have Y3 := hide y3
          clear f1 f2 f3 d1 d2 d3 d4 z1 z2 z3 z4 z5 z6 y1 y2 y3
          go_wp2_with fail
          refine (on_create0 (unhide HON7) (unhide F1) (unhide F2) (unhide F3)).mono ?_
          rintro en w8 ⟨rfl, O8, _, hon, _, _⟩
          have HON8 := hide hon
          clear hon HON7
          go_wp2_with fail
          refine (on_drop0 (unhide HON8) (unhide D1) (unhide D2)).mono ?_
          rintro en w9 ⟨rfl, O9, _, hon, _, _⟩
          have HON9 := hide hon
          clear hon HON8
          go_wp2_with fail
          refine (on_drop0 (unhide HON9) (unhide D3) (unhide D4)).mono ?_
          rintro en w10 ⟨rfl, O10, _, hon, _, _⟩
          have HON10 := hide hon
          obtain ⟨t1, t2⟩ := dR_table2 rg L hon.ok
          have T1 := hide t1
          have T2 := hide t2
          clear hon HON9 t1 t2
          generalize htb : tableL (dR rg L) 2 = tb at *
          have TB := hide htb
          clear htb
          go_wp2_with fail
          refine (on_table0 (unhide HON10) (unhide T1) (unhide TB)).mono ?_
          rintro en w11 ⟨va, vc, rfl, hrow, O11, _, hon, _, _, _⟩
          have HON11 := hide hon
          have HROW := hide hrow
          obtain ⟨_, _, hsl, hv1, hv2⟩ := ownsRow_slice hrow
          unfold maxLen at hv2
          clear hon hrow HON10 hsl
          go_wp2
          go_loop [11, 23] (fun ok i => ∃ k : Nat, k ≤ tb.length ∧ i = .int .i64 k ∧ ok = .bool true) (fun _ i => tb.length - (intOf i).toNat)
          case atStart => exact ⟨0, by omega, rfl, rfl⟩
          case round =>
            obtain ⟨k, hk, rfl, rfl⟩ := hrel
            by_cases hkl : k < tb.length
            · obtain ⟨g, rfl, hgl⟩ := ownsRow_some (unhide HROW) (by omega)
              obtain ⟨_, _, _, o3⟩ := rowCell (unhide HROW) rfl hkl
              have hne : ((tb.getD k rt0).from_ != 0) = true := by have := unhide T2 _ (getD_mem hkl); simpa using this
              have hk0 : (0 : Int) ≤ (k : Int) := by omega
              have hkll : (k : Int) < (tb.length : Int) := by omega
              generalize tb.getD k rt0 = x at *
              have HNE := hide hne
              clear hne
              go_wp2
              go_round
              case rel => exact ⟨k + 1, by omega, by go_num, by rw [unhide HNE]⟩
              case measure => simp [intOf]; omega
            · obtain rfl : k = tb.length := by omega
              clear HROW T1 T2 TB
              go_wp2_with fail
              refine (on_table0 (unhide HON11) (unhide Z1) rfl).mono ?_
              rintro en w12 ⟨xa, xc, rfl, _, O12, _, hon, _, _, _⟩
              have HON12 := hide hon
              clear hon HON11
              generalize (tableL (dR rg L) 1).length = tl at *
              go_wp2_with fail
              refine (on_derive0 (unhide HON12) (unhide Z2) (unhide Z3) (unhide Z4)).mono ?_
              rintro en w13 ⟨rfl, O13, _, hon, _, _⟩
              have HON13 := hide hon
              clear hon HON12
              go_wp2_with fail
              refine (on_insert0 (unhide HON13) (unhide Z5) (unhide Z6)).mono ?_
              rintro en w14 ⟨rfl, O14, _, hon, _, _⟩
              have HON14 := hide hon
              clear hon HON13
              go_wp2_with fail
              refine (pickK _ _ _ (by omega) c1 c2).mono ?_
              rintro en w' ⟨rfl, hw⟩
              replace hw := hw.symm
              subst hw
              generalize pickF c 10 = pq at *
              obtain ⟨q1, q2, q3⟩ := dR_create rg L (q := 1 + pq) (by omega) (by omega)
              have Q1 := hide q1
              have Q2 := hide q2
              have Q3 := hide q3
              clear q1 q2 q3
              go_wp2_with fail
              refine (on_create0 (unhide HON14) (unhide Y1) (unhide Y2) (unhide Y3)).mono ?_
              rintro en w15 ⟨rfl, O15, _, hon, _, _⟩
              have HON15 := hide hon
              clear hon HON14
              go_wp2_with fail
              refine (on_create0 (unhide HON15) (unhide Q1) (unhide Q2) (unhide Q3)).mono ?_
              rintro en w16 ⟨rfl, O16, _, hon, _, _⟩
              have HON16 := hide hon
              obtain ⟨n1, n2, n3, n4⟩ := nR_has rg L (1 + pq) hon.ok
              have N1 := hide n1
              have N2 := hide n2
              have N3 := hide n3
              have N4 := hide n4
              clear hon HON15 n1 n2 n3 n4
              go_wp2_with fail
              refine (on_table0 (unhide HON16) (unhide N1) (unhide N2)).mono ?_
              rintro en w17 ⟨ya, yc, rfl, _, O17, _, hon, _, _, _⟩
              have HON17 := hide hon
              clear hon HON16
              have hlen0 : ([] : List RouteD).length = 0 := rfl
              rw [hlen0]
              go_wp2_with fail
              refine (on_count (unhide HON17) _).mono ?_
              rintro en w18 ⟨rfl, hwent⟩
              rw [unhide N3, unhide N1]
              obtain ⟨O18, _, hon, _, _⟩ := hwent.now
              have hS18 : Still w18 (w18.alloc (.cells #[.int .i64 0, .int .i64 0, .int .i64 0, .int .i64 (1 + pq)] 32)) := (Kept.refl _ _).alloc _
              have HON18 := hide (hon.cut.again hS18)
              have HBX := hide (BoxX.new w18 ⟨0, 0, 0, 1 + pq⟩ 32)
              have HNB : Hid (¬ mineX (cutK O18 w18.heap.size) 1 w18.heap.size) := cutK_ge (Nat.le_refl _)
              clear hwent hon hS18 HON17
              go_wp2_with fail
              generalize w18.heap.size = s18 at *
              generalize w18.alloc (.cells #[.int .i64 0, .int .i64 0, .int .i64 0, .int .i64 (1 + pq)] 32) = V18 at *
              refine (on_table0 (unhide HON18) (unhide N4) rfl).mono ?_
              rintro en w19 ⟨xa2, xc2, rfl, _, O19, _, hon, hk19, _, _⟩
              have bx19 := (unhide HBX).kept hk19 (unhide HNB)
              have p0 := bx19.c0
              have p1 := bx19.c1
              have p2 := bx19.c2
              have p3 := bx19.c3
              have pl := bx19.lt
              simp only at p0 p1 p2 p3
              have HSF : Hid (Still w w19) := (unhide HS0).trans hon.still
              have hE := fun w => eqSums (1 + pq) w
              clear hon hk19 bx19 HON18 HBX
              generalize (tableL (nR rg L (1 + pq)) 1).length = tl2 at *
              go_wp2
              go_ret
              exact ⟨rfl, unhide HSF⟩
end Go.Proofs.Ytgndledehlilkaa
