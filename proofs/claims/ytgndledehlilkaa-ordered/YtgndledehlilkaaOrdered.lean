/-
  Ordered: the walk.
-/
import Derived.Test.YtgndledehlilkaaOrd5
import Derived.Test.YtgndledehlilkaaKeepL
namespace Go.Proofs.Ytgndledehlilkaa
open Go.RowKit

theorem RawIn.stillO {w w' : World} {a : Option Addr} {n : Nat} {X : Nat → Int} (h : RawIn w a n X) (hs : Still w w') : RawIn w' a n X :=
  ⟨h.most, fun h0 => by
    obtain ⟨bs, off, e, hb, hX⟩ := h.at_ h0
    exact ⟨bs, off, e, Nat.lt_of_lt_of_le hb hs.size, fun i hi => ⟨(hs.cell bs _ hb).trans (hX i hi).1, (hX i hi).2⟩⟩⟩
theorem neSums (x : RouteD) (w : World) : (binOp .neq 32 (.agg #[.int .i64 x.addr, .int .i64 x.len, .int .i64 x.hop, .int .i64 x.from_]) (.agg #[.int .i64 x.addr, .int .i64 x.len, .int .i64 x.hop, .int .i64 x.from_])).run Try.prog w = .ok (.bool false) w := by
  have hu := Try.underlying32
  have hf : Try.prog.underlying 32 = some (.struct (Try.prog.fieldsOf 32)) := by unfold Program.fieldsOf; rw [hu]
  have hp : Try.prog.stoodInHeld 32 = false := by kernel_rfl
  rw [run_neq_struct, run_equalIn_struct w 9999 _ _ _ hf hp]
  unfold Program.fieldsOf
  rw [hu]
  simp [Op.eqFields, go_sem, Try.underlying3]
theorem table_len_le {r : RefS} (hk : RefOk r) {n : Int} {t : Nat} (h : tableL r n = tabF r t) (ht : t < r.nl) : ((tableL r n).length : Int) ≤ (r.life t).quota := by
  rw [h]
  unfold tabF
  rw [tableR_len]
  have h3 := hk.tab.ownN t ht
  unfold spare
  have := List.length_take_le (((r.life t).quota - (r.life t).own.length).toNat) (offF r t)
  omega
/-- A table that is neither engine's. -/
structure TabTwo (w : World) (b c base : Nat) (v : Value) (L : List RouteD) : Prop where
  row : w.ownsRow base 34 4 v L.length (L.flatMap routeCells)
  off : ∀ g, v.ownBlock = some g → g ≠ b ∧ g ≠ c
section
variable {w w' : World} {b c base : Nat} {v : Value} {L : List RouteD}
theorem TabTwo.left (h : TabTwo w b c base v L) (hk : Kept (· = b) w w') : TabTwo w' b c base v L := ⟨kept_row h.row hk (fun g hg => (h.off g hg).1), h.off⟩
theorem TabTwo.right (h : TabTwo w b c base v L) (hk : Kept (· = c) w w') : TabTwo w' b c base v L := ⟨kept_row h.row hk (fun g hg => (h.off g hg).2), h.off⟩
theorem TabTwo.again (h : TabTwo w b c base v L) (hk : Still w w') : TabTwo w' b c base v L := ⟨kept_row h.row hk (fun _ _ q => q), h.off⟩
end
theorem Now.kept {w0 w w' : World} {O : Tag} {e b : Nat} {r : RefS} (h : Now w0 w O e b r w') : Kept (mineX O e) w w' := by
  obtain ⟨_, _, _, h3, _⟩ := h
  exact h3
set_option maxRecDepth 100000 in
set_option maxHeartbeats 8000000 in
theorem ordered_any {w : World} {a : Option Addr} {n cap : Nat} {X : Nat → Int} (h : RawIn w a n X) (b c : Int) (c1 : -9223372036854775808 ≤ c) (c2 : c ≤ 9223372036854775807) :
    Calls Try.prog 4 #[.slice a n cap, .int .i64 b, .int .i64 c] w fun e w' => e = .returned (.bool true) ∧ Still w w' := by
  have hqr := pickF_range c (n := 8) (by omega)
  have HRAW := hide h
  clear h
  go_enter Try.func4, Try.ntmps4
  go_wp2_with fail
  refine (pickK _ _ _ (by omega) c1 c2).mono ?_
  rintro en w' ⟨rfl, hw⟩
  replace hw := hw.symm
  subst hw
  generalize pickF c 8 = pq at *
  obtain ⟨q0, q1⟩ := hqr
  have hq1 : 10 ≤ 10 + pq := by omega
  have hq2 : 10 + pq ≤ 17 := by omega
  have hS0 : Still w (w.alloc (.cells #[.int .i64 (10 + pq), .int .i64 (10 + pq), .int .i64 (10 + pq)] 3)) := (Kept.refl _ _).alloc _
  have HS0 := hide hS0
  have HB := hide (begun3 w (q1 := 10 + pq) (q2 := 10 + pq) (q3 := 10 + pq) (by omega) (by omega) (by omega) (by omega))
  clear hS0
  go_wp2_with fail
  refine (unhide HB).mono ?_
  rintro en w1 ⟨bx, rfl, hx⟩
  have HX := hide hx
  clear hx HB
  generalize w.alloc (.cells #[.int .i64 (10 + pq), .int .i64 (10 + pq), .int .i64 (10 + pq)] 3) = V0 at *
  have HB := hide (begun3 w1 (q1 := 10 + pq) (q2 := 10 + pq) (q3 := 10 + pq) (by omega) (by omega) (by omega) (by omega))
  have hS1 : Still w1 (w1.alloc (.cells #[.int .i64 (10 + pq), .int .i64 (10 + pq), .int .i64 (10 + pq)] 3)) := (Kept.refl _ _).alloc _
  have HS1 := hide hS1
  clear hS1
  go_wp2_with fail
  refine (unhide HB).mono ?_
  rintro en w2 ⟨by_, rfl, hy⟩
  have HP := hide (pair_start (unhide HX) (unhide HS1) hy)
  clear hy HB HX HS1
  have HRAW2 := hide ((unhide HRAW).stillO ((unhide HS0).trans (unhide HP).x.still))
  clear HRAW
  go_wp2_with fail
  refine (onesK (unhide HRAW2)).mono ?_
  rintro en w3 ⟨L, v, rfl, hok, hrow, hst⟩
  have HBS := hide (beside_start (unhide HP) hrow)
  obtain ⟨la, lc, rfl, hl1, hl2⟩ := ownsRow_slice hrow
  have hll := hok.len
  have HOK := hide hok
  have HP3 := hide ((unhide HP).again hst)
  clear hok hrow hst HP HRAW2
  generalize w2.heap.size = s2 at *
  generalize hqE : 10 + pq = q at *
  have QE := hide hqE
  clear hqE
  have hqa : ∀ t, t < 3 → 10 ≤ quotaO q t := fun t ht => by rw [quotaO_is q ht]; exact hq1
  go_wp2_with fail
  refine (sharedK (unhide HP3).x b).mono ?_
  rintro en w4 ⟨rfl, hn4⟩
  obtain ⟨hp4, hk4⟩ := (unhide HP3).left hn4
  have HP4 := hide hp4
  have HBS4 := hide ((unhide HBS).left hk4)
  clear hn4 hp4 hk4 HP3 HBS
  generalize hG : gS b (fun _ => 0) 3 = G at *
  generalize hT : tS b (fun _ => 0) 3 = T at *
  have GE := hide hG
  have TE := hide hT
  clear hG hT
  go_wp2
  go_loopw [11, 12, 13, 14, 15, 16] (fun ok i _ _ _ _ w' => ∃ k : Nat, k ≤ L.length ∧ i = .int .i64 k ∧ ok = .bool true ∧ Pair V0 w' bx by_ (sR (quotaO q) G T (L.take k)) (sR (quotaO q) (fun _ => 0) (fun _ => 0) (L.reverse.take k)) ∧ Beside w' bx by_ s2 (.slice la L.length lc) L) (fun _ i _ _ _ _ _ => L.length - (intOf i).toNat)
  case atStart => exact ⟨0, by omega, rfl, rfl, unhide HP4, unhide HBS4⟩
  case round =>
    obtain ⟨k, hk, rfl, rfl, hp, hbs⟩ := hrel
    have HP5 := hide hp
    have HBS5 := hide hbs
    clear hp hbs HP4 HBS4
    by_cases hkl : k < L.length
    · obtain ⟨t, ht, hf, e1, e2⟩ := round_left (G := G) (T := T) hqa (unhide HOK) hkl
      obtain ⟨g, rfl, hgl⟩ := ownsRow_some (unhide HBS5).row (by omega)
      obtain ⟨o0, o1, o2, o3, o4⟩ := oneCell (unhide HBS5).row rfl hkl
      rw [hf] at o0 o4
      obtain ⟨ng1, ng2⟩ := (unhide HBS5).off g rfl
      generalize L.getD k rt0 = x at *
      have E1 := hide e1
      have E2 := hide e2
      have hk0 : (0 : Int) ≤ (k : Int) := by omega
      have hkll : (k : Int) < (L.length : Int) := by omega
      have hwt : IntKind.i64.wrap ((t : Int) + 1) = (t : Int) + 1 := wrap_small (by omega) (by omega)
      have ht0 : (0 : Int) ≤ (t : Int) := by omega
      have ht3 : (t : Int) < 3 := by omega
      have hSA : Still wr (wr.alloc (.cells #[.int .i64 x.addr, .int .i64 x.len, .int .i64 x.hop, .int .i64 (t : Int)] 34)) := (Kept.refl _ _).alloc _
      have HBX := hide (BoxX.new wr ⟨x.addr, x.len, x.hop, (t : Int)⟩ 34)
      have HP6 := hide ((unhide HP5).again hSA)
      have HBS6 := hide ((unhide HBS5).again hSA)
      have hbl : bx < wr.heap.size := (unhide HP5).x.lt
      have HO0 := hide ((hSA.cell g (k * 5) hgl).trans o0)
      clear e1 e2 hf HP5 HBS5
      go_wp2_with fail
      generalize hs5 : wr.heap.size = s5 at *
      generalize wr.alloc (.cells #[.int .i64 x.addr, .int .i64 x.len, .int .i64 x.hop, .int .i64 (t : Int)] 34) = U at *
      have bxU := unhide HBX
      have p0 := bxU.c0
      have p1 := bxU.c1
      have p2 := bxU.c2
      have pl := bxU.lt
      simp only at p0 p1 p2
      have o0' := unhide HO0
      have hgU : g < U.heap.size := by have := hSA.size; omega
      have hsb : s5 ≠ bx := by omega
      have HSA := hide hSA
      clear bxU hSA o0 o1 o2 o3 o4 HO0
      have HPd := hide ((unhide HP6).again ((Kept.refl _ U).drew))
      have HBSd := hide ((unhide HBS6).again ((Kept.refl _ U).drew))
      have hng : ¬ mineX (oneTag bx) 1 g := fun q => ng1 ((oneTag_mine bx g).1 q)
      have hns : ¬ mineX (oneTag bx) 1 s5 := fun q => hsb ((oneTag_mine bx s5).1 q)
      have HNG := hide hng
      have HNS := hide hns
      clear hng hns
      go_region_held3 (fun w' => w'.cell? ⟨g, k * 5, none⟩ = some (.int .i64 (t : Int)) ∧ w'.cell? ⟨s5, 0, none⟩ = some (.int .i64 x.addr) ∧ w'.cell? ⟨s5, 1, none⟩ = some (.int .i64 x.len) ∧ w'.cell? ⟨s5, 2, none⟩ = some (.int .i64 x.hop)) (first | go_keep | (go_split_ands; exact ⟨((unhide HK6).cell (p := ⟨g, k * 5, none⟩) hgU (unhide HNG)).trans o0', ((unhide HK6).cell (p := ⟨s5, 0, none⟩) pl (unhide HNS)).trans p0, ((unhide HK6).cell (p := ⟨s5, 1, none⟩) pl (unhide HNS)).trans p1, ((unhide HK6).cell (p := ⟨s5, 2, none⟩) pl (unhide HNS)).trans p2⟩)) ((go_at_call 21; refine (on_insert0 (n := (t : Int) + 1) (addr := x.addr) (len := x.len) (hop := x.hop) (unhide HPd).x (unhide E1) (unhide E2)).mono ?_; rintro en w6 ⟨rfl, hn6⟩; have HK6 := hide hn6.kept))
      obtain ⟨hp7, hk7⟩ := (unhide HPd).left hn6
      have HP7 := hide hp7
      have HBS7 := hide ((unhide HBSd).left hk7)
      clear hn6 hp7 hk7 HK6 HPd HBSd HP6 HBS6 HBX p0 p1 p2 pl o0' hgU HNG HNS E1 E2 hgl hwt ht0 ht3 HSA
      obtain ⟨j, hj⟩ : ∃ j : Nat, j = L.length - 1 - k := ⟨_, rfl⟩
      have hjl : j < L.length := by omega
      obtain ⟨o0, o1, o2, o3, _⟩ := oneCell (unhide HBS7).row rfl hjl
      have hgl : g < w6.heap.size := ownsRow_lt (unhide HBS7).row rfl
      obtain ⟨y, hy⟩ : ∃ y, L.getD j rt0 = y := ⟨_, rfl⟩
      obtain ⟨u, hu, huf, r1, r2, r3, r4, r5, r6⟩ := round_right (G := fun _ => 0) (T := fun _ => 0) hqa (unhide HOK) hkl (x := y) (by rw [← hj]; exact hy)
      rw [hy] at o0 o1 o2 o3
      rw [huf] at o0
      have hj1 : IntKind.i64.wrap ((L.length : Int) - 1) = (L.length : Int) - 1 := wrap_small (by omega) (by omega)
      have hj2 : IntKind.i64.wrap ((L.length : Int) - 1 - (k : Int)) = (j : Int) := by rw [wrap_small (by omega) (by omega)]; omega
      have hj0 : (0 : Int) ≤ (j : Int) := by omega
      have hjll : (j : Int) < (L.length : Int) := by omega
      have hwu : IntKind.i64.wrap ((u : Int) + 1) = (u : Int) + 1 := wrap_small (by omega) (by omega)
      have hu0 : (0 : Int) ≤ (u : Int) := by omega
      have hu3 : (u : Int) < 3 := by omega
      have R1 := hide r1
      have R2 := hide r2
      have R3 := hide r3
      have R4 := hide r4
      have R5 := hide r5
      have R6 := hide r6
      have HNG : Hid (¬ mineX (oneTag by_) 1 g) := fun q => ng2 ((oneTag_mine by_ g).1 q)
      clear r1 r2 r3 r4 r5 r6 hy huf hj
      generalize { y with hop := 9 } = y9 at *
      by_cases hev : (k : Int) % 2 = 0
      · have hev' : ((k : Int) % 2 == 0) = true := by simpa using hev
        go_wp2_with fail
        have HPd := hide ((unhide HP7).again ((Kept.refl _ w6).drew))
        have HBSd := hide ((unhide HBS7).again ((Kept.refl _ w6).drew))
        go_region_held3 (fun w' => w'.cell? ⟨g, j * 5, none⟩ = some (.int .i64 (u : Int)) ∧ w'.cell? ⟨g, j * 5 + 1, none⟩ = some (.int .i64 y.addr) ∧ w'.cell? ⟨g, j * 5 + 2, none⟩ = some (.int .i64 y.len)) (first | go_keep | (go_split_ands; exact ⟨((unhide HK8).cell (p := ⟨g, j * 5, none⟩) hgl (unhide HNG)).trans o0, ((unhide HK8).cell (p := ⟨g, j * 5 + 1, none⟩) hgl (unhide HNG)).trans o1, ((unhide HK8).cell (p := ⟨g, j * 5 + 2, none⟩) hgl (unhide HNG)).trans o2⟩)) ((go_at_call 21; refine (on_insert0 (n := (u : Int) + 1) (addr := y.addr) (len := y.len) (hop := 9) (unhide HPd).y (unhide R1) (unhide R2)).mono ?_; rintro en w8 ⟨rfl, hn8⟩; have HK8 := hide hn8.kept))
        obtain ⟨hp9, hk9⟩ := (unhide HPd).right hn8
        have a0 := (hk9.cell (p := ⟨g, j * 5, none⟩) hgl ng2).trans o0
        have a1 := (hk9.cell (p := ⟨g, j * 5 + 1, none⟩) hgl ng2).trans o1
        have a2 := (hk9.cell (p := ⟨g, j * 5 + 2, none⟩) hgl ng2).trans o2
        have a3 := (hk9.cell (p := ⟨g, j * 5 + 3, none⟩) hgl ng2).trans o3
        have HP9 := hide hp9
        have HBS9 := hide ((unhide HBSd).right hk9)
        have al : g < w8.heap.size := ownsRow_lt (unhide HBS9).row rfl
        clear hn8 hp9 hk9 HK8 HPd HBSd HP7 HBS7 o0 o1 o2 o3 hgl R1 R2
        go_wp2_with fail
        have HPd := hide ((unhide HP9).again ((Kept.refl _ w8).drew))
        have HBSd := hide ((unhide HBS9).again ((Kept.refl _ w8).drew))
        go_region_held3 (fun w' => w'.cell? ⟨g, j * 5, none⟩ = some (.int .i64 (u : Int)) ∧ w'.cell? ⟨g, j * 5 + 1, none⟩ = some (.int .i64 y.addr) ∧ w'.cell? ⟨g, j * 5 + 2, none⟩ = some (.int .i64 y.len)) (first | go_keep | (go_split_ands; exact ⟨((unhide HK10).cell (p := ⟨g, j * 5, none⟩) al (unhide HNG)).trans a0, ((unhide HK10).cell (p := ⟨g, j * 5 + 1, none⟩) al (unhide HNG)).trans a1, ((unhide HK10).cell (p := ⟨g, j * 5 + 2, none⟩) al (unhide HNG)).trans a2⟩)) ((go_at_call 22; refine (on_remove0 (n := (u : Int) + 1) (addr := y.addr) (len := y.len) (unhide HPd).y (unhide R3) (unhide R4)).mono ?_; rintro en w10 ⟨rfl, hn10⟩; have HK10 := hide hn10.kept))
        obtain ⟨hp11, hk11⟩ := (unhide HPd).right hn10
        have d0 := (hk11.cell (p := ⟨g, j * 5, none⟩) al ng2).trans a0
        have d1 := (hk11.cell (p := ⟨g, j * 5 + 1, none⟩) al ng2).trans a1
        have d2 := (hk11.cell (p := ⟨g, j * 5 + 2, none⟩) al ng2).trans a2
        have d3 := (hk11.cell (p := ⟨g, j * 5 + 3, none⟩) al ng2).trans a3
        have HP11 := hide hp11
        have HBS11 := hide ((unhide HBSd).right hk11)
        have dl : g < w10.heap.size := ownsRow_lt (unhide HBS11).row rfl
        clear hn10 hp11 hk11 HK10 HPd HBSd HP9 HBS9 a0 a1 a2 a3 al R3 R4
        go_wp2_with fail
        have HPe := hide ((unhide HP11).again ((Kept.refl _ w10).drew))
        have HBSe := hide ((unhide HBS11).again ((Kept.refl _ w10).drew))
        go_region_held3 (fun w' => w'.cell? ⟨g, j * 5, none⟩ = some (.int .i64 (u : Int)) ∧ w'.cell? ⟨g, j * 5 + 1, none⟩ = some (.int .i64 y.addr) ∧ w'.cell? ⟨g, j * 5 + 2, none⟩ = some (.int .i64 y.len) ∧ w'.cell? ⟨g, j * 5 + 3, none⟩ = some (.int .i64 y.hop)) (first | go_keep | (go_split_ands; exact ⟨((unhide HK12).cell (p := ⟨g, j * 5, none⟩) dl (unhide HNG)).trans d0, ((unhide HK12).cell (p := ⟨g, j * 5 + 1, none⟩) dl (unhide HNG)).trans d1, ((unhide HK12).cell (p := ⟨g, j * 5 + 2, none⟩) dl (unhide HNG)).trans d2, ((unhide HK12).cell (p := ⟨g, j * 5 + 3, none⟩) dl (unhide HNG)).trans d3⟩)) ((go_at_call 21; refine (on_insert0 (n := (u : Int) + 1) (addr := y.addr) (len := y.len) (hop := y.hop) (unhide HPe).y (unhide R5) (unhide R6)).mono ?_; rintro en w12 ⟨rfl, hn12⟩; have HK12 := hide hn12.kept))
        obtain ⟨hp13, hk13⟩ := (unhide HPe).right hn12
        have HP13 := hide hp13
        have HBS13 := hide ((unhide HBSe).right hk13)
        clear hn12 hp13 hk13 HK12 HPe HBSe d0 d1 d2 d3
        go_wp2
        go_roundw
        case rel => exact ⟨k + 1, by omega, by go_num, rfl, unhide HP13, unhide HBS13⟩
        case measure => simp [intOf]; omega
      · have ol := hgl
        have hev' : ((k : Int) % 2 == 0) = false := by simpa using hev
        go_wp2_with fail
        have HPe := hide ((unhide HP7).again ((Kept.refl _ w6).drew))
        have HBSe := hide ((unhide HBS7).again ((Kept.refl _ w6).drew))
        go_region_held3 (fun w' => w'.cell? ⟨g, j * 5, none⟩ = some (.int .i64 (u : Int)) ∧ w'.cell? ⟨g, j * 5 + 1, none⟩ = some (.int .i64 y.addr) ∧ w'.cell? ⟨g, j * 5 + 2, none⟩ = some (.int .i64 y.len) ∧ w'.cell? ⟨g, j * 5 + 3, none⟩ = some (.int .i64 y.hop)) (first | go_keep | (go_split_ands; exact ⟨((unhide HK12).cell (p := ⟨g, j * 5, none⟩) ol (unhide HNG)).trans o0, ((unhide HK12).cell (p := ⟨g, j * 5 + 1, none⟩) ol (unhide HNG)).trans o1, ((unhide HK12).cell (p := ⟨g, j * 5 + 2, none⟩) ol (unhide HNG)).trans o2, ((unhide HK12).cell (p := ⟨g, j * 5 + 3, none⟩) ol (unhide HNG)).trans o3⟩)) ((go_at_call 21; refine (on_insert0 (n := (u : Int) + 1) (addr := y.addr) (len := y.len) (hop := y.hop) (unhide HPe).y (unhide R5) (unhide R6)).mono ?_; rintro en w12 ⟨rfl, hn12⟩; have HK12 := hide hn12.kept))
        obtain ⟨hp13, hk13⟩ := (unhide HPe).right hn12
        have HP13 := hide hp13
        have HBS13 := hide ((unhide HBSe).right hk13)
        clear hn12 hp13 hk13 HK12 HPe HBSe o0 o1 o2 o3
        go_wp2
        go_roundw
        case rel => exact ⟨k + 1, by omega, by go_num, rfl, unhide HP13, unhide HBS13⟩
        case measure => simp [intOf]; omega
    · obtain rfl : k = L.length := by omega
      have hfl : L.take L.length = L := List.take_of_length_le (Nat.le_refl _)
      have hfr : L.reverse.take L.length = L.reverse := List.take_of_length_le (by simp)
      have hp6 := unhide HP5
      rw [hfl, hfr] at hp6
      have HP6 := hide hp6
      have HBS6 := hide (unhide HBS5)
      clear hfl hfr hp6 HP5 HBS5
      go_wp2_with fail
      refine (sharedK (unhide HP6).y b).mono ?_
      rintro en w7 ⟨rfl, hn7⟩
      obtain ⟨hp8, hk8⟩ := (unhide HP6).right hn7
      rw [unhide GE, unhide TE] at hp8
      have HBS8 := hide ((unhide HBS6).right hk8)
      have told := fun (t : Nat) (ht : t < 3) => sR_told hp8.x.ok hp8.y.ok ht
      have hlens : ∀ t : Nat, t < 3 → (tableL (sR (quotaO q) G T L) ((t : Int) + 1)).length ≤ 1000000 := fun t ht => by
        have hle := table_len_le hp8.x.ok ((sR_firsts (quotaO q) G T L).table ht).2 (show t < (sR (quotaO q) G T L).nl from ht)
        have hqq : ((sR (quotaO q) G T L).life t).quota = q := quotaO_is q ht
        rw [hqq] at hle
        omega
      generalize sR (quotaO q) G T L = r at *
      generalize sR (quotaO q) G T L.reverse = r' at *
      have HP8 := hide hp8
      have TOLD := hide told
      have HLENS := hide hlens
      clear hn7 hp8 hk8 told hlens HP6 HBS6
      go_wp2
      go_loopw [18, 19, 20, 21, 22, 23, 24, 25, 26, 27, 28, 29] (fun t _ _ _ _ _ _ _ _ _ _ _ w' => ∃ m : Nat, m ≤ 3 ∧ t = .int .i64 ((m : Int) + 1) ∧ Pair V0 w' bx by_ r r' ∧ Beside w' bx by_ s2 (.slice la L.length lc) L) (fun t _ _ _ _ _ _ _ _ _ _ _ _ => 3 - (intOf t - 1).toNat)
      case atStart => exact ⟨0, by omega, rfl, unhide HP8, unhide HBS8⟩
      case round =>
        obtain ⟨m, hm, rfl, hp, hbs⟩ := hrel
        have HP9 := hide hp
        have HBS9 := hide hbs
        clear hp hbs HP8 HBS8
        by_cases hm3 : m < 3
        · obtain ⟨a1, a2, tE, cE, cq, cl, own⟩ := unhide TOLD m hm3
          have hlen := unhide HLENS m hm3
          rw [quotaO_is q hm3] at cq
          generalize hcs : countF r ((m : Int) + 1) = cs at *
          generalize htb : tableL r ((m : Int) + 1) = tb at *
          obtain ⟨c0, c1', c2', c3⟩ := cs
          simp only at cq cl
          subst cq
          have A1 := hide a1
          have A2 := hide a2
          have TB := hide htb
          have TE2 := hide tE
          have CE := hide hcs
          have CE2 := hide cE
          have OWN := hide own
          have hwm : IntKind.i64.wrap ((m : Int) + 1 - 1) = (m : Int) := by rw [wrap_small (by omega) (by omega)]; omega
          have hws : IntKind.i64.wrap (c0 + c1') = (tb.length : Int) := by rw [← cl]; exact wrap_small (by omega) (by omega)
          have hd3 : decide ((m : Int) + 1 ≤ 3) = true := decide_eq_true (by omega)
          clear a1 a2 htb tE hcs cE own cl
          go_wp2_with fail
          refine ((unhide HP9).table (unhide A1) (unhide TB)).mono ?_
          rintro en w10 ⟨ta, tc, rfl, hr10, hp10, hk10⟩
          have HT10 : Hid (TabTwo w10 bx by_ wr.heap.size (.slice ta tb.length tc) tb) := ⟨hr10, fun g hg => by have := (hr10.lt g hg).1; have := (unhide HP9).x.lt; have := (unhide HP9).y.lt; omega⟩
          have HP10 := hide hp10
          have HBS10 := hide ((unhide HBS9).left hk10)
          obtain ⟨_, _, _, ht1, ht2⟩ := ownsRow_slice hr10
          clear hr10 hp10 hk10 HP9 HBS9
          generalize wr.heap.size = s9 at *
          go_wp2_with fail
          refine ((unhide HP10).table2 (unhide A2) (unhide TE2)).mono ?_
          rintro en w11 ⟨ua, uc, rfl, hr11, hp11, hk11⟩
          have HT11 := hide ((unhide HT10).right hk11)
          have HU11 : Hid (TabTwo w11 bx by_ w10.heap.size (.slice ua tb.length uc) tb) := ⟨hr11, fun g hg => by have := (hr11.lt g hg).1; have := (unhide HP10).x.lt; have := (unhide HP10).y.lt; omega⟩
          have HP11 := hide hp11
          have HBS11 := hide ((unhide HBS10).right hk11)
          clear hr11 hp11 hk11 HP10 HBS10 HT10
          generalize w10.heap.size = s10 at *
          go_wp2_with fail
          refine (on_count0 (unhide HP11).x (unhide A1) (unhide CE)).mono ?_
          rintro en w12 ⟨rfl, hn12⟩
          obtain ⟨hp12, hk12⟩ := (unhide HP11).left hn12
          have hSA : Still w12 (w12.alloc (.cells #[.int .i64 c0, .int .i64 c1', .int .i64 c2', .int .i64 c3] 32)) := (Kept.refl _ _).alloc _
          have hbx12 : BoxX (w12.alloc (.cells #[.int .i64 c0, .int .i64 c1', .int .i64 c2', .int .i64 c3] 32)) w12.heap.size ⟨c0, c1', c2', c3⟩ := BoxX.new w12 ⟨c0, c1', c2', c3⟩ 32
          have HB13 := hide hbx12
          have HP13 := hide (hp12.again hSA)
          have HT13 := hide (((unhide HT11).left hk12).again hSA)
          have HU13 := hide (((unhide HU11).left hk12).again hSA)
          have HBS13 := hide (((unhide HBS11).left hk12).again hSA)
          have hx12 := hp12.x.lt
          have hy12 := hp12.y.lt
          clear hn12 hp12 hk12 hSA hbx12 HP11 HT11 HU11 HBS11
          go_wp2_with fail
          generalize hs12 : w12.heap.size = s12 at *
          generalize w12.alloc (.cells #[.int .i64 c0, .int .i64 c1', .int .i64 c2', .int .i64 c3] 32) = U at *
          refine (on_count0 (unhide HP13).y (unhide A2) (unhide CE2)).mono ?_
          rintro en w14 ⟨rfl, hn14⟩
          obtain ⟨hp14, hk14⟩ := (unhide HP13).right hn14
          have hSA : Still w14 (w14.alloc (.cells #[.int .i64 c0, .int .i64 c1', .int .i64 c2', .int .i64 c3] 32)) := (Kept.refl _ _).alloc _
          have hbx14 : BoxX (w14.alloc (.cells #[.int .i64 c0, .int .i64 c1', .int .i64 c2', .int .i64 c3] 32)) w14.heap.size ⟨c0, c1', c2', c3⟩ := BoxX.new w14 ⟨c0, c1', c2', c3⟩ 32
          have HB15 := hide hbx14
          have HA15 := hide (((unhide HB13).kept hk14 (by omega)).kept hSA (fun q => q))
          have HP15 := hide (hp14.again hSA)
          have HT15 := hide (((unhide HT13).right hk14).again hSA)
          have HU15 := hide (((unhide HU13).right hk14).again hSA)
          have HBS15 := hide (((unhide HBS13).right hk14).again hSA)
          clear hn14 hp14 hk14 hSA hbx14 HP13 HT13 HU13 HBS13 HB13
          go_wp2_with fail
          generalize w14.heap.size = s14 at *
          generalize w14.alloc (.cells #[.int .i64 c0, .int .i64 c1', .int .i64 c2', .int .i64 c3] 32) = Z at *
          refine (alikeK (unhide HT15).row (unhide HU15).row hlen).mono ?_
          rintro en w16 ⟨rfl, hs16⟩
          have hba := (unhide HA15).kept hs16 (fun q => q)
          have hbb := (unhide HB15).kept hs16 (fun q => q)
          have p0 := hba.c0
          have p1 := hba.c1
          have p2 := hba.c2
          have p3 := hba.c3
          have pl := hba.lt
          have q0' := hbb.c0
          have q1' := hbb.c1
          have q2' := hbb.c2
          have q3' := hbb.c3
          have ql := hbb.lt
          simp only at p0 p1 p2 p3 q0' q1' q2' q3'
          have hE : ∀ w, (binOp .neq 32 (.agg #[.int .i64 c0, .int .i64 c1', .int .i64 c2', .int .i64 c3]) (.agg #[.int .i64 c0, .int .i64 c1', .int .i64 c2', .int .i64 c3])).run Try.prog w = .ok (.bool false) w := fun w => neSums ⟨c0, c1', c2', c3⟩ w
          have HP16 := hide ((unhide HP15).again hs16)
          have HT16 := hide ((unhide HT15).again hs16)
          have HBS16 := hide ((unhide HBS15).again hs16)
          clear hba hbb hs16 HP15 HT15 HU15 HBS15 HA15 HB15
          go_wp2
          go_loopw [28, 29] (fun i _ w' => ∃ j : Nat, j ≤ L.length ∧ i = .int .i64 j ∧ Pair V0 w' bx by_ r r' ∧ Beside w' bx by_ s2 (.slice la L.length lc) L ∧ TabTwo w' bx by_ s9 (.slice ta tb.length tc) tb) (fun i _ _ => L.length - (intOf i).toNat)
          case atStart => exact ⟨0, by omega, rfl, unhide HP16, unhide HBS16, unhide HT16⟩
          case round =>
            obtain ⟨j, hj, rfl, hp, hbs, htt⟩ := hrel
            have HP17 := hide hp
            have HBS17 := hide hbs
            have HT17 := hide htt
            clear hp hbs htt HP16 HBS16 HT16 p0 p1 p2 p3 pl q0' q1' q2' q3' ql hE
            by_cases hjl : j < L.length
            · obtain ⟨g, rfl, hgl⟩ := ownsRow_some (unhide HBS17).row (by omega)
              obtain ⟨o0, o1, o2, o3, o4⟩ := oneCell (unhide HBS17).row rfl hjl
              have hmem : L.getD j rt0 ∈ L := by simp [List.getD_eq_getElem?_getD, hjl]
              have hin := unhide OWN (L.getD j rt0) hmem
              generalize L.getD j rt0 = x at *
              generalize hb : (tb.any fun z => eqR z x) = hb' at *
              have HIN := hide hin
              have HB := hide hb
              have hj0 : (0 : Int) ≤ (j : Int) := by omega
              have hjll : (j : Int) < (L.length : Int) := by omega
              clear hmem hin hb
              go_wp2_with fail
              refine (hasK (unhide HT17).row hlen x).mono ?_
              rintro en w18 ⟨rfl, hs18⟩
              rw [unhide HB]
              have y0 := (hs18.cell _ _ hgl).trans o0
              have hg18 : g < w18.heap.size := Nat.lt_of_lt_of_le hgl hs18.size
              have HP18 := hide ((unhide HP17).again hs18)
              have HBS18 := hide ((unhide HBS17).again hs18)
              have HT18 := hide ((unhide HT17).again hs18)
              clear hs18 o0 o1 o2 o3 o4 HP17 HBS17 HT17
              by_cases hf : x.from_ = (m : Int)
              · have hbt := unhide HIN hf
                subst hbt
                rw [hf] at y0
                clear hf
                go_wp2
                go_roundw
                case rel => exact ⟨j + 1, by omega, by go_num, unhide HP18, unhide HBS18, unhide HT18⟩
                case measure => simp [intOf]; omega
              · have hff : (x.from_ == (m : Int)) = false := by simpa using hf
                go_wp2
                go_roundw
                case rel => exact ⟨j + 1, by omega, by go_num, unhide HP18, unhide HBS18, unhide HT18⟩
                case measure => simp [intOf]; omega
            · obtain rfl : j = L.length := by omega
              go_wp2
              go_roundw
              case rel => exact ⟨m + 1, by omega, by go_num, unhide HP17, unhide HBS17⟩
              case measure => simp [intOf]; omega
        · have hd3 : decide ((m : Int) + 1 ≤ 3) = false := decide_eq_false (by omega)
          have hst : Still w wr := (unhide HS0).trans (unhide HP9).x.still
          have HST := hide hst
          clear hst
          go_wp2
          go_ret
          exact ⟨rfl, unhide HST⟩
end Go.Proofs.Ytgndledehlilkaa
