/-
  A step's request: what it is answered, and what it leaves, is the step's own.
-/
import Derived.Test.YtgndledehlilkabWirC
import Derived.Test.YtgndledehlilkabWirP
namespace Go.Proofs.Ytgndledehlilkab
open Go.RowKit

theorem hiB_r (x : Int) : 0 ≤ hiB x ∧ hiB x ≤ 255 := by unfold hiB; omega
theorem loB_r (x : Int) : 0 ≤ loB x ∧ loB x ≤ 255 := by unfold loB; omega
theorem word_back {x : Int} (h0 : 0 ≤ x) (h1 : x ≤ 65535) : 256 * hiB x + loB x = x := by unfold hiB loB; omega
theorem lo_back {x : Int} (h0 : 0 ≤ x) (h1 : x ≤ 255) : loB x = x := by unfold loB; omega
theorem boolB_r (b : Bool) : 0 ≤ boolB b ∧ boolB b ≤ 1 := by cases b <;> decide
theorem pfxA_r (a b : Int) : 0 ≤ pfxA a b ∧ pfxA a b ≤ 65535 ∧ 0 ≤ pfxL b ∧ pfxL b ≤ 16 := by
  obtain ⟨h1, h2, h3, h4⟩ := isPfx_ok (pfx_is a b)
  exact ⟨h1, h2, h3, h4⟩
theorem ruleF_r (o : OpD) (i : Nat) : 0 ≤ (ruleF o i).addr ∧ (ruleF o i).addr ≤ 65535 ∧ 0 ≤ (ruleF o i).len ∧ (ruleF o i).len ≤ 255 ∧ 0 ≤ (ruleF o i).ge ∧ (ruleF o i).ge ≤ 255 ∧ 0 ≤ (ruleF o i).le ∧ (ruleF o i).le ≤ 255 := by
  have h := pfxA_r (wrap64 (o.a + (i : Int) * 4096)) o.b
  have h1 := pickF_range o.c (n := 17 - pfxL o.b) (by omega)
  have hg : geF o = pfxL o.b + pickF o.c (17 - pfxL o.b) := rfl
  have h2 := pickF_range (o.c / 16) (n := 17 - geF o) (by omega)
  have hl : leF o = geF o + pickF (o.c / 16) (17 - geF o) := rfl
  show 0 ≤ pfxA (wrap64 (o.a + (i : Int) * 4096)) o.b ∧ pfxA (wrap64 (o.a + (i : Int) * 4096)) o.b ≤ 65535 ∧ 0 ≤ pfxL o.b ∧ pfxL o.b ≤ 255 ∧ 0 ≤ geF o ∧ geF o ≤ 255 ∧ 0 ≤ leF o ∧ leF o ≤ 255
  omega
theorem askB_ok (tok : Int) (o : OpD) : okBytes (askB tok o) := by
  have hl := fun x => loB_r x
  have hh := fun x => hiB_r x
  intro y hy
  unfold askB at hy
  rw [List.mem_append] at hy
  rcases hy with hy | hy
  · simp only [List.mem_cons, List.not_mem_nil, or_false] at hy
    rcases hy with rfl | rfl | rfl
    · exact hl _
    · exact hh _
    · exact hl _
  · unfold askRest at hy
    have hfl : y ∈ (rulesF o).flatMap ruleBy → 0 ≤ y ∧ y ≤ 255 := fun h => by
      obtain ⟨u, _, hu⟩ := List.mem_flatMap.1 h
      unfold ruleBy at hu
      simp only [List.mem_cons, List.not_mem_nil, or_false] at hu
      rcases hu with rfl | rfl | rfl | rfl | rfl | rfl
      · have := boolB_r u.allow; omega
      · exact hh _
      · exact hl _
      · exact hl _
      · exact hl _
      · exact hl _
    repeat' split at hy
    all_goals
      simp only [List.mem_cons, List.not_mem_nil, or_false] at hy
    · rcases hy with rfl | rfl | rfl | rfl
      · exact hh _
      · exact hl _
      · exact hl _
      · exact hl _
    · rcases hy with rfl | rfl | rfl
      · exact hh _
      · exact hl _
      · exact hl _
    · rcases hy with rfl | rfl
      · exact hl _
      · exact hl _
    · rcases hy with rfl | hy
      · exact hl _
      · exact hfl hy
    · rcases hy with rfl | rfl
      · exact hh _
      · exact hl _
    · rcases hy with rfl | rfl | rfl | rfl
      · exact hh _
      · exact hl _
      · exact hl _
      · exact hl _
theorem andW_nat (x m : Int) {k : Nat} (hm : (BitVec.ofInt 64 m).toNat = k) (hk : k < 256) : ∃ z : Nat, andF x m = (z : Int) ∧ z = (BitVec.ofInt 64 x).toNat &&& k := by
  have h3 : (BitVec.ofInt 64 x &&& BitVec.ofInt 64 m).toNat = (BitVec.ofInt 64 x).toNat &&& k := by rw [BitVec.toNat_and, hm]
  refine ⟨_, ?_, rfl⟩
  show IntKind.i64.wrap ((BitVec.ofInt 64 x &&& BitVec.ofInt 64 m).toNat : Int) = _
  rw [h3]
  have : (BitVec.ofInt 64 x).toNat &&& k ≤ k := Nat.and_le_right
  exact wrap_small (by omega) (by omega)
theorem andW_255 (x : Int) : 0 ≤ andF x 255 ∧ andF x 255 ≤ 255 := by
  obtain ⟨z, h1, h2⟩ := andW_nat x 255 (k := 255) (by decide) (by omega)
  have : (BitVec.ofInt 64 x).toNat &&& 255 ≤ 255 := Nat.and_le_right
  omega
theorem andW_1 (x : Int) : 0 ≤ andF x 1 ∧ andF x 1 ≤ 1 := by
  obtain ⟨z, h1, h2⟩ := andW_nat x 1 (k := 1) (by decide) (by omega)
  have : (BitVec.ofInt 64 x).toNat &&& 1 ≤ 1 := Nat.and_le_right
  omega
/-- What a step's request says. -/
structure Asks (S : List Int) (r : RefS) (tok : Int) (o : OpD) : Prop where
  req : isReq S = true
  ans : doB r S = ansT o (playT r tok o 255)
  left : doS r S = playS r tok o 255
theorem asks_0 (r : RefS) {tok : Int} (h0 : 0 ≤ tok) (h1 : tok ≤ 65535) {o : OpD} (hk : pickF o.kind 8 = 0) : Asks (askB tok o) r tok o := by
  have hp := pfxA_r o.a o.b
  have hc := pickF_range o.c (n := 256) (by omega)
  have ha := pickF_range o.a (n := 65536) (by omega)
  have b1 := andW_255 o.a
  have b2 := andW_255 o.b
  have b3 := andW_1 o.d
  obtain ⟨S, hS⟩ : ∃ S, S = ([loB (reqF 0), hiB tok, loB tok] ++ [hiB (pfxA o.a o.b), loB (pfxA o.a o.b), loB (pfxL o.b), loB (pickF o.c 256)]) := ⟨_, rfl⟩
  have e : askB tok o = S := by
    rw [hS]
    unfold askB askRest
    rw [hk]
    rfl
  have f0 : fB S 0 = 5 := by rw [hS]; rfl
  have g : fW S 1 = tok := by rw [hS]; exact word_back h0 h1
  have g0 : fW S 3 = pfxA o.a o.b := by rw [hS]; exact word_back (by omega) (by omega)
  have g1 : fB S 5 = pfxL o.b := by rw [hS]; exact lo_back (by omega) (by omega)
  have g2 : fB S 6 = pickF o.c 256 := by rw [hS]; exact lo_back (by omega) (by omega)
  have hq : isReq S = true := by
    unfold isReq sizeB flagsB
    rw [f0, hS]
    rfl
  rw [e]
  refine ⟨hq, ?_, ?_⟩
  · unfold doB ansT playT
    rw [hq, hk]
    simp only [if_true, Int.reduceEq, if_false]
    unfold doR
    rw [f0]
    simp only [Int.reduceEq, if_false, if_true, g, g0, g1, g2]
    rfl
  · unfold doS playS
    rw [hq, hk]
    simp only [if_true, Int.reduceEq, if_false]
    unfold doT
    rw [f0]
    simp only [Int.reduceEq, if_false, if_true, g, g0, g1, g2]
theorem asks_1 (r : RefS) {tok : Int} (h0 : 0 ≤ tok) (h1 : tok ≤ 65535) {o : OpD} (hk : pickF o.kind 8 = 1) : Asks (askB tok o) r tok o := by
  have hp := pfxA_r o.a o.b
  have hc := pickF_range o.c (n := 256) (by omega)
  have ha := pickF_range o.a (n := 65536) (by omega)
  have b1 := andW_255 o.a
  have b2 := andW_255 o.b
  have b3 := andW_1 o.d
  obtain ⟨S, hS⟩ : ∃ S, S = ([loB (reqF 1), hiB tok, loB tok] ++ [hiB (pfxA o.a o.b), loB (pfxA o.a o.b), loB (pfxL o.b)]) := ⟨_, rfl⟩
  have e : askB tok o = S := by
    rw [hS]
    unfold askB askRest
    rw [hk]
    rfl
  have f0 : fB S 0 = 6 := by rw [hS]; rfl
  have g : fW S 1 = tok := by rw [hS]; exact word_back h0 h1
  have g0 : fW S 3 = pfxA o.a o.b := by rw [hS]; exact word_back (by omega) (by omega)
  have g1 : fB S 5 = pfxL o.b := by rw [hS]; exact lo_back (by omega) (by omega)
  have hq : isReq S = true := by
    unfold isReq sizeB flagsB
    rw [f0, hS]
    rfl
  rw [e]
  refine ⟨hq, ?_, ?_⟩
  · unfold doB ansT playT
    rw [hq, hk]
    simp only [if_true, Int.reduceEq, if_false]
    unfold doR
    rw [f0]
    simp only [Int.reduceEq, if_false, if_true, g, g0, g1]
    rfl
  · unfold doS playS
    rw [hq, hk]
    simp only [if_true, Int.reduceEq, if_false]
    unfold doT
    rw [f0]
    simp only [Int.reduceEq, if_false, if_true, g, g0, g1]
theorem asks_2 (r : RefS) {tok : Int} (h0 : 0 ≤ tok) (h1 : tok ≤ 65535) {o : OpD} (hk : pickF o.kind 8 = 2) : Asks (askB tok o) r tok o := by
  have hp := pfxA_r o.a o.b
  have hc := pickF_range o.c (n := 256) (by omega)
  have ha := pickF_range o.a (n := 65536) (by omega)
  have b1 := andW_255 o.a
  have b2 := andW_255 o.b
  have b3 := andW_1 o.d
  obtain ⟨S, hS⟩ : ∃ S, S = ([loB (reqF 2), hiB tok, loB tok] ++ [loB (andF o.a 255), loB (andF o.b 255)]) := ⟨_, rfl⟩
  have e : askB tok o = S := by
    rw [hS]
    unfold askB askRest
    rw [hk]
    rfl
  have f0 : fB S 0 = 7 := by rw [hS]; rfl
  have g : fW S 1 = tok := by rw [hS]; exact word_back h0 h1
  have g0 : fB S 3 = andF o.a 255 := by rw [hS]; exact lo_back (by omega) (by omega)
  have g1 : fB S 4 = andF o.b 255 := by rw [hS]; exact lo_back (by omega) (by omega)
  have hq : isReq S = true := by
    unfold isReq sizeB flagsB
    rw [f0, hS]
    rfl
  rw [e]
  refine ⟨hq, ?_, ?_⟩
  · unfold doB ansT playT
    rw [hq, hk]
    simp only [if_true, Int.reduceEq, if_false]
    unfold doR
    rw [f0]
    simp only [Int.reduceEq, if_false, if_true, g, g0, g1]
    rfl
  · unfold doS playS
    rw [hq, hk]
    simp only [if_true, Int.reduceEq, if_false]
    unfold doT
    rw [f0]
    simp only [Int.reduceEq, if_false, if_true, g, g0, g1]
theorem asks_4 (r : RefS) {tok : Int} (h0 : 0 ≤ tok) (h1 : tok ≤ 65535) {o : OpD} (hk : pickF o.kind 8 = 4) : Asks (askB tok o) r tok o := by
  have hp := pfxA_r o.a o.b
  have hc := pickF_range o.c (n := 256) (by omega)
  have ha := pickF_range o.a (n := 65536) (by omega)
  have b1 := andW_255 o.a
  have b2 := andW_255 o.b
  have b3 := andW_1 o.d
  obtain ⟨S, hS⟩ : ∃ S, S = ([loB (reqF 4), hiB tok, loB tok] ++ []) := ⟨_, rfl⟩
  have e : askB tok o = S := by
    rw [hS]
    unfold askB askRest
    rw [hk]
    rfl
  have f0 : fB S 0 = 11 := by rw [hS]; rfl
  have g : fW S 1 = tok := by rw [hS]; exact word_back h0 h1
  have hq : isReq S = true := by
    unfold isReq sizeB flagsB
    rw [f0, hS]
    rfl
  rw [e]
  refine ⟨hq, ?_, ?_⟩
  · unfold doB ansT playT
    rw [hq, hk]
    simp only [if_true, Int.reduceEq, if_false]
    unfold doR
    rw [f0]
    simp only [Int.reduceEq, if_false, if_true, g]
  · unfold doS playS
    rw [hq, hk]
    simp only [if_true, Int.reduceEq, if_false]
    unfold doT
    rw [f0]
    simp only [Int.reduceEq, if_false]
theorem asks_5 (r : RefS) {tok : Int} (h0 : 0 ≤ tok) (h1 : tok ≤ 65535) {o : OpD} (hk : pickF o.kind 8 = 5) : Asks (askB tok o) r tok o := by
  have hp := pfxA_r o.a o.b
  have hc := pickF_range o.c (n := 256) (by omega)
  have ha := pickF_range o.a (n := 65536) (by omega)
  have b1 := andW_255 o.a
  have b2 := andW_255 o.b
  have b3 := andW_1 o.d
  obtain ⟨S, hS⟩ : ∃ S, S = ([loB (reqF 5), hiB tok, loB tok] ++ []) := ⟨_, rfl⟩
  have e : askB tok o = S := by
    rw [hS]
    unfold askB askRest
    rw [hk]
    rfl
  have f0 : fB S 0 = 12 := by rw [hS]; rfl
  have g : fW S 1 = tok := by rw [hS]; exact word_back h0 h1
  have hq : isReq S = true := by
    unfold isReq sizeB flagsB
    rw [f0, hS]
    rfl
  rw [e]
  refine ⟨hq, ?_, ?_⟩
  · unfold doB ansT playT
    rw [hq, hk]
    simp only [if_true, Int.reduceEq, if_false]
    unfold doR
    rw [f0]
    simp only [Int.reduceEq, if_false, g]
  · unfold doS playS
    rw [hq, hk]
    simp only [if_true, Int.reduceEq, if_false]
    unfold doT
    rw [f0]
    simp only [Int.reduceEq, if_false]
theorem asks_6 (r : RefS) {tok : Int} (h0 : 0 ≤ tok) (h1 : tok ≤ 65535) {o : OpD} (hk : pickF o.kind 8 = 6) : Asks (askB tok o) r tok o := by
  have hp := pfxA_r o.a o.b
  have hc := pickF_range o.c (n := 256) (by omega)
  have ha := pickF_range o.a (n := 65536) (by omega)
  have b1 := andW_255 o.a
  have b2 := andW_255 o.b
  have b3 := andW_1 o.d
  obtain ⟨S, hS⟩ : ∃ S, S = ([loB (reqF 6), hiB tok, loB tok] ++ [hiB (pickF o.a 65536), loB (pickF o.a 65536)]) := ⟨_, rfl⟩
  have e : askB tok o = S := by
    rw [hS]
    unfold askB askRest
    rw [hk]
    rfl
  have f0 : fB S 0 = 9 := by rw [hS]; rfl
  have g : fW S 1 = tok := by rw [hS]; exact word_back h0 h1
  have g0 : fW S 3 = pickF o.a 65536 := by rw [hS]; exact word_back (by omega) (by omega)
  have hq : isReq S = true := by
    unfold isReq sizeB flagsB
    rw [f0, hS]
    rfl
  rw [e]
  refine ⟨hq, ?_, ?_⟩
  · unfold doB ansT playT
    rw [hq, hk]
    simp only [if_true, Int.reduceEq, if_false]
    unfold doR
    rw [f0]
    simp only [Int.reduceEq, if_false, if_true, g, g0]
  · unfold doS playS
    rw [hq, hk]
    simp only [if_true, Int.reduceEq, if_false]
    unfold doT
    rw [f0]
    simp only [Int.reduceEq, if_false]
theorem asks_7 (r : RefS) {tok : Int} (h0 : 0 ≤ tok) (h1 : tok ≤ 65535) {o : OpD} (hk : pickF o.kind 8 = 7) : Asks (askB tok o) r tok o := by
  have hp := pfxA_r o.a o.b
  have hc := pickF_range o.c (n := 256) (by omega)
  have ha := pickF_range o.a (n := 65536) (by omega)
  have b1 := andW_255 o.a
  have b2 := andW_255 o.b
  have b3 := andW_1 o.d
  obtain ⟨S, hS⟩ : ∃ S, S = ([loB (reqF 7), hiB tok, loB tok] ++ [hiB (pickF o.a 65536), loB (pickF o.a 65536), loB (pickF o.c 256), loB (andF o.d 1)]) := ⟨_, rfl⟩
  have e : askB tok o = S := by
    rw [hS]
    unfold askB askRest
    rw [hk]
    rfl
  have f0 : fB S 0 = 10 := by rw [hS]; rfl
  have g : fW S 1 = tok := by rw [hS]; exact word_back h0 h1
  have g0 : fW S 3 = pickF o.a 65536 := by rw [hS]; exact word_back (by omega) (by omega)
  have g1 : fB S 5 = pickF o.c 256 := by rw [hS]; exact lo_back (by omega) (by omega)
  have g2 : fB S 6 = andF o.d 1 := by rw [hS]; exact lo_back (by omega) (by omega)
  have hq : isReq S = true := by
    have hlen : (S.length : Int) = 7 := by rw [hS]; rfl
    unfold isReq sizeB flagsB
    rw [f0, hlen, g2]
    simp [b3.2]
  rw [e]
  refine ⟨hq, ?_, ?_⟩
  · unfold doB ansT playT
    rw [hq, hk]
    simp only [if_true, Int.reduceEq, if_false]
    unfold doR
    rw [f0]
    simp only [Int.reduceEq, if_false, if_true, g, g0, g1, g2]
  · unfold doS playS
    rw [hq, hk]
    simp only [if_true, Int.reduceEq, if_false]
    unfold doT
    rw [f0]
    simp only [Int.reduceEq, if_false]
end Go.Proofs.Ytgndledehlilkab
