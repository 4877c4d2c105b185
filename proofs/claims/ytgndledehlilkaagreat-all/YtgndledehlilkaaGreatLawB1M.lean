import Derived.Test.YtgndledehlilkaaGreatLawM1M
namespace Go.Proofs.YtgndledehlilkaaGreat
open Go.RowKit

theorem FilledB.row {w : World} {base : Nat} {v : Value} {n k : Nat} (h : w.ownsRow base 5 1 v n (enc n fun i => [signC k i])) : FilledB w v k := by
  obtain ⟨a, c, rfl, h1, h2⟩ := ownsRow_slice h
  refine ⟨a, n, c, rfl, by omega, fun h0 => ?_⟩
  obtain ⟨g, rfl, _⟩ := ownsRow_some h h0
  exact ⟨g, rfl, fun i hi => by
    have := ownsRow_cell h (fun _ _ => rfl) hi (j := 0) (by omega)
    simpa using this⟩
theorem FilledB.step {w w' : World} {base : Nat} {v x : Value} {k g n cap H : Nat} (hx : FilledB w x k) (hlen : ∀ a nx c, x = .slice a nx c → nx ≤ n) (hlt : ∀ B, x.ownBlock = some B → B < w.heap.size)
    (hrow : w'.ownsRow base 5 1 (.slice (some ⟨g, 0, none⟩) n cap) n (enc n fun i => [signC k i])) (hgr : w.grownBy w' v.ownBlock) (hat : v.ownBlock = some g ∨ (g = H ∧ Still w w')) : FilledB w' x k := by
  rcases hat with hat | ⟨_, hs⟩
  · by_cases hb : x.ownBlock = some g
    · obtain ⟨a, nx, c, rfl, hn, hc⟩ := hx
      refine ⟨a, nx, c, rfl, hn, fun h0 => ?_⟩
      obtain ⟨g', rfl, _⟩ := hc h0
      have e : g' = g := by simpa [Value.ownBlock] using hb
      subst e
      have hle := hlen _ _ _ rfl
      exact ⟨g', rfl, fun i hi => by
        have := ownsRow_cell hrow (fun _ _ => rfl) (i := i) (by omega) (j := 0) (by omega)
        simpa using this⟩
    · refine hx.frame fun B hB => hgr.block B (hlt B hB) (fun e => hb ?_)
      rw [hB, e, hat]
  · exact hx.frame fun B hB => hs.heap (hlt B hB)
theorem enc_snoc_sign (n k : Nat) : (enc n fun i => [signC k i]) ++ [signC k n] = enc (n + 1) fun i => [signC k i] := by rw [enc_succ]
/-- The lists of one owner, under way. -/
structure ListsB (W : World) (O : Tag) (base : Nat) (l : Value) (k : Nat) (w : World) (O' : Tag) (cur : Value) (c : Nat) (xs : List Value) : Prop where
  ag : ∀ b, b < W.heap.size → O' b = O b
  kept : Kept (fun b => l.ownBlock = some b) W w
  row : w.ownsRow base 5 1 cur c (enc c fun i => [signC k i])
  tag : ∀ b, cur.ownBlock = some b → O' b = (0, 9, 0) ∧ (l.ownBlock = some b ∨ W.heap.size ≤ b)
  fil : ∀ x, x ∈ xs → FilledB w x k ∧ (∀ a nx c', x = .slice a nx c' → nx ≤ c) ∧ ∀ b, x.ownBlock = some b → b < w.heap.size ∧ O' b = (0, 9, 0)
  curIn : cur ∈ xs
theorem ListsB.push {W : World} {O : Tag} {base : Nat} {l : Value} {k : Nat} {w : World} {O' : Tag} {cur : Value} {c : Nat} {xs : List Value} (h : ListsB W O base l k w O' cur c xs) {w5 : World} {o : Obj} {g cap : Nat}
    (hrow : w5.ownsRow base 5 1 (.slice (some ⟨g, 0, none⟩) (c + 1) cap) (c + 1) ((enc c fun i => [signC k i]) ++ [signC k c])) (hgr : (w.alloc o).grownBy w5 cur.ownBlock) (hat : cur.ownBlock = some g ∨ (g = w.heap.size + 1 ∧ Still (w.alloc o) w5)) :
    ∃ O'', ListsB W O base l k w5 O'' (.slice (some ⟨g, 0, none⟩) (c + 1) cap) (c + 1) (xs ++ [.slice (some ⟨g, 0, none⟩) (c + 1) cap]) := by
  rw [enc_snoc_sign] at hrow
  have hz := h.kept.size
  have hsz : (w.alloc o).heap.size = w.heap.size + 1 := by simp
  have hz5 := hgr.size
  have hglt : g < w5.heap.size := ownsRow_lt hrow rfl
  have hne : cur.ownBlock = some g → (l.ownBlock = some g ∨ W.heap.size ≤ g) ∧ O' g = (0, 9, 0) := fun hh => ⟨(h.tag g hh).2, (h.tag g hh).1⟩
  have hO : ∀ b, b < w.heap.size → upd O' g (0, 9, 0) b = O' b := fun b hb => by
    by_cases e : b = g
    · subst e
      rw [upd_same]
      rcases hat with hh | ⟨hh, _⟩
      · exact (hne hh).2.symm
      · omega
    · exact upd_other _ _ e
  refine ⟨upd O' g (0, 9, 0), ⟨fun b hb => (hO b (by omega)).trans (h.ag b hb), ?_, hrow, ?_, ?_, List.mem_append_right _ (List.mem_singleton.2 rfl)⟩⟩
  · refine Kept.grown (Kept.alloc h.kept _) hgr fun b hb => ?_
    exact (h.tag b hb).2
  · intro b hb
    have e : g = b := by simpa [Value.ownBlock] using hb
    subst e
    refine ⟨upd_same _ _ _, ?_⟩
    rcases hat with hh | ⟨hh, _⟩
    · exact (hne hh).1
    · exact .inr (by omega)
  · intro x hx
    rcases List.mem_append.1 hx with hx | hx
    · obtain ⟨f1, f2, f3⟩ := h.fil x hx
      have f1' : FilledB (w.alloc o) x k := f1.frame fun b hb => Below.heap_alloc _ _ _ (f3 b hb).1
      refine ⟨f1'.step (n := c + 1) (H := w.heap.size + 1) (fun a nx c' e => by have := f2 a nx c' e; omega) (fun b hb => by have := (f3 b hb).1; omega) hrow hgr hat, fun a nx c' e => by have := f2 a nx c' e; omega, fun b hb => ?_⟩
      have := f3 b hb
      exact ⟨by omega, (hO b this.1).trans this.2⟩
    · rw [List.mem_singleton] at hx
      subst hx
      refine ⟨FilledB.row hrow, fun a nx c' e => ?_, fun b hb => ?_⟩
      · simp only [Value.slice.injEq] at e
        omega
      · have e : g = b := by simpa [Value.ownBlock] using hb
        subst e
        exact ⟨hglt, upd_same _ _ _⟩
/-- What 'bytes' leaves. -/
def BytesPost (W : World) (O : Tag) (bw n : Nat) (lv tv kv bv cv l : Value) (T K : List Value) (w' : World) : Prop :=
  ∃ (O' : Tag) (tv' kv' g h j : Value),
    (∀ k, k < W.heap.size → O' k = O k) ∧
    Kept (fun k => k = bw ∨ tv.ownBlock = some k ∨ kv.ownBlock = some k ∨ l.ownBlock = some k) W w' ∧
    w'.heap[bw]? = some (.cells #[lv, bv, cv, tv', kv'] 31 (0, 0)) ∧
    w'.ownsRow 0 33 1 tv' (n + 4) (T ++ [l, g, h, j]) ∧ (∀ b, tv'.ownBlock = some b → O' b = (0, 7, 3)) ∧
    w'.ownsRow 0 3 1 kv' (n + 4) (K ++ [.int .i64 n, .int .i64 n, .int .i64 n, .int .i64 n]) ∧ (∀ b, kv'.ownBlock = some b → O' b = (0, 7, 4)) ∧
    ∀ x, x = l ∨ x = g ∨ x = h ∨ x = j → FilledB w' x n ∧ ∀ b, x.ownBlock = some b → b < w'.heap.size ∧ O' b = (0, 9, 0)
/-- The statements' world under way: the lists stand, the rows grow. -/
structure MidB (W : World) (O : Tag) (bw : Nat) (lv tv kv bv cv l : Value) (k : Nat) (xs : List Value) (w : World) (O' : Tag) (tx kx : Value) (nt nk : Nat) (T K : List Value) : Prop where
  ag : ∀ b, b < W.heap.size → O' b = O b
  kept : Kept (fun b => b = bw ∨ tv.ownBlock = some b ∨ kv.ownBlock = some b ∨ l.ownBlock = some b) W w
  blk : w.heap[bw]? = some (.cells #[lv, bv, cv, tx, kx] 31 (0, 0))
  bwt : O' bw = (0, 6, 0)
  trow : w.ownsRow 0 33 1 tx nt T
  ttag : ∀ b, tx.ownBlock = some b → O' b = (0, 7, 3) ∧ (tv.ownBlock = some b ∨ W.heap.size ≤ b)
  krow : w.ownsRow 0 3 1 kx nk K
  ktag : ∀ b, kx.ownBlock = some b → O' b = (0, 7, 4) ∧ (kv.ownBlock = some b ∨ W.heap.size ≤ b)
  fil : ∀ x, x ∈ xs → FilledB w x k ∧ ∀ b, x.ownBlock = some b → b < w.heap.size ∧ O' b = (0, 9, 0)
section
variable {W : World} {O : Tag} {base bw : Nat} {lv tv kv bv cv l : Value} {k : Nat} {w : World} {O' : Tag} {cur : Value} {c : Nat} {xs : List Value} {tx kx : Value} {nt nk : Nat} {T K : List Value}
theorem ListsB.mid (h : ListsB W O base l k w O' cur c xs) (hblk : W.heap[bw]? = some (.cells #[lv, bv, cv, tv, kv] 31 (0, 0))) (hbw : O bw = (0, 6, 0))
    (ht : W.ownsRow 0 33 1 tv nt T) (htt : ∀ b, tv.ownBlock = some b → O b = (0, 7, 3)) (hk : W.ownsRow 0 3 1 kv nk K) (hkt : ∀ b, kv.ownBlock = some b → O b = (0, 7, 4)) (hlt : ∀ b, l.ownBlock = some b → O b = (0, 9, 0)) :
    MidB W O bw lv tv kv bv cv l k xs w O' tv kv nt nk T K := by
  have bwl : bw < W.heap.size := (Array.getElem?_eq_some_iff.1 hblk).1
  refine ⟨h.ag, h.kept.mono (fun i _ hi => .inr (.inr (.inr hi))), ?_, (h.ag bw bwl).trans hbw, ?_, ?_, ?_, ?_, fun x hx => ⟨(h.fil x hx).1, (h.fil x hx).2.2⟩⟩
  · rw [h.kept.block bw bwl (fun e => by have := hlt _ e; rw [hbw] at this; simp at this)]; exact hblk
  · exact ownsRow_of_block ht fun b hb => h.kept.block b (ownsRow_lt ht hb) (fun e => by have := hlt _ e; rw [htt b hb] at this; simp at this)
  · intro b hb; exact ⟨(h.ag b (ownsRow_lt ht hb)).trans (htt b hb), .inl hb⟩
  · exact ownsRow_of_block hk fun b hb => h.kept.block b (ownsRow_lt hk hb) (fun e => by have := hlt _ e; rw [hkt b hb] at this; simp at this)
  · intro b hb; exact ⟨(h.ag b (ownsRow_lt hk hb)).trans (hkt b hb), .inl hb⟩
theorem MidB.cells (h : MidB W O bw lv tv kv bv cv l k xs w O' tx kx nt nk T K) : w.cell? ⟨bw, 3, none⟩ = some tx ∧ w.cell? ⟨bw, 4, none⟩ = some kx ∧ (∀ j, w.frozen? ⟨bw, j, none⟩ = false) ∧ bw < w.heap.size := by
  refine ⟨by simp [World.cell?, h.blk], by simp [World.cell?, h.blk], fun j => by simp [World.frozen?, h.blk], (Array.getElem?_eq_some_iff.1 h.blk).1⟩
theorem MidB.pushT (h : MidB W O bw lv tv kv bv cv l k xs w O' tx kx nt nk T K) {w9 : World} {o : Obj} {g nt' cap : Nat} {T' : List Value} (hrow : w9.ownsRow 0 33 1 (.slice (some ⟨g, 0, none⟩) nt' cap) nt' T') (hgr : (w.alloc o).grownBy w9 tx.ownBlock)
    (hat : tx.ownBlock = some g ∨ g = w.heap.size + 1) : ∃ O'', MidB W O bw lv tv kv bv cv l k xs (w9.setCell ⟨bw, 3, none⟩ (.slice (some ⟨g, 0, none⟩) nt' cap)) O'' (.slice (some ⟨g, 0, none⟩) nt' cap) kx nt' nk T' K := by
  have hz := h.kept.size
  have hsz : (w.alloc o).heap.size = w.heap.size + 1 := by simp
  have hz9 := hgr.size
  have bwl : bw < w.heap.size := h.cells.2.2.2
  have hO : ∀ b, b < w.heap.size → upd O' g (0, 7, 3) b = O' b := fun b hb => by
    by_cases e : b = g
    · subst e
      rw [upd_same]
      rcases hat with hh | hh
      · exact (h.ttag b hh).1.symm
      · omega
    · exact upd_other _ _ e
  have hold : ∀ b, b < w.heap.size → O' b ≠ (0, 7, 3) → O' b ≠ (0, 6, 0) → (w9.setCell ⟨bw, 3, none⟩ (.slice (some ⟨g, 0, none⟩) nt' cap)).heap[b]? = w.heap[b]? := fun b hb h7 h6 => by
    rw [Below.heap_setCell _ _ _ _ (by rintro rfl; exact h6 h.bwt), hgr.block b (by omega) (fun e => h7 (h.ttag b e.symm).1), Below.heap_alloc _ _ _ hb]
  have hbw9 : w9.heap[bw]? = w.heap[bw]? := by
    rw [hgr.block bw (by omega) (fun e => by have := (h.ttag bw e.symm).1; rw [h.bwt] at this; simp at this), Below.heap_alloc _ _ _ bwl]
  have hgb : g ≠ bw := by
    rintro rfl
    rcases hat with hh | hh
    · have := (h.ttag g hh).1; rw [h.bwt] at this; simp at this
    · omega
  refine ⟨upd O' g (0, 7, 3), fun b hb => (hO b (by omega)).trans (h.ag b hb), ?_, ?_, (hO bw bwl).trans h.bwt, ?_, ?_, ?_, ?_, ?_⟩
  · refine Kept.setCell (Kept.grown (Kept.alloc h.kept _) hgr fun b hb => ?_) (.inl (.inl rfl)) _
    rcases (h.ttag b hb).2 with hh | hh
    · exact .inl (.inr (.inl hh))
    · exact .inr hh
  · simp [World.setCell, Array.getElem?_modify, hbw9, h.blk]
  · exact ownsRow_of_block hrow fun b hb => Below.heap_setCell _ _ _ _ (by
      have e : g = b := by simpa [Value.ownBlock] using hb
      show b ≠ bw
      omega)
  · intro b hb
    have e : g = b := by simpa [Value.ownBlock] using hb
    subst e
    refine ⟨upd_same _ _ _, ?_⟩
    rcases hat with hh | hh
    · exact (h.ttag g hh).2
    · exact .inr (by omega)
  · exact ownsRow_of_block h.krow fun b hb => hold b (ownsRow_lt h.krow hb) (by rw [(h.ktag b hb).1]; simp) (by rw [(h.ktag b hb).1]; simp)
  · intro b hb; exact ⟨(hO b (ownsRow_lt h.krow hb)).trans (h.ktag b hb).1, (h.ktag b hb).2⟩
  · intro x hx
    obtain ⟨f1, f2⟩ := h.fil x hx
    refine ⟨f1.frame fun b hb => hold b (f2 b hb).1 (by rw [(f2 b hb).2]; simp) (by rw [(f2 b hb).2]; simp), fun b hb => ⟨by have := (f2 b hb).1; simp; omega, (hO b (f2 b hb).1).trans (f2 b hb).2⟩⟩
theorem MidB.pushK (h : MidB W O bw lv tv kv bv cv l k xs w O' tx kx nt nk T K) {w9 : World} {o : Obj} {g nk' cap : Nat} {K' : List Value} (hrow : w9.ownsRow 0 3 1 (.slice (some ⟨g, 0, none⟩) nk' cap) nk' K') (hgr : (w.alloc o).grownBy w9 kx.ownBlock)
    (hat : kx.ownBlock = some g ∨ g = w.heap.size + 1) : ∃ O'', MidB W O bw lv tv kv bv cv l k xs (w9.setCell ⟨bw, 4, none⟩ (.slice (some ⟨g, 0, none⟩) nk' cap)) O'' tx (.slice (some ⟨g, 0, none⟩) nk' cap) nt nk' T K' := by
  have hz := h.kept.size
  have hsz : (w.alloc o).heap.size = w.heap.size + 1 := by simp
  have hz9 := hgr.size
  have bwl : bw < w.heap.size := h.cells.2.2.2
  have hO : ∀ b, b < w.heap.size → upd O' g (0, 7, 4) b = O' b := fun b hb => by
    by_cases e : b = g
    · subst e
      rw [upd_same]
      rcases hat with hh | hh
      · exact (h.ktag b hh).1.symm
      · omega
    · exact upd_other _ _ e
  have hold : ∀ b, b < w.heap.size → O' b ≠ (0, 7, 4) → O' b ≠ (0, 6, 0) → (w9.setCell ⟨bw, 4, none⟩ (.slice (some ⟨g, 0, none⟩) nk' cap)).heap[b]? = w.heap[b]? := fun b hb h7 h6 => by
    rw [Below.heap_setCell _ _ _ _ (by rintro rfl; exact h6 h.bwt), hgr.block b (by omega) (fun e => h7 (h.ktag b e.symm).1), Below.heap_alloc _ _ _ hb]
  have hbw9 : w9.heap[bw]? = w.heap[bw]? := by
    rw [hgr.block bw (by omega) (fun e => by have := (h.ktag bw e.symm).1; rw [h.bwt] at this; simp at this), Below.heap_alloc _ _ _ bwl]
  have hgb : g ≠ bw := by
    rintro rfl
    rcases hat with hh | hh
    · have := (h.ktag g hh).1; rw [h.bwt] at this; simp at this
    · omega
  refine ⟨upd O' g (0, 7, 4), fun b hb => (hO b (by omega)).trans (h.ag b hb), ?_, ?_, (hO bw bwl).trans h.bwt, ?_, ?_, ?_, ?_, ?_⟩
  · refine Kept.setCell (Kept.grown (Kept.alloc h.kept _) hgr fun b hb => ?_) (.inl (.inl rfl)) _
    rcases (h.ktag b hb).2 with hh | hh
    · exact .inl (.inr (.inr (.inl hh)))
    · exact .inr hh
  · simp [World.setCell, Array.getElem?_modify, hbw9, h.blk]
  · exact ownsRow_of_block h.trow fun b hb => hold b (ownsRow_lt h.trow hb) (by rw [(h.ttag b hb).1]; simp) (by rw [(h.ttag b hb).1]; simp)
  · intro b hb; exact ⟨(hO b (ownsRow_lt h.trow hb)).trans (h.ttag b hb).1, (h.ttag b hb).2⟩
  · exact ownsRow_of_block hrow fun b hb => Below.heap_setCell _ _ _ _ (by
      have e : g = b := by simpa [Value.ownBlock] using hb
      show b ≠ bw
      omega)
  · intro b hb
    have e : g = b := by simpa [Value.ownBlock] using hb
    subst e
    refine ⟨upd_same _ _ _, ?_⟩
    rcases hat with hh | hh
    · exact (h.ktag g hh).2
    · exact .inr (by omega)
  · intro x hx
    obtain ⟨f1, f2⟩ := h.fil x hx
    refine ⟨f1.frame fun b hb => hold b (f2 b hb).1 (by rw [(f2 b hb).2]; simp) (by rw [(f2 b hb).2]; simp), fun b hb => ⟨by have := (f2 b hb).1; simp; omega, (hO b (f2 b hb).1).trans (f2 b hb).2⟩⟩
theorem MidB.post {n : Nat} {g h' j : Value} (h : MidB W O bw lv tv kv bv cv l n [l, g, h', j] w O' tx kx (n + 4) (n + 4) (T ++ [l, g, h', j]) (K ++ [.int .i64 n, .int .i64 n, .int .i64 n, .int .i64 n])) : BytesPost W O bw n lv tv kv bv cv l T K w :=
  ⟨O', tx, kx, g, h', j, h.ag, h.kept, h.blk, h.trow, fun b hb => (h.ttag b hb).1, h.krow, fun b hb => (h.ktag b hb).1, fun x hx => h.fil x (by simpa using hx)⟩
end
theorem MidB.grownT {W : World} {O : Tag} {bw : Nat} {lv tv kv bv cv l : Value} {k : Nat} {w w9 : World} {O' : Tag} {xs : List Value} {tx kx : Value} {nt nk : Nat} {T K : List Value} {o : Obj} (h : MidB W O bw lv tv kv bv cv l k xs w O' tx kx nt nk T K) (hgr : (w.alloc o).grownBy w9 tx.ownBlock) :
    w9.cell? ⟨bw, 3, none⟩ = some tx ∧ w9.cell? ⟨bw, 4, none⟩ = some kx ∧ (∀ j, w9.frozen? ⟨bw, j, none⟩ = false) := by
  obtain ⟨c1, c2, cf, bwl⟩ := h.cells
  have hb : w9.heap[bw]? = w.heap[bw]? := by
    rw [hgr.block bw (by simp; omega) (fun e => by have := (h.ttag bw e.symm).1; rw [h.bwt] at this; simp at this), Below.heap_alloc _ _ _ bwl]
  have hc : ∀ j, w9.cell? ⟨bw, j, none⟩ = w.cell? ⟨bw, j, none⟩ := fun j => World.cell?_of_block (w := w) (a := ⟨bw, j, none⟩) hb
  have hf : ∀ j, w9.frozen? ⟨bw, j, none⟩ = w.frozen? ⟨bw, j, none⟩ := fun j => World.frozen?_of_block (w := w) (a := ⟨bw, j, none⟩) hb
  exact ⟨(hc 3).trans c1, (hc 4).trans c2, fun j => (hf j).trans (cf j)⟩
theorem MidB.grownK {W : World} {O : Tag} {bw : Nat} {lv tv kv bv cv l : Value} {k : Nat} {w w9 : World} {O' : Tag} {xs : List Value} {tx kx : Value} {nt nk : Nat} {T K : List Value} {o : Obj} (h : MidB W O bw lv tv kv bv cv l k xs w O' tx kx nt nk T K) (hgr : (w.alloc o).grownBy w9 kx.ownBlock) :
    w9.cell? ⟨bw, 3, none⟩ = some tx ∧ w9.cell? ⟨bw, 4, none⟩ = some kx ∧ (∀ j, w9.frozen? ⟨bw, j, none⟩ = false) := by
  obtain ⟨c1, c2, cf, bwl⟩ := h.cells
  have hb : w9.heap[bw]? = w.heap[bw]? := by
    rw [hgr.block bw (by simp; omega) (fun e => by have := (h.ktag bw e.symm).1; rw [h.bwt] at this; simp at this), Below.heap_alloc _ _ _ bwl]
  have hc : ∀ j, w9.cell? ⟨bw, j, none⟩ = w.cell? ⟨bw, j, none⟩ := fun j => World.cell?_of_block (w := w) (a := ⟨bw, j, none⟩) hb
  have hf : ∀ j, w9.frozen? ⟨bw, j, none⟩ = w.frozen? ⟨bw, j, none⟩ := fun j => World.frozen?_of_block (w := w) (a := ⟨bw, j, none⟩) hb
  exact ⟨(hc 3).trans c1, (hc 4).trans c2, fun j => (hf j).trans (cf j)⟩

section
variable {I : EngI} {w w' : World} {O O' : Tag} {B bw ne nt nb : Nat} {lv tv kv bv cv : Value} {bx by_ : Nat → Nat} {rs : Nat → RefS} {T : Nat → Value} {K : Nat → Nat} {Tb : Nat → Value} {Kb : Nat → Nat}
/-- One answer more. -/
theorem LawAtM.bytes {l : Value} (h : LawAtM I w O B bw ne nt nb lv tv kv bv cv bx by_ rs T K Tb Kb) (hlB : ∀ b, l.ownBlock = some b → O b = (0, 9, 0)) (hl9 : ∀ i b, i < nt → (T i).ownBlock = some b → l.ownBlock ≠ some b) (hl9b : ∀ i b, i < nb → (Tb i).ownBlock = some b → l.ownBlock ≠ some b)
    (hr : BytesPost w O bw nb lv bv cv tv kv l (enc nb fun i => [Tb i]) (enc nb fun i => [.int .i64 (Kb i : Int)]) w') :
    LawRepM I w' B bw ne nt (nb + 4) ∧ Below B w w' := by
  obtain ⟨O', bv', cv', g, h', j, hO, hk, hblk, htr, htt, hkr, hkt, hx⟩ := hr
  have hb := h.lt
  have hz := h.size
  have hs := hk.size
  have hne : ∀ k, k < w.heap.size → O k ≠ (0, 6, 0) → O k ≠ (0, 7, 3) → O k ≠ (0, 7, 4) → l.ownBlock ≠ some k → w'.heap[k]? = w.heap[k]? := fun k a c6 c1 c2 c9 => hk.block k a (by
    rintro (rfl | e | e | e)
    · exact c6 h.wtag
    · exact c1 (h.outB.ttag k e)
    · exact c2 (h.outB.ktag k e)
    · exact c9 e)
  have hn9 : ∀ k, O k ≠ (0, 9, 0) → l.ownBlock ≠ some k := fun k c e => c (hlB k e)
  refine ⟨⟨O', lv, tv, kv, bv', cv', bx, by_, rs, T, K, four Tb nb l g h' j, fourK Kb nb, hblk, ?_, ?_, ?_, ?_, by omega, ?_, ?_, ?_⟩, ?_⟩
  · rw [hO bw hb]; exact h.wtag
  · exact ownsRow_of_block h.row fun b hb' => hne b (ownsRow_lt h.row hb') (by rw [h.ltag b hb']; simp) (by rw [h.ltag b hb']; simp) (by rw [h.ltag b hb']; simp) (hn9 b (by rw [h.ltag b hb']; simp))
  · intro b hb'; rw [hO b (ownsRow_lt h.row hb')]; exact h.ltag b hb'
  · intro k hk'; rw [hO k (by omega)]; exact h.outer k hk'
  · intro i hi
    exact (h.pair i hi).frame (fun k a c => hne k a (by intro e; rw [e] at c; simp at c) (by intro e; rw [e] at c; simp at c) (by intro e; rw [e] at c; simp at c) (hn9 k (by intro e; rw [e] at c; simp at c))) (fun k a _ => hO k a)
  · refine ⟨?_, ?_, ?_, ?_, h.outR.num, fun i hi => ?_⟩
    · exact ownsRow_of_block h.outR.trow fun b hb' => hne b (ownsRow_lt h.outR.trow hb') (by rw [h.outR.ttag b hb']; simp) (by rw [h.outR.ttag b hb']; simp) (by rw [h.outR.ttag b hb']; simp) (hn9 b (by rw [h.outR.ttag b hb']; simp))
    · intro b hb'; rw [hO b (ownsRow_lt h.outR.trow hb')]; exact h.outR.ttag b hb'
    · exact ownsRow_of_block h.outR.krow fun b hb' => hne b (ownsRow_lt h.outR.krow hb') (by rw [h.outR.ktag b hb']; simp) (by rw [h.outR.ktag b hb']; simp) (by rw [h.outR.ktag b hb']; simp) (hn9 b (by rw [h.outR.ktag b hb']; simp))
    · intro b hb'; rw [hO b (ownsRow_lt h.outR.krow hb')]; exact h.outR.ktag b hb'
    · obtain ⟨h1, h2⟩ := h.outR.fil i hi
      refine ⟨FilledR.frame h1 fun b hb' => ?_, fun b hb' => ?_⟩
      · obtain ⟨q1, q2⟩ := h2 b hb'
        exact hne b q1 (by rw [q2]; simp) (by rw [q2]; simp) (by rw [q2]; simp) (hl9 i b hi hb')
      · obtain ⟨q1, q2⟩ := h2 b hb'
        exact ⟨by omega, by rw [hO b q1]; exact q2⟩
  · refine ⟨by rw [← enc_four]; exact htr, htt, by rw [← enc_fourK]; exact hkr, hkt, fun i hi => ?_, fun i hi => ?_⟩
    · unfold fourK
      split
      · have := h.outB.num i (by assumption); omega
      · omega
    · unfold fourK four
      by_cases hlt : i < nb
      · rw [if_pos hlt, if_pos hlt]
        obtain ⟨h1, h2⟩ := h.outB.fil i hlt
        refine ⟨FilledB.frame h1 fun b hb' => ?_, fun b hb' => ?_⟩
        · obtain ⟨q1, q2⟩ := h2 b hb'
          exact hne b q1 (by rw [q2]; simp) (by rw [q2]; simp) (by rw [q2]; simp) (hl9b i b hlt hb')
        · obtain ⟨q1, q2⟩ := h2 b hb'
          exact ⟨by omega, by rw [hO b q1]; exact q2⟩
      · rw [if_neg hlt, if_neg hlt]
        split
        · exact hx l (.inl rfl)
        · split
          · exact hx g (.inr (.inl rfl))
          · split
            · exact hx h' (.inr (.inr (.inl rfl)))
            · exact hx j (.inr (.inr (.inr rfl)))
  · refine hk.below hz fun k hk' => ?_
    have ho := h.outer k hk'
    rintro (rfl | e | e | e)
    · rw [h.wtag] at ho; simp at ho
    · rw [h.outB.ttag k e] at ho; simp at ho
    · rw [h.outB.ktag k e] at ho; simp at ho
    · rw [hlB k e] at ho; simp at ho
end
end Go.Proofs.YtgndledehlilkaaGreat
