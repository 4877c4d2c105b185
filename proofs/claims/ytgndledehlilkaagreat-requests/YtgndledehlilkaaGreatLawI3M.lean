import Derived.Test.YtgndledehlilkaaGreatLawI1M
namespace Go.Proofs.YtgndledehlilkaaGreat
open Go.RowKit

/-- append of something, onto a row that is owned: into its place, or into a new block (then nothing old has turned). -/
theorem wpList_append_still {P : Program} {w : World} {ops : Array Oper} {rest : List Oper} {o : Oper} {a : Act} {Q : Exit → Act → World → Prop} (hgd : o.guard = none) (s x : Operand) (t : TypeId)
    (ho : o.op = .call { callee := .builtin .append, args := #[s, x], argTypes := #[t, t] })
    (base : Nat) (e : TypeId) (i : TypeInfo) (z : Value) (size bytes : Nat) (ht : P.underlying t = some (.slice e)) (hi : P.info? e = some i) (hz : i.zero = some z)
    (hsize : i.size = size) (hby : i.bytes = bytes) (hzs : z.cells.size = size) (hsz : 0 < size)
    (v : Value) (n : Nat) (xs : List Value) (hs : a.eval s = v) (hown : w.ownsRow base e size v n xs)
    (ad : Addr) (m c : Nat) (news : List Value) (hx : a.eval x = .slice (some ad) m c) (hl : news.length = m * size) (hnews : ∀ j u, news[j]? = some u → w.cell? (ad.add j) = some u) (h1 : ∀ u ∈ news, u.oneCell' = true)
    (hm : 0 < m) (h63 : n + m ≤ maxLen) (hbytes : (n + m) * bytes ≤ 140737488355328) (hbase : base ≤ w.heap.size) (H : Nat) (hH : w.heap.size = H)
    (h : ∀ g cap w', w'.ownsRow base e size (.slice (some ⟨g, 0, none⟩) (n + m) cap) (n + m) (xs ++ news) → w.grownBy w' v.ownBlock → (v.ownBlock = some g ∨ (g = H ∧ Still w w')) → g < w'.heap.size → wpList P ops Q rest (a.put o.dst (.slice (some ⟨g, 0, none⟩) (n + m) cap)) w') : wpList P ops Q (o :: rest) a w := by
  refine wpList_plain hgd fun K hK => ?_
  obtain ⟨g, cap, w', hr, h2, h3, h4, h5⟩ := run_append_lies (P := P) w t o.type base e i z size bytes ht hi hz hsize hby hzs hsz v n xs hown ad m c news hl hnews h1 hm h63 hbytes hbase H hH
  have key : v.ownBlock = some g ∨ (g = H ∧ Still w w') := by
    rcases h4 with h4 | h4
    · exact .inl h4
    · rcases hown.2 with ⟨rfl, rfl⟩ | ⟨g0, cap0, cur, rfl, hbg, hg0, hnc, hcm, hcs, htake⟩
      · exact .inr ⟨h4, Kept.grown (Kept.refl _ _) h3 (fun k hk => by simp [Value.ownBlock] at hk)⟩
      · subst hsize
        subst hby
        by_cases hroom : n + m ≤ cap0
        · have hfit : n * i.size + news.length ≤ cur.size := by rw [hl, hcs, ← Nat.add_mul]; exact Nat.mul_le_mul_right _ hroom
          have hr2 := run_append_room (P := P) w t o.type e i ht hi g0 n cap0 cur hg0 ad m c news hl hnews h1 hroom hfit
          rw [hr] at hr2
          simp only [Result.ok.injEq, Value.slice.injEq, Option.some.injEq, Addr.mk.injEq] at hr2
          left
          simp [Value.ownBlock, hr2.1.1.1]
        · have hsmall : n + m ≤ 9223372036854775807 := by simp only [maxLen] at h63; omega
          have hr2 := run_append_grow (P := P) w t o.type e i z ht hi hz ⟨g0, 0, none⟩ n cap0 xs hown.1 (hown.cells (g := g0) rfl) ad m c news hl hnews (by omega) (by omega) (growslice_fits (by omega) hbytes)
          rw [hr] at hr2
          simp only [Result.ok.injEq] at hr2
          right
          refine ⟨h4, ?_⟩
          rw [hr2.2]
          exact ((Kept.refl _ _).drew).alloc _
  unfold Oper.wp execOp
  simp only [ho, resolve, invoke, builtin, Sem.run_bind, Sem.run_pure, Result.andThen_ok, List.map_toArray, List.map_cons, List.map_nil, hs, hx, hr]
  exact hK _ _ (h g cap w' h2 h3 key h5)

def markC (k : Int) : List Value := [.int .i64 (-k), .int .i64 k, .int .i64 (-7), .int .i64 k]
/-- A list of routes, written full by its owner. -/
def FilledR (w : World) (v : Value) (k : Int) : Prop :=
  ∃ a n c, v = .slice a n c ∧ n ≤ maxLen ∧ (0 < n → ∃ g, a = some ⟨g, 0, none⟩ ∧ ∀ i, i < n → ∀ j, j < 4 → w.cell? ⟨g, i * 4 + j, none⟩ = (markC k)[j]?)
theorem FilledR.frame {w w' : World} {v : Value} {k : Int} (h : FilledR w v k) (hk : ∀ g, v.ownBlock = some g → w'.heap[g]? = w.heap[g]?) : FilledR w' v k := by
  obtain ⟨a, n, c, rfl, hn, hc⟩ := h
  refine ⟨a, n, c, rfl, hn, fun h0 => ?_⟩
  obtain ⟨g, rfl, hg⟩ := hc h0
  exact ⟨g, rfl, fun i hi j hj => by
    rw [← hg i hi j hj]
    exact World.cell?_of_block (w := w) (a := ⟨g, i * 4 + j, none⟩) (hk g rfl)⟩
theorem FilledR.row {w : World} {base : Nat} {v : Value} {n : Nat} {k : Int} (h : w.ownsRow base 50 4 v n (enc n fun _ => markC k)) : FilledR w v k := by
  obtain ⟨a, c, rfl, h1, h2⟩ := ownsRow_slice h
  refine ⟨a, n, c, rfl, by omega, fun h0 => ?_⟩
  obtain ⟨g, rfl, _⟩ := ownsRow_some h h0
  exact ⟨g, rfl, fun i hi j hj => ownsRow_cell h (fun _ _ => rfl) hi hj⟩
/-- A list of the same owner stays full, where something is written behind another. -/
theorem FilledR.step {w w' : World} {base : Nat} {v x : Value} {k : Int} {g n cap H : Nat} (hx : FilledR w x k) (hlen : ∀ a nx c, x = .slice a nx c → nx ≤ n) (hlt : ∀ B, x.ownBlock = some B → B < w.heap.size)
    (hrow : w'.ownsRow base 50 4 (.slice (some ⟨g, 0, none⟩) n cap) n (enc n fun _ => markC k)) (hgr : w.grownBy w' v.ownBlock) (hat : v.ownBlock = some g ∨ (g = H ∧ Still w w')) : FilledR w' x k := by
  rcases hat with hat | ⟨_, hs⟩
  · by_cases hb : x.ownBlock = some g
    · obtain ⟨a, nx, c, rfl, hn, hc⟩ := hx
      refine ⟨a, nx, c, rfl, hn, fun h0 => ?_⟩
      obtain ⟨g', rfl, _⟩ := hc h0
      have e : g' = g := by simpa [Value.ownBlock] using hb
      subst e
      have hle := hlen _ _ _ rfl
      exact ⟨g', rfl, fun i hi j hj => ownsRow_cell hrow (fun _ _ => rfl) (by omega) hj⟩
    · refine hx.frame fun B hB => hgr.block B (hlt B hB) (fun e => hb ?_)
      rw [hB, e, hat]
  · exact hx.frame fun B hB => hs.heap (hlt B hB)
theorem enc_snoc_mark (n : Nat) (k : Int) : (enc n fun _ => markC k) ++ markC k = enc (n + 1) fun _ => markC k := by rw [enc_succ]
set_option maxHeartbeats 400000 in
theorem mark_any (k : Int) (w : World) (h0 : 0 ≤ k) (h1 : k ≤ 4611686018427387904) :
    Calls Tryz.prog 18 #[.int .i64 k] w fun en w' => en = .returned (.agg #[.int .i64 (-k), .int .i64 k, .int .i64 (-7), .int .i64 k]) ∧ Still w w' := by
  go_enter Tryz.func18, Tryz.ntmps18
  go_wp2
  have hs : Still w (w.alloc (.cells #[.int .i64 (-k), .int .i64 k, .int .i64 (-7), .int .i64 k] 50)) := (Kept.refl _ _).alloc _
  refine bodyPost_ret (v := .agg #[.int .i64 (-k), .int .i64 k, .int .i64 (-7), .int .i64 k]) ?_ rfl ⟨rfl, hs⟩
  simp [results, Tryz.results18, go_sem]

theorem infoTs : (Tryz.prog.info? 52).map (fun i => (i.zero, i.size, i.bytes)) = some (some (.slice none 0 0), 1, 24) := by kernel_rfl
/-- Four cells of a row of things of four cells. -/
theorem ownsRow_store4 {w : World} {base : Nat} {e : TypeId} {g n cap : Nat} {f : Nat → List Value} (h : w.ownsRow base e 4 (.slice (some ⟨g, 0, none⟩) n cap) n (enc n f)) (hs : ∀ i, i < n → (f i).length = 4) {i : Nat} (hi : i < n) (a b c d : Value) :
    ((((w.setCell ⟨g, i * 4, none⟩ a).setCell ⟨g, i * 4 + 1, none⟩ b).setCell ⟨g, i * 4 + 2, none⟩ c).setCell ⟨g, i * 4 + 3, none⟩ d).ownsRow base e 4 (.slice (some ⟨g, 0, none⟩) n cap) n (enc n (upd f i [a, b, c, d])) := by
  have hu : ∀ (x : List Value) (f' : Nat → List Value), x.length = 4 → (∀ k, k < n → (f' k).length = 4) → ∀ k, k < n → (upd f' i x k).length = 4 := fun x f' hx hf' k hk => by
    by_cases e : k = i
    · subst e; rw [upd_same]; exact hx
    · rw [upd_other _ _ e]; exact hf' k hk
  have hl := hs i hi
  have s0 := ownsRow_store h hs (i := i) (j := 0) (u := a) (f' := upd f i ((f i).set 0 a)) hi (by omega) (by rw [upd_same]) (fun k _ hk => upd_other _ _ hk)
  have s1 := ownsRow_store s0 (hu _ _ (by simpa using hl) hs) (i := i) (j := 1) (u := b) (f' := upd f i (((f i).set 0 a).set 1 b)) hi (by omega) (by rw [upd_same, upd_same]) (fun k _ hk => by rw [upd_other _ _ hk, upd_other _ _ hk])
  have s2 := ownsRow_store s1 (hu _ _ (by simpa using hl) hs) (i := i) (j := 2) (u := c) (f' := upd f i ((((f i).set 0 a).set 1 b).set 2 c)) hi (by omega) (by rw [upd_same, upd_same]) (fun k _ hk => by rw [upd_other _ _ hk, upd_other _ _ hk])
  have s3 := ownsRow_store s2 (hu _ _ (by simpa using hl) hs) (i := i) (j := 3) (u := d) (f' := upd f i [a, b, c, d]) hi (by omega) (by
    rw [upd_same, upd_same]
    match f i, hl with
    | [x0, x1, x2, x3], _ => rfl) (fun k _ hk => by rw [upd_other _ _ hk, upd_other _ _ hk])
  exact s3
def mixC (k : Int) (L : List RouteD) (i j : Nat) : List Value := if j < i then markC k else routeCells (L.getD j rt0)
theorem mixC_len (k : Int) (L : List RouteD) (i j : Nat) : (mixC k L i j).length = 4 := by unfold mixC; split <;> rfl
theorem mixC_get (k : Int) (L : List RouteD) (i j : Nat) : ∃ a b c d : Int, mixC k L i j = [.int .i64 a, .int .i64 b, .int .i64 c, .int .i64 d] := by
  unfold mixC
  split
  · exact ⟨_, _, _, _, rfl⟩
  · exact ⟨_, _, _, _, rfl⟩
theorem mixC_step (k : Int) (L : List RouteD) (i : Nat) : enc L.length (upd (mixC k L i) i (markC k)) = enc L.length (mixC k L (i + 1)) := by
  refine enc_congr fun j _ => ?_
  by_cases e : j = i
  · subst e; rw [upd_same]; unfold mixC; rw [if_pos (by omega)]
  · rw [upd_other _ _ e]
    unfold mixC
    by_cases h : j < i
    · rw [if_pos h, if_pos (by omega)]
    · rw [if_neg h, if_neg (by omega)]
/-- The lists of one owner, under way. -/
structure Lists (W : World) (O : Tag) (base s0 : Nat) (l : Value) (k : Int) (w : World) (O' : Tag) (cur : Value) (c : Nat) (xs : List Value) : Prop where
  ag : ∀ b, b < W.heap.size → O' b = O b
  kept : Kept (fun b => l.ownBlock = some b) W w
  row : w.ownsRow base 50 4 cur c (enc c fun _ => markC k)
  tag : ∀ b, cur.ownBlock = some b → O' b = (0, 9, 0) ∧ b ≠ s0 ∧ (l.ownBlock = some b ∨ W.heap.size ≤ b)
  s0lt : s0 < w.heap.size
  s0ge : W.heap.size ≤ s0
  box : Box4 w s0 ⟨-k, k, -7, k⟩
  fil : ∀ x, x ∈ xs → FilledR w x k ∧ (∀ a nx c', x = .slice a nx c' → nx ≤ c) ∧ ∀ b, x.ownBlock = some b → b < w.heap.size ∧ O' b = (0, 9, 0)
  curIn : cur ∈ xs
theorem Lists.push {W : World} {O : Tag} {base s0 : Nat} {l : Value} {k : Int} {w : World} {O' : Tag} {cur : Value} {c : Nat} {xs : List Value} (h : Lists W O base s0 l k w O' cur c xs) {w5 : World} {o : Obj} {g cap : Nat}
    (hrow : w5.ownsRow base 50 4 (.slice (some ⟨g, 0, none⟩) (c + 1) cap) (c + 1) ((enc c fun _ => markC k) ++ markC k)) (hgr : (w.alloc o).grownBy w5 cur.ownBlock) (hat : cur.ownBlock = some g ∨ (g = w.heap.size + 1 ∧ Still (w.alloc o) w5)) :
    ∃ O'', Lists W O base s0 l k w5 O'' (.slice (some ⟨g, 0, none⟩) (c + 1) cap) (c + 1) (xs ++ [.slice (some ⟨g, 0, none⟩) (c + 1) cap]) := by
  rw [enc_snoc_mark] at hrow
  have hz := h.kept.size
  have hsz : (w.alloc o).heap.size = w.heap.size + 1 := by simp
  have hz5 := hgr.size
  have s0lt := h.s0lt
  have s0ge := h.s0ge
  have hglt : g < w5.heap.size := ownsRow_lt hrow rfl
  have hne : cur.ownBlock = some g → g ≠ s0 ∧ (l.ownBlock = some g ∨ W.heap.size ≤ g) ∧ O' g = (0, 9, 0) := fun hh => ⟨(h.tag g hh).2.1, (h.tag g hh).2.2, (h.tag g hh).1⟩
  have hO : ∀ b, b < w.heap.size → upd O' g (0, 9, 0) b = O' b := fun b hb => by
    by_cases e : b = g
    · subst e
      rw [upd_same]
      rcases hat with hh | ⟨hh, _⟩
      · exact (hne hh).2.2.symm
      · omega
    · exact upd_other _ _ e
  refine ⟨upd O' g (0, 9, 0), ⟨fun b hb => (hO b (by omega)).trans (h.ag b hb), ?_, hrow, ?_, by omega, s0ge, ?_, ?_, List.mem_append_right _ (List.mem_singleton.2 rfl)⟩⟩
  · refine Kept.grown (Kept.alloc h.kept _) hgr fun b hb => ?_
    exact (h.tag b hb).2.2
  · intro b hb
    have e : g = b := by simpa [Value.ownBlock] using hb
    subst e
    refine ⟨upd_same _ _ _, ?_⟩
    rcases hat with hh | ⟨hh, _⟩
    · exact ⟨(hne hh).1, (hne hh).2.1⟩
    · exact ⟨by omega, .inr (by omega)⟩
  · have hb1 : Box4 (w.alloc o) s0 ⟨-k, k, -7, k⟩ := h.box.still ((Kept.refl _ _).alloc _)
    exact hb1.heap (hgr.block s0 (by omega) (fun e => (h.tag s0 e.symm).2.1 rfl))
  · intro x hx
    rcases List.mem_append.1 hx with hx | hx
    · obtain ⟨f1, f2, f3⟩ := h.fil x hx
      have f1' : FilledR (w.alloc o) x k := f1.frame fun b hb => Below.heap_alloc _ _ _ (f3 b hb).1
      refine ⟨f1'.step (n := c + 1) (H := w.heap.size + 1) (fun a nx c' e => by have := f2 a nx c' e; omega) (fun b hb => by have := (f3 b hb).1; omega) hrow hgr hat, fun a nx c' e => by have := f2 a nx c' e; omega, fun b hb => ?_⟩
      have := f3 b hb
      exact ⟨by omega, (hO b this.1).trans this.2⟩
    · rw [List.mem_singleton] at hx
      subst hx
      refine ⟨FilledR.row hrow, fun a nx c' e => ?_, fun b hb => ?_⟩
      · simp only [Value.slice.injEq] at e
        omega
      · have e : g = b := by simpa [Value.ownBlock] using hb
        subst e
        exact ⟨hglt, upd_same _ _ _⟩
/-- What 'routes' leaves. -/
def RoutesPost (W : World) (O : Tag) (bw n : Nat) (lv tv kv bv cv l : Value) (T K : List Value) (w' : World) : Prop :=
  ∃ (O' : Tag) (tv' kv' g h j : Value),
    (∀ k, k < W.heap.size → O' k = O k) ∧
    Kept (fun k => k = bw ∨ tv.ownBlock = some k ∨ kv.ownBlock = some k ∨ l.ownBlock = some k) W w' ∧
    w'.heap[bw]? = some (.cells #[lv, tv', kv', bv, cv] 31 (0, 0)) ∧
    w'.ownsRow 0 52 1 tv' (n + 4) (T ++ [l, g, h, j]) ∧ (∀ b, tv'.ownBlock = some b → O' b = (0, 7, 1)) ∧
    w'.ownsRow 0 3 1 kv' (n + 4) (K ++ [.int .i64 n, .int .i64 n, .int .i64 n, .int .i64 n]) ∧ (∀ b, kv'.ownBlock = some b → O' b = (0, 7, 2)) ∧
    ∀ x, x = l ∨ x = g ∨ x = h ∨ x = j → FilledR w' x n ∧ ∀ b, x.ownBlock = some b → b < w'.heap.size ∧ O' b = (0, 9, 0)
/-- The statements' world under way: the lists stand, the rows grow. -/
structure Mid (W : World) (O : Tag) (bw : Nat) (lv tv kv bv cv l : Value) (k : Int) (xs : List Value) (w : World) (O' : Tag) (tx kx : Value) (nt nk : Nat) (T K : List Value) : Prop where
  ag : ∀ b, b < W.heap.size → O' b = O b
  kept : Kept (fun b => b = bw ∨ tv.ownBlock = some b ∨ kv.ownBlock = some b ∨ l.ownBlock = some b) W w
  blk : w.heap[bw]? = some (.cells #[lv, tx, kx, bv, cv] 31 (0, 0))
  bwt : O' bw = (0, 6, 0)
  trow : w.ownsRow 0 52 1 tx nt T
  ttag : ∀ b, tx.ownBlock = some b → O' b = (0, 7, 1) ∧ (tv.ownBlock = some b ∨ W.heap.size ≤ b)
  krow : w.ownsRow 0 3 1 kx nk K
  ktag : ∀ b, kx.ownBlock = some b → O' b = (0, 7, 2) ∧ (kv.ownBlock = some b ∨ W.heap.size ≤ b)
  fil : ∀ x, x ∈ xs → FilledR w x k ∧ ∀ b, x.ownBlock = some b → b < w.heap.size ∧ O' b = (0, 9, 0)
section
variable {W : World} {O : Tag} {base s0 bw : Nat} {lv tv kv bv cv l : Value} {k : Int} {w : World} {O' : Tag} {cur : Value} {c : Nat} {xs : List Value} {tx kx : Value} {nt nk : Nat} {T K : List Value}
theorem Lists.mid (h : Lists W O base s0 l k w O' cur c xs) (hblk : W.heap[bw]? = some (.cells #[lv, tv, kv, bv, cv] 31 (0, 0))) (hbw : O bw = (0, 6, 0))
    (ht : W.ownsRow 0 52 1 tv nt T) (htt : ∀ b, tv.ownBlock = some b → O b = (0, 7, 1)) (hk : W.ownsRow 0 3 1 kv nk K) (hkt : ∀ b, kv.ownBlock = some b → O b = (0, 7, 2)) (hlt : ∀ b, l.ownBlock = some b → O b = (0, 9, 0)) :
    Mid W O bw lv tv kv bv cv l k xs w O' tv kv nt nk T K := by
  have bwl : bw < W.heap.size := (Array.getElem?_eq_some_iff.1 hblk).1
  refine ⟨h.ag, h.kept.mono (fun i _ hi => .inr (.inr (.inr hi))), ?_, (h.ag bw bwl).trans hbw, ?_, ?_, ?_, ?_, fun x hx => ⟨(h.fil x hx).1, (h.fil x hx).2.2⟩⟩
  · rw [h.kept.block bw bwl (fun e => by have := hlt _ e; rw [hbw] at this; simp at this)]; exact hblk
  · exact ownsRow_of_block ht fun b hb => h.kept.block b (ownsRow_lt ht hb) (fun e => by have := hlt _ e; rw [htt b hb] at this; simp at this)
  · intro b hb; exact ⟨(h.ag b (ownsRow_lt ht hb)).trans (htt b hb), .inl hb⟩
  · exact ownsRow_of_block hk fun b hb => h.kept.block b (ownsRow_lt hk hb) (fun e => by have := hlt _ e; rw [hkt b hb] at this; simp at this)
  · intro b hb; exact ⟨(h.ag b (ownsRow_lt hk hb)).trans (hkt b hb), .inl hb⟩
theorem Mid.cells (h : Mid W O bw lv tv kv bv cv l k xs w O' tx kx nt nk T K) : w.cell? ⟨bw, 1, none⟩ = some tx ∧ w.cell? ⟨bw, 2, none⟩ = some kx ∧ (∀ j, w.frozen? ⟨bw, j, none⟩ = false) ∧ bw < w.heap.size := by
  refine ⟨by simp [World.cell?, h.blk], by simp [World.cell?, h.blk], fun j => by simp [World.frozen?, h.blk], (Array.getElem?_eq_some_iff.1 h.blk).1⟩
theorem Mid.pushT (h : Mid W O bw lv tv kv bv cv l k xs w O' tx kx nt nk T K) {w9 : World} {o : Obj} {g nt' cap : Nat} {T' : List Value} (hrow : w9.ownsRow 0 52 1 (.slice (some ⟨g, 0, none⟩) nt' cap) nt' T') (hgr : (w.alloc o).grownBy w9 tx.ownBlock)
    (hat : tx.ownBlock = some g ∨ g = w.heap.size + 1) : ∃ O'', Mid W O bw lv tv kv bv cv l k xs (w9.setCell ⟨bw, 1, none⟩ (.slice (some ⟨g, 0, none⟩) nt' cap)) O'' (.slice (some ⟨g, 0, none⟩) nt' cap) kx nt' nk T' K := by
  have hz := h.kept.size
  have hsz : (w.alloc o).heap.size = w.heap.size + 1 := by simp
  have hz9 := hgr.size
  have bwl : bw < w.heap.size := h.cells.2.2.2
  have hO : ∀ b, b < w.heap.size → upd O' g (0, 7, 1) b = O' b := fun b hb => by
    by_cases e : b = g
    · subst e
      rw [upd_same]
      rcases hat with hh | hh
      · exact (h.ttag b hh).1.symm
      · omega
    · exact upd_other _ _ e
  have hold : ∀ b, b < w.heap.size → O' b ≠ (0, 7, 1) → O' b ≠ (0, 6, 0) → (w9.setCell ⟨bw, 1, none⟩ (.slice (some ⟨g, 0, none⟩) nt' cap)).heap[b]? = w.heap[b]? := fun b hb h7 h6 => by
    rw [Below.heap_setCell _ _ _ _ (by rintro rfl; exact h6 h.bwt), hgr.block b (by omega) (fun e => h7 (h.ttag b e.symm).1), Below.heap_alloc _ _ _ hb]
  have hbw9 : w9.heap[bw]? = w.heap[bw]? := by
    rw [hgr.block bw (by omega) (fun e => by have := (h.ttag bw e.symm).1; rw [h.bwt] at this; simp at this), Below.heap_alloc _ _ _ bwl]
  have hgb : g ≠ bw := by
    rintro rfl
    rcases hat with hh | hh
    · have := (h.ttag g hh).1; rw [h.bwt] at this; simp at this
    · omega
  refine ⟨upd O' g (0, 7, 1), fun b hb => (hO b (by omega)).trans (h.ag b hb), ?_, ?_, (hO bw bwl).trans h.bwt, ?_, ?_, ?_, ?_, ?_⟩
  · refine Kept.setCell (Kept.grown (Kept.alloc h.kept _) hgr fun b hb => ?_) (.inl (.inl rfl)) _
    rcases (h.ttag b hb).2 with hh | hh
    · exact .inl (.inr (.inl hh))
    · exact .inr hh
  · simp [World.setCell, Array.getElem?_modify, hbw9, h.blk]
  · exact ownsRow_of_block hrow fun b hb => Below.heap_setCell _ _ _ _ (by
      have e : g = b := by simpa [Value.ownBlock] using hb
      show b ≠ bw
      omega)
  · intro b hb
    have e : g = b := by simpa [Value.ownBlock] using hb
    subst e
    refine ⟨upd_same _ _ _, ?_⟩
    rcases hat with hh | hh
    · exact (h.ttag g hh).2
    · exact .inr (by omega)
  · exact ownsRow_of_block h.krow fun b hb => hold b (ownsRow_lt h.krow hb) (by rw [(h.ktag b hb).1]; simp) (by rw [(h.ktag b hb).1]; simp)
  · intro b hb; exact ⟨(hO b (ownsRow_lt h.krow hb)).trans (h.ktag b hb).1, (h.ktag b hb).2⟩
  · intro x hx
    obtain ⟨f1, f2⟩ := h.fil x hx
    refine ⟨f1.frame fun b hb => hold b (f2 b hb).1 (by rw [(f2 b hb).2]; simp) (by rw [(f2 b hb).2]; simp), fun b hb => ⟨by have := (f2 b hb).1; simp; omega, (hO b (f2 b hb).1).trans (f2 b hb).2⟩⟩
theorem Mid.pushK (h : Mid W O bw lv tv kv bv cv l k xs w O' tx kx nt nk T K) {w9 : World} {o : Obj} {g nk' cap : Nat} {K' : List Value} (hrow : w9.ownsRow 0 3 1 (.slice (some ⟨g, 0, none⟩) nk' cap) nk' K') (hgr : (w.alloc o).grownBy w9 kx.ownBlock)
    (hat : kx.ownBlock = some g ∨ g = w.heap.size + 1) : ∃ O'', Mid W O bw lv tv kv bv cv l k xs (w9.setCell ⟨bw, 2, none⟩ (.slice (some ⟨g, 0, none⟩) nk' cap)) O'' tx (.slice (some ⟨g, 0, none⟩) nk' cap) nt nk' T K' := by
  have hz := h.kept.size
  have hsz : (w.alloc o).heap.size = w.heap.size + 1 := by simp
  have hz9 := hgr.size
  have bwl : bw < w.heap.size := h.cells.2.2.2
  have hO : ∀ b, b < w.heap.size → upd O' g (0, 7, 2) b = O' b := fun b hb => by
    by_cases e : b = g
    · subst e
      rw [upd_same]
      rcases hat with hh | hh
      · exact (h.ktag b hh).1.symm
      · omega
    · exact upd_other _ _ e
  have hold : ∀ b, b < w.heap.size → O' b ≠ (0, 7, 2) → O' b ≠ (0, 6, 0) → (w9.setCell ⟨bw, 2, none⟩ (.slice (some ⟨g, 0, none⟩) nk' cap)).heap[b]? = w.heap[b]? := fun b hb h7 h6 => by
    rw [Below.heap_setCell _ _ _ _ (by rintro rfl; exact h6 h.bwt), hgr.block b (by omega) (fun e => h7 (h.ktag b e.symm).1), Below.heap_alloc _ _ _ hb]
  have hbw9 : w9.heap[bw]? = w.heap[bw]? := by
    rw [hgr.block bw (by omega) (fun e => by have := (h.ktag bw e.symm).1; rw [h.bwt] at this; simp at this), Below.heap_alloc _ _ _ bwl]
  have hgb : g ≠ bw := by
    rintro rfl
    rcases hat with hh | hh
    · have := (h.ktag g hh).1; rw [h.bwt] at this; simp at this
    · omega
  refine ⟨upd O' g (0, 7, 2), fun b hb => (hO b (by omega)).trans (h.ag b hb), ?_, ?_, (hO bw bwl).trans h.bwt, ?_, ?_, ?_, ?_, ?_⟩
  · refine Kept.setCell (Kept.grown (Kept.alloc h.kept _) hgr fun b hb => ?_) (.inl (.inl rfl)) _
    rcases (h.ktag b hb).2 with hh | hh
    · exact .inl (.inr (.inr (.inl hh)))
    · exact .inr hh
  · simp [World.setCell, Array.getElem?_modify, hbw9, h.blk]
  · exact ownsRow_of_block h.trow fun b hb => hold b (ownsRow_lt h.trow hb) (by rw [(h.ttag b hb).1]; simp) (by rw [(h.ttag b hb).1]; simp)
  · intro b hb; exact ⟨(hO b (ownsRow_lt h.trow hb)).trans (h.ttag b hb).1, (h.ttag b hb).2⟩
  · exact ownsRow_of_block hrow fun b hb => Below.heap_setCell _ _ _ _ (by
      have e : g = b := by simpa [Value.ownBlock] using hb
      show b ≠ bw
      omega)
  · intro b hb
    have e : g = b := by simpa [Value.ownBlock] using hb
    subst e
    refine ⟨upd_same _ _ _, ?_⟩
    rcases hat with hh | hh
    · exact (h.ktag g hh).2
    · exact .inr (by omega)
  · intro x hx
    obtain ⟨f1, f2⟩ := h.fil x hx
    refine ⟨f1.frame fun b hb => hold b (f2 b hb).1 (by rw [(f2 b hb).2]; simp) (by rw [(f2 b hb).2]; simp), fun b hb => ⟨by have := (f2 b hb).1; simp; omega, (hO b (f2 b hb).1).trans (f2 b hb).2⟩⟩
theorem Mid.post {n : Nat} {g h' j : Value} (h : Mid W O bw lv tv kv bv cv l (n : Int) [l, g, h', j] w O' tx kx (n + 4) (n + 4) (T ++ [l, g, h', j]) (K ++ [.int .i64 n, .int .i64 n, .int .i64 n, .int .i64 n])) : RoutesPost W O bw n lv tv kv bv cv l T K w :=
  ⟨O', tx, kx, g, h', j, h.ag, h.kept, h.blk, h.trow, fun b hb => (h.ttag b hb).1, h.krow, fun b hb => (h.ktag b hb).1, fun x hx => h.fil x (by simpa using hx)⟩
end
end Go.Proofs.YtgndledehlilkaaGreat
