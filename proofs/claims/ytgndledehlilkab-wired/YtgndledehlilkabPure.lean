/-
  What is plain data: the document's engine, its calls as functions, tables.
-/
import Derived.Test.YtgndledehlilkabHeap
import Derived.Test.YtgndledehlilkabRows
import Derived.WalkLawsBesides
import Derived.Deep.Slices
import Derived.BigQuiet
import Derived.Deep.QuietTactic
namespace Go.Proofs.Ytgndledehlilkab
open Go.RowKit
structure RouteD where
  addr : Int
  len : Int
  hop : Int
  from_ : Int
structure RuleD where
  allow : Bool
  addr : Int
  len : Int
  ge : Int
  le : Int
structure Life where
  no : Int
  quota : Int
  gives : Int
  takes : Int
  own : List RouteD
  rules : List RuleD
  gone : Bool
structure Tok where
  life : Nat
  rights : Int
  line : List Nat
  revoked : Bool
structure RefS where
  room : Int
  nl : Nat
  life : Nat → Life
  nt : Nat
  tok : Nat → Tok
def I (n : Int) : Value := .int .i64 n
def routeCells (r : RouteD) : List Value := [.int .i64 r.addr, .int .i64 r.len, .int .i64 r.hop, .int .i64 r.from_]
def ruleCells (r : RuleD) : List Value := [.bool r.allow, .int .i64 r.addr, .int .i64 r.len, .int .i64 r.ge, .int .i64 r.le]
def lifeCells (l : Life) (ov rv : Value) : List Value := [.int .i64 l.no, .int .i64 l.quota, .int .i64 l.gives, .int .i64 l.takes, ov, rv, .bool l.gone]
def tokCells (t : Tok) (ln : Value) : List Value := [.int .i64 (t.life : Int), .int .i64 t.rights, ln, .bool t.revoked]
def lineCells (l : List Nat) : List Value := l.map fun (n : Nat) => Value.int .i64 (n : Int)
/-- What the engine's numbers keep to. -/
structure RefWf (r : RefS) : Prop where
  nt : r.nt ≤ 100
  nl : r.nl ≤ r.nt
  room : 1 ≤ r.room ∧ r.room ≤ 64
  quota : ∀ i, i < r.nl → 1 ≤ (r.life i).quota ∧ (r.life i).quota ≤ 64
  no : ∀ i, i < r.nl → 0 ≤ (r.life i).no ∧ (r.life i).no < 8
  life : ∀ k, k < r.nt → (r.tok k).life < r.nl
  rights : ∀ k, k < r.nt → 0 ≤ (r.tok k).rights ∧ (r.tok k).rights ≤ 15
  line : ∀ k, k < r.nt → ∀ n ∈ (r.tok k).line, 1 ≤ n ∧ n ≤ k
  lineLen : ∀ k, k < r.nt → (r.tok k).line.length ≤ k
section
variable {w w' : World} {O O' : Nat → Nat × Nat × Nat} {e b : Nat} {r : RefS} {lv tv : Value} {ov rv ln : Nat → Value}
theorem lifeCells_len (r : RefS) (ov rv : Nat → Value) : ∀ i, i < r.nl → (lifeCells (r.life i) (ov i) (rv i)).length = 7 := fun _ _ => rfl
theorem tokCells_len (r : RefS) (ln : Nat → Value) : ∀ i, i < r.nt → (tokCells (r.tok i) (ln i)).length = 4 := fun _ _ => rfl
end
def hasB (n m : Int) : Bool := n / m % 2 == 1
/-- What 'living' tells. -/
def livesAs (r : RefS) (no : Int) (q : Int) : Prop :=
  (∃ i : Nat, q = i ∧ i < r.nl ∧ (r.life i).gone = false ∧ (r.life i).no = no) ∨ (q = -1 ∧ ∀ i, i < r.nl → (r.life i).gone = true ∨ (r.life i).no ≠ no)
def aliveR (r : RefS) (k : Nat) : Bool := !((r.life (r.tok k).life).gone || (r.tok k).revoked || (r.tok k).line.any fun n => (r.tok (n - 1)).revoked)
def anyRev (r : RefS) (G : Bool) (l : List Nat) (i : Nat) : Bool := G || (l.take i).any fun n => (r.tok (n - 1)).revoked
theorem anyRev_zero (r : RefS) (G : Bool) (l : List Nat) : anyRev r G l 0 = G := by simp [anyRev]
theorem anyRev_succ (r : RefS) (G : Bool) (l : List Nat) {i : Nat} (h : i < l.length) : anyRev r G l (i + 1) = (anyRev r G l i || (r.tok (l.getD i 0 - 1)).revoked) := by
  unfold anyRev
  rw [List.take_succ_eq_append_getElem h, List.any_append]
  simp [h, Bool.or_assoc]
theorem anyRev_all (r : RefS) (k : Nat) {i : Nat} (h : (r.tok k).line.length ≤ i) : (!anyRev r ((r.life (r.tok k).life).gone || (r.tok k).revoked) (r.tok k).line i) = aliveR r k := by
  unfold anyRev aliveR
  rw [List.take_of_length_le h]
def aliveI (r : RefS) (n : Int) : Bool := decide (1 ≤ n ∧ n ≤ r.nt) && aliveR r (n - 1).toNat
theorem aliveI_bounds {r : RefS} {n : Int} (h : aliveI r n = true) : 1 ≤ n ∧ n ≤ r.nt ∧ aliveR r (n - 1).toNat = true := by
  simp only [aliveI, Bool.and_eq_true, decide_eq_true_eq] at h
  exact ⟨h.1.1, h.1.2, h.2⟩
def mayI (r : RefS) (n right : Int) : Int := if aliveI r n then (if hasB (r.tok (n - 1).toNat).rights right then 0 else 4) else 3
theorem tag_ne {O : Nat → Nat × Nat × Nat} {g g' : Nat} {t t' : Nat × Nat × Nat} (h : O g = t) (h' : O g' = t') (hn : t ≠ t') : g ≠ g' := by
  rintro rfl
  exact hn (h.symm.trans h')
/-- The blocks of engine e that are the document's. -/
def mineR (O : Nat → Nat × Nat × Nat) (e : Nat) : Nat → Prop := fun k => (O k).1 = e ∧ (O k).2.1 ≤ 5
def dropS (r : RefS) (i : Nat) : RefS := { r with life := upd r.life i { r.life i with gone := true, own := [] } }
def revokeS (r : RefS) (j : Nat) : RefS := { r with tok := upd r.tok j { r.tok j with revoked := true } }
theorem upd_upd {α : Type} (f : Nat → α) (i : Nat) (u v : α) : upd (upd f i u) i v = upd f i v := by
  funext k
  unfold upd
  split <;> rfl
/-- The errors of Revoke. -/
def lineHas (l : List Nat) (n : Int) : Bool := l.any fun m => decide ((m : Int) = n)
def revErr (y : Bool) : Int := if y then 0 else 4
def revState (y : Bool) (r : RefS) (k : Nat) : RefS := if y then revokeS r k else r
def revokeR (r : RefS) (n which : Int) : Int :=
  if mayI r n 8 = 0 then (if 1 ≤ which ∧ which ≤ r.nt then revErr (lineHas (r.tok (which - 1).toNat).line n) else 4) else mayI r n 8
def revokedR (r : RefS) (n which : Int) : RefS := if revokeR r n which = 0 then revokeS r (which - 1).toNat else r
theorem mayI_cases (r : RefS) (n right : Int) : mayI r n right = 0 ∨ mayI r n right = 3 ∨ mayI r n right = 4 := by
  unfold mayI
  split
  · split <;> simp
  · simp
theorem any_take_succ (l : List Nat) (n : Int) {i : Nat} (h : i < l.length) (h1 : lineHas (l.take i) n = false) (h2 : ¬ ((l.getD i 0 : Nat) : Int) = n) : lineHas (l.take (i + 1)) n = false := by
  unfold lineHas at *
  rw [List.take_succ_eq_append_getElem h, List.any_append, h1]
  simpa [List.getD_eq_getElem?_getD, h] using h2
theorem any_of_at (l : List Nat) (n : Int) {i : Nat} (h : i < l.length) (h2 : ((l.getD i 0 : Nat) : Int) = n) : lineHas l n = true := by
  unfold lineHas
  rw [List.any_eq_true]
  refine ⟨l[i], List.getElem_mem h, ?_⟩
  simpa [List.getD_eq_getElem?_getD, h] using h2
def liveCount (r : RefS) : Nat → Nat
  | 0 => 0
  | n + 1 => liveCount r n + if (r.life n).gone then 0 else 1
def liveSum (r : RefS) : Nat → Int
  | 0 => 0
  | n + 1 => liveSum r n + if (r.life n).gone then 0 else (r.life n).quota
theorem liveCount_le (r : RefS) (n : Nat) : liveCount r n ≤ n := by
  induction n with
  | zero => simp [liveCount]
  | succ n ih => simp only [liveCount]; split <;> omega
theorem liveSum_le {r : RefS} (hf : RefWf r) (n : Nat) (hn : n ≤ r.nl) : 0 ≤ liveSum r n ∧ liveSum r n ≤ 64 * n := by
  induction n with
  | zero => simp [liveSum]
  | succ n ih =>
    have := ih (by omega)
    have := hf.quota n (by omega)
    simp only [liveSum]
    split <;> omega
def createR (r : RefS) (quota : Int) : Int :=
  if quota < 1 ∨ 64 < quota then 2 else if 8 ≤ liveCount r r.nl then 5 else if r.room < quota + liveSum r r.nl then 6 else if 100 ≤ r.nt then 7 else 0
def createS (r : RefS) (no : Nat) (quota : Int) : RefS :=
  { r with nl := r.nl + 1, life := upd r.life r.nl ⟨no, quota, 0, 0, [], [], false⟩, nt := r.nt + 1, tok := upd r.tok r.nt ⟨r.nl, 15, [], false⟩ }
/-- No life has the number now. -/
def freeR (r : RefS) (no : Int) : Prop := ∀ i, i < r.nl → (r.life i).gone = true ∨ (r.life i).no ≠ no
theorem tag_new {O : Nat → Nat × Nat × Nat} {t : Nat × Nat × Nat} {v : Value} {g H n : Nat} (hat : v.ownBlock = some g ∨ g = H) (hv : ∀ g, v.ownBlock = some g → O g = t) (hn : n ≤ H) : ∃ O' : Nat → Nat × Nat × Nat, (∀ k, k < n → O' k = O k) ∧ O' g = t := by
  refine ⟨upd O g t, fun k hk => ?_, upd_same _ _ _⟩
  by_cases hkg : k = g
  · subst hkg
    rcases hat with h | h
    · rw [upd_same, hv _ h]
    · omega
  · exact upd_other _ _ hkg
theorem wrap_small {n : Int} (h0 : 0 ≤ n) (h1 : n ≤ 1000000) : IntKind.i64.wrap n = n := by
  rw [IntKind.wrap_i64]; omega
def pw (j : Nat) : Int := 2 ^ j
theorem pw_zero : pw 0 = 1 := rfl
theorem pw_succ (j : Nat) : pw (j + 1) = 2 * pw j := by unfold pw; rw [Int.pow_succ, Int.mul_comm]
theorem pw_small {j : Nat} (h : j < 4) : 1 ≤ pw j ∧ pw j ≤ 8 := by
  rcases (by omega : j = 0 ∨ j = 1 ∨ j = 2 ∨ j = 3) with rfl | rfl | rfl | rfl <;> decide
theorem pw_four : pw 4 = 16 := rfl
/-- Is one of the first j rights wanted and not there? -/
def wants (rights has_ : Int) : Nat → Bool
  | 0 => false
  | j + 1 => wants rights has_ j || (hasB rights (pw j) && !hasB has_ (pw j))
def lacks (has_ rights : Int) : Bool := !hasB has_ 8 || wants rights has_ 4
def errI (y : Bool) : Int := if y then 4 else 0
def deriveR (r : RefS) (n rights : Int) : Int :=
  if aliveI r n then (if rights < 0 ∨ 15 < rights then 2 else if lacks (r.tok (n - 1).toNat).rights rights then 4 else if 100 ≤ r.nt then 7 else 0) else 3
def deriveS (r : RefS) (k : Nat) (rights : Int) : RefS :=
  { r with nt := r.nt + 1, tok := upd r.tok r.nt ⟨(r.tok k).life, rights, (r.tok k).line ++ [k + 1], false⟩ }
theorem pw_le {j : Nat} (h : j ≤ 16) : 1 ≤ pw j ∧ pw j ≤ 65536 := by
  have h0 : ∀ k : Fin 17, 1 ≤ pw k.val ∧ pw k.val ≤ 65536 := by decide +kernel
  exact h0 ⟨j, by omega⟩
/-- Are an address and a length a prefix? -/
def isPfx (addr len : Int) : Bool := decide (0 ≤ addr ∧ addr ≤ 65535 ∧ 0 ≤ len ∧ len ≤ 16) && (addr % pw (16 - len).toNat == 0)
theorem isPfx_bounds {addr len : Int} (h : isPfx addr len = true) : 0 ≤ addr ∧ addr ≤ 65535 ∧ 0 ≤ len ∧ len ≤ 16 := by
  simp only [isPfx, Bool.and_eq_true, decide_eq_true_eq] at h
  exact h.1
/-- Does a prefix contain an address? -/
def containsB (addr len a : Int) : Bool := addr / pw (16 - len).toNat == a / pw (16 - len).toNat
def routeV (r : RouteD) : Value := .agg #[.int .i64 r.addr, .int .i64 r.len, .int .i64 r.hop, .int .i64 r.from_]
def sameB (r q : RouteD) : Bool := r.addr == q.addr && r.len == q.len
def lessB (r q : RouteD) : Bool := if r.addr = q.addr then decide (r.len < q.len) else decide (r.addr < q.addr)
/-- Have two numbers one of the first j marks in common? -/
def commonTo (a b : Int) : Nat → Bool
  | 0 => false
  | j + 1 => commonTo a b j || (hasB a (pw j) && hasB b (pw j))
def commonB (a b : Int) : Bool := commonTo a b 8
theorem commonTo_of {a b : Int} {j : Nat} (hj : j < 8) (h1 : hasB a (pw j) = true) (h2 : hasB b (pw j) = true) : commonB a b = true := by
  have key : ∀ n, j < n → commonTo a b n = true := by
    intro n hn
    induction n with
    | zero => omega
    | succ n ih =>
      by_cases e : j = n
      · subst e; simp [commonTo, h1, h2]
      · simp [commonTo, ih (by omega)]
  exact key 8 hj
def rt0 : RouteD := ⟨0, 0, 0, 0⟩
def ru0 : RuleD := ⟨false, 0, 0, 0, 0⟩
theorem flat_enc {α : Type} (l : List α) (d : α) (f : α → List Value) : l.flatMap f = enc l.length fun i => f (l.getD i d) := Go.Deep.flatMap_by_index l d f
/-- Which of some routes has the prefix; -1: none. -/
def findI (l : List RouteD) (r : RouteD) : Int := match l.findIdx? (fun x => sameB x r) with
  | some i => i
  | none => -1
theorem findI_some {l : List RouteD} {r : RouteD} {i : Nat} (hi : i < l.length) (h1 : ∀ j, j < i → sameB (l.getD j rt0) r = false) (h2 : sameB (l.getD i rt0) r = true) : findI l r = i := by
  unfold findI
  have : l.findIdx? (fun x => sameB x r) = some i := by
    rw [List.findIdx?_eq_some_iff_getElem]
    refine ⟨hi, by simpa [List.getD_eq_getElem?_getD, hi] using h2, fun j hj => ?_⟩
    have := h1 j hj
    simpa [List.getD_eq_getElem?_getD, (show j < l.length by omega)] using this
  rw [this]
theorem findI_none {l : List RouteD} {r : RouteD} (h1 : ∀ j, j < l.length → sameB (l.getD j rt0) r = false) : findI l r = -1 := by
  unfold findI
  have : l.findIdx? (fun x => sameB x r) = none := by
    rw [List.findIdx?_eq_none_iff]
    intro x hx
    obtain ⟨j, hj, rfl⟩ := List.mem_iff_getElem.1 hx
    have := h1 j hj
    simpa [List.getD_eq_getElem?_getD, hj] using this
  rw [this]
theorem findI_cases (l : List RouteD) (r : RouteD) : (∃ i : Nat, i < l.length ∧ findI l r = i ∧ sameB (l.getD i rt0) r = true) ∨ (findI l r = -1 ∧ ∀ x ∈ l, sameB x r = false) := by
  cases h : l.findIdx? (fun x => sameB x r) with
  | some i =>
    left
    obtain ⟨hi, h1, _⟩ := List.findIdx?_eq_some_iff_getElem.1 h
    exact ⟨i, hi, by unfold findI; rw [h], by simpa [List.getD_eq_getElem?_getD, hi] using h1⟩
  | none =>
    right
    exact ⟨by unfold findI; rw [h], fun x hx => by simpa using (List.findIdx?_eq_none_iff.1 h) x hx⟩
def matchB (u : RuleD) (r : RouteD) : Bool := containsB u.addr u.len r.addr && (decide (u.ge ≤ r.len) && decide (r.len ≤ u.le))
def letsB (rules : List RuleD) (r : RouteD) : Bool := match rules.find? (fun u => matchB u r) with
  | some u => u.allow
  | none => decide (rules.length = 0)
theorem letsB_some {l : List RuleD} {r : RouteD} {i : Nat} (hi : i < l.length) (h1 : ∀ j, j < i → matchB (l.getD j ru0) r = false) (h2 : matchB (l.getD i ru0) r = true) : letsB l r = (l.getD i ru0).allow := by
  unfold letsB
  have e : l.getD i ru0 = l[i] := by simp [List.getD_eq_getElem?_getD, hi]
  have : l.find? (fun u => matchB u r) = some (l.getD i ru0) := by
    rw [e, List.find?_eq_some_iff_getElem]
    rw [e] at h2
    refine ⟨h2, i, hi, rfl, fun j hj => ?_⟩
    have := h1 j hj
    rw [show l.getD j ru0 = l[j] from by simp [List.getD_eq_getElem?_getD, (show j < l.length by omega)]] at this
    simp [this]
  rw [this]
theorem letsB_none {l : List RuleD} {r : RouteD} (h1 : ∀ j, j < l.length → matchB (l.getD j ru0) r = false) : letsB l r = decide (l.length = 0) := by
  unfold letsB
  have : l.find? (fun u => matchB u r) = none := by
    rw [List.find?_eq_none]
    intro x hx
    obtain ⟨j, hj, rfl⟩ := List.mem_iff_getElem.1 hx
    have := h1 j hj
    rw [show l.getD j ru0 = l[j] from by simp [List.getD_eq_getElem?_getD, hj]] at this
    simp [this]
  rw [this]
structure okRule (u : RuleD) : Prop where
  a0 : 0 ≤ u.addr
  a1 : u.addr ≤ 65535
  l0 : 0 ≤ u.len
  l1 : u.len ≤ 16
structure okRoute (x : RouteD) : Prop where
  a0 : 0 ≤ x.addr
  a1 : x.addr ≤ 65535
  l0 : 0 ≤ x.len
  l1 : x.len ≤ 16
  h0 : 0 ≤ x.hop
  h1 : x.hop ≤ 255
  f0 : 0 ≤ x.from_
  f1 : x.from_ < 8
  pf : x.addr % pw (16 - x.len).toNat = 0
theorem isPfx_mod {addr len : Int} (h : isPfx addr len = true) : addr % pw (16 - len).toNat = 0 := by
  unfold isPfx at h
  rw [Bool.and_eq_true, beq_iff_eq] at h
  exact h.2
theorem okRoute.pfx {x : RouteD} (h : okRoute x) : isPfx x.addr x.len = true := by
  unfold isPfx
  rw [Bool.and_eq_true, decide_eq_true_eq, beq_iff_eq]
  exact ⟨⟨h.a0, h.a1, h.l0, h.l1⟩, h.pf⟩
/-- What the lives keep to. -/
structure RefTab (r : RefS) : Prop where
  gives : ∀ i, i < r.nl → 0 ≤ (r.life i).gives ∧ (r.life i).gives ≤ 255
  takes : ∀ i, i < r.nl → 0 ≤ (r.life i).takes ∧ (r.life i).takes ≤ 255
  rules : ∀ i, i < r.nl → ∀ u ∈ (r.life i).rules, okRule u
  rulesN : ∀ i, i < r.nl → (r.life i).rules.length ≤ 4
  own : ∀ i, i < r.nl → ∀ x ∈ (r.life i).own, okRoute x
  ownN : ∀ i, i < r.nl → ((r.life i).own.length : Int) ≤ (r.life i).quota
/-- May life u's route x be on offer to life t? -/
def offerB (r : RefS) (t u : Nat) (x : RouteD) : Bool :=
  !(decide (t = u)) && !(r.life t).gone && !(r.life u).gone && commonB (r.life u).gives (r.life t).takes && letsB (r.life t).rules x && decide (findI (r.life t).own x < 0)
/-- Is it taken for a candidate? -/
def wanted (r : RefS) (t : Nat) (last : RouteD) (an : Bool) (u : Nat) (x : RouteD) : Bool := offerB r t u x && (an || lessB last x)
def betterB (x best : RouteD) : Bool := lessB x best || (sameB x best && decide (x.from_ < best.from_))
/-- One candidate more. -/
def nx (r : RefS) (t : Nat) (last : RouteD) (an : Bool) (u : Nat) (st : RouteD × Bool) (x : RouteD) : RouteD × Bool :=
  if wanted r t last an u x && (!st.2 || betterB x st.1) then (x, true) else st
def nxAll (r : RefS) (t : Nat) (last : RouteD) (an : Bool) : Nat → RouteD × Bool
  | 0 => (rt0, false)
  | u + 1 => (r.life u).own.foldl (nx r t last an u) (nxAll r t last an u)
def nxTo (r : RefS) (t : Nat) (last : RouteD) (an : Bool) (u i : Nat) : RouteD × Bool := ((r.life u).own.take i).foldl (nx r t last an u) (nxAll r t last an u)
theorem nxTo_zero (r : RefS) (t : Nat) (last : RouteD) (an : Bool) (u : Nat) : nxTo r t last an u 0 = nxAll r t last an u := by simp [nxTo]
theorem nxTo_succ (r : RefS) (t : Nat) (last : RouteD) (an : Bool) (u : Nat) {i : Nat} (h : i < (r.life u).own.length) : nxTo r t last an u (i + 1) = nx r t last an u (nxTo r t last an u i) ((r.life u).own.getD i rt0) := by
  unfold nxTo
  rw [List.take_succ_eq_append_getElem h, List.foldl_append]
  simp [List.getD_eq_getElem?_getD, h]
theorem nxTo_all (r : RefS) (t : Nat) (last : RouteD) (an : Bool) (u : Nat) {i : Nat} (h : (r.life u).own.length ≤ i) : nxTo r t last an u i = nxAll r t last an (u + 1) := by
  unfold nxTo
  rw [List.take_of_length_le h]
  rfl
theorem wanted_no1 {r : RefS} {t : Nat} {last : RouteD} {an : Bool} {u : Nat} {x : RouteD} {st : RouteD × Bool} (h : offerB r t u x = false) : nx r t last an u st x = st := by simp [nx, wanted, h]
theorem wanted_no2 {r : RefS} {t : Nat} {last : RouteD} {an : Bool} {u : Nat} {x : RouteD} {st : RouteD × Bool} (h1 : an = false) (h : lessB last x = false) : nx r t last an u st x = st := by simp [nx, wanted, h, h1]
theorem wanted_yes {r : RefS} {t : Nat} {last : RouteD} {an : Bool} {u : Nat} {x : RouteD} {st : RouteD × Bool} (h1 : offerB r t u x = true) (h2 : an = true ∨ lessB last x = true) : nx r t last an u st x = if (!st.2 || betterB x st.1) = true then (x, true) else st := by
  rcases h2 with h2 | h2 <;> simp [nx, wanted, h1, h2]
/-- What is found is one of those that were looked at. -/
theorem nx_cand {r : RefS} {t : Nat} {last : RouteD} {an : Bool} {u : Nat} {P : RouteD → Prop} {st : RouteD × Bool} {x : RouteD} (h : st.2 = true → P st.1) (hx : wanted r t last an u x = true → P x) : (nx r t last an u st x).2 = true → P (nx r t last an u st x).1 := by
  unfold nx
  split
  · rename_i hc
    intro _
    rw [Bool.and_eq_true] at hc
    exact hx hc.1
  · exact h
theorem nx_fold {r : RefS} {t : Nat} {last : RouteD} {an : Bool} {u : Nat} {P : RouteD → Prop} (l : List RouteD) (hx : ∀ x ∈ l, wanted r t last an u x = true → P x) : ∀ st : RouteD × Bool, (st.2 = true → P st.1) → ((l.foldl (nx r t last an u) st).2 = true → P (l.foldl (nx r t last an u) st).1) := by
  induction l with
  | nil => intro st h; exact h
  | cons y l ih =>
    intro st h
    rw [List.foldl_cons]
    exact ih (fun x hx' => hx x (List.mem_cons_of_mem _ hx')) _ (nx_cand h (hx y List.mem_cons_self))
theorem nxAll_cand (r : RefS) (t : Nat) (last : RouteD) (an : Bool) (n : Nat) : (nxAll r t last an n).2 = true → ∃ u, u < n ∧ (nxAll r t last an n).1 ∈ (r.life u).own ∧ wanted r t last an u (nxAll r t last an n).1 = true := by
  induction n with
  | zero => intro h; cases h
  | succ n ih =>
    refine nx_fold (P := fun x => ∃ u, u < n + 1 ∧ x ∈ (r.life u).own ∧ wanted r t last an u x = true) _ (fun x hx hw => ⟨n, by omega, hx, hw⟩) _ (fun h => ?_)
    obtain ⟨u, h1, h2, h3⟩ := ih h
    exact ⟨u, by omega, h2, h3⟩
def key (x : RouteD) : Int := x.addr * 17 + x.len
theorem key_less {x y : RouteD} (hx : okRoute x) (hy : okRoute y) (h : lessB x y = true) : key x < key y := by
  have := hx.l0; have := hx.l1; have := hy.l0; have := hy.l1
  unfold lessB at h
  unfold key
  split at h
  · simp at h; omega
  · simp at h; omega
theorem key_le {x : RouteD} (hx : okRoute x) : 0 ≤ key x ∧ key x ≤ 1114111 := by
  have := hx.l0; have := hx.l1; have := hx.a0; have := hx.a1
  unfold key
  omega
theorem nxAll_ok {r : RefS} (htb : RefTab r) {t : Nat} {last : RouteD} {an : Bool} (h : (nxAll r t last an r.nl).2 = true) : okRoute (nxAll r t last an r.nl).1 := by
  obtain ⟨u, hu, hm, _⟩ := nxAll_cand r t last an r.nl h
  exact htb.own u hu _ hm
theorem nxAll_less {r : RefS} {t : Nat} {last : RouteD} (h : (nxAll r t last false r.nl).2 = true) : lessB last (nxAll r t last false r.nl).1 = true := by
  obtain ⟨u, hu, hm, hw⟩ := nxAll_cand r t last false r.nl h
  simp only [wanted, Bool.false_or, Bool.and_eq_true] at hw
  exact hw.2
/-- The routes on offer, one behind the other. -/
def Chain (r : RefS) (t : Nat) : RouteD × Bool → List RouteD → Prop
  | st, [] => st.2 = false
  | st, x :: l => st.2 = true ∧ st.1 = x ∧ Chain r t (nxAll r t x false r.nl) l
def cellInt : Option Value → Int
  | some (.int _ n) => n
  | _ => 0
theorem chain_start {r : RefS} {t : Nat} {st : RouteD × Bool} : ∀ rest, Chain r t st rest → Chain r t st ([] ++ rest) := fun _ h => h
theorem chain_step {r : RefS} {t : Nat} {st0 st : RouteD × Bool} {l : List RouteD} (h : ∀ rest, Chain r t st rest → Chain r t st0 (l ++ rest)) (hs : st.2 = true) : ∀ rest, Chain r t (nxAll r t st.1 false r.nl) rest → Chain r t st0 ((l ++ [st.1]) ++ rest) := by
  intro rest hr
  rw [List.append_assoc]
  exact h _ ⟨hs, rfl, hr⟩
def insStep (x : RouteD) (st : List RouteD × Bool) (y : RouteD) : List RouteD × Bool := if (lessB x y && !st.2) = true then (st.1 ++ [x] ++ [y], true) else (st.1 ++ [y], st.2)
def insTo (x : RouteD) (out : List RouteD) (k : Nat) : List RouteD × Bool := (out.take k).foldl (insStep x) ([], false)
theorem insTo_zero (x : RouteD) (out : List RouteD) : insTo x out 0 = ([], false) := by simp [insTo]
theorem insTo_succ (x : RouteD) (out : List RouteD) {k : Nat} (h : k < out.length) : insTo x out (k + 1) = insStep x (insTo x out k) (out.getD k rt0) := by
  unfold insTo
  rw [List.take_succ_eq_append_getElem h, List.foldl_append]
  simp [List.getD_eq_getElem?_getD, h]
def insF (x : RouteD) (out : List RouteD) : List RouteD := if (insTo x out out.length).2 = true then (insTo x out out.length).1 else (insTo x out out.length).1 ++ [x]
def sortTo (l : List RouteD) (i : Nat) : List RouteD := (l.take i).foldl (fun out x => insF x out) []
theorem sortTo_zero (l : List RouteD) : sortTo l 0 = [] := by simp [sortTo]
theorem sortTo_succ (l : List RouteD) {i : Nat} (h : i < l.length) : sortTo l (i + 1) = insF (l.getD i rt0) (sortTo l i) := by
  unfold sortTo
  rw [List.take_succ_eq_append_getElem h, List.foldl_append]
  simp [List.getD_eq_getElem?_getD, h]
def sortR (l : List RouteD) : List RouteD := sortTo l l.length
theorem insStep_len (x : RouteD) (st : List RouteD × Bool) (y : RouteD) {n : Nat} (h : st.1.length = n + (if st.2 then 1 else 0)) : (insStep x st y).1.length = n + 1 + (if (insStep x st y).2 then 1 else 0) := by
  unfold insStep
  split
  · rename_i hc
    simp only [Bool.and_eq_true, Bool.not_eq_true'] at hc
    rw [hc.2] at h
    simp at h ⊢
    omega
  · simp
    omega
theorem insTo_len (x : RouteD) (out : List RouteD) : ∀ k, k ≤ out.length → (insTo x out k).1.length = k + (if (insTo x out k).2 then 1 else 0) := by
  intro k
  induction k with
  | zero => intro _; rw [insTo_zero]; rfl
  | succ k ih =>
    intro hk
    rw [insTo_succ x out (by omega)]
    exact insStep_len x _ _ (ih (by omega))
theorem insF_len (x : RouteD) (out : List RouteD) : (insF x out).length = out.length + 1 := by
  have := insTo_len x out out.length (Nat.le_refl _)
  unfold insF
  split
  · rename_i hc; rw [hc] at this; simpa using this
  · rename_i hc
    have hc' : (insTo x out out.length).2 = false := by simpa using hc
    rw [hc'] at this
    rw [List.length_append, this]; rfl
theorem sortTo_len (l : List RouteD) : ∀ i, i ≤ l.length → (sortTo l i).length = i := by
  intro i
  induction i with
  | zero => intro _; rw [sortTo_zero]; rfl
  | succ i ih =>
    intro hi
    rw [sortTo_succ l (by omega), insF_len, ih (by omega)]
theorem ins_yes {x y : RouteD} {st : List RouteD × Bool} (h1 : lessB x y = true) (h2 : st.2 = false) : insStep x st y = (st.1 ++ [x] ++ [y], true) := by simp [insStep, h1, h2]
theorem ins_no {x y : RouteD} {st : List RouteD × Bool} (h : lessB x y = false ∨ st.2 = true) : insStep x st y = (st.1 ++ [y], st.2) := by rcases h with h | h <;> simp [insStep, h]
theorem flat_snoc (l : List RouteD) (x : RouteD) : (l ++ [x]).flatMap routeCells = l.flatMap routeCells ++ [.int .i64 x.addr, .int .i64 x.len, .int .i64 x.hop, .int .i64 x.from_] := by
  rw [List.flatMap_append]; rfl
theorem flat_snoc2 (l : List RouteD) (x y : RouteD) : (l ++ [x] ++ [y]).flatMap routeCells = l.flatMap routeCells ++ [.int .i64 x.addr, .int .i64 x.len, .int .i64 x.hop, .int .i64 x.from_] ++ [.int .i64 y.addr, .int .i64 y.len, .int .i64 y.hop, .int .i64 y.from_] := by
  rw [List.flatMap_append, List.flatMap_append]; rfl
/-- How many of the others' routes find room. -/
def spare (l : Life) : Nat := (l.quota - l.own.length).toNat
/-- A table, out of the own routes and those on offer. -/
def tableR (l : Life) (off : List RouteD) : List RouteD := sortR (l.own ++ off.take (spare l))
def droppedR (l : Life) (off : List RouteD) : Int := (off.length - min off.length (spare l) : Nat)
theorem routeCells_one (l : List RouteD) : ∀ c ∈ l.flatMap routeCells, c.oneCell' = true := by
  intro c hc
  rw [List.mem_flatMap] at hc
  obtain ⟨x, _, hx⟩ := hc
  simp [routeCells] at hx
  rcases hx with rfl | rfl | rfl | rfl <;> rfl
theorem take_min_succ (off : List RouteD) {i c : Nat} (h : i < off.length) (hc : i < c) : off.take (min (i + 1) c) = off.take (min i c) ++ [off.getD i rt0] := by
  rw [Nat.min_eq_left (by omega), Nat.min_eq_left (by omega), List.take_succ_eq_append_getElem h]
  simp [List.getD_eq_getElem?_getD, h]
theorem mayI_zero {r : RefS} {n right : Int} (h : mayI r n right = 0) : aliveI r n = true ∧ 1 ≤ n ∧ n ≤ r.nt := by
  unfold mayI at h
  split at h
  · rename_i ha
    have := aliveI_bounds ha
    exact ⟨ha, this.1, this.2.1⟩
  · omega
/-- The life of a token. -/
def lifeOf (r : RefS) (n : Int) : Nat := (r.tok (n - 1).toNat).life
def sumsV (a b c d : Int) : Value := .agg #[.int .i64 a, .int .i64 b, .int .i64 c, .int .i64 d]
theorem tableR_len (l : Life) (off : List RouteD) : (tableR l off).length = l.own.length + (off.take (spare l)).length := by
  unfold tableR sortR
  rw [sortTo_len _ _ (Nat.le_refl _), List.length_append]
theorem tableR_le {l : Life} {off : List RouteD} (hq0 : 1 ≤ l.quota) (hq : l.quota ≤ 64) (ho : (l.own.length : Int) ≤ l.quota) : l.own.length ≤ (tableR l off).length ∧ (tableR l off).length ≤ 64 := by
  have h1 := tableR_len l off
  have h2 : (off.take (spare l)).length ≤ spare l := List.length_take_le _ _
  unfold spare at *
  omega
def okMask (g : Int) : Bool := decide (0 ≤ g ∧ g ≤ 255)
def shareR (r : RefS) (n gives takes : Int) : Int := if mayI r n 4 = 0 then (if (okMask gives && okMask takes) = true then 0 else 2) else mayI r n 4
def shareS (r : RefS) (l : Nat) (gives takes : Int) : RefS := { r with life := upd r.life l { r.life l with gives := gives, takes := takes } }
def sharedR (r : RefS) (n gives takes : Int) : RefS := if shareR r n gives takes = 0 then shareS r (lifeOf r n) gives takes else r
def ownS (r : RefS) (l : Nat) (own : List RouteD) : RefS := { r with life := upd r.life l { r.life l with own := own } }
def rulesS (r : RefS) (l : Nat) (rules : List RuleD) : RefS := { r with life := upd r.life l { r.life l with rules := rules } }
def tagRow (O : Nat → Nat × Nat × Nat) (u : Value) (t : Nat × Nat × Nat) : Nat → Nat × Nat × Nat := fun k => if u.ownBlock = some k then t else O k
theorem tagRow_old {O : Nat → Nat × Nat × Nat} {u : Value} {t : Nat × Nat × Nat} {B k : Nat} (h : ∀ g, u.ownBlock = some g → B ≤ g) (hk : k < B) : tagRow O u t k = O k := by
  unfold tagRow
  rw [if_neg]
  intro hh
  have := h k hh
  omega
theorem tagRow_new {O : Nat → Nat × Nat × Nat} {u : Value} {t : Nat × Nat × Nat} {k : Nat} (h : u.ownBlock = some k) : tagRow O u t k = t := by
  unfold tagRow
  rw [if_pos h]
def newRoute (r : RefS) (n addr len hop : Int) : RouteD := ⟨addr, len, hop, (r.life (lifeOf r n)).no⟩
def insIn (L : Life) (x : RouteD) : Int := if 0 ≤ findI L.own x then 0 else if L.quota ≤ (L.own.length : Int) then 8 else 0
def insertR (r : RefS) (n addr len hop : Int) : Int :=
  if mayI r n 2 = 0 then (if (isPfx addr len && okMask hop) = true then insIn (r.life (lifeOf r n)) (newRoute r n addr len hop) else 2) else mayI r n 2
def insOwn (own : List RouteD) (x : RouteD) : List RouteD := if 0 ≤ findI own x then own.set (findI own x).toNat x else own ++ [x]
def insertedR (r : RefS) (n addr len hop : Int) : RefS :=
  if insertR r n addr len hop = 0 then ownS r (lifeOf r n) (insOwn (r.life (lifeOf r n)).own (newRoute r n addr len hop)) else r
theorem flat_set (l : List RouteD) {i : Nat} (h : i < l.length) (x : RouteD) : (((((enc l.length fun k => routeCells (l.getD k rt0)).set (i * 4) (.int .i64 x.addr)).set (i * 4 + 1) (.int .i64 x.len)).set (i * 4 + 2) (.int .i64 x.hop)).set (i * 4 + 3) (.int .i64 x.from_)) = (l.set i x).flatMap routeCells := by
  rw [flat_enc (l.set i x) rt0, List.length_set]
  have key : ∀ (j : Nat) (hj : j < 4) (f f' : Nat → List Value) (u : Value), (∀ k, (f k).length = 4) → f' i = (f i).set j u → (∀ k, k ≠ i → f' k = f k) → (enc l.length f).set (i * 4 + j) u = enc l.length f' := fun j hj f f' u h1 h2 h3 => enc_set (fun k _ => h1 k) h hj h2 (fun k _ hk => h3 k hk)
  have e0 := key 0 (by omega) (fun k => routeCells (l.getD k rt0)) (fun k => if k = i then [.int .i64 x.addr, .int .i64 (l.getD i rt0).len, .int .i64 (l.getD i rt0).hop, .int .i64 (l.getD i rt0).from_] else routeCells (l.getD k rt0)) (.int .i64 x.addr) (fun _ => rfl) (by simp [routeCells]) (fun k hk => by simp [hk])
  have e1 := key 1 (by omega) (fun k => if k = i then [.int .i64 x.addr, .int .i64 (l.getD i rt0).len, .int .i64 (l.getD i rt0).hop, .int .i64 (l.getD i rt0).from_] else routeCells (l.getD k rt0)) (fun k => if k = i then [.int .i64 x.addr, .int .i64 x.len, .int .i64 (l.getD i rt0).hop, .int .i64 (l.getD i rt0).from_] else routeCells (l.getD k rt0)) (.int .i64 x.len) (fun k => by by_cases hk : k = i <;> simp [hk, routeCells]) (by simp) (fun k hk => by simp [hk])
  have e2 := key 2 (by omega) (fun k => if k = i then [.int .i64 x.addr, .int .i64 x.len, .int .i64 (l.getD i rt0).hop, .int .i64 (l.getD i rt0).from_] else routeCells (l.getD k rt0)) (fun k => if k = i then [.int .i64 x.addr, .int .i64 x.len, .int .i64 x.hop, .int .i64 (l.getD i rt0).from_] else routeCells (l.getD k rt0)) (.int .i64 x.hop) (fun k => by by_cases hk : k = i <;> simp [hk, routeCells]) (by simp) (fun k hk => by simp [hk])
  have e3 := key 3 (by omega) (fun k => if k = i then [.int .i64 x.addr, .int .i64 x.len, .int .i64 x.hop, .int .i64 (l.getD i rt0).from_] else routeCells (l.getD k rt0)) (fun k => if k = i then [.int .i64 x.addr, .int .i64 x.len, .int .i64 x.hop, .int .i64 x.from_] else routeCells (l.getD k rt0)) (.int .i64 x.from_) (fun k => by by_cases hk : k = i <;> simp [hk, routeCells]) (by simp) (fun k hk => by simp [hk])
  rw [Nat.add_zero] at e0
  rw [e0, e1, e2, e3]
  refine enc_congr fun k hk => ?_
  by_cases hki : k = i
  · subst hki
    simp [h, routeCells]
  · rw [if_neg hki]
    simp [List.getD_eq_getElem?_getD, Ne.symm hki]
def pfxRoute (addr len : Int) : RouteD := ⟨addr, len, 0, 0⟩
def remIn (L : Life) (x : RouteD) : Int := if 0 ≤ findI L.own x then 0 else 9
def removeR (r : RefS) (n addr len : Int) : Int :=
  if mayI r n 2 = 0 then (if isPfx addr len = true then remIn (r.life (lifeOf r n)) (pfxRoute addr len) else 2) else mayI r n 2
def remOwn (own : List RouteD) (x : RouteD) : List RouteD := own.eraseIdx (findI own x).toNat
def removedR (r : RefS) (n addr len : Int) : RefS :=
  if removeR r n addr len = 0 then ownS r (lifeOf r n) (remOwn (r.life (lifeOf r n)).own (pfxRoute addr len)) else r
def remTo (own : List RouteD) (i k : Nat) : List RouteD := (own.take k).eraseIdx i
theorem remTo_hit (own : List RouteD) {i : Nat} (h : i < own.length) : remTo own i (i + 1) = remTo own i i := by
  unfold remTo
  rw [List.take_succ_eq_append_getElem h, List.eraseIdx_append_of_length_le (by simp; omega)]
  have e : i - (own.take i).length = 0 := by simp; omega
  have e2 : (own.take i).eraseIdx i = own.take i := List.eraseIdx_of_length_le (by simp; omega)
  rw [e, e2]
  simp
theorem remTo_miss (own : List RouteD) {i k : Nat} (h : k < own.length) (hne : k ≠ i) : remTo own i (k + 1) = remTo own i k ++ [own.getD k rt0] := by
  unfold remTo
  have e0 : own.getD k rt0 = own[k] := by simp [List.getD_eq_getElem?_getD, h]
  rw [List.take_succ_eq_append_getElem h, e0]
  by_cases hi : i < k
  · rw [List.eraseIdx_append_of_lt_length (by simp; omega)]
  · rw [List.eraseIdx_of_length_le (by simp; omega), List.eraseIdx_of_length_le (by simp; omega)]
theorem remTo_len (own : List RouteD) (i k : Nat) : (remTo own i k).length ≤ k := by
  unfold remTo
  have h1 := List.length_eraseIdx_le (own.take k) i
  have h2 : (own.take k).length ≤ k := List.length_take_le _ _
  omega
def ruleB (u : RuleD) : Bool := isPfx u.addr u.len && decide (u.len ≤ u.ge) && decide (u.ge ≤ u.le) && decide (u.le ≤ 16)
def okTo (R : List RuleD) (i : Nat) : Bool := decide (R.length ≤ 4) && (R.take i).all ruleB
def filterOk (R : List RuleD) : Bool := decide (R.length ≤ 4) && R.all ruleB
def filterR (r : RefS) (n : Int) (R : List RuleD) : Int := if mayI r n 4 = 0 then (if filterOk R = true then 0 else 2) else mayI r n 4
def filteredR (r : RefS) (n : Int) (R : List RuleD) : RefS := if filterR r n R = 0 then rulesS r (lifeOf r n) R else r
theorem ruleCells_one (R : List RuleD) : ∀ c ∈ R.flatMap ruleCells, c.oneCell' = true := by
  intro c hc
  rw [List.mem_flatMap] at hc
  obtain ⟨u, _, hu⟩ := hc
  simp only [ruleCells, List.mem_cons, List.not_mem_nil, or_false] at hu
  rcases hu with rfl | rfl | rfl | rfl | rfl <;> rfl
theorem ruleCells_len (R : List RuleD) : (R.flatMap ruleCells).length = R.length * 5 := by
  rw [flat_enc R ru0]; exact enc_length fun _ _ => rfl
theorem okTo_succ {R : List RuleD} {k : Nat} (hk : k < R.length) : okTo R (k + 1) = (okTo R k && ruleB (R.getD k ru0)) := by
  have e0 : R.getD k ru0 = R[k] := by simp [List.getD_eq_getElem?_getD, hk]
  unfold okTo
  rw [List.take_succ_eq_append_getElem hk, List.all_append, e0]
  simp [Bool.and_assoc]
theorem okTo_false {R : List RuleD} {k : Nat} (h : okTo R k = false) : filterOk R = false := by
  unfold okTo at h
  unfold filterOk
  rw [Bool.and_eq_false_iff] at h ⊢
  rcases h with h | h
  · exact .inl h
  · right
    rw [List.all_eq_false] at h ⊢
    obtain ⟨x, hx, h⟩ := h
    exact ⟨x, List.mem_of_mem_take hx, h⟩
theorem okTo_all (R : List RuleD) : okTo R R.length = filterOk R := by
  unfold okTo filterOk
  rw [List.take_length]
theorem same_key {x y : RouteD} (hx : okRoute x) (hy : okRoute y) : sameB x y = true ↔ key x = key y := by
  have := hx.l0; have := hx.l1; have := hy.l0; have := hy.l1
  unfold sameB key
  simp only [Bool.and_eq_true, beq_iff_eq]
  omega
theorem less_key {x y : RouteD} (hx : okRoute x) (hy : okRoute y) : lessB x y = true ↔ key x < key y := by
  have := hx.l0; have := hx.l1; have := hy.l0; have := hy.l1
  unfold lessB key
  split
  · simp only [decide_eq_true_eq]; omega
  · simp only [decide_eq_true_eq]; omega
/-- In the order of prefixes, each prefix once. -/
def Sorted (l : List RouteD) : Prop := l.Pairwise fun x y => key x < key y
theorem sorted_ext : ∀ {l m : List RouteD}, Sorted l → Sorted m → (∀ x, x ∈ l ↔ x ∈ m) → l = m
  | [], [], _, _, _ => rfl
  | [], y :: m, _, _, h => absurd ((h y).2 (List.mem_cons_self ..)) (by simp)
  | x :: l, [], _, _, h => absurd ((h x).1 (List.mem_cons_self ..)) (by simp)
  | x :: l, y :: m, hl, hm, h => by
    have hl' := List.pairwise_cons.1 hl
    have hm' := List.pairwise_cons.1 hm
    have e : x = y := by
      rcases List.mem_cons.1 ((h x).1 (List.mem_cons_self ..)) with e | e
      · exact e
      · rcases List.mem_cons.1 ((h y).2 (List.mem_cons_self ..)) with e2 | e2
        · exact e2.symm
        · have := hm'.1 x e; have := hl'.1 y e2; omega
    subst e
    congr 1
    refine sorted_ext hl'.2 hm'.2 fun z => ⟨fun hz => ?_, fun hz => ?_⟩
    · rcases List.mem_cons.1 ((h z).1 (List.mem_cons_of_mem _ hz)) with e | e
      · subst e; have := hl'.1 z hz; omega
      · exact e
    · rcases List.mem_cons.1 ((h z).2 (List.mem_cons_of_mem _ hz)) with e | e
      · subst e; have := hm'.1 z hz; omega
      · exact e
/-- A route into its place. -/
def insL (x : RouteD) : List RouteD → List RouteD
  | [] => [x]
  | y :: l => if lessB x y = true then x :: y :: l else y :: insL x l
theorem ins_true (x : RouteD) : ∀ (out pre : List RouteD), out.foldl (insStep x) (pre, true) = (pre ++ out, true)
  | [], pre => by simp
  | y :: l, pre => by
    rw [List.foldl_cons]
    have : insStep x (pre, true) y = (pre ++ [y], true) := by unfold insStep; simp
    rw [this, ins_true x l]
    simp
theorem ins_false (x : RouteD) : ∀ (out pre : List RouteD), (if (out.foldl (insStep x) (pre, false)).2 = true then (out.foldl (insStep x) (pre, false)).1 else (out.foldl (insStep x) (pre, false)).1 ++ [x]) = pre ++ insL x out
  | [], pre => by simp [insL]
  | y :: l, pre => by
    rw [List.foldl_cons]
    by_cases h : lessB x y = true
    · have : insStep x (pre, false) y = (pre ++ [x] ++ [y], true) := by unfold insStep; simp [h]
      rw [this, ins_true x l]
      simp [insL, h]
    · have : insStep x (pre, false) y = (pre ++ [y], false) := by unfold insStep; simp [h]
      rw [this, ins_false x l]
      simp [insL, h]
theorem insF_eq (x : RouteD) (out : List RouteD) : insF x out = insL x out := by
  have := ins_false x out []
  unfold insF insTo
  rw [List.take_of_length_le (Nat.le_refl _)]
  simpa using this
theorem mem_insL (x z : RouteD) : ∀ l : List RouteD, z ∈ insL x l ↔ z = x ∨ z ∈ l
  | [] => by simp [insL]
  | y :: l => by
    unfold insL
    split
    · simp
    · rw [List.mem_cons, mem_insL x z l, List.mem_cons]
      constructor
      · rintro (h | h | h)
        · exact .inr (.inl h)
        · exact .inl h
        · exact .inr (.inr h)
      · rintro (h | h | h)
        · exact .inr (.inl h)
        · exact .inl h
        · exact .inr (.inr h)
theorem sorted_insL {x : RouteD} (hx : okRoute x) : ∀ {l : List RouteD}, (∀ y ∈ l, okRoute y) → Sorted l → (∀ y ∈ l, key x ≠ key y) → Sorted (insL x l)
  | [], _, _, _ => by simp [insL, Sorted]
  | y :: l, ho, hs, hn => by
    have hs' := List.pairwise_cons.1 hs
    unfold insL
    split
    · rename_i h
      have hlt := (less_key hx (ho y (List.mem_cons_self ..))).1 h
      refine List.pairwise_cons.2 ⟨fun z hz => ?_, hs⟩
      rcases List.mem_cons.1 hz with e | e
      · subst e; exact hlt
      · have := hs'.1 z e; omega
    · rename_i h
      have hle : ¬ key x < key y := fun hh => h ((less_key hx (ho y (List.mem_cons_self ..))).2 hh)
      have hne := hn y (List.mem_cons_self ..)
      refine List.pairwise_cons.2 ⟨fun z hz => ?_, sorted_insL hx (fun z hz => ho z (List.mem_cons_of_mem _ hz)) hs'.2 (fun z hz => hn z (List.mem_cons_of_mem _ hz))⟩
      rcases (mem_insL x z l).1 hz with e | e
      · subst e; omega
      · exact hs'.1 z e
theorem sort_fold : ∀ (l out : List RouteD), (∀ y ∈ l, okRoute y) → (∀ y ∈ out, okRoute y) → Sorted out → l.Pairwise (fun x y => key x ≠ key y) → (∀ x ∈ l, ∀ y ∈ out, key x ≠ key y) →
    Sorted (l.foldl (fun out x => insF x out) out) ∧ ∀ z, z ∈ l.foldl (fun out x => insF x out) out ↔ z ∈ l ∨ z ∈ out
  | [], out, _, _, hs, _, _ => ⟨hs, fun z => by simp⟩
  | x :: l, out, hl, ho, hs, hp, hd => by
    have hp' := List.pairwise_cons.1 hp
    rw [List.foldl_cons]
    have hx := hl x (List.mem_cons_self ..)
    have h1 : Sorted (insF x out) := by rw [insF_eq]; exact sorted_insL hx ho hs (hd x (List.mem_cons_self ..))
    have hm : ∀ z, z ∈ insF x out ↔ z = x ∨ z ∈ out := fun z => by rw [insF_eq]; exact mem_insL x z out
    obtain ⟨h2, h3⟩ := sort_fold l (insF x out) (fun y hy => hl y (List.mem_cons_of_mem _ hy)) (fun y hy => by
      rcases (hm y).1 hy with e | e
      · subst e; exact hx
      · exact ho y e) h1 hp'.2 (fun y hy z hz => by
      rcases (hm z).1 hz with e | e
      · subst e; exact fun hh => hp'.1 y hy hh.symm
      · exact hd y (List.mem_cons_of_mem _ hy) z e)
    refine ⟨h2, fun z => ?_⟩
    rw [h3 z, hm z, List.mem_cons]
    constructor
    · rintro (h | h | h)
      · exact .inl (.inr h)
      · exact .inl (.inl h)
      · exact .inr h
    · rintro ((h | h) | h)
      · exact .inr (.inl h)
      · exact .inl h
      · exact .inr (.inr h)
theorem sortR_ok {l : List RouteD} (hl : ∀ y ∈ l, okRoute y) (hp : l.Pairwise (fun x y => key x ≠ key y)) : Sorted (sortR l) ∧ ∀ z, z ∈ sortR l ↔ z ∈ l := by
  unfold sortR sortTo
  rw [List.take_of_length_le (Nat.le_refl _)]
  obtain ⟨h1, h2⟩ := sort_fold l [] hl (by simp) (by simp [Sorted]) hp (by simp)
  exact ⟨h1, fun z => by rw [h2 z]; simp⟩
/-- What the lives keep to besides. -/
structure RefOwn (r : RefS) : Prop where
  dist : ∀ i, i < r.nl → (r.life i).own.Pairwise (fun x y => key x ≠ key y)
  from_ : ∀ i, i < r.nl → ∀ x ∈ (r.life i).own, x.from_ = (r.life i).no
  nos : ∀ i j, i < r.nl → j < r.nl → i ≠ j → (r.life i).gone = false → (r.life j).gone = false → (r.life i).no ≠ (r.life j).no
/-- May be on offer. -/
def Cand (r : RefS) (t : Nat) (x : RouteD) : Prop := ∃ u, u < r.nl ∧ x ∈ (r.life u).own ∧ offerB r t u x = true
/-- Is on offer. -/
def Best (r : RefS) (t : Nat) (x : RouteD) : Prop := Cand r t x ∧ ∀ y, Cand r t y → key y = key x → x.from_ ≤ y.from_
theorem offerB_parts {r : RefS} {t u : Nat} {x : RouteD} (h : offerB r t u x = true) : t ≠ u ∧ (r.life t).gone = false ∧ (r.life u).gone = false ∧ commonB (r.life u).gives (r.life t).takes = true ∧ letsB (r.life t).rules x = true ∧ findI (r.life t).own x < 0 := by
  unfold offerB at h
  simp only [Bool.and_eq_true, Bool.not_eq_true', decide_eq_false_iff_not, decide_eq_true_eq] at h
  obtain ⟨⟨⟨⟨⟨h1, h2⟩, h3⟩, h4⟩, h5⟩, h6⟩ := h
  exact ⟨h1, h2, h3, h4, h5, h6⟩
theorem Cand.ok {r : RefS} (htb : RefTab r) {t : Nat} {x : RouteD} (h : Cand r t x) : okRoute x := by
  obtain ⟨u, hu, hx, _⟩ := h
  exact htb.own u hu x hx
theorem own_key {r : RefS} (ho : RefOwn r) {i : Nat} (hi : i < r.nl) {x y : RouteD} (hx : x ∈ (r.life i).own) (hy : y ∈ (r.life i).own) (hk : key x = key y) : x = y := by
  have hp := ho.dist i hi
  generalize (r.life i).own = l at *
  induction l with
  | nil => simp at hx
  | cons z l ih =>
    have hp' := List.pairwise_cons.1 hp
    rcases List.mem_cons.1 hx with e1 | e1 <;> rcases List.mem_cons.1 hy with e2 | e2
    · rw [e1, e2]
    · subst e1; exact absurd hk (hp'.1 y e2)
    · subst e2; exact absurd hk.symm (hp'.1 x e1)
    · exact ih e1 e2 hp'.2
/-- One prefix, one tenant: one route. -/
theorem Cand.one {r : RefS} (ho : RefOwn r) {t : Nat} {x y : RouteD} (hx : Cand r t x) (hy : Cand r t y) (hk : key x = key y) (hf : x.from_ = y.from_) : x = y := by
  obtain ⟨u, hu, hxu, hxo⟩ := hx
  obtain ⟨v, hv, hyv, hyo⟩ := hy
  have e : u = v := by
    by_cases e : u = v
    · exact e
    · have := ho.nos u v hu hv e (offerB_parts hxo).2.2.1 (offerB_parts hyo).2.2.1
      rw [← ho.from_ u hu x hxu, ← ho.from_ v hv y hyv] at this
      exact absurd hf this
  subst e
  exact own_key ho hu hxu hyv hk
/-- The list of what is on offer. -/
def IsOff (r : RefS) (t : Nat) (off : List RouteD) : Prop := Sorted off ∧ ∀ x, x ∈ off ↔ Best r t x
theorem IsOff.uniq {r : RefS} {t : Nat} {a b : List RouteD} (ha : IsOff r t a) (hb : IsOff r t b) : a = b :=
  sorted_ext ha.1 hb.1 fun x => (ha.2 x).trans (hb.2 x).symm
theorem better_iff (x y : RouteD) : betterB x y = true ↔ x.addr < y.addr ∨ (x.addr = y.addr ∧ (x.len < y.len ∨ (x.len = y.len ∧ x.from_ < y.from_))) := by
  unfold betterB lessB sameB
  simp only [Bool.or_eq_true, Bool.and_eq_true, beq_iff_eq, decide_eq_true_eq]
  by_cases e : x.addr = y.addr
  · rw [if_pos e, decide_eq_true_eq]; omega
  · rw [if_neg e, decide_eq_true_eq]; omega
/-- The least of those of S, or none. -/
def Least (S : RouteD → Prop) (st : RouteD × Bool) : Prop := (st.2 = false → ∀ x, ¬ S x) ∧ (st.2 = true → S st.1 ∧ ∀ x, S x → betterB x st.1 ≠ true)
theorem Least.congr {S T : RouteD → Prop} {st : RouteD × Bool} (h : Least S st) (e : ∀ x, S x ↔ T x) : Least T st :=
  ⟨fun hs x hx => h.1 hs x ((e x).2 hx), fun hs => ⟨(e _).1 (h.2 hs).1, fun x hx => (h.2 hs).2 x ((e x).2 hx)⟩⟩
theorem least_fold (r : RefS) (t : Nat) (last : RouteD) (an : Bool) (u : Nat) : ∀ (l : List RouteD) (S : RouteD → Prop) (st : RouteD × Bool), Least S st → Least (fun x => S x ∨ (x ∈ l ∧ wanted r t last an u x = true)) (l.foldl (nx r t last an u) st)
  | [], S, st, h => h.congr fun x => by simp
  | y :: l, S, st, h => by
    rw [List.foldl_cons]
    have key : Least (fun x => S x ∨ (x = y ∧ wanted r t last an u x = true)) (nx r t last an u st y) := by
      unfold nx
      by_cases hw : wanted r t last an u y = true
      · rw [hw, Bool.true_and]
        cases hs : st.2 with
        | false =>
          rw [if_pos (by simp)]
          refine ⟨fun hh => by simp at hh, fun _ => ⟨.inr ⟨rfl, hw⟩, ?_⟩⟩
          rintro x (hx | ⟨rfl, _⟩)
          · exact absurd hx (h.1 hs x)
          · rw [Ne, better_iff]; simp only; omega
        | true =>
          obtain ⟨h1, h2⟩ := h.2 hs
          by_cases hb : betterB y st.1 = true
          · rw [if_pos (by simp [hb])]
            refine ⟨fun hh => by simp at hh, fun _ => ⟨.inr ⟨rfl, hw⟩, ?_⟩⟩
            rintro x (hx | ⟨rfl, _⟩)
            · have := h2 x hx
              rw [Ne, better_iff] at this ⊢
              rw [better_iff] at hb
              simp only
              omega
            · rw [Ne, better_iff]; simp only; omega
          · rw [if_neg (by simp [hb])]
            refine ⟨fun hh => by rw [hs] at hh; simp at hh, fun _ => ⟨.inl h1, ?_⟩⟩
            rintro x (hx | ⟨rfl, _⟩)
            · exact h2 x hx
            · exact hb
      · rw [if_neg (by simp [hw])]
        exact h.congr fun x => ⟨.inl, fun hx => by
          rcases hx with hx | ⟨rfl, hx⟩
          · exact hx
          · exact absurd hx hw⟩
    refine (least_fold r t last an u l _ _ key).congr fun x => ?_
    rw [List.mem_cons]
    constructor
    · rintro ((h | ⟨h, h'⟩) | ⟨h, h'⟩)
      · exact .inl h
      · exact .inr ⟨.inl h, h'⟩
      · exact .inr ⟨.inr h, h'⟩
    · rintro (h | ⟨h | h, h'⟩)
      · exact .inl (.inl h)
      · exact .inl (.inr ⟨h, h'⟩)
      · exact .inr ⟨h, h'⟩
theorem least_all (r : RefS) (t : Nat) (last : RouteD) (an : Bool) : ∀ n, Least (fun x => ∃ u, u < n ∧ x ∈ (r.life u).own ∧ wanted r t last an u x = true) (nxAll r t last an n)
  | 0 => ⟨fun _ x ⟨u, hu, _⟩ => by omega, fun h => by simp [nxAll] at h⟩
  | n + 1 => by
    unfold nxAll
    refine (least_fold r t last an n _ _ _ (least_all r t last an n)).congr fun x => ?_
    constructor
    · rintro (⟨u, h1, h2⟩ | ⟨h1, h2⟩)
      · exact ⟨u, by omega, h2⟩
      · exact ⟨n, by omega, h1, h2⟩
    · rintro ⟨u, h1, h2⟩
      by_cases e : u = n
      · subst e; exact .inr h2
      · exact .inl ⟨u, by omega, h2⟩
theorem least_next (r : RefS) (t : Nat) (last : RouteD) (an : Bool) : Least (fun x => Cand r t x ∧ (an = true ∨ lessB last x = true)) (nxAll r t last an r.nl) := by
  refine (least_all r t last an r.nl).congr fun x => ?_
  unfold Cand wanted
  simp only [Bool.and_eq_true, Bool.or_eq_true]
  constructor
  · rintro ⟨u, h1, h2, h3, h4⟩; exact ⟨⟨u, h1, h2, h3⟩, h4⟩
  · rintro ⟨⟨u, h1, h2, h3⟩, h4⟩; exact ⟨u, h1, h2, h3, h4⟩
theorem chain_ok {r : RefS} (htb : RefTab r) {t : Nat} : ∀ (l : List RouteD) (last : RouteD) (an : Bool), (an = false → okRoute last) → Chain r t (nxAll r t last an r.nl) l →
    Sorted l ∧ (∀ x ∈ l, Best r t x ∧ (an = true ∨ key last < key x)) ∧ (∀ x, Cand r t x → (an = true ∨ key last < key x) → ∃ y ∈ l, key y = key x)
  | [], last, an, hl, h => by
    have hm := (least_next r t last an).1 h
    refine ⟨by simp [Sorted], by simp, fun x hx hk => absurd ⟨hx, ?_⟩ (hm x)⟩
    cases an with
    | true => exact .inl rfl
    | false =>
      rcases hk with hk | hk
      · simp at hk
      · exact .inr ((less_key (hl rfl) (hx.ok htb)).2 hk)
  | x :: l, last, an, hl, h => by
    obtain ⟨h1, rfl, h3⟩ := h
    obtain ⟨⟨hc, hk⟩, hmin⟩ := (least_next r t last an).2 h1
    generalize (nxAll r t last an r.nl).1 = x at *
    have hxo := hc.ok htb
    obtain ⟨i1, i2, i3⟩ := chain_ok htb l x false (fun _ => hxo) h3
    have hkx : an = true ∨ key last < key x := by
      cases an with
      | true => exact .inl rfl
      | false =>
        rcases hk with hk | hk
        · simp at hk
        · exact .inr ((less_key (hl rfl) hxo).1 hk)
    have hlast : ∀ y, Cand r t y → (an = true ∨ key last < key y) → (an = true ∨ lessB last y = true) := fun y hy hh => by
      cases an with
      | true => exact .inl rfl
      | false =>
        rcases hh with hh | hh
        · simp at hh
        · exact .inr ((less_key (hl rfl) (hy.ok htb)).2 hh)
    have hnb : ∀ y, Cand r t y → (an = true ∨ key last < key y) → key x ≤ key y ∧ (key y = key x → x.from_ ≤ y.from_) := fun y hy hh => by
      have := hmin y ⟨hy, hlast y hy hh⟩
      have hyo := hy.ok htb
      rw [Ne, better_iff] at this
      have := hxo.l0; have := hxo.l1; have := hyo.l0; have := hyo.l1
      unfold key
      omega
    refine ⟨List.pairwise_cons.2 ⟨fun y hy => ?_, i1⟩, ?_, ?_⟩
    · rcases (i2 y hy).2 with hh | hh
      · simp at hh
      · exact hh
    · intro y hy
      rcases List.mem_cons.1 hy with e | e
      · subst e
        refine ⟨⟨hc, fun z hz hkz => ?_⟩, hkx⟩
        exact (hnb z hz (by rcases hkx with h | h; exact .inl h; exact .inr (by omega))).2 hkz
      · obtain ⟨b1, b2⟩ := i2 y e
        refine ⟨b1, ?_⟩
        rcases b2 with b2 | b2
        · simp at b2
        · rcases hkx with h | h
          · exact .inl h
          · exact .inr (by omega)
    · intro y hy hh
      obtain ⟨n1, _⟩ := hnb y hy hh
      by_cases e : key y = key x
      · exact ⟨x, List.mem_cons_self .., e.symm⟩
      · obtain ⟨z, hz, hzk⟩ := i3 y hy (.inr (by omega))
        exact ⟨z, List.mem_cons_of_mem _ hz, hzk⟩
/-- The document's list is the list of what is on offer. -/
theorem chain_off {r : RefS} (htb : RefTab r) (ho : RefOwn r) {t : Nat} {l : List RouteD} (h : Chain r t (nxAll r t rt0 true r.nl) l) : IsOff r t l := by
  obtain ⟨h1, h2, h3⟩ := chain_ok htb l rt0 true (fun hh => by simp at hh) h
  refine ⟨h1, fun x => ⟨fun hx => (h2 x hx).1, fun hx => ?_⟩⟩
  obtain ⟨y, hy, hk⟩ := h3 x hx.1 (.inl rfl)
  have hyb := (h2 y hy).1
  have e : y = x := Cand.one ho hyb.1 hx.1 hk (by
    have := hyb.2 x hx.1 hk.symm
    have := hx.2 y hyb.1 hk
    omega)
  rw [← e]
  exact hy
/-- All that may be on offer. -/
def cands (r : RefS) (t : Nat) : List RouteD := (List.range r.nl).flatMap fun u => (r.life u).own.filter fun x => offerB r t u x
def bests (r : RefS) (t : Nat) : List RouteD := (cands r t).filter fun x => (cands r t).all fun y => !(decide (key y = key x)) || decide (x.from_ ≤ y.from_)
theorem mem_cands (r : RefS) (t : Nat) (x : RouteD) : x ∈ cands r t ↔ Cand r t x := by
  unfold cands Cand
  rw [List.mem_flatMap]
  constructor
  · rintro ⟨u, hu, hx⟩
    rw [List.mem_filter] at hx
    exact ⟨u, List.mem_range.1 hu, hx.1, hx.2⟩
  · rintro ⟨u, hu, hx, h⟩
    exact ⟨u, List.mem_range.2 hu, List.mem_filter.2 ⟨hx, h⟩⟩
theorem mem_bests (r : RefS) (t : Nat) (x : RouteD) : x ∈ bests r t ↔ Best r t x := by
  unfold bests Best
  rw [List.mem_filter, mem_cands, List.all_eq_true]
  refine and_congr_right fun _ => ⟨fun h y hy hk => ?_, fun h y hy => ?_⟩
  · have := h y ((mem_cands r t y).2 hy)
    simpa [hk] using this
  · by_cases hk : key y = key x
    · simp [hk, h y ((mem_cands r t y).1 hy) hk]
    · simp [hk]
theorem own_nodup {r : RefS} (ho : RefOwn r) {i : Nat} (hi : i < r.nl) : (r.life i).own.Nodup := (ho.dist i hi).imp fun h e => h (by rw [e])
theorem cands_nodup {r : RefS} (ho : RefOwn r) (t : Nat) : (cands r t).Nodup := by
  unfold cands List.Nodup
  rw [List.pairwise_flatMap]
  refine ⟨fun u hu => (own_nodup ho (List.mem_range.1 hu)).sublist List.filter_sublist, ?_⟩
  refine (List.nodup_range (n := r.nl)).imp_of_mem ?_
  intro u v hu hv hne x hx y hy e
  subst e
  rw [List.mem_filter] at hx hy
  have := ho.nos u v (List.mem_range.1 hu) (List.mem_range.1 hv) hne (offerB_parts hx.2).2.2.1 (offerB_parts hy.2).2.2.1
  rw [← ho.from_ u (List.mem_range.1 hu) x hx.1, ← ho.from_ v (List.mem_range.1 hv) x hy.1] at this
  exact this rfl
theorem bests_pair {r : RefS} (ho : RefOwn r) (t : Nat) : (bests r t).Pairwise fun x y => key x ≠ key y := by
  have hn : (bests r t).Nodup := (cands_nodup ho t).sublist List.filter_sublist
  refine List.Pairwise.imp_of_mem ?_ hn
  intro x y hx hy hne hk
  have bx := (mem_bests r t x).1 hx
  have by_ := (mem_bests r t y).1 hy
  refine hne (Cand.one ho bx.1 by_.1 hk ?_)
  have := bx.2 y by_.1 hk.symm
  have := by_.2 x bx.1 hk
  omega
/-- What is on offer to t, in order. -/
def offF (r : RefS) (t : Nat) : List RouteD := sortR (bests r t)
theorem offF_is {r : RefS} (htb : RefTab r) (ho : RefOwn r) (t : Nat) : IsOff r t (offF r t) := by
  obtain ⟨h1, h2⟩ := sortR_ok (l := bests r t) (fun y hy => ((mem_bests r t y).1 hy).1.ok htb) (bests_pair ho t)
  exact ⟨h1, fun x => (h2 x).trans (mem_bests r t x)⟩
theorem chain_is {r : RefS} (htb : RefTab r) (ho : RefOwn r) {t : Nat} {l : List RouteD} (h : Chain r t (nxAll r t rt0 true r.nl) l) : l = offF r t :=
  (chain_off htb ho h).uniq (offF_is htb ho t)
/-- The table of t. -/
def tabF (r : RefS) (t : Nat) : List RouteD := tableR (r.life t) (offF r t)
def takenF (r : RefS) (t : Nat) : List RouteD := (offF r t).take (spare (r.life t))
theorem findI_neg {l : List RouteD} (hl : ∀ y ∈ l, okRoute y) {x : RouteD} (hx : okRoute x) (h : findI l x < 0) : ∀ y ∈ l, key y ≠ key x := by
  intro y hy hk
  unfold findI at h
  cases hf : l.findIdx? (fun z => sameB z x) with
  | some i => rw [hf] at h; simp only at h; omega
  | none =>
    rw [List.findIdx?_eq_none_iff] at hf
    have := hf y hy
    rw [(same_key (hl y hy) hx).2 hk] at this
    simp at this
theorem tab_parts {r : RefS} (htb : RefTab r) (ho : RefOwn r) {t : Nat} (ht : t < r.nl) : (∀ y ∈ (r.life t).own ++ takenF r t, okRoute y) ∧ ((r.life t).own ++ takenF r t).Pairwise (fun x y => key x ≠ key y) := by
  have hoff := offF_is htb ho t
  have hmem : ∀ y, y ∈ takenF r t → Best r t y := fun y hy => (hoff.2 y).1 (List.mem_of_mem_take hy)
  refine ⟨fun y hy => ?_, ?_⟩
  · rcases List.mem_append.1 hy with h | h
    · exact htb.own t ht y h
    · exact (hmem y h).1.ok htb
  · refine List.pairwise_append.2 ⟨ho.dist t ht, ?_, fun x hx y hy => ?_⟩
    · exact List.Pairwise.imp (fun h e => by omega) (List.Pairwise.sublist (List.take_sublist _ _) hoff.1)
    · have hb := hmem y hy
      obtain ⟨u, _, _, hof⟩ := hb.1
      exact findI_neg (fun z hz => htb.own t ht z hz) (hb.1.ok htb) (offerB_parts hof).2.2.2.2.2 x hx
/-- The table: who is in it, and its order. -/
theorem tabF_is {r : RefS} (htb : RefTab r) (ho : RefOwn r) {t : Nat} (ht : t < r.nl) : Sorted (tabF r t) ∧ ∀ x, x ∈ tabF r t ↔ x ∈ (r.life t).own ∨ x ∈ takenF r t := by
  obtain ⟨h1, h2⟩ := tab_parts htb ho ht
  obtain ⟨h3, h4⟩ := sortR_ok h1 h2
  exact ⟨h3, fun x => by
    have := h4 x
    rw [List.mem_append] at this
    exact this⟩
structure RefOk (r : RefS) : Prop where
  wf : RefWf r
  tab : RefTab r
  own : RefOwn r
section
variable {r : RefS}
/-- One life turns. -/
theorem RefOk.setLife (h : RefOk r) {l : Nat} (hl : l < r.nl) (L : Life) (h1 : L.no = (r.life l).no) (h2 : L.quota = (r.life l).quota) (h3 : 0 ≤ L.gives ∧ L.gives ≤ 255) (h4 : 0 ≤ L.takes ∧ L.takes ≤ 255)
    (h5 : ∀ u ∈ L.rules, okRule u) (h6 : L.rules.length ≤ 4) (h7 : ∀ x ∈ L.own, okRoute x) (h8 : (L.own.length : Int) ≤ L.quota) (h9 : L.own.Pairwise (fun x y => key x ≠ key y)) (h10 : ∀ x ∈ L.own, x.from_ = L.no)
    (h11 : L.gone = false → (r.life l).gone = false) : RefOk { r with life := upd r.life l L } := by
  have key : ∀ {P : Nat → Life → Prop}, (∀ i, i < r.nl → P i (r.life i)) → P l L → ∀ i, i < r.nl → P i (upd r.life l L i) := fun ho hn i hi => by
    by_cases e : i = l
    · subst e; rw [upd_same]; exact hn
    · rw [upd_other _ _ e]; exact ho i hi
  refine ⟨⟨h.wf.nt, h.wf.nl, h.wf.room, ?_, ?_, h.wf.life, h.wf.rights, h.wf.line, h.wf.lineLen⟩, ⟨?_, ?_, ?_, ?_, ?_, ?_⟩, ⟨?_, ?_, ?_⟩⟩
  · exact key (P := fun _ L => 1 ≤ L.quota ∧ L.quota ≤ 64) h.wf.quota (by rw [h2]; exact h.wf.quota l hl)
  · exact key (P := fun _ L => 0 ≤ L.no ∧ L.no < 8) h.wf.no (by rw [h1]; exact h.wf.no l hl)
  · exact key (P := fun _ L => 0 ≤ L.gives ∧ L.gives ≤ 255) h.tab.gives h3
  · exact key (P := fun _ L => 0 ≤ L.takes ∧ L.takes ≤ 255) h.tab.takes h4
  · exact key (P := fun _ L => ∀ u ∈ L.rules, okRule u) h.tab.rules h5
  · exact key (P := fun _ L => L.rules.length ≤ 4) h.tab.rulesN h6
  · exact key (P := fun _ L => ∀ x ∈ L.own, okRoute x) h.tab.own h7
  · exact key (P := fun _ L => (L.own.length : Int) ≤ L.quota) h.tab.ownN h8
  · exact key (P := fun _ L => L.own.Pairwise (fun x y => Go.Proofs.Ytgndledehlilkab.key x ≠ Go.Proofs.Ytgndledehlilkab.key y)) h.own.dist h9
  · exact key (P := fun _ L => ∀ x ∈ L.own, x.from_ = L.no) h.own.from_ h10
  · intro i j hi hj hne
    show (upd r.life l L i).gone = false → (upd r.life l L j).gone = false → (upd r.life l L i).no ≠ (upd r.life l L j).no
    by_cases e : i = l
    · subst e
      rw [upd_same, upd_other _ _ (Ne.symm hne), h1]
      exact fun a b => h.own.nos i j hi hj hne (h11 a) b
    · rw [upd_other _ _ e]
      by_cases e2 : j = l
      · subst e2
        rw [upd_same, h1]
        exact fun a b => h.own.nos i j hi hj hne a (h11 b)
      · rw [upd_other _ _ e2]
        exact h.own.nos i j hi hj hne
theorem may_life (h : RefOk r) {n right : Int} (hm : mayI r n right = 0) : lifeOf r n < r.nl := by
  obtain ⟨_, h1, h2⟩ := mayI_zero hm
  exact h.wf.life _ (by omega)
theorem okMask_iff (g : Int) : okMask g = true ↔ 0 ≤ g ∧ g ≤ 255 := by unfold okMask; exact decide_eq_true_iff
theorem isPfx_ok {addr len : Int} (h : isPfx addr len = true) : 0 ≤ addr ∧ addr ≤ 65535 ∧ 0 ≤ len ∧ len ≤ 16 := by
  unfold isPfx at h
  rw [Bool.and_eq_true, decide_eq_true_iff] at h
  exact h.1
theorem RefOk.shared (h : RefOk r) (n gives takes : Int) : RefOk (sharedR r n gives takes) := by
  unfold sharedR
  split
  · rename_i h0
    unfold shareR at h0
    split at h0
    · rename_i hm
      split at h0
      · rename_i hok
        rw [Bool.and_eq_true, okMask_iff, okMask_iff] at hok
        have hl := may_life h hm
        exact h.setLife hl _ rfl rfl hok.1 hok.2 (h.tab.rules _ hl) (h.tab.rulesN _ hl) (h.tab.own _ hl) (h.tab.ownN _ hl) (h.own.dist _ hl) (h.own.from_ _ hl) (fun a => a)
      · omega
    · rename_i hm; exact absurd h0 hm
  · exact h
theorem ruleB_ok {u : RuleD} (h : ruleB u = true) : okRule u := by
  unfold ruleB at h
  simp only [Bool.and_eq_true] at h
  obtain ⟨a, b, c, d⟩ := isPfx_ok h.1.1.1
  exact ⟨a, b, c, d⟩
theorem RefOk.filtered (h : RefOk r) (n : Int) (R : List RuleD) : RefOk (filteredR r n R) := by
  unfold filteredR
  split
  · rename_i h0
    unfold filterR at h0
    split at h0
    · rename_i hm
      split at h0
      · rename_i hok
        unfold filterOk at hok
        rw [Bool.and_eq_true, decide_eq_true_iff, List.all_eq_true] at hok
        have hl := may_life h hm
        exact h.setLife hl _ rfl rfl (h.tab.gives _ hl) (h.tab.takes _ hl) (fun u hu => ruleB_ok (hok.2 u hu)) hok.1 (h.tab.own _ hl) (h.tab.ownN _ hl) (h.own.dist _ hl) (h.own.from_ _ hl) (fun a => a)
      · omega
    · rename_i hm; exact absurd h0 hm
  · exact h
theorem pair_eraseIdx {R : RouteD → RouteD → Prop} {l : List RouteD} (h : l.Pairwise R) (i : Nat) : (l.eraseIdx i).Pairwise R := h.sublist (List.eraseIdx_sublist _ _)
theorem RefOk.removed (h : RefOk r) (n addr len : Int) : RefOk (removedR r n addr len) := by
  unfold removedR
  split
  · rename_i h0
    unfold removeR at h0
    split at h0
    · rename_i hm
      have hl := may_life h hm
      have hsub : List.Sublist (remOwn (r.life (lifeOf r n)).own (pfxRoute addr len)) (r.life (lifeOf r n)).own := List.eraseIdx_sublist _ _
      have hlen := hsub.length_le
      have h1 := h.tab.ownN _ hl
      exact h.setLife hl _ rfl rfl (h.tab.gives _ hl) (h.tab.takes _ hl) (h.tab.rules _ hl) (h.tab.rulesN _ hl) (fun x hx => h.tab.own _ hl x (hsub.subset hx)) (by show ((remOwn (r.life (lifeOf r n)).own (pfxRoute addr len)).length : Int) ≤ (r.life (lifeOf r n)).quota; omega) ((h.own.dist _ hl).sublist hsub) (fun x hx => h.own.from_ _ hl x (hsub.subset hx)) (fun a => a)
    · rename_i hm; exact absurd h0 hm
  · exact h
theorem findI_ge {l : List RouteD} {x : RouteD} (h : 0 ≤ findI l x) : (findI l x).toNat < l.length ∧ sameB (l.getD (findI l x).toNat rt0) x = true := by
  rcases findI_cases l x with ⟨i, hi, hfi, hs⟩ | ⟨hfi, _⟩
  · rw [hfi, Int.toNat_natCast]; exact ⟨hi, hs⟩
  · omega
theorem newRoute_ok (h : RefOk r) {n addr len hop : Int} (hm : mayI r n 2 = 0) (hok : (isPfx addr len && okMask hop) = true) : okRoute (newRoute r n addr len hop) := by
  rw [Bool.and_eq_true, okMask_iff] at hok
  obtain ⟨a, b, c, d⟩ := isPfx_ok hok.1
  have hno := h.wf.no _ (may_life h hm)
  exact ⟨a, b, c, d, hok.2.1, hok.2.2, hno.1, hno.2, isPfx_mod hok.1⟩
theorem pair_get {l : List RouteD} (h : l.Pairwise (fun x y => key x ≠ key y)) {i j : Nat} (hi : i < l.length) (hj : j < l.length) (hne : i ≠ j) : key l[i] ≠ key l[j] := by
  have := List.pairwise_iff_getElem.1 h
  rcases Nat.lt_or_ge i j with hlt | hge
  · exact this i j hi hj hlt
  · exact fun e => this j i hj hi (by omega) e.symm
theorem RefOk.inserted (h : RefOk r) (n addr len hop : Int) : RefOk (insertedR r n addr len hop) := by
  unfold insertedR
  split
  · rename_i h0
    unfold insertR at h0
    split at h0
    · rename_i hm
      split at h0
      · rename_i hok
        have hl := may_life h hm
        have hx := newRoute_ok h hm hok
        have hfx : (newRoute r n addr len hop).from_ = (r.life (lifeOf r n)).no := rfl
        generalize newRoute r n addr len hop = x at *
        have hown := h.tab.own _ hl
        have hN := h.tab.ownN _ hl
        have hd := h.own.dist _ hl
        have hfr := h.own.from_ _ hl
        by_cases hf : 0 ≤ findI (r.life (lifeOf r n)).own x
        · obtain ⟨f1, f2⟩ := findI_ge hf
          have e : insOwn (r.life (lifeOf r n)).own x = (r.life (lifeOf r n)).own.set (findI (r.life (lifeOf r n)).own x).toNat x := by unfold insOwn; rw [if_pos hf]
          rw [e]
          generalize (findI (r.life (lifeOf r n)).own x).toNat = i at *
          have hg : (r.life (lifeOf r n)).own.getD i rt0 = (r.life (lifeOf r n)).own[i] := by simp [List.getD_eq_getElem?_getD, f1]
          rw [hg] at f2
          have hk := (same_key (hown _ (List.getElem_mem f1)) hx).1 f2
          refine h.setLife hl _ rfl rfl (h.tab.gives _ hl) (h.tab.takes _ hl) (h.tab.rules _ hl) (h.tab.rulesN _ hl) ?_ ?_ ?_ ?_ (fun a => a)
          · intro y hy
            rcases List.mem_or_eq_of_mem_set hy with e | e
            · exact hown y e
            · subst e; exact hx
          · show ((((r.life (lifeOf r n)).own.set i x).length : Nat) : Int) ≤ _
            rw [List.length_set]; exact hN
          · show ((r.life (lifeOf r n)).own.set i x).Pairwise _
            rw [List.pairwise_iff_getElem]
            intro a b ha hb hab
            rw [List.length_set] at ha hb
            have hp := pair_get hd ha hb (by omega)
            rw [List.getElem_set, List.getElem_set]
            by_cases ea : i = a
            · rw [if_pos ea, if_neg (by omega)]
              subst ea
              rw [← hk]; exact hp
            · rw [if_neg ea]
              by_cases eb : i = b
              · rw [if_pos eb]
                subst eb
                rw [← hk]; exact hp
              · rw [if_neg eb]; exact hp
          · intro y hy
            rcases List.mem_or_eq_of_mem_set hy with e | e
            · exact hfr y e
            · subst e; exact hfx
        · have e : insOwn (r.life (lifeOf r n)).own x = (r.life (lifeOf r n)).own ++ [x] := by unfold insOwn; rw [if_neg hf]
          rw [e]
          unfold insIn at h0
          rw [if_neg hf] at h0
          have hq : ¬ (r.life (lifeOf r n)).quota ≤ ((r.life (lifeOf r n)).own.length : Int) := fun hh => by rw [if_pos hh] at h0; omega
          have hnk := findI_neg hown hx (by omega)
          refine h.setLife hl _ rfl rfl (h.tab.gives _ hl) (h.tab.takes _ hl) (h.tab.rules _ hl) (h.tab.rulesN _ hl) ?_ ?_ ?_ ?_ (fun a => a)
          · intro y hy
            rcases List.mem_append.1 hy with e | e
            · exact hown y e
            · rw [List.mem_singleton] at e; subst e; exact hx
          · show ((((r.life (lifeOf r n)).own ++ [x]).length : Nat) : Int) ≤ (r.life (lifeOf r n)).quota
            rw [List.length_append]; simp; omega
          · refine List.pairwise_append.2 ⟨hd, by simp, fun y hy z hz => ?_⟩
            rw [List.mem_singleton] at hz; subst hz
            exact hnk y hy
          · intro y hy
            rcases List.mem_append.1 hy with e | e
            · exact hfr y e
            · rw [List.mem_singleton] at e; subst e; exact hfx
      · omega
    · rename_i hm; exact absurd h0 hm
  · exact h
theorem RefOk.dropS (h : RefOk r) {i : Nat} (hi : i < r.nl) : RefOk (dropS r i) := by
  have hq := h.wf.quota i hi
  refine h.setLife hi _ rfl rfl (h.tab.gives _ hi) (h.tab.takes _ hi) (h.tab.rules _ hi) (h.tab.rulesN _ hi) ?_ ?_ ?_ ?_ ?_
  · intro x hx; cases hx
  · show ((0 : Nat) : Int) ≤ (r.life i).quota
    omega
  · exact List.Pairwise.nil
  · intro x hx; cases hx
  · intro hh; simp at hh
theorem RefOk.revokeS (h : RefOk r) {j : Nat} (_hj : j < r.nt) : RefOk (revokeS r j) := by
  refine ⟨⟨h.wf.nt, h.wf.nl, h.wf.room, h.wf.quota, h.wf.no, ?_, ?_, ?_, ?_⟩, ⟨h.tab.gives, h.tab.takes, h.tab.rules, h.tab.rulesN, h.tab.own, h.tab.ownN⟩, ⟨h.own.dist, h.own.from_, h.own.nos⟩⟩
  · intro k hk
    show (upd r.tok j _ k).life < r.nl
    by_cases e : k = j
    · subst e; rw [upd_same]; exact h.wf.life k hk
    · rw [upd_other _ _ e]; exact h.wf.life k hk
  · intro k hk
    show 0 ≤ (upd r.tok j _ k).rights ∧ (upd r.tok j _ k).rights ≤ 15
    by_cases e : k = j
    · subst e; rw [upd_same]; exact h.wf.rights k hk
    · rw [upd_other _ _ e]; exact h.wf.rights k hk
  · intro k hk
    show ∀ n ∈ (upd r.tok j _ k).line, 1 ≤ n ∧ n ≤ k
    by_cases e : k = j
    · subst e; rw [upd_same]; exact h.wf.line k hk
    · rw [upd_other _ _ e]; exact h.wf.line k hk
  · intro k hk
    show (upd r.tok j _ k).line.length ≤ k
    by_cases e : k = j
    · subst e; rw [upd_same]; exact h.wf.lineLen k hk
    · rw [upd_other _ _ e]; exact h.wf.lineLen k hk
theorem RefOk.deriveS (h : RefOk r) {k : Nat} (hk : k < r.nt) {rights : Int} (h0 : 0 ≤ rights) (h1 : rights ≤ 15) (h100 : r.nt < 100) : RefOk (deriveS r k rights) := by
  have hnl := h.wf.nl
  refine ⟨⟨by show r.nt + 1 ≤ 100; omega, by show r.nl ≤ r.nt + 1; omega, h.wf.room, h.wf.quota, h.wf.no, ?_, ?_, ?_, ?_⟩, ⟨h.tab.gives, h.tab.takes, h.tab.rules, h.tab.rulesN, h.tab.own, h.tab.ownN⟩, ⟨h.own.dist, h.own.from_, h.own.nos⟩⟩
  · intro m hm
    have hm' : m < r.nt + 1 := hm
    show (upd r.tok r.nt _ m).life < r.nl
    by_cases e : m = r.nt
    · subst e; rw [upd_same]; exact h.wf.life k hk
    · rw [upd_other _ _ e]; exact h.wf.life m (by omega)
  · intro m hm
    have hm' : m < r.nt + 1 := hm
    show 0 ≤ (upd r.tok r.nt _ m).rights ∧ (upd r.tok r.nt _ m).rights ≤ 15
    by_cases e : m = r.nt
    · subst e; rw [upd_same]; exact ⟨h0, h1⟩
    · rw [upd_other _ _ e]; exact h.wf.rights m (by omega)
  · intro m hm
    have hm' : m < r.nt + 1 := hm
    show ∀ n ∈ (upd r.tok r.nt _ m).line, 1 ≤ n ∧ n ≤ m
    by_cases e : m = r.nt
    · subst e; rw [upd_same]
      intro n hn
      rcases List.mem_append.1 hn with hn | hn
      · have := h.wf.line k hk n hn; omega
      · rw [List.mem_singleton] at hn; omega
    · rw [upd_other _ _ e]; exact h.wf.line m (by omega)
  · intro m hm
    have hm' : m < r.nt + 1 := hm
    show (upd r.tok r.nt _ m).line.length ≤ m
    by_cases e : m = r.nt
    · subst e; rw [upd_same]
      have := h.wf.lineLen k hk
      simp; omega
    · rw [upd_other _ _ e]; exact h.wf.lineLen m (by omega)
theorem RefOk.createS (h : RefOk r) {no : Nat} (hno : no < 8) (hfree : freeR r no) {quota : Int} (hq1 : 1 ≤ quota) (hq2 : quota ≤ 64) (h100 : r.nt < 100) : RefOk (createS r no quota) := by
  have hnl := h.wf.nl
  have key : ∀ {P : Life → Prop}, (∀ i, i < r.nl → P (r.life i)) → P ⟨no, quota, 0, 0, [], [], false⟩ → ∀ i, i < r.nl + 1 → P (upd r.life r.nl ⟨no, quota, 0, 0, [], [], false⟩ i) := fun ho hn i hi => by
    by_cases e : i = r.nl
    · subst e; rw [upd_same]; exact hn
    · rw [upd_other _ _ e]; exact ho i (by omega)
  refine ⟨⟨by show r.nt + 1 ≤ 100; omega, by show r.nl + 1 ≤ r.nt + 1; omega, h.wf.room, ?_, ?_, ?_, ?_, ?_, ?_⟩, ⟨?_, ?_, ?_, ?_, ?_, ?_⟩, ⟨?_, ?_, ?_⟩⟩
  · exact key (P := fun L => 1 ≤ L.quota ∧ L.quota ≤ 64) h.wf.quota ⟨hq1, hq2⟩
  · exact key (P := fun L => 0 ≤ L.no ∧ L.no < 8) h.wf.no ⟨by show (0 : Int) ≤ (no : Int); omega, by show (no : Int) < 8; omega⟩
  · intro m hm
    have hm' : m < r.nt + 1 := hm
    show (upd r.tok r.nt _ m).life < r.nl + 1
    by_cases e : m = r.nt
    · subst e; rw [upd_same]; show r.nl < r.nl + 1; omega
    · rw [upd_other _ _ e]; have := h.wf.life m (by omega); omega
  · intro m hm
    have hm' : m < r.nt + 1 := hm
    show 0 ≤ (upd r.tok r.nt _ m).rights ∧ (upd r.tok r.nt _ m).rights ≤ 15
    by_cases e : m = r.nt
    · subst e; rw [upd_same]; show (0 : Int) ≤ 15 ∧ (15 : Int) ≤ 15; omega
    · rw [upd_other _ _ e]; exact h.wf.rights m (by omega)
  · intro m hm
    have hm' : m < r.nt + 1 := hm
    show ∀ n ∈ (upd r.tok r.nt _ m).line, 1 ≤ n ∧ n ≤ m
    by_cases e : m = r.nt
    · subst e; rw [upd_same]; intro n hn; cases hn
    · rw [upd_other _ _ e]; exact h.wf.line m (by omega)
  · intro m hm
    have hm' : m < r.nt + 1 := hm
    show (upd r.tok r.nt _ m).line.length ≤ m
    by_cases e : m = r.nt
    · subst e; rw [upd_same]; exact Nat.zero_le _
    · rw [upd_other _ _ e]; exact h.wf.lineLen m (by omega)
  · exact key (P := fun L => 0 ≤ L.gives ∧ L.gives ≤ 255) h.tab.gives ⟨by show (0 : Int) ≤ 0; omega, by show (0 : Int) ≤ 255; omega⟩
  · exact key (P := fun L => 0 ≤ L.takes ∧ L.takes ≤ 255) h.tab.takes ⟨by show (0 : Int) ≤ 0; omega, by show (0 : Int) ≤ 255; omega⟩
  · exact key (P := fun L => ∀ u ∈ L.rules, okRule u) h.tab.rules (fun u hu => by cases hu)
  · exact key (P := fun L => L.rules.length ≤ 4) h.tab.rulesN (Nat.zero_le _)
  · exact key (P := fun L => ∀ x ∈ L.own, okRoute x) h.tab.own (fun u hu => by cases hu)
  · exact key (P := fun L => (L.own.length : Int) ≤ L.quota) h.tab.ownN (by show ((0 : Nat) : Int) ≤ quota; omega)
  · exact key (P := fun L => L.own.Pairwise (fun x y => Go.Proofs.Ytgndledehlilkab.key x ≠ Go.Proofs.Ytgndledehlilkab.key y)) h.own.dist List.Pairwise.nil
  · exact key (P := fun L => ∀ x ∈ L.own, x.from_ = L.no) h.own.from_ (fun u hu => by cases hu)
  · intro i j hi hj hne
    have hi' : i < r.nl + 1 := hi
    have hj' : j < r.nl + 1 := hj
    show (upd r.life r.nl _ i).gone = false → (upd r.life r.nl _ j).gone = false → (upd r.life r.nl _ i).no ≠ (upd r.life r.nl _ j).no
    by_cases e : i = r.nl
    · subst e
      rw [upd_same, upd_other _ _ (Ne.symm hne)]
      intro _ hg
      rcases hfree j (by omega) with hh | hh
      · rw [hh] at hg; simp at hg
      · exact fun e => hh e.symm
    · rw [upd_other _ _ e]
      by_cases e2 : j = r.nl
      · subst e2
        rw [upd_same]
        intro hg _
        rcases hfree i (by omega) with hh | hh
        · rw [hh] at hg; simp at hg
        · exact hh
      · rw [upd_other _ _ e2]
        exact h.own.nos i j (by omega) (by omega) hne
end
/-- Has a tenant the number? -/
def usedB (r : RefS) (no : Int) : Bool := (List.range r.nl).any fun i => !(r.life i).gone && decide ((r.life i).no = no)
theorem usedB_false {r : RefS} {no : Int} : usedB r no = false ↔ freeR r no := by
  unfold usedB freeR
  rw [List.any_eq_false]
  constructor
  · intro h i hi
    have := h i (List.mem_range.2 hi)
    cases hg : (r.life i).gone with
    | true => exact .inl rfl
    | false =>
      right
      intro e
      simp [hg, e] at this
  · intro h i hi
    rcases h i (List.mem_range.1 hi) with e | e
    · simp [e]
    · simp [e]
theorem usedB_true {r : RefS} {no : Int} : usedB r no = true ↔ ∃ i, i < r.nl ∧ (r.life i).gone = false ∧ (r.life i).no = no := by
  unfold usedB
  rw [List.any_eq_true]
  constructor
  · rintro ⟨i, hi, h⟩
    simp only [Bool.and_eq_true, Bool.not_eq_true', decide_eq_true_eq] at h
    exact ⟨i, List.mem_range.1 hi, h.1, h.2⟩
  · rintro ⟨i, hi, h1, h2⟩
    exact ⟨i, List.mem_range.2 hi, by simp [h1, h2]⟩
/-- The least number that no tenant has, of 0 to 8. -/
def freeNo (r : RefS) : Nat := ((List.range 8).find? fun j => !usedB r (j : Nat)).getD 8
theorem freeNo_is {r : RefS} {no : Nat} (h1 : no ≤ 8) (h2 : freeR r no) (h3 : ∀ j, j < no → ¬ freeR r (j : Nat)) : no = freeNo r := by
  unfold freeNo
  by_cases h8 : no < 8
  · have : (List.range 8).find? (fun j => !usedB r (j : Nat)) = some no := by
      rw [List.find?_eq_some_iff_getElem]
      refine ⟨by simp [usedB_false.2 h2], no, by simpa using h8, by simp, fun j hj => ?_⟩
      have hu : usedB r (j : Nat) = true := by
        cases hu : usedB r (j : Nat) with
        | true => rfl
        | false => exact absurd (usedB_false.1 hu) (h3 j hj)
      simp [hu]
    rw [this]
    rfl
  · have e : no = 8 := by omega
    subst e
    have : (List.range 8).find? (fun j => !usedB r (j : Nat)) = none := by
      rw [List.find?_eq_none]
      intro j hj
      have hu : usedB r (j : Nat) = true := by
        cases hu : usedB r (j : Nat) with
        | true => rfl
        | false => exact absurd (usedB_false.1 hu) (h3 j (List.mem_range.1 hj))
      simp [hu]
    rw [this]
    rfl
/-- Pigeons. -/
def usedTo (r : RefS) (n : Nat) (j : Nat) : Int := if ∃ i, i < n ∧ (r.life i).gone = false ∧ (r.life i).no = (j : Int) then 1 else 0
def sumN (f : Nat → Int) : Nat → Int
  | 0 => 0
  | n + 1 => sumN f n + f n
theorem sumN_le {f g : Nat → Int} {n : Nat} (h : ∀ i, i < n → f i ≤ g i) : sumN f n ≤ sumN g n := by
  induction n with
  | zero => exact Int.le_refl _
  | succ n ih =>
    have := ih (fun i hi => h i (by omega))
    have := h n (by omega)
    simp only [sumN]; omega
theorem sumN_add (f g : Nat → Int) (n : Nat) : sumN (fun i => f i + g i) n = sumN f n + sumN g n := by
  induction n with
  | zero => rfl
  | succ n ih => simp only [sumN]; omega
theorem sumN_one (a : Int) (n : Nat) : sumN (fun j => if a = (j : Int) then 1 else 0) n ≤ if 0 ≤ a ∧ a < n then 1 else 0 := by
  induction n with
  | zero => simp only [sumN]; split <;> omega
  | succ n ih =>
    simp only [sumN]
    by_cases e : a = (n : Int)
    · rw [if_pos e]
      rw [if_neg (by omega)] at ih
      rw [if_pos (by omega)]
      omega
    · rw [if_neg e]
      by_cases hb : 0 ≤ a ∧ a < (n : Int)
      · rw [if_pos hb] at ih; rw [if_pos (by omega)]; omega
      · rw [if_neg hb] at ih; rw [if_neg (by omega)]; omega
theorem used_count (r : RefS) (n : Nat) : sumN (usedTo r n) 8 ≤ (liveCount r n : Int) := by
  induction n with
  | zero =>
    have : sumN (usedTo r 0) 8 ≤ sumN (fun _ => 0) 8 := sumN_le fun j _ => by unfold usedTo; rw [if_neg (fun ⟨i, hi, _⟩ => by omega)]; exact Int.le_refl _
    exact Int.le_trans this (by show (0 : Int) ≤ ((0 : Nat) : Int); omega)
  | succ n ih =>
    cases hg : (r.life n).gone with
    | true =>
      have e : liveCount r (n + 1) = liveCount r n := by simp [liveCount, hg]
      rw [e]
      refine Int.le_trans (sumN_le fun j _ => ?_) ih
      unfold usedTo
      by_cases hu : ∃ i, i < n + 1 ∧ (r.life i).gone = false ∧ (r.life i).no = (j : Int)
      · obtain ⟨i, h1, h2, h3⟩ := hu
        have hne : i ≠ n := fun e => by subst e; rw [hg] at h2; simp at h2
        rw [if_pos ⟨i, h1, h2, h3⟩, if_pos ⟨i, by omega, h2, h3⟩]
        exact Int.le_refl _
      · rw [if_neg hu]; split <;> omega
    | false =>
      have e : (liveCount r (n + 1) : Int) = liveCount r n + 1 := by simp [liveCount, hg]
      rw [e]
      have h1 : sumN (usedTo r (n + 1)) 8 ≤ sumN (fun j => usedTo r n j + (if (r.life n).no = (j : Int) then 1 else 0)) 8 := sumN_le fun j _ => by
        unfold usedTo
        by_cases hu : ∃ i, i < n + 1 ∧ (r.life i).gone = false ∧ (r.life i).no = (j : Int)
        · obtain ⟨i, h1, h2, h3⟩ := hu
          rw [if_pos ⟨i, h1, h2, h3⟩]
          by_cases e : i = n
          · subst e; rw [if_pos h3]; split <;> omega
          · rw [if_pos ⟨i, by omega, h2, h3⟩]; split <;> omega
        · rw [if_neg hu]; split <;> split <;> omega
      rw [sumN_add] at h1
      have h2 := sumN_one (r.life n).no 8
      split at h2 <;> omega
theorem freeNo_lt {r : RefS} (hc : liveCount r r.nl < 8) : freeNo r < 8 := by
  rcases Nat.lt_or_ge (freeNo r) 8 with h | h
  · exact h
  · exfalso
    have hall : ∀ j, j < 8 → usedB r (j : Nat) = true := by
      intro j hj
      unfold freeNo at h
      cases hf : (List.range 8).find? (fun j => !usedB r (j : Nat)) with
      | some k =>
        rw [hf] at h
        have := List.mem_of_find?_eq_some hf
        rw [List.mem_range] at this
        simp at h
        omega
      | none =>
        rw [List.find?_eq_none] at hf
        have := hf j (List.mem_range.2 hj)
        simpa using this
    have h1 : sumN (fun _ => 1) 8 ≤ sumN (usedTo r r.nl) 8 := sumN_le fun j hj => by
      unfold usedTo
      rw [if_pos (usedB_true.1 (hall j hj))]
      exact Int.le_refl _
    have h2 := used_count r r.nl
    have h3 : sumN (fun _ => 1) 8 = 8 := by decide
    omega
theorem freeNo_free {r : RefS} (h : freeNo r < 8) : freeR r (freeNo r : Nat) := by
  unfold freeNo at h ⊢
  cases hf : (List.range 8).find? (fun j => !usedB r (j : Nat)) with
  | none => rw [hf] at h; simp at h
  | some k =>
    have := List.find?_some hf
    rw [Option.getD_some]
    exact usedB_false.1 (by simpa using this)
theorem createR_zero {r : RefS} {quota : Int} (h : createR r quota = 0) : 1 ≤ quota ∧ quota ≤ 64 ∧ liveCount r r.nl < 8 ∧ quota + liveSum r r.nl ≤ r.room ∧ r.nt < 100 := by
  unfold createR at h
  split at h
  · omega
  · split at h
    · omega
    · split at h
      · omega
      · split at h
        · omega
        · omega
def createdR (r : RefS) (quota : Int) : RefS := if createR r quota = 0 then createS r (freeNo r) quota else r
def createA (r : RefS) (quota : Int) : Int × Int := if createR r quota = 0 then ((freeNo r : Int), (r.nt : Int) + 1) else (0, 0)
theorem RefOk.created {r : RefS} (h : RefOk r) (quota : Int) : RefOk (createdR r quota) := by
  unfold createdR
  split
  · rename_i h0
    obtain ⟨h1, h2, h3, h4, h5⟩ := createR_zero h0
    exact h.createS (freeNo_lt h3) (freeNo_free (freeNo_lt h3)) h1 h2 h5
  · exact h
/-- The life of a tenant. -/
def lifeNo (r : RefS) (no : Int) : Nat := ((List.range r.nl).find? fun i => !(r.life i).gone && decide ((r.life i).no = no)).getD 0
theorem lifeNo_is {r : RefS} (ho : RefOwn r) {i : Nat} (hi : i < r.nl) (hg : (r.life i).gone = false) : lifeNo r (r.life i).no = i := by
  unfold lifeNo
  have : (List.range r.nl).find? (fun k => !(r.life k).gone && decide ((r.life k).no = (r.life i).no)) = some i := by
    rw [List.find?_eq_some_iff_getElem]
    refine ⟨by simp [hg], i, by simpa using hi, by simp, fun j hj => ?_⟩
    rw [List.getElem_range]
    cases hgj : (r.life j).gone with
    | true => simp
    | false =>
      have := ho.nos j i (by omega) hi (by omega) hgj hg
      simp [this]
  rw [this]
  rfl
def dropR (r : RefS) (no : Int) : Int := if usedB r no = true then 0 else 5
def droppedS (r : RefS) (no : Int) : RefS := if usedB r no = true then dropS r (lifeNo r no) else r
theorem RefOk.dropped {r : RefS} (h : RefOk r) (no : Int) : RefOk (droppedS r no) := by
  unfold droppedS
  split
  · rename_i hu
    obtain ⟨i, hi, hg, rfl⟩ := usedB_true.1 hu
    rw [lifeNo_is h.own hi hg]
    exact h.dropS hi
  · exact h
def derivedR (r : RefS) (n rights : Int) : RefS := if deriveR r n rights = 0 then deriveS r (n - 1).toNat rights else r
def deriveA (r : RefS) (n rights : Int) : Int := if deriveR r n rights = 0 then (r.nt : Int) + 1 else 0
theorem deriveR_zero {r : RefS} {n rights : Int} (h : deriveR r n rights = 0) : aliveI r n = true ∧ 1 ≤ n ∧ n ≤ r.nt ∧ 0 ≤ rights ∧ rights ≤ 15 ∧ r.nt < 100 := by
  unfold deriveR at h
  split at h
  · rename_i ha
    have hb := aliveI_bounds ha
    split at h
    · omega
    · split at h
      · omega
      · split at h
        · omega
        · exact ⟨ha, hb.1, hb.2.1, by omega, by omega, by omega⟩
  · omega
theorem RefOk.derived {r : RefS} (h : RefOk r) (n rights : Int) : RefOk (derivedR r n rights) := by
  unfold derivedR
  split
  · rename_i h0
    obtain ⟨_, h1, h2, h3, h4, h5⟩ := deriveR_zero h0
    exact h.deriveS (by omega) h3 h4 h5
  · exact h
theorem revokeR_bounds {r : RefS} {t which : Int} (h : revokeR r t which = 0) : 1 ≤ which ∧ which ≤ r.nt := by
  unfold revokeR at h
  split at h
  · split at h
    · assumption
    · omega
  · omega
theorem RefOk.revoked {r : RefS} (h : RefOk r) (n which : Int) : RefOk (revokedR r n which) := by
  unfold revokedR
  split
  · rename_i h0
    have := revokeR_bounds h0
    exact h.revokeS (by omega)
  · exact h
theorem RefOk.new {room : Int} (h1 : 1 ≤ room) (h2 : room ≤ 64) (lf : Nat → Life) (tk : Nat → Tok) : RefOk ⟨room, 0, lf, 0, tk⟩ := by
  refine ⟨⟨by show 0 ≤ 100; omega, Nat.le_refl _, ⟨h1, h2⟩, ?_, ?_, ?_, ?_, ?_, ?_⟩, ⟨?_, ?_, ?_, ?_, ?_, ?_⟩, ⟨?_, ?_, ?_⟩⟩
  all_goals first | (intro i hi; exact absurd hi (Nat.not_lt_zero _)) | (intro i j hi; exact absurd hi (Nat.not_lt_zero _))
section
variable {w : World} {O : Nat → Nat × Nat × Nat} {e b : Nat} {r : RefS}
/-- Table's list. -/
def tableL (r : RefS) (n : Int) : List RouteD := if mayI r n 1 = 0 then tabF r (lifeOf r n) else []
/-- Count's sums. -/
structure SumsD where
  own : Int
  taken : Int
  dropped : Int
  quota : Int
def countF (r : RefS) (n : Int) : SumsD :=
  if mayI r n 1 = 0 then ⟨(r.life (lifeOf r n)).own.length, (takenF r (lifeOf r n)).length, droppedR (r.life (lifeOf r n)) (offF r (lifeOf r n)), (r.life (lifeOf r n)).quota⟩ else ⟨0, 0, 0, 0⟩
end
/-- Is it an address? -/
def okAddr (a : Int) : Bool := decide (0 ≤ a ∧ a ≤ 65535)
theorem okAddr_iff (a : Int) : okAddr a = true ↔ 0 ≤ a ∧ a ≤ 65535 := by unfold okAddr; rw [decide_eq_true_eq]
/-- Does a route contain an address? -/
def inB (a : Int) (x : RouteD) : Bool := containsB x.addr x.len a
/-- The last route of a table that contains an address. -/
def longL (l : List RouteD) (a : Int) : Option RouteD := l.reverse.find? (inB a)
def longA (l : List RouteD) (a : Int) : RouteD := (longL l a).getD rt0
def longE (l : List RouteD) (a : Int) : Int := if (longL l a).isSome = true then 0 else 9
def leadsL (l : List RouteD) (a : Int) : Bool := l.any fun x => x.hop != 0 && inB a x
def lookR (r : RefS) (n a : Int) : Int := if mayI r n 1 = 0 then (if okAddr a = true then longE (tableL r n) a else 2) else mayI r n 1
def lookA (r : RefS) (n a : Int) : RouteD := if mayI r n 1 = 0 then (if okAddr a = true then longA (tableL r n) a else rt0) else rt0
def passR (r : RefS) (n a hop : Int) : Int := if mayI r n 1 = 0 then (if (okAddr a && okMask hop) = true then 0 else 2) else mayI r n 1
def passB (l : List RouteD) (a hop : Int) (strict : Bool) : Bool := if strict = true then hop != 0 && (longA l a).hop == hop else leadsL l a
def passA (r : RefS) (n a hop : Int) (strict : Bool) : Bool := if mayI r n 1 = 0 then (if (okAddr a && okMask hop) = true then passB (tableL r n) a hop strict else false) else false
end Go.Proofs.Ytgndledehlilkab
