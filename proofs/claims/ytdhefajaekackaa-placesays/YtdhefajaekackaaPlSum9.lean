/- Several texts of one proof, in their order. -/
import Derived.Test.YtdhefajaekackaaPlSum8
import Derived.Test.YtdhefajaekackaaPlSum7
import Derived.Test.YtdhefajaekackaaPlSum6

/- Chapter 8 in plain words: peers, checked; who gets a share. -/
namespace Go.Proofs.Ytdhefajaekackaa

open Go.RowKit
set_option linter.unusedVariables false

/-- peers: who is there, how much room there is, how many are kept, and which -/
structure Ps where
  th : Nat → Bool
  rm : Nat → Int
  m : Nat → Nat
  t : Nat → Kt

/-- the slice value v, of n peers, lies below block B of the world w -/
def PsSl (w : World) (B : Nat) (v : Value) (n : Nat) (KV : Nat → Value) (UV : Nat → Nat → Value) (P : Ps) : Prop :=
  ∃ (ad : Option Addr) (cap : Nat), v = .slice ad n cap ∧ (n ≤ cap ∧ n * 40 ≤ 140737488351232) ∧ (n = 0 ∨ ∃ bl off, ad = some ⟨bl, off, none⟩ ∧ bl < B ∧ ∀ j, j < n →
    w.cell? ⟨bl, off + j * 3, none⟩ = some (.bool (P.th j)) ∧ w.cell? ⟨bl, off + j * 3 + 1, none⟩ = some (.int .i64 (P.rm j)) ∧ w.cell? ⟨bl, off + j * 3 + 2, none⟩ = some (KV j) ∧ KeSl w B (KV j) (P.m j) (UV j) (P.t j))

section

variable {w w' : World} {B B' : Nat} {v : Value} {n : Nat} {KV : Nat → Value} {UV : Nat → Nat → Value} {P : Ps}

theorem PsSl.below (h : PsSl w B v n KV UV P) (hb : Below B w w') : PsSl w' B v n KV UV P := by
  obtain ⟨ad, cap, h1, h0, h2⟩ := h
  refine ⟨ad, cap, h1, h0, ?_⟩
  rcases h2 with h2 | ⟨bl, off, h3, h4, h5⟩
  · exact Or.inl h2
  · refine Or.inr ⟨bl, off, h3, h4, fun j hj => ?_⟩
    obtain ⟨g1, g2, g3, g4⟩ := h5 j hj
    exact ⟨by rw [hb.cell h4]; exact g1, by rw [hb.cell h4]; exact g2, by rw [hb.cell h4]; exact g3, g4.below hb⟩

theorem PsSl.mono (h : PsSl w B v n KV UV P) (hb : B ≤ B') : PsSl w B' v n KV UV P := by
  obtain ⟨ad, cap, h1, h0, h2⟩ := h
  refine ⟨ad, cap, h1, h0, ?_⟩
  rcases h2 with h2 | ⟨bl, off, h3, h4, h5⟩
  · exact Or.inl h2
  · refine Or.inr ⟨bl, off, h3, by omega, fun j hj => ?_⟩
    obtain ⟨g1, g2, g3, g4⟩ := h5 j hj
    exact ⟨g1, g2, g3, g4.mono hb⟩

theorem PsSl.up (h : PsSl w w.heap.size v n KV UV P) (hb : Below w.heap.size w w') : PsSl w' w'.heap.size v n KV UV P := (h.below hb).mono hb.size

/-- one of the peers -/
theorem PsSl.at {a : Option Addr} {c : Nat} (h : PsSl w B (.slice a n c) n KV UV P) {i : Nat} (hi : i < n) :
    ∃ bl off, a = some ⟨bl, off, none⟩ ∧ bl < B ∧ w.cell? ⟨bl, off + i * 3, none⟩ = some (.bool (P.th i)) ∧ w.cell? ⟨bl, off + i * 3 + 1, none⟩ = some (.int .i64 (P.rm i)) ∧ w.cell? ⟨bl, off + i * 3 + 2, none⟩ = some (KV i) ∧ KeSl w B (KV i) (P.m i) (UV i) (P.t i) := by
  obtain ⟨ad, cap, he, _, h2⟩ := h
  injection he with e1 _ e3
  subst e1 e3
  rcases h2 with h2 | ⟨bl, off, rfl, h4, h5⟩
  · omega
  · obtain ⟨g1, g2, g3, g4⟩ := h5 i hi
    exact ⟨bl, off, rfl, h4, g1, g2, g3, g4⟩

end

/-- peers from number k on, f of them: the first error -/
def scanP (n : Nat) (b : Bk) (P : Ps) : Nat → Nat → Int
  | 0, _ => 0
  | f + 1, k => if peerE n b (P.rm k) (P.m k) (P.t k) = 0 then scanP n b P f (k + 1) else peerE n b (P.rm k) (P.m k) (P.t k)
/-- the peers' error -/
def peersE (n : Nat) (b : Bk) (np : Nat) (P : Ps) : Int := if bookE n b = 0 then (if np ≤ 8 then scanP n b P np 0 else 1) else bookE n b

/-- how much room is left -/
def leftK (P : Ps) (k : Nat) : Int := P.rm k - (P.m k : Int)
/-- is nothing of this version kept? -/
def noneK (P : Ps) (ver : Int) (k : Nat) : Bool := decide (fstAt (P.t k).V ver (P.m k) 0 < 0)
/-- might it get a share, with so much room left? -/
def fitK (P : Ps) (ver left : Int) (k : Nat) : Bool := P.th k && (decide (leftK P k = left) && noneK P ver k)
/-- those that might, from so much room left down to 1 -/
def lefts (P : Ps) (ver : Int) (np : Nat) : Nat → List Int
  | 0 => []
  | r + 1 => pickL (fitK P ver ((r + 1 : Nat) : Int)) np ++ lefts P ver np r
/-- all that might, the most room first -/
def orderL (P : Ps) (ver : Int) (np : Nat) : List Int := lefts P ver np 20
/-- what keeps it from being told, of right peers -/
def manyE (P : Ps) (ver : Int) (np : Nat) (many : Int) : Int := if 0 ≤ many ∧ many ≤ 8 then (if ((orderL P ver np).length : Int) < many then 7 else 0) else 2
/-- who gets a share -/
def forL (P : Ps) (ver : Int) (np : Nat) (many : Int) : List Int := if manyE P ver np many = 0 then (orderL P ver np).take many.toNat else []
/-- what keeps it from being told -/
def forE (n : Nat) (b : Bk) (P : Ps) (ver : Int) (np : Nat) (many : Int) : Int := if peersE n b np P = 0 then manyE P ver np many else peersE n b np P

theorem scanP_ok {n : Nat} {b : Bk} {P : Ps} : ∀ f k, scanP n b P f k = 0 → ∀ j, k ≤ j → j < k + f → peerE n b (P.rm j) (P.m j) (P.t j) = 0 := by
  intro f
  induction f with
  | zero => intro k _ j h1 h2; omega
  | succ f ih =>
    intro k h j h1 h2
    simp only [scanP] at h
    by_cases c : peerE n b (P.rm k) (P.m k) (P.t k) = 0
    · rw [if_pos c] at h
      by_cases e : j = k
      · subst e; exact c
      · exact ih (k + 1) h j (by omega) (by omega)
    · rw [if_neg c] at h; exact absurd h c

/-- right peers -/
structure RightP (n : Nat) (b : Bk) (np : Nat) (P : Ps) : Prop where
  book : bookE n b = 0
  le : np ≤ 8
  each : ∀ k, k < np → peerE n b (P.rm k) (P.m k) (P.t k) = 0

theorem rightP_of {n : Nat} {b : Bk} {np : Nat} {P : Ps} (h : peersE n b np P = 0) : RightP n b np P := by
  unfold peersE at h
  by_cases h1 : bookE n b = 0
  · rw [if_pos h1] at h
    by_cases h2 : np ≤ 8
    · rw [if_pos h2] at h
      exact ⟨h1, h2, fun k hk => scanP_ok np 0 h k (Nat.zero_le _) (by omega)⟩
    · rw [if_neg h2] at h; omega
  · rw [if_neg h1] at h; exact absurd h h1

/-- what is right of a peer's room -/
theorem peerE_room {n : Nat} {b : Bk} {room : Int} {m : Nat} {t : Kt} (h : peerE n b room m t = 0) : (0 ≤ room ∧ room ≤ 20) ∧ (m : Int) ≤ room := by
  unfold peerE at h
  by_cases h1 : bookE n b = 0
  · rw [if_pos h1] at h
    by_cases h2 : 0 ≤ room ∧ room ≤ 20
    · rw [if_pos h2] at h
      by_cases h3 : (m : Int) ≤ room
      · exact ⟨h2, h3⟩
      · rw [if_neg h3] at h; omega
    · rw [if_neg h2] at h; omega
  · rw [if_neg h1] at h; exact absurd h h1

theorem RightP.room {n : Nat} {b : Bk} {np : Nat} {P : Ps} (h : RightP n b np P) {k : Nat} (hk : k < np) : (0 ≤ P.rm k ∧ P.rm k ≤ 20) ∧ (P.m k : Int) ≤ P.rm k := peerE_room (h.each k hk)

theorem lefts_len (P : Ps) (ver : Int) (np r : Nat) : (lefts P ver np r).length ≤ r * np := by
  induction r with
  | zero => simp [lefts]
  | succ r ih =>
    have := pickL_len (fitK P ver ((r + 1 : Nat) : Int)) np
    simp only [lefts, List.length_append]
    rw [Nat.succ_mul]
    omega

end Go.Proofs.Ytdhefajaekackaa

/- The family that the closed facts of chapter 7 on speak of. -/
namespace Go.Proofs.Ytdhefajaekackaa

open Go.RowKit
set_option linter.unusedVariables false

/-- the family -/
def famB : Bk := ⟨fun j => [0, 1, 1, 2, 1].getD j 0, fun j i => ([[], [0], [0], [1, 2], [2]].getD j []).getD i 0, fun _ => 1, fun _ => 1, fun _ => 1⟩

theorem heap_if (w : World) (o : Obj) (i : Nat) : (w.alloc o).heap[i]? = if i = w.heap.size then some o else w.heap[i]? := by
  simp only [World.alloc, Array.getElem?_push]

/-- the lists of parents, as values -/
def famP (s j : Nat) : Value := [.slice none 0 0, .slice (some ⟨s + 1 + 1, 0, none⟩) 1 1, .slice (some ⟨s + 1 + 1 + 1, 0, none⟩) 1 1, .slice (some ⟨s + 1 + 1 + 1 + 1, 0, none⟩) 2 2, .slice (some ⟨s + 1 + 1 + 1 + 1 + 1, 0, none⟩) 1 1].getD j undef

/-- the family's memory -/
def famW (w : World) : World :=
  ((((((w.alloc (.cells #[.slice (some ⟨w.heap.size + 1 + 1 + 1 + 1 + 1 + 1, 0, none⟩) 5 5] 24)).alloc (.cells #[.int .i64 1, .int .i64 1, .int .i64 1] 27)).alloc (.cells #[.int .i64 0] 3)).alloc (.cells #[.int .i64 0] 3)).alloc (.cells #[.int .i64 1, .int .i64 2] 3)).alloc (.cells #[.int .i64 2] 3)).alloc
    (.cells #[.slice none 0 0, .int .i64 1, .int .i64 1, .int .i64 1, .slice (some ⟨w.heap.size + 1 + 1, 0, none⟩) 1 1, .int .i64 1, .int .i64 1, .int .i64 1, .slice (some ⟨w.heap.size + 1 + 1 + 1, 0, none⟩) 1 1, .int .i64 1, .int .i64 1, .int .i64 1, .slice (some ⟨w.heap.size + 1 + 1 + 1 + 1, 0, none⟩) 2 2, .int .i64 1, .int .i64 1, .int .i64 1, .slice (some ⟨w.heap.size + 1 + 1 + 1 + 1 + 1, 0, none⟩) 1 1, .int .i64 1, .int .i64 1, .int .i64 1] 29)

theorem famW_below (w : World) : Below w.heap.size w (famW w) := by
  unfold famW
  refine ((((((Below.refl w.heap.size w).alloc (Nat.le_refl _) _).alloc ?_ _).alloc ?_ _).alloc ?_ _).alloc ?_ _).alloc ?_ _ |>.alloc ?_ _ <;> simp <;> omega

theorem famW_at (w : World) : (famW w).heap[w.heap.size]? = some (.cells #[.slice (some ⟨w.heap.size + 1 + 1 + 1 + 1 + 1 + 1, 0, none⟩) 5 5] 24 (0, 0)) ∧
    (famW w).heap[w.heap.size + 1 + 1]? = some (.cells #[.int .i64 0] 3 (0, 0)) ∧ (famW w).heap[w.heap.size + 1 + 1 + 1]? = some (.cells #[.int .i64 0] 3 (0, 0)) ∧
    (famW w).heap[w.heap.size + 1 + 1 + 1 + 1]? = some (.cells #[.int .i64 1, .int .i64 2] 3 (0, 0)) ∧ (famW w).heap[w.heap.size + 1 + 1 + 1 + 1 + 1]? = some (.cells #[.int .i64 2] 3 (0, 0)) ∧
    (famW w).heap[w.heap.size + 1 + 1 + 1 + 1 + 1 + 1]? = some (.cells #[.slice none 0 0, .int .i64 1, .int .i64 1, .int .i64 1, .slice (some ⟨w.heap.size + 1 + 1, 0, none⟩) 1 1, .int .i64 1, .int .i64 1, .int .i64 1, .slice (some ⟨w.heap.size + 1 + 1 + 1, 0, none⟩) 1 1, .int .i64 1, .int .i64 1, .int .i64 1, .slice (some ⟨w.heap.size + 1 + 1 + 1 + 1, 0, none⟩) 2 2, .int .i64 1, .int .i64 1, .int .i64 1, .slice (some ⟨w.heap.size + 1 + 1 + 1 + 1 + 1, 0, none⟩) 1 1, .int .i64 1, .int .i64 1, .int .i64 1] 29 (0, 0)) := by
  unfold famW
  refine ⟨?_, ?_, ?_, ?_, ?_, ?_⟩
  · rw [heap_if, if_neg (by simp <;> omega), heap_if, if_neg (by simp <;> omega), heap_if, if_neg (by simp <;> omega), heap_if, if_neg (by simp <;> omega), heap_if, if_neg (by simp <;> omega), heap_if, if_neg (by simp <;> omega), heap_if, if_pos (by simp)]
  · rw [heap_if, if_neg (by simp <;> omega), heap_if, if_neg (by simp <;> omega), heap_if, if_neg (by simp <;> omega), heap_if, if_neg (by simp <;> omega), heap_if, if_pos (by simp)]
  · rw [heap_if, if_neg (by simp <;> omega), heap_if, if_neg (by simp <;> omega), heap_if, if_neg (by simp <;> omega), heap_if, if_pos (by simp)]
  · rw [heap_if, if_neg (by simp <;> omega), heap_if, if_neg (by simp <;> omega), heap_if, if_pos (by simp)]
  · rw [heap_if, if_neg (by simp <;> omega), heap_if, if_pos (by simp)]
  · rw [heap_if, if_pos (by simp)]

theorem isl_lit1 {w : World} {g : Nat} {x : Int} {T : TypeId} (h : w.heap[g]? = some (.cells #[.int .i64 x] T (0, 0))) : IntSl w w.heap.size (.slice (some ⟨g, 0, none⟩) 1 1) 1 (fun i => [x].getD i 0) :=
  intSl_lit (l := [x]) h rfl (Array.getElem?_eq_some_iff.1 h).1 (by simp)

theorem isl_lit2 {w : World} {g : Nat} {x y : Int} {T : TypeId} (h : w.heap[g]? = some (.cells #[.int .i64 x, .int .i64 y] T (0, 0))) : IntSl w w.heap.size (.slice (some ⟨g, 0, none⟩) 2 2) 2 (fun i => [x, y].getD i 0) :=
  intSl_lit (l := [x, y]) h rfl (Array.getElem?_eq_some_iff.1 h).1 (by simp)

theorem famW_ve (w : World) : VeSl (famW w) (famW w).heap.size (.slice (some ⟨w.heap.size + 1 + 1 + 1 + 1 + 1 + 1, 0, none⟩) 5 5) 5 (famP w.heap.size) famB := by
  obtain ⟨h0, h1, h2, h3, h4, h5⟩ := famW_at w
  refine ⟨_, _, rfl, ⟨Nat.le_refl _, by omega⟩, Or.inr ⟨_, 0, rfl, (Array.getElem?_eq_some_iff.1 h5).1, fun j hj => ?_⟩⟩
  match j, hj with
  | 0, _ => exact ⟨cell_at h5 rfl, cell_at h5 rfl, cell_at h5 rfl, cell_at h5 rfl, none, 0, rfl, ⟨Nat.le_refl _, by decide⟩, Or.inl rfl⟩
  | 1, _ => exact ⟨cell_at h5 rfl, cell_at h5 rfl, cell_at h5 rfl, cell_at h5 rfl, isl_lit1 h1⟩
  | 2, _ => exact ⟨cell_at h5 rfl, cell_at h5 rfl, cell_at h5 rfl, cell_at h5 rfl, isl_lit1 h2⟩
  | 3, _ => exact ⟨cell_at h5 rfl, cell_at h5 rfl, cell_at h5 rfl, cell_at h5 rfl, isl_lit2 h3⟩
  | 4, _ => exact ⟨cell_at h5 rfl, cell_at h5 rfl, cell_at h5 rfl, cell_at h5 rfl, isl_lit1 h4⟩

set_option maxHeartbeats 1000000 in
theorem family_any (w : World) : Calls Try.prog 60 #[] w fun e w' => Below w.heap.size w w' ∧ ∃ bl PV, e = .returned (bookV (.slice (some ⟨bl, 0, none⟩) 5 5)) ∧ VeSl w' w'.heap.size (.slice (some ⟨bl, 0, none⟩) 5 5) 5 PV famB := by
  go_enter Try.func60, Try.ntmps60
  go_wp2
  refine bodyPost_ret (results_cell_row rfl _ (famW w) w.heap.size 24 #[.slice (some ⟨w.heap.size + 1 + 1 + 1 + 1 + 1 + 1, 0, none⟩) 5 5] (0, 0) _ rfl (famW_at w).1 Try.underlying24 rfl (by kernel_rfl)) rfl ?_
  exact ⟨famW_below w, _, _, rfl, famW_ve w⟩

end Go.Proofs.Ytdhefajaekackaa

/- Three cells of a block, written anew; the kept one of the closed facts. -/
namespace Go.Proofs.Ytdhefajaekackaa

open Go.RowKit
set_option linter.unusedVariables false

def put3 (w : World) (g : Nat) (u0 u1 u2 : Value) : World := ((w.setCell ⟨g, 0, none⟩ u0).setCell ⟨g, 1, none⟩ u1).setCell ⟨g, 2, none⟩ u2

theorem put3_whole {w : World} {g : Nat} {T : TypeId} {v0 v1 v2 : Value} (h : w.heap[g]? = some (.cells #[v0, v1, v2] T (0, 0))) (u0 u1 u2 : Value) : (put3 w g u0 u1 u2).heap[g]? = some (.cells #[u0, u1, u2] T (0, 0)) := by
  simp [put3, World.setCell, Array.getElem?_modify, h]

theorem put3_below {B : Nat} {w w5 : World} {g : Nat} {u0 u1 u2 : Value} (hb : Below B w w5) (hg : B ≤ g) : Below B w (put3 w5 g u0 u1 u2) :=
  ((hb.setCell (p := ⟨g, 0, none⟩) hg _).setCell (p := ⟨g, 1, none⟩) hg _).setCell (p := ⟨g, 2, none⟩) hg _

theorem put3_other {w5 : World} {g k : Nat} {u0 u1 u2 : Value} (h : k ≠ g) : (put3 w5 g u0 u1 u2).heap[k]? = w5.heap[k]? := by
  unfold put3
  rw [Below.heap_setCell _ _ _ _ h, Below.heap_setCell _ _ _ _ h, Below.heap_setCell _ _ _ _ h]

/-- the kept one of the closed facts -/
theorem keptOf_any (ver : Int) (w : World) : Calls Try.prog 85 #[.int .i64 ver] w fun e w' => Below w.heap.size w w' ∧ ∃ uv, e = .returned (keptV ver 0 uv) ∧ IntSl w' w'.heap.size uv 1 (fun i => [(7 : Int)].getD i 0) := by
  go_enter Try.func85, Try.ntmps85
  have hb := ((Below.refl w.heap.size w).alloc (Nat.le_refl _) (.cells #[.int .i64 0, .int .i64 0, .slice none 0 0] 62)).alloc (by simp) (.cells #[.int .i64 7] 3)
  have k1 := heap_two_old w (.cells #[.int .i64 0, .int .i64 0, .slice none 0 0] 62) (.cells #[.int .i64 7] 3)
  have k2 := heap_two_new w (.cells #[.int .i64 0, .int .i64 0, .slice none 0 0] 62) (.cells #[.int .i64 7] 3)
  obtain ⟨W, hW⟩ : ∃ W, (w.alloc (.cells #[.int .i64 0, .int .i64 0, .slice none 0 0] 62)).alloc (.cells #[.int .i64 7] 3) = W := ⟨_, rfl⟩
  rw [hW] at hb k1 k2
  obtain ⟨r1, r2, r3⟩ := three_at k1
  have f1 := frozen_at (i := 0) k1
  have f2 := frozen_at (i := 1) k1
  have f3 := frozen_at (i := 2) k1
  have HB := hid hb
  have K1 := hid k1
  have K2 := hid k2
  clear hb k1 k2
  go_wp2
  refine bodyPost_ret (results_cell_row rfl _ _ w.heap.size 62 #[.int .i64 ver, .int .i64 0, .slice (some ⟨w.heap.size + 1, 0, none⟩) 1 1] (0, 0) _ rfl (put3_whole K1.out _ _ _) Try.underlying62 rfl (by kernel_rfl)) rfl ?_
  have hB : Below w.heap.size w (put3 W w.heap.size (.int .i64 ver) (.int .i64 0) (.slice (some ⟨w.heap.size + 1, 0, none⟩) 1 1)) := put3_below HB.out (Nat.le_refl _)
  refine ⟨hB, _, rfl, isl_lit1 (T := 3) ?_⟩
  show (put3 W w.heap.size (.int .i64 ver) (.int .i64 0) (.slice (some ⟨w.heap.size + 1, 0, none⟩) 1 1)).heap[w.heap.size + 1]? = _
  rw [put3_other (by omega)]
  exact K2.out

theorem drewK_below (w : World) (k : Nat) : Below w.heap.size w (w.drewN k) := ⟨rfl, rfl, rfl, Nat.le_refl _, fun _ _ => rfl⟩

theorem stayB {w w' : World} {g : Nat} {o : Obj} (h : w.heap[g]? = some o) (hb : Below w.heap.size w w') : w'.heap[g]? = some o := by
  rw [hb.block _ (Array.getElem?_eq_some_iff.1 h).1]; exact h

end Go.Proofs.Ytdhefajaekackaa
