/- Chapter 8 in plain words: peers, checked; who gets a share. -/
import Derived.Test.YtmefjflponcfhaePeerRef
import Derived.Test.YtmefjflponcfhaeBookMath
namespace Go.Proofs.Ytmefjflponcfhae
open Go.RowKit
set_option linter.unusedVariables false

/-- peers: who is there, how much room there is, how many are kept, and which -/
structure Ps where
  th : Nat → Bool
  rm : Nat → Int
  m : Nat → Nat
  t : Nat → Kt

/-- the slice value v, of n peers, lies below block B of the world w -/
def PsSl (w : World) (B : Nat) (v : Value) (n : Nat) (KV : Nat → Value) (UV : Nat → Nat → Value) (P : Ps) : Prop :=
  ∃ (ad : Option Addr) (cap : Nat), v = .slice ad n cap ∧ (n ≤ cap ∧ n * 40 ≤ 140737488351232) ∧ (n = 0 ∨ ∃ bl off, ad = some ⟨bl, off, none⟩ ∧ bl < B ∧ ∀ j, j < n →
    w.cell? ⟨bl, off + j * 3, none⟩ = some (.bool (P.th j)) ∧ w.cell? ⟨bl, off + j * 3 + 1, none⟩ = some (.int .i64 (P.rm j)) ∧ w.cell? ⟨bl, off + j * 3 + 2, none⟩ = some (KV j) ∧ KeSl w B (KV j) (P.m j) (UV j) (P.t j))

section
variable {w w' : World} {B B' : Nat} {v : Value} {n : Nat} {KV : Nat → Value} {UV : Nat → Nat → Value} {P : Ps}

theorem PsSl.below (h : PsSl w B v n KV UV P) (hb : Below B w w') : PsSl w' B v n KV UV P := by
  obtain ⟨ad, cap, h1, h0, h2⟩ := h
  refine ⟨ad, cap, h1, h0, ?_⟩
  rcases h2 with h2 | ⟨bl, off, h3, h4, h5⟩
  · exact Or.inl h2
  · refine Or.inr ⟨bl, off, h3, h4, fun j hj => ?_⟩
    obtain ⟨g1, g2, g3, g4⟩ := h5 j hj
    exact ⟨by rw [hb.cell h4]; exact g1, by rw [hb.cell h4]; exact g2, by rw [hb.cell h4]; exact g3, g4.below hb⟩

theorem PsSl.mono (h : PsSl w B v n KV UV P) (hb : B ≤ B') : PsSl w B' v n KV UV P := by
  obtain ⟨ad, cap, h1, h0, h2⟩ := h
  refine ⟨ad, cap, h1, h0, ?_⟩
  rcases h2 with h2 | ⟨bl, off, h3, h4, h5⟩
  · exact Or.inl h2
  · refine Or.inr ⟨bl, off, h3, by omega, fun j hj => ?_⟩
    obtain ⟨g1, g2, g3, g4⟩ := h5 j hj
    exact ⟨g1, g2, g3, g4.mono hb⟩

theorem PsSl.up (h : PsSl w w.heap.size v n KV UV P) (hb : Below w.heap.size w w') : PsSl w' w'.heap.size v n KV UV P := (h.below hb).mono hb.size

/-- one of the peers -/
theorem PsSl.at {a : Option Addr} {c : Nat} (h : PsSl w B (.slice a n c) n KV UV P) {i : Nat} (hi : i < n) :
    ∃ bl off, a = some ⟨bl, off, none⟩ ∧ bl < B ∧ w.cell? ⟨bl, off + i * 3, none⟩ = some (.bool (P.th i)) ∧ w.cell? ⟨bl, off + i * 3 + 1, none⟩ = some (.int .i64 (P.rm i)) ∧ w.cell? ⟨bl, off + i * 3 + 2, none⟩ = some (KV i) ∧ KeSl w B (KV i) (P.m i) (UV i) (P.t i) := by
  obtain ⟨ad, cap, he, _, h2⟩ := h
  injection he with e1 _ e3
  subst e1 e3
  rcases h2 with h2 | ⟨bl, off, rfl, h4, h5⟩
  · omega
  · obtain ⟨g1, g2, g3, g4⟩ := h5 i hi
    exact ⟨bl, off, rfl, h4, g1, g2, g3, g4⟩
end

/-- peers from number k on, f of them: the first error -/
def scanP (n : Nat) (b : Bk) (P : Ps) : Nat → Nat → Int
  | 0, _ => 0
  | f + 1, k => if peerE n b (P.rm k) (P.m k) (P.t k) = 0 then scanP n b P f (k + 1) else peerE n b (P.rm k) (P.m k) (P.t k)
/-- the peers' error -/
def peersE (n : Nat) (b : Bk) (np : Nat) (P : Ps) : Int := if bookE n b = 0 then (if np ≤ 8 then scanP n b P np 0 else 1) else bookE n b

/-- how much room is left -/
def leftK (P : Ps) (k : Nat) : Int := P.rm k - (P.m k : Int)
/-- is nothing of this version kept? -/
def noneK (P : Ps) (ver : Int) (k : Nat) : Bool := decide (fstAt (P.t k).V ver (P.m k) 0 < 0)
/-- might it get a share, with so much room left? -/
def fitK (P : Ps) (ver left : Int) (k : Nat) : Bool := P.th k && (decide (leftK P k = left) && noneK P ver k)
/-- those that might, from so much room left down to 1 -/
def lefts (P : Ps) (ver : Int) (np : Nat) : Nat → List Int
  | 0 => []
  | r + 1 => pickL (fitK P ver ((r + 1 : Nat) : Int)) np ++ lefts P ver np r
/-- all that might, the most room first -/
def orderL (P : Ps) (ver : Int) (np : Nat) : List Int := lefts P ver np 20
/-- what keeps it from being told, of right peers -/
def manyE (P : Ps) (ver : Int) (np : Nat) (many : Int) : Int := if 0 ≤ many ∧ many ≤ 8 then (if ((orderL P ver np).length : Int) < many then 7 else 0) else 2
/-- who gets a share -/
def forL (P : Ps) (ver : Int) (np : Nat) (many : Int) : List Int := if manyE P ver np many = 0 then (orderL P ver np).take many.toNat else []
/-- what keeps it from being told -/
def forE (n : Nat) (b : Bk) (P : Ps) (ver : Int) (np : Nat) (many : Int) : Int := if peersE n b np P = 0 then manyE P ver np many else peersE n b np P

theorem scanP_ok {n : Nat} {b : Bk} {P : Ps} : ∀ f k, scanP n b P f k = 0 → ∀ j, k ≤ j → j < k + f → peerE n b (P.rm j) (P.m j) (P.t j) = 0 := by
  intro f
  induction f with
  | zero => intro k _ j h1 h2; omega
  | succ f ih =>
    intro k h j h1 h2
    simp only [scanP] at h
    by_cases c : peerE n b (P.rm k) (P.m k) (P.t k) = 0
    · rw [if_pos c] at h
      by_cases e : j = k
      · subst e; exact c
      · exact ih (k + 1) h j (by omega) (by omega)
    · rw [if_neg c] at h; exact absurd h c

/-- right peers -/
structure RightP (n : Nat) (b : Bk) (np : Nat) (P : Ps) : Prop where
  book : bookE n b = 0
  le : np ≤ 8
  each : ∀ k, k < np → peerE n b (P.rm k) (P.m k) (P.t k) = 0

theorem rightP_of {n : Nat} {b : Bk} {np : Nat} {P : Ps} (h : peersE n b np P = 0) : RightP n b np P := by
  unfold peersE at h
  by_cases h1 : bookE n b = 0
  · rw [if_pos h1] at h
    by_cases h2 : np ≤ 8
    · rw [if_pos h2] at h
      exact ⟨h1, h2, fun k hk => scanP_ok np 0 h k (Nat.zero_le _) (by omega)⟩
    · rw [if_neg h2] at h; omega
  · rw [if_neg h1] at h; exact absurd h h1

/-- what is right of a peer's room -/
theorem peerE_room {n : Nat} {b : Bk} {room : Int} {m : Nat} {t : Kt} (h : peerE n b room m t = 0) : (0 ≤ room ∧ room ≤ 20) ∧ (m : Int) ≤ room := by
  unfold peerE at h
  by_cases h1 : bookE n b = 0
  · rw [if_pos h1] at h
    by_cases h2 : 0 ≤ room ∧ room ≤ 20
    · rw [if_pos h2] at h
      by_cases h3 : (m : Int) ≤ room
      · exact ⟨h2, h3⟩
      · rw [if_neg h3] at h; omega
    · rw [if_neg h2] at h; omega
  · rw [if_neg h1] at h; exact absurd h h1

theorem RightP.room {n : Nat} {b : Bk} {np : Nat} {P : Ps} (h : RightP n b np P) {k : Nat} (hk : k < np) : (0 ≤ P.rm k ∧ P.rm k ≤ 20) ∧ (P.m k : Int) ≤ P.rm k := peerE_room (h.each k hk)

theorem lefts_len (P : Ps) (ver : Int) (np r : Nat) : (lefts P ver np r).length ≤ r * np := by
  induction r with
  | zero => simp [lefts]
  | succ r ih =>
    have := pickL_len (fitK P ver ((r + 1 : Nat) : Int)) np
    simp only [lefts, List.length_append]
    rw [Nat.succ_mul]
    omega

end Go.Proofs.Ytmefjflponcfhae
