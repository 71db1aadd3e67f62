/- Several texts of one proof, in their order. -/
import Derived.Test.YtajmnlhfnhbleaaGreatTSum2
import Derived.Test.YtajmnlhfnhbleaaGreatTSum3
import Derived.Test.YtajmnlhfnhbleaaGreatTSum1
import Derived.Shelf.SlicesE.Kit
import Derived.Laws.StructEq

namespace Go.Proofs.YtajmnlhfnhbleaaGreat

set_option linter.unusedVariables false

theorem anyPar_iff (b : Bk) (n k : Nat) : anyB (parB b k) n 0 = true ↔ ∃ j, j < n ∧ ∃ i, i < b.PL j ∧ b.PX j i = (k : Int) := by
  rw [anyB_iff]
  constructor
  · rintro ⟨j, _, h2, h3⟩
    obtain ⟨i, hi, e⟩ := (hasB_iff _ _ _).1 h3
    exact ⟨j, by omega, i, hi, e⟩
  · rintro ⟨j, hj, i, hi, e⟩
    exact ⟨j, Nat.zero_le _, by omega, (hasB_iff _ _ _).2 ⟨i, hi, e⟩⟩

def pickL (p : Nat → Bool) (j : Nat) : List Int := ((List.range j).filter p).map fun (x : Nat) => (x : Int)

theorem pickL_succ (p : Nat → Bool) (j : Nat) : pickL p (j + 1) = pickL p j ++ (if p j = true then [(j : Int)] else []) := by
  unfold pickL
  rw [List.range_succ, List.filter_append, List.map_append]
  cases h : p j <;> simp [h]

theorem pickL_len (p : Nat → Bool) (j : Nat) : (pickL p j).length ≤ j := by
  unfold pickL
  rw [List.length_map]
  refine Nat.le_trans (List.length_filter_le _ _) ?_
  simp

theorem pickL_congr {p q : Nat → Bool} {j : Nat} (h : ∀ x, x < j → p x = q x) : pickL p j = pickL q j := by
  unfold pickL
  rw [List.filter_congr (fun x hx => h x (List.mem_range.1 hx))]

theorem mem_pickL {p : Nat → Bool} {j : Nat} {x : Int} : x ∈ pickL p j ↔ ∃ k : Nat, k < j ∧ p k = true ∧ x = k := by
  unfold pickL
  simp only [List.mem_map, List.mem_filter, List.mem_range]
  constructor
  · rintro ⟨k, ⟨h1, h2⟩, rfl⟩; exact ⟨k, h1, h2, rfl⟩
  · rintro ⟨k, h1, h2, rfl⟩; exact ⟨k, ⟨h1, h2⟩, rfl⟩

theorem behL_pick (b : Bk) (f k j : Nat) : behL b f k j = pickL (fun old => frm b f k old) j := rfl
theorem headsL_pick (b : Bk) (n j : Nat) : headsL b n j = pickL (fun k => !anyB (parB b k) n 0) j := rfl

theorem Right.few {n : Nat} {b : Bk} (h : Right n b) {k : Nat} (hk : k < n) : b.PL k ≤ k := by
  have key : ∀ i, i < b.PL k → (i : Int) ≤ b.PX k i := by
    intro i
    induction i with
    | zero => intro hi; have := (h.elder k hk 0 hi).1; omega
    | succ i ih =>
      intro hi
      have h1 := ih (by omega)
      have h2 := h.rise k hk i hi
      omega
  rcases Nat.lt_or_ge k (b.PL k) with h1 | h1
  · have h2 := key k h1
    have h3 := (h.elder k hk k h1).2
    omega
  · exact h1

def HInvP (b : Bk) (k : Nat) (c : Int → Int) : Prop := (∀ x, 0 ≤ c x ∧ c x ≤ ((k * 12 : Nat) : Int)) ∧ ∀ x, c x = 0 ↔ ∀ j, j < k → ∀ i, i < b.PL j → b.PX j i ≠ x

theorem heads_of {b : Bk} {n : Nat} {c : Int → Int} (h : HInvP b n c) : pickL (fun k => decide (c (k : Int) = 0)) n = headsL b n n := by
  rw [headsL_pick]
  refine pickL_congr fun x hx => ?_
  have h1 := h.2 (x : Int)
  have h2 := anyPar_iff b n x
  cases ha : anyB (parB b x) n 0 with
  | true =>
    obtain ⟨j, hj, i, hi, e⟩ := h2.1 ha
    exact decide_eq_false fun h0 => h1.1 h0 j hj i hi e
  | false =>
    refine decide_eq_true (h1.2 fun j hj i hi e => ?_)
    rw [h2.2 ⟨j, hj, i, hi, e⟩] at ha
    cases ha

end Go.Proofs.YtajmnlhfnhbleaaGreat

namespace Go.Proofs.YtajmnlhfnhbleaaGreat

open Go.RowKit
set_option linter.unusedVariables false

structure Ps where
  th : Nat → Bool
  rm : Nat → Int
  m : Nat → Nat
  t : Nat → Kt

def PsSl (w : World) (B : Nat) (v : Value) (n : Nat) (KV : Nat → Value) (UV : Nat → Nat → Value) (P : Ps) : Prop :=
  ∃ (ad : Option Addr) (cap : Nat), v = .slice ad n cap ∧ (n ≤ cap ∧ n * 40 ≤ 140737488351232) ∧ (n = 0 ∨ ∃ bl off, ad = some ⟨bl, off, none⟩ ∧ bl < B ∧ ∀ j, j < n →
    w.cell? ⟨bl, off + j * 3, none⟩ = some (.bool (P.th j)) ∧ w.cell? ⟨bl, off + j * 3 + 1, none⟩ = some (.int .i64 (P.rm j)) ∧ w.cell? ⟨bl, off + j * 3 + 2, none⟩ = some (KV j) ∧ KeSl w B (KV j) (P.m j) (UV j) (P.t j))

section

variable {w w' : World} {B B' : Nat} {v : Value} {n : Nat} {KV : Nat → Value} {UV : Nat → Nat → Value} {P : Ps}

theorem PsSl.below (h : PsSl w B v n KV UV P) (hb : Below B w w') : PsSl w' B v n KV UV P := by
  obtain ⟨ad, cap, h1, h0, h2⟩ := h
  refine ⟨ad, cap, h1, h0, ?_⟩
  rcases h2 with h2 | ⟨bl, off, h3, h4, h5⟩
  · exact Or.inl h2
  · refine Or.inr ⟨bl, off, h3, h4, fun j hj => ?_⟩
    obtain ⟨g1, g2, g3, g4⟩ := h5 j hj
    exact ⟨by rw [hb.cell h4]; exact g1, by rw [hb.cell h4]; exact g2, by rw [hb.cell h4]; exact g3, g4.below hb⟩

theorem PsSl.mono (h : PsSl w B v n KV UV P) (hb : B ≤ B') : PsSl w B' v n KV UV P := by
  obtain ⟨ad, cap, h1, h0, h2⟩ := h
  refine ⟨ad, cap, h1, h0, ?_⟩
  rcases h2 with h2 | ⟨bl, off, h3, h4, h5⟩
  · exact Or.inl h2
  · refine Or.inr ⟨bl, off, h3, by omega, fun j hj => ?_⟩
    obtain ⟨g1, g2, g3, g4⟩ := h5 j hj
    exact ⟨g1, g2, g3, g4.mono hb⟩

theorem PsSl.up (h : PsSl w w.heap.size v n KV UV P) (hb : Below w.heap.size w w') : PsSl w' w'.heap.size v n KV UV P := (h.below hb).mono hb.size

theorem PsSl.at {a : Option Addr} {c : Nat} (h : PsSl w B (.slice a n c) n KV UV P) {i : Nat} (hi : i < n) :
    ∃ bl off, a = some ⟨bl, off, none⟩ ∧ bl < B ∧ w.cell? ⟨bl, off + i * 3, none⟩ = some (.bool (P.th i)) ∧ w.cell? ⟨bl, off + i * 3 + 1, none⟩ = some (.int .i64 (P.rm i)) ∧ w.cell? ⟨bl, off + i * 3 + 2, none⟩ = some (KV i) ∧ KeSl w B (KV i) (P.m i) (UV i) (P.t i) := by
  obtain ⟨ad, cap, he, _, h2⟩ := h
  injection he with e1 _ e3
  subst e1 e3
  rcases h2 with h2 | ⟨bl, off, rfl, h4, h5⟩
  · omega
  · obtain ⟨g1, g2, g3, g4⟩ := h5 i hi
    exact ⟨bl, off, rfl, h4, g1, g2, g3, g4⟩

end

def scanP (n : Nat) (b : Bk) (P : Ps) : Nat → Nat → Int
  | 0, _ => 0
  | f + 1, k => if peerE n b (P.rm k) (P.m k) (P.t k) = 0 then scanP n b P f (k + 1) else peerE n b (P.rm k) (P.m k) (P.t k)
def peersE (n : Nat) (b : Bk) (np : Nat) (P : Ps) : Int := if bookE n b = 0 then (if np ≤ 8 then scanP n b P np 0 else 1) else bookE n b

def leftK (P : Ps) (k : Nat) : Int := P.rm k - (P.m k : Int)
def noneK (P : Ps) (ver : Int) (k : Nat) : Bool := decide (fstAt (P.t k).V ver (P.m k) 0 < 0)
def fitK (P : Ps) (ver left : Int) (k : Nat) : Bool := P.th k && (decide (leftK P k = left) && noneK P ver k)
def lefts (P : Ps) (ver : Int) (np : Nat) : Nat → List Int
  | 0 => []
  | r + 1 => pickL (fitK P ver ((r + 1 : Nat) : Int)) np ++ lefts P ver np r
def orderL (P : Ps) (ver : Int) (np : Nat) : List Int := lefts P ver np 20
def manyE (P : Ps) (ver : Int) (np : Nat) (many : Int) : Int := if 0 ≤ many ∧ many ≤ 8 then (if ((orderL P ver np).length : Int) < many then 7 else 0) else 2
def forL (P : Ps) (ver : Int) (np : Nat) (many : Int) : List Int := if manyE P ver np many = 0 then (orderL P ver np).take many.toNat else []
def forE (n : Nat) (b : Bk) (P : Ps) (ver : Int) (np : Nat) (many : Int) : Int := if peersE n b np P = 0 then manyE P ver np many else peersE n b np P

theorem scanP_ok {n : Nat} {b : Bk} {P : Ps} : ∀ f k, scanP n b P f k = 0 → ∀ j, k ≤ j → j < k + f → peerE n b (P.rm j) (P.m j) (P.t j) = 0 := by
  intro f
  induction f with
  | zero => intro k _ j h1 h2; omega
  | succ f ih =>
    intro k h j h1 h2
    simp only [scanP] at h
    by_cases c : peerE n b (P.rm k) (P.m k) (P.t k) = 0
    · rw [if_pos c] at h
      by_cases e : j = k
      · subst e; exact c
      · exact ih (k + 1) h j (by omega) (by omega)
    · rw [if_neg c] at h; exact absurd h c

structure RightP (n : Nat) (b : Bk) (np : Nat) (P : Ps) : Prop where
  book : bookE n b = 0
  le : np ≤ 8
  each : ∀ k, k < np → peerE n b (P.rm k) (P.m k) (P.t k) = 0

theorem rightP_of {n : Nat} {b : Bk} {np : Nat} {P : Ps} (h : peersE n b np P = 0) : RightP n b np P := by
  unfold peersE at h
  by_cases h1 : bookE n b = 0
  · rw [if_pos h1] at h
    by_cases h2 : np ≤ 8
    · rw [if_pos h2] at h
      exact ⟨h1, h2, fun k hk => scanP_ok np 0 h k (Nat.zero_le _) (by omega)⟩
    · rw [if_neg h2] at h; omega
  · rw [if_neg h1] at h; exact absurd h h1

theorem peerE_room {n : Nat} {b : Bk} {room : Int} {m : Nat} {t : Kt} (h : peerE n b room m t = 0) : (0 ≤ room ∧ room ≤ 20) ∧ (m : Int) ≤ room := by
  unfold peerE at h
  by_cases h1 : bookE n b = 0
  · rw [if_pos h1] at h
    by_cases h2 : 0 ≤ room ∧ room ≤ 20
    · rw [if_pos h2] at h
      by_cases h3 : (m : Int) ≤ room
      · exact ⟨h2, h3⟩
      · rw [if_neg h3] at h; omega
    · rw [if_neg h2] at h; omega
  · rw [if_neg h1] at h; exact absurd h h1

theorem RightP.room {n : Nat} {b : Bk} {np : Nat} {P : Ps} (h : RightP n b np P) {k : Nat} (hk : k < np) : (0 ≤ P.rm k ∧ P.rm k ≤ 20) ∧ (P.m k : Int) ≤ P.rm k := peerE_room (h.each k hk)

end Go.Proofs.YtajmnlhfnhbleaaGreat

namespace Go.Proofs.YtajmnlhfnhbleaaGreat

open Go.RowKit
set_option linter.unusedVariables false

def rightK (n : Nat) (b : Bk) (t : Kt) (j : Nat) : Prop := (0 ≤ t.V j ∧ t.V j < (n : Int)) ∧ oneK b t j = 0

theorem scanK_zero {n : Nat} {b : Bk} {t : Kt} : ∀ f k last, (∀ j, k ≤ j → j < k + f → rightK n b t j) → (∀ j, k ≤ j → j + 1 < k + f → t.V j < t.V (j + 1)) → (0 < f → last < t.V k) → scanK n b t f k last = 0 := by
  intro f
  induction f with
  | zero => intro k last _ _ _; rfl
  | succ f ih =>
    intro k last h1 h2 h3
    obtain ⟨⟨a1, a2⟩, a3⟩ := h1 k (Nat.le_refl _) (by omega)
    simp only [scanK]
    rw [if_neg (by omega), if_neg (by have := h3 (by omega); omega), if_pos a3]
    refine ih (k + 1) (t.V k) (fun j g1 g2 => h1 j (by omega) (by omega)) (fun j g1 g2 => h2 j (by omega) (by omega)) (fun hf => h2 k (Nat.le_refl _) (by omega))

theorem scanK_right {n : Nat} {b : Bk} {t : Kt} : ∀ f k last, scanK n b t f k last = 0 → ∀ j, k ≤ j → j < k + f → rightK n b t j := by
  intro f
  induction f with
  | zero => intro k last _ j h1 h2; omega
  | succ f ih =>
    intro k last h j h1 h2
    simp only [scanK] at h
    by_cases c1 : t.V k < 0 ∨ (n : Int) ≤ t.V k
    · rw [if_pos c1] at h; omega
    · rw [if_neg c1] at h
      by_cases c2 : t.V k ≤ last
      · rw [if_pos c2] at h; omega
      · rw [if_neg c2] at h
        by_cases c3 : oneK b t k = 0
        · rw [if_pos c3] at h
          by_cases e : j = k
          · subst e; exact ⟨⟨by omega, by omega⟩, c3⟩
          · exact ih (k + 1) (t.V k) h j (by omega) (by omega)
        · rw [if_neg c3] at h; exact absurd h c3

structure PeerR (n : Nat) (b : Bk) (room : Int) (m : Nat) (t : Kt) : Prop where
  book : bookE n b = 0
  room_ : 0 ≤ room ∧ room ≤ 20
  few : (m : Int) ≤ room
  right : ∀ j, j < m → rightK n b t j
  rise : ∀ i j, i < j → j < m → t.V i < t.V j

theorem peerR_of {n : Nat} {b : Bk} {room : Int} {m : Nat} {t : Kt} (h : peerE n b room m t = 0) : PeerR n b room m t := by
  obtain ⟨h1, h2, h3, h4⟩ := peerE_ok h
  exact ⟨h1, h2, h3, fun j hj => scanK_right m 0 (-1) h4 j (Nat.zero_le _) (by omega), rise_far fun j hj => (scanK_rise m 0 (-1) h4).2 j (Nat.zero_le _) (by omega)⟩

theorem PeerR.e {n : Nat} {b : Bk} {room : Int} {m : Nat} {t : Kt} (h : PeerR n b room m t) : peerE n b room m t = 0 := by
  unfold peerE
  rw [if_pos h.book, if_pos h.room_, if_pos h.few]
  exact scanK_zero m 0 (-1) (fun j _ hj => h.right j (by omega)) (fun j _ hj => h.rise j (j + 1) (by omega) (by omega)) (fun hm => by have := (h.right 0 hm).1; omega)

def keepL (t : Kt) (ver : Int) (m : Nat) : List Nat := (agL (ahB t ver) m ++ [m]) ++ agL (bhB t ver) m
def keepT (t : Kt) (m : Nat) (ver N : Int) (L : Nat) (X : Nat → Int) : Kt := selT (snocT m t ver N L X) (keepL t ver m)

theorem getD_in {α : Type} {l : List α} {j : Nat} {d : α} (h : j < l.length) : l.getD j d ∈ l := by
  rw [List.getD_eq_getElem?_getD, List.getElem?_eq_getElem h]
  exact List.getElem_mem h

theorem pairwise_getD {α : Type} {R : α → α → Prop} {l : List α} {d : α} (h : l.Pairwise R) {i j : Nat} (hij : i < j) (hj : j < l.length) : R (l.getD i d) (l.getD j d) := by
  rw [List.getD_eq_getElem?_getD, List.getD_eq_getElem?_getD, List.getElem?_eq_getElem (by omega), List.getElem?_eq_getElem hj]
  exact List.pairwise_iff_getElem.1 h i j (by omega) hj hij

section

variable {n : Nat} {b : Bk} {room : Int} {m : Nat} {t : Kt} {ver N : Int} {L : Nat} {X : Nat → Int}

theorem keepL_order (h : PeerR n b room m t) (hf : fstAt t.V ver m 0 < 0) : InOrder (snocT m t ver N L X) (m + 1) (keepL t ver m) := put_order h.rise (fstAt_none hf)

theorem keepL_len (h : PeerR n b room m t) (hf : fstAt t.V ver m 0 < 0) : (keepL t ver m).length = m + 1 := by
  rw [(keepL_order (N := 0) (L := 0) (X := fun _ => 0) h hf).1.length_eq]; simp

theorem keepT_right (h : PeerR n b room m t) (hm : (m : Int) < room) (hf : fstAt t.V ver m 0 < 0) (hv : 0 ≤ ver ∧ ver < (n : Int)) (hs : oneE (b.nd ver.toNat) (b.of ver.toNat) (b.sz ver.toNat) N L X = 0) : PeerR n b room (m + 1) (keepT t m ver N L X) := by
  have ho := keepL_order (N := N) (L := L) (X := X) h hf
  have hl := keepL_len h hf
  refine ⟨h.book, h.room_, by omega, fun j hj => ?_, fun i j hij hj => pairwise_getD ho.2 hij (by omega)⟩
  have hq : (keepL t ver m).getD j 0 < m + 1 := List.mem_range.1 (ho.1.mem_iff.1 (getD_in (by omega)))
  obtain ⟨q, hqe⟩ : ∃ q, (keepL t ver m).getD j 0 = q := ⟨_, rfl⟩
  rw [hqe] at hq
  have e1 : (keepT t m ver N L X).V j = (snocT m t ver N L X).V q := by simp only [keepT, selT]; rw [hqe]
  have e2 : oneK b (keepT t m ver N L X) j = oneK b (snocT m t ver N L X) q := by unfold oneK; simp only [keepT, selT]; rw [hqe]
  unfold rightK
  rw [e1, e2]
  by_cases e : q = m
  · subst e
    have e3 : (snocT q t ver N L X).V q = ver := by simp [snocT]
    have e4 : oneK b (snocT q t ver N L X) q = oneE (b.nd ver.toNat) (b.of ver.toNat) (b.sz ver.toNat) N L X := by unfold oneK; simp [snocT]
    rw [e3, e4]
    exact ⟨hv, hs⟩
  · have e3 : (snocT m t ver N L X).V q = t.V q := by simp [snocT, e]
    have e4 : oneK b (snocT m t ver N L X) q = oneK b t q := by unfold oneK; simp [snocT, e]
    rw [e3, e4]
    exact h.right q (by omega)

theorem keepsTo_ok {th : Bool} {er : Int} {th' : Bool} {room' : Int} {m' : Nat} {t' : Kt} (hk : KeepsTo n b th room m t ver N L X er th' room' m' t') (h : PeerR n b room m t) (hm : (m : Int) < room) (hf : fstAt t.V ver m 0 < 0) (hv : 0 ≤ ver ∧ ver < (n : Int)) (hs : oneE (b.nd ver.toNat) (b.of ver.toNat) (b.sz ver.toNat) N L X = 0) :
    er = 0 ∧ th' = th ∧ room' = room ∧ m' = m + 1 ∧ t' = keepT t m ver N L X := by
  unfold KeepsTo at hk
  rcases hk with ⟨a0, _⟩ | ⟨_, a1, _⟩ | ⟨_, _, a2, _⟩ | ⟨a0, a1, a2, l, a3, a4, a5⟩
  · exact absurd h.e a0
  · omega
  · omega
  · have hl := inOrder_uniq a3 (keepL_order h hf)
    subst hl
    have he : er = 0 := by rw [a4]; exact (keepT_right h hm hf hv hs).e
    rcases a5 with ⟨_, d1, d2, d3, d4⟩ | ⟨d0, _⟩
    · exact ⟨he, d1, d2, d3, d4⟩
    · exact absurd he d0

end

theorem PeerR.snoc {n : Nat} {b : Bk} {room : Int} {m : Nat} {t : Kt} {lp : Nat} {X : Nat → Int} {nd of sz : Int} (h : PeerR n b room m t) (hb : bookE (n + 1) (snocB n b lp X nd of sz) = 0) : PeerR (n + 1) (snocB n b lp X nd of sz) room m t := by
  refine ⟨hb, h.room_, h.few, fun j hj => ?_, h.rise⟩
  obtain ⟨h1, h2⟩ := h.right j hj
  refine ⟨⟨h1.1, by omega⟩, ?_⟩
  have hne : (t.V j).toNat ≠ n := by omega
  unfold oneK at h2 ⊢
  simp only [snocB, if_neg hne]
  exact h2

theorem fstAt_succ (X : Nat → Int) (v : Int) : ∀ m k, fstAt X v (m + 1) k = if 0 ≤ fstAt X v m k then fstAt X v m k else if X (k + m) = v then ((k + m : Nat) : Int) else -1 := by
  intro m
  induction m with
  | zero =>
    intro k
    have e0 : fstAt X v 0 k = -1 := rfl
    have e1 : fstAt X v (0 + 1) k = if v = X k then (k : Int) else -1 := rfl
    rw [e0, e1, if_neg (by decide : ¬ (0 : Int) ≤ -1), Nat.add_zero]
    by_cases h : v = X k
    · rw [if_pos h, if_pos h.symm]
    · rw [if_neg h, if_neg (fun e => h e.symm)]
  | succ m ih =>
    intro k
    have e := ih (k + 1)
    rw [show fstAt X v (m + 1 + 1) k = if v = X k then (k : Int) else fstAt X v (m + 1) (k + 1) from rfl, show fstAt X v (m + 1) k = if v = X k then (k : Int) else fstAt X v m (k + 1) from rfl]
    by_cases h : v = X k
    · rw [if_pos h, if_pos h, if_pos (by omega)]
    · rw [if_neg h, if_neg h, e, show k + 1 + m = k + (m + 1) by omega]

def giveP (P : Ps) (ver : Int) (A : Nat → Int) (SN : Nat → Int) (SL : Nat → Nat) (SX : Nat → Nat → Int) (i : Nat) : Ps :=
  ⟨P.th, P.rm, fun k => if 0 ≤ fstAt A (k : Int) i 0 then P.m k + 1 else P.m k,
   fun k => if 0 ≤ fstAt A (k : Int) i 0 then keepT (P.t k) (P.m k) ver (SN (fstAt A (k : Int) i 0).toNat) (SL (fstAt A (k : Int) i 0).toNat) (SX (fstAt A (k : Int) i 0).toNat) else P.t k⟩

theorem giveP_zero (P : Ps) (ver : Int) (A : Nat → Int) (SN : Nat → Int) (SL : Nat → Nat) (SX : Nat → Nat → Int) : giveP P ver A SN SL SX 0 = P := by
  unfold giveP
  simp only [fstAt]
  simp

section

variable {P : Ps} {ver : Int} {A : Nat → Int} {SN : Nat → Int} {SL : Nat → Nat} {SX : Nat → Nat → Int} {i q : Nat}

theorem giveP_old {i k : Nat} (h : ∀ j, j < i → A j ≠ (k : Int)) : (giveP P ver A SN SL SX i).m k = P.m k ∧ (giveP P ver A SN SL SX i).t k = P.t k := by
  have h1 : ¬ 0 ≤ fstAt A (k : Int) i 0 := fun h2 => by
    obtain ⟨j, _, hj, e⟩ := (fstAt_neg A (k : Int) i 0).1 h2
    exact h j (by omega) e
  simp only [giveP]
  rw [if_neg h1, if_neg h1]
  exact ⟨rfl, rfl⟩

theorem giveP_succ {k : Nat} (hd : ∀ j, j < i → A j ≠ A i) : (giveP P ver A SN SL SX (i + 1)).m k = (if A i = (k : Int) then P.m k + 1 else (giveP P ver A SN SL SX i).m k) ∧
    (giveP P ver A SN SL SX (i + 1)).t k = (if A i = (k : Int) then keepT (P.t k) (P.m k) ver (SN i) (SL i) (SX i) else (giveP P ver A SN SL SX i).t k) := by
  have e := fstAt_succ A (k : Int) i 0
  rw [Nat.zero_add] at e
  by_cases h : A i = (k : Int)
  · have h1 : ¬ 0 ≤ fstAt A (k : Int) i 0 := fun h2 => by
      obtain ⟨j, _, hj, e⟩ := (fstAt_neg A (k : Int) i 0).1 h2
      exact hd j (by omega) (by rw [e, h])
    rw [if_neg h1, if_pos h] at e
    simp only [giveP]
    rw [e]
    refine ⟨?_, ?_⟩
    · rw [if_pos (by omega), if_pos h]
    · rw [if_pos (by omega), if_pos h, Int.toNat_natCast]
  · by_cases h1 : 0 ≤ fstAt A (k : Int) i 0
    · rw [if_pos h1] at e
      simp only [giveP]
      rw [e, if_neg h, if_neg h]
      exact ⟨rfl, rfl⟩
    · rw [if_neg h1, if_neg h] at e
      simp only [giveP]
      rw [e]
      refine ⟨?_, ?_⟩
      · rw [if_neg (by decide), if_neg h, if_neg h1]
      · rw [if_neg (by decide), if_neg h, if_neg h1]

end

end Go.Proofs.YtajmnlhfnhbleaaGreat

namespace Go.Proofs.YtajmnlhfnhbleaaGreat

open Go.RowKit
set_option linter.unusedVariables false

def meshV (vb vl : Value) : Value := .agg #[vb, vl]

def prB (P Q : Ps) (k : Nat) : Bool := peerB (P.th k) (Q.th k) (P.rm k) (Q.rm k) (P.m k) (Q.m k) (P.t k) (Q.t k)
def restP (P Q : Ps) : Nat → Nat → Bool
  | 0, _ => true
  | f + 1, k => prB P Q k && restP P Q f (k + 1)
def peersB (n m : Nat) (P Q : Ps) : Bool := decide (n = m) && restP P Q n 0

def isTh (P : Ps) (ver : Int) (k i : Nat) : Bool := P.th k && decide ((P.t k).V i = ver)
def seenN (P : Ps) (l : List (Nat × Nat)) (N : Int) : Bool := l.any fun x => decide ((P.t x.1).N x.2 = N)
def thStep (P : Ps) (ver : Int) (k : Nat) (l : List (Nat × Nat)) (i : Nat) : List (Nat × Nat) := if isTh P ver k i && !seenN P l ((P.t k).N i) then l ++ [(k, i)] else l
def thRow (P : Ps) (ver : Int) (k : Nat) (l : List (Nat × Nat)) (f : Nat) : List (Nat × Nat) := (List.range f).foldl (thStep P ver k) l
def thAll (P : Ps) (ver : Int) (f : Nat) : List (Nat × Nat) := (List.range f).foldl (fun l k => thRow P ver k l (P.m k)) []
def thereL (P : Ps) (ver : Int) (np : Nat) : List (Nat × Nat) := thAll P ver np

theorem thRow_zero (P : Ps) (ver : Int) (k : Nat) (l : List (Nat × Nat)) : thRow P ver k l 0 = l := rfl
theorem thRow_succ (P : Ps) (ver : Int) (k : Nat) (l : List (Nat × Nat)) (f : Nat) : thRow P ver k l (f + 1) = thStep P ver k (thRow P ver k l f) f := by
  unfold thRow
  rw [List.range_succ, List.foldl_append]
  rfl
theorem thAll_zero (P : Ps) (ver : Int) : thAll P ver 0 = [] := rfl
theorem thAll_succ (P : Ps) (ver : Int) (f : Nat) : thAll P ver (f + 1) = thRow P ver f (thAll P ver f) (P.m f) := by
  unfold thAll
  rw [List.range_succ, List.foldl_append]
  rfl

structure ThOk (P : Ps) (ver : Int) (np : Nat) (l : List (Nat × Nat)) : Prop where
  at_ : ∀ x, x ∈ l → x.1 < np ∧ x.2 < P.m x.1 ∧ P.th x.1 = true ∧ (P.t x.1).V x.2 = ver
  once : List.Pairwise (fun x y => (P.t x.1).N x.2 ≠ (P.t y.1).N y.2) l

theorem seenN_iff {P : Ps} {l : List (Nat × Nat)} {N : Int} : seenN P l N = true ↔ ∃ x, x ∈ l ∧ (P.t x.1).N x.2 = N := by
  unfold seenN
  rw [List.any_eq_true]
  constructor
  · rintro ⟨x, h1, h2⟩; exact ⟨x, h1, of_decide_eq_true h2⟩
  · rintro ⟨x, h1, h2⟩; exact ⟨x, h1, decide_eq_true h2⟩

theorem ThOk.step {P : Ps} {ver : Int} {np k i : Nat} {l : List (Nat × Nat)} (h : ThOk P ver np l) (hk : k < np) (hi : i < P.m k) : ThOk P ver np (thStep P ver k l i) := by
  unfold thStep
  by_cases c : (isTh P ver k i && !seenN P l ((P.t k).N i)) = true
  · rw [if_pos c]
    rw [Bool.and_eq_true] at c
    obtain ⟨c1, c2⟩ := c
    unfold isTh at c1
    rw [Bool.and_eq_true, decide_eq_true_iff] at c1
    refine ⟨fun x hx => ?_, ?_⟩
    · rcases List.mem_append.1 hx with h1 | h1
      · exact h.at_ x h1
      · obtain rfl : x = (k, i) := by simpa using h1
        exact ⟨hk, hi, c1.1, c1.2⟩
    · rw [List.pairwise_append]
      refine ⟨h.once, List.pairwise_singleton _ _, fun x hx y hy e => ?_⟩
      obtain rfl : y = (k, i) := by simpa using hy
      rw [seenN_iff.2 ⟨x, hx, e⟩] at c2
      cases c2
  · rw [if_neg c]; exact h

theorem ThOk.row {P : Ps} {ver : Int} {np k : Nat} {l : List (Nat × Nat)} (h : ThOk P ver np l) (hk : k < np) : ∀ f, f ≤ P.m k → ThOk P ver np (thRow P ver k l f) := by
  intro f
  induction f with
  | zero => intro _; exact h
  | succ f ih => intro hf; rw [thRow_succ]; exact (ih (by omega)).step hk (by omega)

theorem thAll_ok (P : Ps) (ver : Int) (np : Nat) : ∀ f, f ≤ np → ThOk P ver np (thAll P ver f) := by
  intro f
  induction f with
  | zero => intro _; exact ⟨fun x hx => (by cases hx), List.Pairwise.nil⟩
  | succ f ih => intro hf; rw [thAll_succ]; exact (ih (by omega)).row (by omega) _ (Nat.le_refl _)

theorem nodup_few : ∀ (m : Nat) (l : List Nat), l.Nodup → (∀ x, x ∈ l → x < m) → l.length ≤ m := by
  intro m
  induction m with
  | zero =>
    intro l _ h
    cases l with
    | nil => exact Nat.le_refl _
    | cons a l => exact absurd (h a (by simp)) (Nat.not_lt_zero _)
  | succ m ih =>
    intro l hn h
    have h1 := ih (l.erase m) (hn.erase m) (fun x hx => by
      have h2 := (hn.mem_erase_iff).1 hx
      have h3 := h x h2.2
      have := h2.1
      omega)
    have h4 : l.length ≤ (l.erase m).length + 1 := by
      by_cases c : m ∈ l
      · rw [List.length_erase_of_mem c]; omega
      · rw [List.erase_of_not_mem c]; omega
    omega

theorem once_len {l : List (Nat × Nat)} {f : Nat × Nat → Int} (h : List.Pairwise (fun x y => f x ≠ f y) l) {m : Nat} (hb : ∀ x, x ∈ l → 0 ≤ f x ∧ f x < (m : Int)) : l.length ≤ m := by
  have h1 : (l.map fun x => (f x).toNat).Nodup := by
    rw [List.Nodup, List.pairwise_map]
    refine h.imp_of_mem fun {x y} hx hy hxy e => hxy ?_
    have := hb x hx
    have := hb y hy
    omega
  have h2 := nodup_few m _ h1 (fun z hz => by
    obtain ⟨x, hx, rfl⟩ := List.mem_map.1 hz
    have := hb x hx
    omega)
  simpa using h2

end Go.Proofs.YtajmnlhfnhbleaaGreat

namespace Go.Proofs.YtajmnlhfnhbleaaGreat

open Go.RowKit
set_option linter.unusedVariables false

theorem isl_take {w : World} {B : Nat} {a : Option Addr} {c q : Nat} {l : List Int} (h : IntSl w B (.slice a l.length c) l.length (fun j => l.getD j 0)) (hq : q ≤ l.length) : IntSl w B (.slice a q c) (l.take q).length (fun j => (l.take q).getD j 0) := by
  obtain ⟨ad, cap, he, ⟨h0, h1⟩, h2⟩ := h
  injection he with e1 _ e3
  subst e1 e3
  have hl : (l.take q).length = q := by rw [List.length_take]; omega
  rw [hl]
  refine ⟨a, c, rfl, ⟨by omega, by omega⟩, ?_⟩
  by_cases hq0 : q = 0
  · exact Or.inl hq0
  rcases h2 with h2 | ⟨b, off, rfl, h4, h5⟩
  · omega
  · refine Or.inr ⟨b, off, rfl, h4, fun j hj => ?_⟩
    rw [h5 j (by omega)]
    congr 2
    simp [List.getD_eq_getElem?_getD, hj]

end Go.Proofs.YtajmnlhfnhbleaaGreat

namespace Go.Proofs.YtajmnlhfnhbleaaGreat

open Go.RowKit
set_option linter.unusedVariables false

set_option maxHeartbeats 1000000 in
theorem peSameK (v1 v2 N1 N2 : Int) (pv qv : Value) (l m : Nat) (X Y : Nat → Int) (w : World) (h1 : IntSl w w.heap.size pv l X) (h2 : IntSl w w.heap.size qv m Y) :
    Calls Tryz.prog 66 #[keptV v1 N1 pv, keptV v2 N2 qv] w fun e w' => e = .returned (.bool (decide (v1 = v2) && sameB N1 N2 l m X Y)) ∧ Below w.heap.size w w' := by
  have hb := ((Below.refl w.heap.size w).alloc (Nat.le_refl _) (.cells #[.int .i64 v1, .int .i64 N1, pv] 83)).alloc (by simp) (.cells #[.int .i64 v2, .int .i64 N2, qv] 83)
  have HE := hid (shSame N1 N2 _ _ l m X Y _ (h1.up hb) (h2.up hb))
  have HB := hid hb
  obtain ⟨a1, c1, rfl, _, _⟩ := h1
  obtain ⟨a2, c2, rfl, _, _⟩ := h2
  generalize sameB N1 N2 l m X Y = sb at *
  clear hb
  unfold shareV at HE
  unfold keptV
  by_cases hv : v1 = v2
  · subst hv
    rw [decide_eq_true rfl, Bool.true_and]
    go_enter Tryz.func66, Tryz.ntmps66
    go_wp2_with fail
    refine HE.out.mono ?_
    rintro e w3 ⟨rfl, hb3⟩
    have HB3 := hid (HB.out.trans (hb3.mono HB.out.size))
    clear hb3
    go_wp2
    go_ret
    exact ⟨rfl, HB3.out⟩
  · rw [decide_eq_false hv, Bool.false_and]
    have he : (v1 == v2) = false := by simpa using hv
    clear hv HE
    go_enter Tryz.func66, Tryz.ntmps66
    go_wp2
    go_ret
    exact ⟨rfl, HB.out⟩

set_option maxHeartbeats 2000000 in
theorem peEqualFunc {w : World} {v1 v2 : Value} {n m : Nat} {PV QV : Nat → Value} {t u : Kt} (h1 : KeSl w w.heap.size v1 n PV t) (h2 : KeSl w w.heap.size v2 m QV u) :
    Calls Tryz.prog 65 #[v1, v2, .func (.func 66) #[] #[]] w fun e w' => e = .returned (.bool (keptB n m t u)) ∧ Below w.heap.size w w' := by
  obtain ⟨a1, c1, rfl, ⟨hc1, hr1⟩, hx⟩ := h1
  obtain ⟨a2, c2, rfl, ⟨hc2, hr2⟩, hy⟩ := h2
  obtain ⟨ans, hans⟩ : ∃ ans, keptB n m t u = ans := ⟨_, rfl⟩
  rw [hans]
  unfold keptB at hans
  by_cases hnm : n = m
  · subst hnm
    rw [decide_eq_true rfl, Bool.true_and] at hans
    have HA := hid hans
    have HX := hid hx
    have HY := hid hy
    clear hx hy hans
    go_enter Tryz.func65, Tryz.ntmps65
    go_wp2
    go_loopw [17] (fun iv wr => ∃ k : Nat, k ≤ n ∧ iv = .int .i64 k ∧ Hid (Below w.heap.size w wr) ∧ Hid (restK t u (n - k) k = ans)) (fun iv _ => n - (intOf iv).toNat)
    case atStart => exact ⟨0, Nat.zero_le _, rfl, Below.refl _ _, HA⟩
    case round =>
      obtain ⟨k, hk, rfl, HB, HS⟩ := hrel
      by_cases hlt : k < n
      · have hki : (k : Int) < (n : Int) := by omega
        rcases HX.out with h0 | ⟨b1, o1, rfl, hb1, hx⟩
        · omega
        rcases HY.out with h0 | ⟨b2, o2, rfl, hb2, hy⟩
        · omega
        have hstep := HS.out
        rw [show n - k = (n - (k + 1)) + 1 by omega] at hstep
        simp only [restK] at hstep
        have HSt := hid hstep
        obtain ⟨x0, x1, x2, x3⟩ := hx k hlt
        obtain ⟨y0, y1, y2, y3⟩ := hy k hlt
        have HI1 : Hid (∀ w', Below w.heap.size w w' → IntSl w' w'.heap.size (PV k) (t.L k) (t.X k)) := fun w' hb => x3.up hb
        have HI2 : Hid (∀ w', Below w.heap.size w w' → IntSl w' w'.heap.size (QV k) (u.L k) (u.X k)) := fun w' hb => y3.up hb
        obtain ⟨ap, cp, hpe, _, _⟩ := x3
        obtain ⟨aq, cq, hqe, _, _⟩ := y3
        rw [hpe] at x2 HI1
        rw [hqe] at y2 HI2
        have g0 : wr.cell? ⟨b1, o1 + k * 3, none⟩ = some (.int .i64 (t.V k)) := by rw [HB.out.cell hb1]; exact x0
        have g1 : wr.cell? ⟨b1, o1 + k * 3 + 1, none⟩ = some (.int .i64 (t.N k)) := by rw [HB.out.cell hb1]; exact x1
        have g2 : wr.cell? ⟨b1, o1 + k * 3 + 2, none⟩ = some (.slice ap (t.L k) cp) := by rw [HB.out.cell hb1]; exact x2
        have e0 : wr.cell? ⟨b2, o2 + k * 3, none⟩ = some (.int .i64 (u.V k)) := by rw [HB.out.cell hb2]; exact y0
        have e1 : wr.cell? ⟨b2, o2 + k * 3 + 1, none⟩ = some (.int .i64 (u.N k)) := by rw [HB.out.cell hb2]; exact y1
        have e2 : wr.cell? ⟨b2, o2 + k * 3 + 2, none⟩ = some (.slice aq (u.L k) cq) := by rw [HB.out.cell hb2]; exact y2
        have l1 : b1 < wr.heap.size := cell_lt g0
        have l2 : b2 < wr.heap.size := cell_lt e0
        clear x0 x1 x2 y0 y1 y2 hpe hqe hx hy hstep
        go_wp2_with fail
        have hbb : Below w.heap.size w ((wr.alloc (.cells #[.int .i64 (t.V k), .int .i64 (t.N k), .slice ap (t.L k) cp] 83)).alloc (.cells #[.int .i64 (u.V k), .int .i64 (u.N k), .slice aq (u.L k) cq] 83)) :=
          (HB.out.alloc HB.out.size _).alloc (by simp; exact Nat.le_succ_of_le HB.out.size) _
        refine Calls.mono (peSameK _ _ _ _ _ _ _ _ _ _ _ (HI1.out _ hbb) (HI2.out _ hbb)) ?_
        rintro e w2 ⟨rfl, hb3⟩
        have HB3 : Hid (Below w.heap.size w w2) := hbb.trans (hb3.mono hbb.size)
        clear hb3 hbb
        have hvb : (decide (t.V k = u.V k) && sameB (t.N k) (u.N k) (t.L k) (u.L k) (t.X k) (u.X k)) = verK t u k := rfl
        rw [hvb]
        clear hvb
        cases hs : verK t u k with
        | true =>
          have hn := HSt.out
          rw [hs, Bool.true_and] at hn
          have HNx := hid hn
          clear hn
          go_wp2
          go_roundw
          case rel => exact ⟨k + 1, by omega, by go_num, HB3, HNx⟩
          case measure => simp only [intOf]; omega
        | false =>
          have hn := HSt.out
          rw [hs, Bool.false_and] at hn
          have HNx := hid hn
          clear hn
          go_wp2
          go_ret
          exact ⟨by rw [← HNx.out]; rfl, HB3.out⟩
      · have hke : n = k := by omega
        subst hke
        have hst := HS.out
        rw [Nat.sub_self] at hst
        have HFin : Hid (true = ans) := hst
        clear hst
        go_wp2
        go_ret
        exact ⟨by rw [← HFin.out]; rfl, HB.out⟩
  · rw [decide_eq_false hnm, Bool.false_and] at hans
    have HA := hid hans
    have hni : ¬ (n : Int) = (m : Int) := by omega
    clear hans
    go_enter Tryz.func65, Tryz.ntmps65
    go_wp2
    go_ret
    exact ⟨by rw [← HA.out]; rfl, Below.refl _ _⟩

theorem peSame (a1 a2 : Bool) (r1 r2 : Int) {w : World} {v1 v2 : Value} {n m : Nat} {PV QV : Nat → Value} {t u : Kt} (h1 : KeSl w w.heap.size v1 n PV t) (h2 : KeSl w w.heap.size v2 m QV u) :
    Calls Tryz.prog 19 #[peerV a1 r1 v1, peerV a2 r2 v2] w fun e w' => e = .returned (.bool (peerB a1 a2 r1 r2 n m t u)) ∧ Below w.heap.size w w' := by
  have hb := ((Below.refl w.heap.size w).alloc (Nat.le_refl _) (.cells #[.bool a1, .int .i64 r1, v1] 41)).alloc (by simp) (.cells #[.bool a2, .int .i64 r2, v2] 41)
  have HE := hid (peEqualFunc (h1.up hb) (h2.up hb))
  have HB := hid hb
  obtain ⟨ad1, c1, rfl, _, _⟩ := h1
  obtain ⟨ad2, c2, rfl, _, _⟩ := h2
  unfold peerB
  generalize keptB n m t u = kb at *
  clear hb
  unfold peerV
  cases ha : (a1 == a2) with
  | false =>
    rw [Bool.false_and]
    clear HE
    go_enter Tryz.func19, Tryz.ntmps19
    go_wp2
    go_ret
    exact ⟨rfl, HB.out⟩
  | true =>
    rw [Bool.true_and]
    by_cases hr : r1 = r2
    · subst hr
      rw [decide_eq_true rfl, Bool.true_and]
      go_enter Tryz.func19, Tryz.ntmps19
      go_wp2_with fail
      refine HE.out.mono ?_
      rintro e w3 ⟨rfl, hb3⟩
      have HB3 := hid (HB.out.trans (hb3.mono HB.out.size))
      clear hb3
      go_wp2
      go_ret
      exact ⟨rfl, HB3.out⟩
    · rw [decide_eq_false hr, Bool.false_and]
      have he : (r1 == r2) = false := by simpa using hr
      clear hr HE
      go_enter Tryz.func19, Tryz.ntmps19
      go_wp2
      go_ret
      exact ⟨rfl, HB.out⟩

end Go.Proofs.YtajmnlhfnhbleaaGreat

namespace Go.Proofs.YtajmnlhfnhbleaaGreat

open Go.RowKit Go.Shelf
set_option linter.unusedVariables false

def encPlan (x : Int × Int × Int) : List Value := [.int .i64 x.1, .int .i64 x.2.1, .int .i64 x.2.2]

open Go.Lib in
theorem eqPlan : EqlAt Tryz.prog 59 (fun x => .agg (encPlan x).toArray) (fun x y => x.1 == y.1 && (x.2.1 == y.2.1 && x.2.2 == y.2.2)) := by
  refine ⟨fun x y w => ?_, GuardAt.agg _ (by kernel_rfl)⟩
  have u3 := Tryz.underlying3
  have a3 := Tryz.isAgg3
  have z3 := Tryz.sizeOf3
  have hS : Tryz.prog.underlying 59 = some (.struct (Tryz.prog.fieldsOf 59)) := by kernel_rfl
  have hp : Tryz.prog.stoodInHeld 59 = false := by kernel_rfl
  simp only [encPlan]
  rw [run_eql_struct, show (10000 : Nat) = 9999 + 1 from rfl, run_equalIn_agg w 9999 59 _ _ hS hp]
  simp only [Program.fieldsOf, Tryz.underlying59]
  go_simp
  by_cases h1 : x.fst = y.fst <;> by_cases h2 : x.snd.fst = y.snd.fst <;> by_cases h3 : x.snd.snd = y.snd.snd <;> simp [h1, h2, h3]

def verB (b c : Bk) (j : Nat) : Bool := eqB (b.PL j) (c.PL j) (b.PX j) (c.PX j) && (b.nd j == c.nd j && (b.of j == c.of j && b.sz j == c.sz j))
def restB (b c : Bk) : Nat → Nat → Bool
  | 0, _ => true
  | f + 1, k => verB b c k && restB b c f (k + 1)
def bookB (n m : Nat) (b c : Bk) : Bool := decide (n = m) && restB b c n 0

set_option maxHeartbeats 1000000 in
theorem bkSameV (pv qv : Value) (l m : Nat) (X Y : Nat → Int) (n1 o1 s1 n2 o2 s2 : Int) (w : World) (h1 : IntSl w w.heap.size pv l X) (h2 : IntSl w w.heap.size qv m Y) :
    Calls Tryz.prog 64 #[verV pv n1 o1 s1, verV qv n2 o2 s2] w fun e w' => e = .returned (.bool (eqB l m X Y && (n1 == n2 && (o1 == o2 && s1 == s2)))) ∧ Below w.heap.size w w' := by
  have qe : ∀ (w : World), (binOp .eql 59 (.agg #[.int .i64 n1, .int .i64 o1, .int .i64 s1]) (.agg #[.int .i64 n2, .int .i64 o2, .int .i64 s2])).run Tryz.prog w = .ok (.bool (n1 == n2 && (o1 == o2 && s1 == s2))) w := fun w => eqPlan.1 (n1, o1, s1) (n2, o2, s2) w
  have qg : ∀ (op : BinOp) (a b : Operand) (w : World), (eqGuard op 59 a b (.agg #[.int .i64 n1, .int .i64 o1, .int .i64 s1]) (.agg #[.int .i64 n2, .int .i64 o2, .int .i64 s2])).run Tryz.prog w = .ok () w := fun op a b w => eqPlan.2 op a b (n1, o1, s1) (n2, o2, s2) w
  have hb := ((Below.refl w.heap.size w).alloc (Nat.le_refl _) (.cells #[pv, .int .i64 n1, .int .i64 o1, .int .i64 s1] 61)).alloc (by simp) (.cells #[qv, .int .i64 n2, .int .i64 o2, .int .i64 s2] 61)
  have HE := hid (equal_isl (h1.up hb) (h2.up hb))
  have HB := hid hb
  obtain ⟨a1, c1, rfl, _, _⟩ := h1
  obtain ⟨a2, c2, rfl, _, _⟩ := h2
  generalize eqB l m X Y = ev at *
  generalize (n1 == n2 && (o1 == o2 && s1 == s2)) = pe at *
  clear hb
  unfold verV
  cases pe with
  | false =>
    clear HE
    go_enter Tryz.func64, Tryz.ntmps64
    go_wp2
    go_ret
    exact ⟨by rw [Bool.and_false]; rfl, HB.out⟩
  | true =>
    rw [Bool.and_true]
    go_enter Tryz.func64, Tryz.ntmps64
    go_wp2_with fail
    refine HE.out.mono ?_
    rintro e w3 ⟨rfl, q, hq⟩
    have HB3 : Hid (Below w.heap.size w w3) := HB.out.trans (by rw [hq]; exact ⟨rfl, rfl, rfl, Nat.le_refl _, fun _ _ => rfl⟩)
    clear hq
    go_wp2
    go_ret
    exact ⟨rfl, HB3.out⟩

set_option maxHeartbeats 2000000 in
theorem bkEqualFunc {w : World} {v1 v2 : Value} {n m : Nat} {PV QV : Nat → Value} {b c : Bk} (h1 : VeSl w w.heap.size v1 n PV b) (h2 : VeSl w w.heap.size v2 m QV c) :
    Calls Tryz.prog 63 #[v1, v2, .func (.func 64) #[] #[]] w fun e w' => e = .returned (.bool (bookB n m b c)) ∧ Below w.heap.size w w' := by
  obtain ⟨a1, c1, rfl, ⟨hc1, hr1⟩, hx⟩ := h1
  obtain ⟨a2, c2, rfl, ⟨hc2, hr2⟩, hy⟩ := h2
  obtain ⟨ans, hans⟩ : ∃ ans, bookB n m b c = ans := ⟨_, rfl⟩
  rw [hans]
  unfold bookB at hans
  by_cases hnm : n = m
  · subst hnm
    rw [decide_eq_true rfl, Bool.true_and] at hans
    have HA := hid hans
    have HX := hid hx
    have HY := hid hy
    clear hx hy hans
    go_enter Tryz.func63, Tryz.ntmps63
    go_wp2
    go_loopw [17] (fun iv wr => ∃ k : Nat, k ≤ n ∧ iv = .int .i64 k ∧ Hid (Below w.heap.size w wr) ∧ Hid (restB b c (n - k) k = ans)) (fun iv _ => n - (intOf iv).toNat)
    case atStart => exact ⟨0, Nat.zero_le _, rfl, Below.refl _ _, HA⟩
    case round =>
      obtain ⟨k, hk, rfl, HB, HS⟩ := hrel
      by_cases hlt : k < n
      · have hki : (k : Int) < (n : Int) := by omega
        rcases HX.out with h0 | ⟨b1, o1, rfl, hb1, hx⟩
        · omega
        rcases HY.out with h0 | ⟨b2, o2, rfl, hb2, hy⟩
        · omega
        have hstep := HS.out
        rw [show n - k = (n - (k + 1)) + 1 by omega] at hstep
        simp only [restB] at hstep
        have HSt := hid hstep
        obtain ⟨x0, x1, x2, x3, x4⟩ := hx k hlt
        obtain ⟨y0, y1, y2, y3, y4⟩ := hy k hlt
        have HI1 : Hid (∀ w', Below w.heap.size w w' → IntSl w' w'.heap.size (PV k) (b.PL k) (b.PX k)) := fun w' hb => x4.up hb
        have HI2 : Hid (∀ w', Below w.heap.size w w' → IntSl w' w'.heap.size (QV k) (c.PL k) (c.PX k)) := fun w' hb => y4.up hb
        obtain ⟨ap, cp, hpe, _, _⟩ := x4
        obtain ⟨aq, cq, hqe, _, _⟩ := y4
        rw [hpe] at x0 HI1
        rw [hqe] at y0 HI2
        have g0 : wr.cell? ⟨b1, o1 + k * 4, none⟩ = some (.slice ap (b.PL k) cp) := by rw [HB.out.cell hb1]; exact x0
        have g1 : wr.cell? ⟨b1, o1 + k * 4 + 1, none⟩ = some (.int .i64 (b.nd k)) := by rw [HB.out.cell hb1]; exact x1
        have g2 : wr.cell? ⟨b1, o1 + k * 4 + 2, none⟩ = some (.int .i64 (b.of k)) := by rw [HB.out.cell hb1]; exact x2
        have g3 : wr.cell? ⟨b1, o1 + k * 4 + 3, none⟩ = some (.int .i64 (b.sz k)) := by rw [HB.out.cell hb1]; exact x3
        have e0 : wr.cell? ⟨b2, o2 + k * 4, none⟩ = some (.slice aq (c.PL k) cq) := by rw [HB.out.cell hb2]; exact y0
        have e1 : wr.cell? ⟨b2, o2 + k * 4 + 1, none⟩ = some (.int .i64 (c.nd k)) := by rw [HB.out.cell hb2]; exact y1
        have e2 : wr.cell? ⟨b2, o2 + k * 4 + 2, none⟩ = some (.int .i64 (c.of k)) := by rw [HB.out.cell hb2]; exact y2
        have e3 : wr.cell? ⟨b2, o2 + k * 4 + 3, none⟩ = some (.int .i64 (c.sz k)) := by rw [HB.out.cell hb2]; exact y3
        have l1 : b1 < wr.heap.size := cell_lt g0
        have l2 : b2 < wr.heap.size := cell_lt e0
        clear x0 x1 x2 x3 y0 y1 y2 y3 hpe hqe hx hy hstep
        go_wp2_with fail
        have hbb : Below w.heap.size w ((wr.alloc (.cells #[.slice ap (b.PL k) cp, .int .i64 (b.nd k), .int .i64 (b.of k), .int .i64 (b.sz k)] 61)).alloc (.cells #[.slice aq (c.PL k) cq, .int .i64 (c.nd k), .int .i64 (c.of k), .int .i64 (c.sz k)] 61)) :=
          (HB.out.alloc HB.out.size _).alloc (by simp; exact Nat.le_succ_of_le HB.out.size) _
        refine Calls.mono (bkSameV _ _ _ _ _ _ _ _ _ _ _ _ _ (HI1.out _ hbb) (HI2.out _ hbb)) ?_
        rintro e w2 ⟨rfl, hb3⟩
        have HB3 : Hid (Below w.heap.size w w2) := hbb.trans (hb3.mono hbb.size)
        clear hb3 hbb
        have hvb : (eqB (b.PL k) (c.PL k) (b.PX k) (c.PX k) && (b.nd k == c.nd k && (b.of k == c.of k && b.sz k == c.sz k))) = verB b c k := rfl
        rw [hvb]
        clear hvb
        cases hs : verB b c k with
        | true =>
          have hn := HSt.out
          rw [hs, Bool.true_and] at hn
          have HNx := hid hn
          clear hn
          go_wp2
          go_roundw
          case rel => exact ⟨k + 1, by omega, by go_num, HB3, HNx⟩
          case measure => simp only [intOf]; omega
        | false =>
          have hn := HSt.out
          rw [hs, Bool.false_and] at hn
          have HNx := hid hn
          clear hn
          go_wp2
          go_ret
          exact ⟨by rw [← HNx.out]; rfl, HB3.out⟩
      · have hke : n = k := by omega
        subst hke
        have hst := HS.out
        rw [Nat.sub_self] at hst
        have HFin : Hid (true = ans) := hst
        clear hst
        go_wp2
        go_ret
        exact ⟨by rw [← HFin.out]; rfl, HB.out⟩
  · rw [decide_eq_false hnm, Bool.false_and] at hans
    have HA := hid hans
    have hni : ¬ (n : Int) = (m : Int) := by omega
    clear hans
    go_enter Tryz.func63, Tryz.ntmps63
    go_wp2
    go_ret
    exact ⟨by rw [← HA.out]; rfl, Below.refl _ _⟩

theorem bkSame {w : World} {v1 v2 : Value} {n m : Nat} {PV QV : Nat → Value} {b c : Bk} (h1 : VeSl w w.heap.size v1 n PV b) (h2 : VeSl w w.heap.size v2 m QV c) :
    Calls Tryz.prog 18 #[bookV v1, bookV v2] w fun e w' => e = .returned (.bool (bookB n m b c)) ∧ Below w.heap.size w w' := by
  have hb := ((Below.refl w.heap.size w).alloc (Nat.le_refl _) (.cells #[v1] 24)).alloc (by simp) (.cells #[v2] 24)
  have HE := hid (bkEqualFunc (h1.up hb) (h2.up hb))
  have HB := hid hb
  obtain ⟨a1, c1, rfl, _, _⟩ := h1
  obtain ⟨a2, c2, rfl, _, _⟩ := h2
  clear hb
  unfold bookV
  go_enter Tryz.func18, Tryz.ntmps18
  go_wp2_with fail
  refine HE.out.mono ?_
  rintro e w3 ⟨rfl, hb3⟩
  have HB3 := hid (HB.out.trans (hb3.mono HB.out.size))
  clear hb3
  go_wp2
  go_ret
  exact ⟨rfl, HB3.out⟩

end Go.Proofs.YtajmnlhfnhbleaaGreat

namespace Go.Proofs.YtajmnlhfnhbleaaGreat

open Go.RowKit
set_option linter.unusedVariables false

end Go.Proofs.YtajmnlhfnhbleaaGreat

namespace Go.Proofs.YtajmnlhfnhbleaaGreat

open Go.RowKit
set_option linter.unusedVariables false

theorem two_at {w : World} {g : Nat} {T : TypeId} {u0 u1 : Value} (h : w.heap[g]? = some (.cells #[u0, u1] T (0, 0))) : w.cell? ⟨g, 0, none⟩ = some u0 ∧ w.cell? ⟨g, 1, none⟩ = some u1 := ⟨cell_at h rfl, cell_at h rfl⟩

def verM (n : Nat) (b : Bk) (np : Nat) (P : Ps) (k : Int) : Int := if peersE n b np P = 0 then (if 0 ≤ k ∧ k < (n : Int) then 0 else 4) else peersE n b np P

def meshB (n n' : Nat) (b b' : Bk) (np np' : Nat) (P P' : Ps) : Bool := bookB n n' b b' && peersB np np' P P'

end Go.Proofs.YtajmnlhfnhbleaaGreat
