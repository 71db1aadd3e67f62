/- Several texts of one proof, in their order. -/
import Derived.Test.YtdhefajaekackaaPrSum4
import Derived.Test.YtdhefajaekackaaPrSum7
import Derived.Laws.ResultCell
import Derived.Laws.Rows

/- As MixedTree, where one operation waits for all others and comes last (a store of what was reckoned): behind it nothing need stay as it was. Plain: it speaks of no program. -/
namespace Go.Proofs.Ytdhefajaekackaa

set_option linter.unusedVariables false

variable {P : Program} {D : World → Prop}

/-- one of those that are ready comes up -/
theorem anyL_pick {l : List Oper} {md : Region.Mode} {R : Act → World → Prop} {f : Nat} {seen sE : Array Bool} {a : Act} {w : World} (rs : List Nat) (hr : Region.ready md l.toArray seen = rs) (hne : rs ≠ [])
    (h : ∀ i ∈ rs, ∃ o, l[i]? = some o ∧ ∀ K : Act → World → Prop, (∀ a'' w'', D w'' → anyL P md l.toArray D sE R f (seen.setIfInBounds i true) a'' w'' → K a'' w'') → wpList P l.toArray (endN K) [o] a w) :
    anyL P md l.toArray D sE R (f + 1) seen a w := by
  refine ⟨by rw [hr]; exact hne, fun i hi => ?_⟩
  rw [hr] at hi
  obtain ⟨o, ho, hK⟩ := h i hi
  have h0 : l.toArray[i]? = some o := by simpa using ho
  have hw := hK (fun a'' w'' => D w'' ∧ anyL P md l.toArray D sE R f (seen.setIfInBounds i true) a'' w'') (fun a'' w'' g1 g2 => ⟨g1, g2⟩)
  simp only [wpList] at hw
  unfold wpOp
  simp only [h0]
  split
  · rename_i hwt
    simp only [hwt, if_true] at hw
    rcases hw with hw | hw
    · exact Or.inl (upon_ends (fun v w1 hh => hh.2) (fun d w1 hh => hh.2) hw)
    · exact absurd hw.2 letsOut_endN
  · rename_i hwt
    simp only [hwt] at hw
    exact hw.2

/-- the one that comes last waits for each of these -/
def waitsB (md : Region.Mode) (ops : Array Oper) (c : Nat) (q : List Nat) : Bool :=
  match ops[c]? with
  | some o => q.all fun i => o.after.any fun e => Region.binds md e && e.on == i
  | none => false

/-- what only reads, in between -/
theorem anyL_reads {l : List Oper} {md : Region.Mode} {R : Act → World → Prop} {f : Nat} {sE : Array Bool} {w : World} {c : Nat} (hs : Region.noSelect l.toArray = true) (hE : Region.ready md l.toArray sE = [c]) (hD : D w) : ∀ (q : List Nat) (seen : Array Bool) (a : Act), waitsB md l.toArray c q = true → ordQ md l.toArray q seen = true →
    (q.all (fun i => match l[i]? with | some o => plainB o | none => false)) = true →
    wpQuiet P l.toArray (fun w' => ∃ u : Of D, w' = u.val) (fun a' => anyL P md l.toArray D sE R f (seenQ q seen) a' w) (pickO l q) a → anyL P md l.toArray D sE R (f + q.length) seen a w
  | [], seen, a, _, _, _, h => h
  | i :: q, seen, a, hw, ho, hq, h => by
    simp only [List.all_cons, Bool.and_eq_true] at hq
    obtain ⟨h1, h2⟩ := hq
    simp only [ordQ, Bool.and_eq_true] at ho
    obtain ⟨⟨hr, hf⟩, ho'⟩ := ho
    unfold waitsB at hw
    cases hoc : l.toArray[c]? with
    | none => simp only [hoc] at hw; cases hw
    | some oc =>
      simp only [hoc, List.all_cons, Bool.and_eq_true] at hw
      obtain ⟨hw1, hw2⟩ := hw
      obtain ⟨x, hx, hb⟩ := Array.any_eq_true.1 hw1
      simp only [Bool.and_eq_true, beq_iff_eq] at hb
      cases hoi : l[i]? with
      | none => simp [hoi] at h1
      | some o =>
        simp only [hoi] at h1
        simp only [pickO, hoi] at h
        have h0 : l.toArray[i]? = some o := by simpa using hoi
        have hst : qOp P l.toArray (fun w' => ∃ u : Of D, w' = u.val) i (wpQuiet P l.toArray (fun w' => ∃ u : Of D, w' = u.val) (fun a' => anyL P md l.toArray D sE R f (seenQ (i :: q) seen) a' w) (pickO l q)) a := by unfold qOp; simp only [h0]; exact h
        obtain ⟨v, hy, hK⟩ := yieldsIn_of_qOp h0 hst
        exact anyL_first hE hoc ⟨oc.after[x], Array.getElem_mem hx, hb.1, hb.2⟩ h0 (Region.noSelect_spec hs) (f + q.length) seen a w hD (Region.free_spec h0 hf) (by simpa using hr) (still_of_yields h1 hy) (anyL_reads hs hE hD q _ _ (by unfold waitsB; simp only [hoc]; exact hw2) ho' h2 hK)

theorem anyL_end {l : List Oper} {md : Region.Mode} {R : Act → World → Prop} {seen sE : Array Bool} {a : Act} {w : World} (hs : seen = sE) (h : R a w) : anyL P md l.toArray D sE R 0 seen a w := ⟨hs, h⟩

/-- a region that draws its order, one operation behind all others -/
theorem region_tree_last {id : Nat} {Q : Exit → Act → World → Prop} {a : Act} {w : World} {l lc : List Oper} (D : World → Prop) (c : Nat) (sE : Array Bool) (f : Nat) (hm : P.follows .mixedOrders = true) (hE : Region.ready .any l.toArray sE = [c]) (hE2 : Region.ready .any l.toArray (sE.setIfInBounds c true) = []) (hf : f + 1 = l.length) (hc : pickO l [c] = lc) (hcs : (l[c]?).isSome = true)
    (h : anyL P .any l.toArray D sE (fun a' w' => wpList P l.toArray Q lc a' w') f (Array.replicate l.length false) a w.drew) : (Code.region id l.toArray true).wp P Q a w := by
  obtain ⟨oc, hoc⟩ := Option.isSome_iff_exists.1 hcs
  refine wp_region_any hm ?_
  have h2 := any_of_anyL (Q := Q) hE hE2 (fun a' w' h' => by
    have h0 : l.toArray[c]? = some oc := by simpa using hoc
    rw [← hc] at h'
    simp only [pickO, hoc, wpList] at h'
    unfold wpOp
    simp only [h0]
    exact h') _ _ _ _ h
  rw [hf] at h2
  simpa using h2

end Go.Proofs.Ytdhefajaekackaa

/- What chapter 7's reference answers: one more is kept. -/
namespace Go.Proofs.Ytdhefajaekackaa

open Go.RowKit
set_option linter.unusedVariables false

/-- one more behind m -/
def snocT (m : Nat) (t : Kt) (ver N : Int) (L : Nat) (X : Nat → Int) : Kt := ⟨fun j => if j = m then ver else t.V j, fun j => if j = m then N else t.N j, fun j => if j = m then L else t.L j, fun j => if j = m then X else t.X j⟩

/-- the first K places, by version -/
def InOrder (t : Kt) (K : Nat) (l : List Nat) : Prop := l.Perm (List.range K) ∧ l.Pairwise fun a c => t.V a < t.V c

theorem inOrder_uniq {t : Kt} {K : Nat} {l l' : List Nat} (h : InOrder t K l) (h' : InOrder t K l') : l = l' := by
  refine List.Perm.eq_of_pairwise (le := fun a c => t.V a < t.V c) (fun a c _ _ h1 h2 => ?_) h.2 h'.2 (h.1.trans h'.1.symm)
  omega

/-- what Keep comes to -/
def KeepsTo (n : Nat) (b : Bk) (th : Bool) (room : Int) (m : Nat) (t : Kt) (ver N : Int) (L : Nat) (X : Nat → Int) (er : Int) (th' : Bool) (room' : Int) (m' : Nat) (t' : Kt) : Prop :=
  (peerE n b room m t ≠ 0 ∧ er = peerE n b room m t ∧ th' = false ∧ room' = 0 ∧ m' = 0) ∨
  (peerE n b room m t = 0 ∧ room ≤ (m : Int) ∧ er = 8 ∧ th' = false ∧ room' = 0 ∧ m' = 0) ∨
  (peerE n b room m t = 0 ∧ (m : Int) < room ∧ 0 ≤ fstAt t.V ver m 0 ∧ er = 5 ∧ th' = false ∧ room' = 0 ∧ m' = 0) ∨
  (peerE n b room m t = 0 ∧ (m : Int) < room ∧ fstAt t.V ver m 0 < 0 ∧ ∃ l, InOrder (snocT m t ver N L X) (m + 1) l ∧ er = peerE n b room (m + 1) (selT (snocT m t ver N L X) l) ∧
    ((er = 0 ∧ th' = th ∧ room' = room ∧ m' = m + 1 ∧ t' = selT (snocT m t ver N L X) l) ∨ (er ≠ 0 ∧ th' = false ∧ room' = 0 ∧ m' = 0)))

/-- a peer and an error that were answered -/
def KeepPost (w : World) (n : Nat) (b : Bk) (th : Bool) (room : Int) (m : Nat) (t : Kt) (ver N : Int) (L : Nat) (X : Nat → Int) (e : Ending) (w' : World) : Prop :=
  Below w.heap.size w w' ∧ ∃ (er : Int) (th' : Bool) (room' : Int) (r : Value) (m' : Nat) (UV' : Nat → Value) (t' : Kt), e = .returned (.tuple #[peerV th' room' r, .int .i64 er]) ∧ KeSl w' w'.heap.size r m' UV' t' ∧ KeepsTo n b th room m t ver N L X er th' room' m' t'

theorem fstAt_none {X : Nat → Int} {v : Int} {m : Nat} (h : fstAt X v m 0 < 0) : ∀ j, j < m → X j ≠ v := fun j hj e => by
  have := (fstAt_neg X v m 0).2 ⟨j, Nat.zero_le _, by omega, e⟩
  omega

theorem scanK_rise {n : Nat} {b : Bk} {t : Kt} : ∀ f k last, scanK n b t f k last = 0 → (∀ j, k ≤ j → j < k + f → last < t.V j) ∧ ∀ j, k ≤ j → j + 1 < k + f → t.V j < t.V (j + 1) := by
  intro f
  induction f with
  | zero => intro k last _; exact ⟨fun j h1 h2 => by omega, fun j h1 h2 => by omega⟩
  | succ f ih =>
    intro k last h
    simp only [scanK] at h
    by_cases c1 : t.V k < 0 ∨ (n : Int) ≤ t.V k
    · rw [if_pos c1] at h; omega
    · rw [if_neg c1] at h
      by_cases c2 : t.V k ≤ last
      · rw [if_pos c2] at h; omega
      · rw [if_neg c2] at h
        by_cases c3 : oneK b t k = 0
        · rw [if_pos c3] at h
          obtain ⟨h1, h2⟩ := ih (k + 1) (t.V k) h
          refine ⟨fun j g1 g2 => ?_, fun j g1 g2 => ?_⟩
          · by_cases e : j = k
            · subst e; omega
            · have := h1 j (by omega) (by omega); omega
          · by_cases e : j = k
            · subst e; exact h1 (j + 1) (by omega) (by omega)
            · exact h2 j (by omega) (by omega)
        · rw [if_neg c3] at h; exact absurd h c3

theorem rise_far {X : Nat → Int} {m : Nat} (h : ∀ j, j + 1 < m → X j < X (j + 1)) : ∀ i j, i < j → j < m → X i < X j := by
  intro i j
  induction j with
  | zero => intro h1; omega
  | succ j ih =>
    intro h1 h2
    by_cases e : i = j
    · subst e; exact h i h2
    · have h3 := ih (by omega) (by omega)
      have h4 := h j h2
      omega

/-- what peers in order keep: each version once -/
theorem peerE_ok {n : Nat} {b : Bk} {room : Int} {m : Nat} {t : Kt} (h : peerE n b room m t = 0) : bookE n b = 0 ∧ (0 ≤ room ∧ room ≤ 20) ∧ (m : Int) ≤ room ∧ scanK n b t m 0 (-1) = 0 := by
  unfold peerE at h
  by_cases h1 : bookE n b = 0
  · rw [if_pos h1] at h
    by_cases h2 : 0 ≤ room ∧ room ≤ 20
    · rw [if_pos h2] at h
      by_cases h3 : (m : Int) ≤ room
      · rw [if_pos h3] at h; exact ⟨h1, h2, h3, h⟩
      · rw [if_neg h3] at h; omega
    · rw [if_neg h2] at h; omega
  · rw [if_neg h1] at h; exact absurd h h1

theorem snocT_inj {n : Nat} {b : Bk} {room : Int} {m : Nat} {t : Kt} {ver N : Int} {L : Nat} {X : Nat → Int} (h : peerE n b room m t = 0) (hf : fstAt t.V ver m 0 < 0) : ∀ i j, i < m + 1 → j < m + 1 → (snocT m t ver N L X).V i = (snocT m t ver N L X).V j → i = j := by
  have hr := rise_far (X := t.V) (m := m) (fun j hj => (scanK_rise m 0 (-1) (peerE_ok h).2.2.2).2 j (Nat.zero_le _) (by omega))
  have hn := fstAt_none hf
  intro i j hi hj e
  simp only [snocT] at e
  by_cases ei : i = m
  · by_cases ej : j = m
    · omega
    · rw [if_pos ei, if_neg ej] at e
      exact absurd e.symm (hn j (by omega))
  · by_cases ej : j = m
    · rw [if_neg ei, if_pos ej] at e
      exact absurd e (hn i (by omega))
    · rw [if_neg ei, if_neg ej] at e
      rcases Nat.lt_trichotomy i j with h1 | h1 | h1
      · have := hr i j h1 (by omega); omega
      · exact h1
      · have := hr j i h1 (by omega); omega

end Go.Proofs.Ytdhefajaekackaa

/- What the walk of Keep's reference leans on. -/
namespace Go.Proofs.Ytdhefajaekackaa

open Go.RowKit
set_option linter.unusedVariables false

theorem anyL_readsO {P : Program} {D : World → Prop} {l lq : List Oper} {md : Region.Mode} {R : Act → World → Prop} {f : Nat} {sE : Array Bool} {w : World} {c : Nat} {q : List Nat} {seen : Array Bool} {a : Act} (hp : pickO l q = lq) (hs : Region.noSelect l.toArray = true) (hE : Region.ready md l.toArray sE = [c]) (hD : D w) (hw : waitsB md l.toArray c q = true) (ho : ordQ md l.toArray q seen = true)
    (hb : (q.all (fun i => match l[i]? with | some o => plainB o | none => false)) = true) (h : wpQuiet P l.toArray (fun w' => ∃ u : Of D, w' = u.val) (fun a' => anyL P md l.toArray D sE R f (seenQ q seen) a' w) lq a) : anyL P md l.toArray D sE R (f + q.length) seen a w :=
  anyL_reads hs hE hD q seen a hw ho hb (by rw [hp]; exact h)

def snocU (m : Nat) (UV : Nat → Value) (uv : Value) : Nat → Value := fun j => if j = m then uv else UV j

theorem flatI_congr {UV UV' : Nat → Value} {t t' : Kt} {l : List Nat} (h : ∀ i, i ∈ l → t.V i = t'.V i ∧ t.N i = t'.N i ∧ UV i = UV' i) : flatI UV t l = flatI UV' t' l := by
  induction l with
  | nil => rfl
  | cons a l ih =>
    obtain ⟨h1, h2, h3⟩ := h a (by simp)
    have h4 := ih fun i hi => h i (by simp [hi])
    unfold flatI at h4 ⊢
    simp only [List.flatMap_cons]
    rw [h1, h2, h3, h4]

theorem OwnT.snoc {w0 wr w1 : World} {v v' : Value} {m : Nat} {UV : Nat → Value} {t : Kt} {ver N : Int} {uv : Value} {L : Nat} {X : Nat → Int} (h : OwnT w0 wr v UV t (List.range m))
    (ho : w1.ownsRow w0.heap.size 62 3 v' (m + 1) (flatI UV t (List.range m) ++ [.int .i64 ver, .int .i64 N, uv])) (hg : wr.grownBy w1 v.ownBlock) : OwnT w0 w1 v' (snocU m UV uv) (snocT m t ver N L X) (List.range (m + 1)) := by
  refine ⟨?_, h.2.grown hg h.2.size (fun g hgg => (h.1.lt g hgg).1)⟩
  rw [List.length_range, List.range_succ, flatI_snoc]
  have e : flatI (snocU m UV uv) (snocT m t ver N L X) (List.range m) = flatI UV t (List.range m) := flatI_congr fun i hi => by
    have hne : i ≠ m := by have := List.mem_range.1 hi; omega
    simp [snocU, snocT, hne]
  rw [e]
  simp only [snocU, snocT, if_true]
  exact ho

/-- the cells of a row of kept ones, told by places -/
def RowC (wr : World) (g K : Nat) (UV : Nat → Value) (t : Kt) (l : List Nat) : Prop :=
  ∀ j, j < K → wr.cell? ⟨g, j * 3, none⟩ = some (.int .i64 (t.V (l.getD j 0))) ∧ wr.cell? ⟨g, j * 3 + 1, none⟩ = some (.int .i64 (t.N (l.getD j 0))) ∧ wr.cell? ⟨g, j * 3 + 2, none⟩ = some (UV (l.getD j 0))

theorem RowC.keep {wr w' : World} {g K : Nat} {UV : Nat → Value} {t : Kt} {l : List Nat} (h : RowC wr g K UV t l) (he : w'.heap[g]? = wr.heap[g]?) : RowC w' g K UV t l := fun j hj => by
  obtain ⟨h1, h2, h3⟩ := h j hj
  exact ⟨by rw [World.cell?_of_block he]; exact h1, by rw [World.cell?_of_block he]; exact h2, by rw [World.cell?_of_block he]; exact h3⟩

theorem own_row {w0 wr : World} {v : Value} {K : Nat} {UV : Nat → Value} {t : Kt} (h : OwnT w0 wr v UV t (List.range K)) (hK : 1 ≤ K) :
    ∃ g cap, v = .slice (some ⟨g, 0, none⟩) K cap ∧ w0.heap.size ≤ g ∧ K ≤ cap ∧ RowK wr g K UV t (List.range K) := by
  obtain ⟨⟨hl, h2⟩, hb⟩ := h
  rw [List.length_range] at h2 hl
  rcases h2 with ⟨rfl, h0⟩ | ⟨g, cap, cur, rfl, hg, hh, hc1, hc2, hsz, hcur⟩
  · omega
  · have key : ∀ i u, i < K * 3 → (flatI UV t (List.range K))[i]? = some u → wr.cell? ⟨g, i, none⟩ = some u := fun i u hi h3 => by
      rw [← hcur, List.getElem?_take, if_pos hi] at h3
      exact cell_at hh (by simpa using h3)
    refine ⟨g, cap, rfl, hg, hc1, by simp, fun j hj => ?_, fun i hi => frozen_at hh, (Array.getElem?_eq_some_iff.1 hh).1⟩
    obtain ⟨q1, q2, q3⟩ := flatI_get UV t (List.range K) j (by simpa using hj)
    exact ⟨key _ _ (by omega) q1, key _ _ (by omega) q2, key _ _ (by omega) q3⟩

theorem RowK.keep {wr w' : World} {g K : Nat} {UV : Nat → Value} {t : Kt} {l : List Nat} (h : RowK wr g K UV t l) (he : w'.heap[g]? = wr.heap[g]?) (hs : wr.heap.size ≤ w'.heap.size) : RowK w' g K UV t l :=
  ⟨h.len, RowC.keep h.cell he, fun i hi => by rw [← h.free i hi]; unfold World.frozen?; simp only [he], Nat.lt_of_lt_of_le h.lt hs⟩

theorem rowC_kel {wr : World} {g K cap : Nat} {UV : Nat → Value} {t : Kt} {l : List Nat} (h : RowC wr g K UV t l) (hl : l.length = K) (hg : g < wr.heap.size) (hc : K ≤ cap) (hr : K * 40 ≤ 140737488351232) (hi : ∀ i, i ∈ l → IntSl wr wr.heap.size (UV i) (t.L i) (t.X i)) :
    KeSl wr wr.heap.size (.slice (some ⟨g, 0, none⟩) K cap) K (fun j => UV (l.getD j 0)) (selT t l) := by
  refine ⟨_, cap, rfl, ⟨hc, hr⟩, Or.inr ⟨g, 0, rfl, hg, fun j hj => ?_⟩⟩
  obtain ⟨q1, q2, q3⟩ := h j hj
  rw [Nat.zero_add]
  refine ⟨q1, q2, q3, hi _ ?_⟩
  rw [List.getD_eq_getElem?_getD, List.getElem?_eq_getElem (by omega)]
  exact List.getElem_mem (by omega)

theorem snoc_ints {w : World} {v : Value} {m : Nat} {UV : Nat → Value} {t : Kt} {ver N : Int} {uv : Value} {L : Nat} {X : Nat → Int} (hk : KeSl w w.heap.size v m UV t) (hu : IntSl w w.heap.size uv L X) {w' : World} (hb : Below w.heap.size w w') {l : List Nat} (hl : l.Perm (List.range (m + 1))) : ∀ i, i ∈ l → IntSl w' w'.heap.size (snocU m UV uv i) ((snocT m t ver N L X).L i) ((snocT m t ver N L X).X i) := fun i hi => by
  have hi2 := List.mem_range.1 (hl.mem_iff.1 hi)
  by_cases e : i = m
  · subst e; simp only [snocU, snocT, if_true]; exact hu.up hb
  · simp only [snocU, snocT, if_neg e]
    obtain ⟨_, _, _, _, h2⟩ := hk
    rcases h2 with h0 | ⟨_, _, _, _, h5⟩
    · omega
    · exact (h5 i (by omega)).2.2.2.up hb

theorem snoc_slices {w : World} {v : Value} {m : Nat} {UV : Nat → Value} {t : Kt} {uv : Value} {L : Nat} {X : Nat → Int} (hk : KeSl w w.heap.size v m UV t) (hu : IntSl w w.heap.size uv L X) : ∀ i, i < m + 1 → ∃ a n c, snocU m UV uv i = .slice a n c := fun i hi => by
  obtain ⟨a, c, h, _⟩ := snoc_ints (ver := 0) (N := 0) hk hu (Below.refl _ _) (List.Perm.refl _) i (List.mem_range.2 hi)
  exact ⟨_, _, _, h⟩

theorem keeps_err {w w5 : World} {n : Nat} {b : Bk} {th : Bool} {room : Int} {m : Nat} {t t' : Kt} {ver N : Int} {L : Nat} {X : Nat → Int} {c : Int} (hc : KeepsTo n b th room m t ver N L X c false 0 0 t') (hb : Below w.heap.size w w5) :
    KeepPost w n b th room m t ver N L X (.returned (.tuple #[.agg #[.bool false, .int .i64 0, .slice none 0 0], .int .i64 c])) (put3 w5 (w.heap.size + 3) (.bool false) (.int .i64 0) (.slice none 0 0)) :=
  ⟨put3_below hb (by omega), c, false, 0, .slice none 0 0, 0, fun _ => .int .i64 0, t', rfl, ⟨none, 0, rfl, ⟨Nat.le_refl _, by omega⟩, Or.inl rfl⟩, hc⟩

theorem keeps_ok {w w5 : World} {n : Nat} {b : Bk} {th : Bool} {room : Int} {m : Nat} {t : Kt} {ver N : Int} {L : Nat} {X : Nat → Int} {v uv : Value} {UV : Nat → Value} {g cap : Nat} {l : List Nat} (hk : KeSl w w.heap.size v m UV t) (hu : IntSl w w.heap.size uv L X) (hr : RowC w5 g (m + 1) (snocU m UV uv) (snocT m t ver N L X) l) (hl : l.Perm (List.range (m + 1))) (hg : g < w5.heap.size) (hg2 : g ≠ w.heap.size + 3) (hcap : m + 1 ≤ cap) (hm : m ≤ 1000)
    (hc : KeepsTo n b th room m t ver N L X 0 th room (m + 1) (selT (snocT m t ver N L X) l)) (hb : Below w.heap.size w w5) :
    KeepPost w n b th room m t ver N L X (.returned (.tuple #[.agg #[.bool th, .int .i64 room, .slice (some ⟨g, 0, none⟩) (m + 1) cap], .int .i64 0])) (put3 w5 (w.heap.size + 3) (.bool th) (.int .i64 room) (.slice (some ⟨g, 0, none⟩) (m + 1) cap)) := by
  have hB : Below w.heap.size w (put3 w5 (w.heap.size + 3) (.bool th) (.int .i64 room) (.slice (some ⟨g, 0, none⟩) (m + 1) cap)) := put3_below hb (by omega)
  refine ⟨hB, 0, th, room, _, m + 1, _, _, rfl, rowC_kel (hr.keep (put3_other hg2)) (by rw [hl.length_eq]; simp) ?_ hcap (by omega) (snoc_ints hk hu hB hl), hc⟩
  simpa [put3, World.setCell] using hg

end Go.Proofs.Ytdhefajaekackaa
