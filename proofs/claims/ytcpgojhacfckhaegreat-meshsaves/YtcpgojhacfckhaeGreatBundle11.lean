/- Several texts of one proof, in their order. -/
import Derived.Test.YtcpgojhacfckhaeGreatBundle10
import Derived.Test.YtcpgojhacfckhaeGreatBundle4
import Derived.Laws.ResultCell
import Derived.Laws.Rows
import Derived.Test.YtcpgojhacfckhaeGreatBundle5
import Derived.Test.YtcpgojhacfckhaeGreatBundle3

/- Right shares of a content, each number once: what most are of is the content, and none is bent; too few are too few. Plain: it speaks of no program. -/
namespace Go.Proofs.YtcpgojhacfckhaeGreat
open Go.RowKit CurveMath
set_option linter.unusedVariables false

theorem scanS_L {nd of sz : Int} {N : Nat → Int} {L L' : Nat → Nat} {X : Nat → Nat → Int} : ∀ m k, (∀ j, k ≤ j → j < k + m → L j = L' j) → scanS nd of sz N L X m k = scanS nd of sz N L' X m k := by
  intro m
  induction m with
  | zero => intro k _; rfl
  | succ m ih =>
    intro k h
    simp only [scanS]
    rw [h k (Nat.le_refl _) (by omega), ih (k + 1) fun j h1 h2 => h j (by omega) (by omega)]

theorem mostE_L {nd of sz : Int} {n : Nat} {N : Nat → Int} {L L' : Nat → Nat} {X : Nat → Nat → Int} (h : ∀ j, j < n → L j = L' j) : mostE nd of sz n N L X = mostE nd of sz n N L' X := by
  have e : checksE nd of sz n N L X = checksE nd of sz n N L' X := by
    unfold checksE
    rw [scanS_L n 0 fun j _ hj => h j (by omega)]
  unfold mostE
  rw [e]

theorem mostB_L {nd of sz : Int} {n : Nat} {N : Nat → Int} {L L' : Nat → Nat} {X : Nat → Nat → Int} (h : ∀ j, j < n → L j = L' j) : mostB nd of sz n N L X = mostB nd of sz n N L' X := by
  unfold mostB
  rw [mostE_L h]

/-- c right shares of a content -/
structure RightS (d m s R c : Nat) (O : Nat → Nat) (D : Nat → Int) (N : Nat → Int) (L : Nat → Nat) (X : Nat → Nat → Int) : Prop where
  plan : planOk (d : Int) (m : Int) (s : Int) = true
  rows : rowsN (d : Int) (s : Int) = R
  nums : ∀ j, j < s → 0 ≤ D j ∧ D j ≤ 30
  le : c ≤ m
  num : ∀ j, N j = (O j : Int)
  lt : ∀ j, j < c → O j < m
  inj : ∀ i j, i < c → j < c → O i = O j → i = j
  len : ∀ j, j < c → L j = R
  val : ∀ j, j < c → ∀ r, r < R → X j r = shv d s D (O j) r

theorem RightS.most {d m s R c : Nat} {O : Nat → Nat} {D : Nat → Int} {N : Nat → Int} {L : Nat → Nat} {X : Nat → Nat → Int} (h : RightS d m s R c O D N L X) (hc : d ≤ c) :
    mostE (d : Int) (m : Int) (s : Int) c N L X = 0 ∧ (∀ i, i < s → mostD (d : Int) (s : Int) c N X i = D i) ∧ mostB (d : Int) (m : Int) (s : Int) c N L X = [] := by
  have hN : N = fun j => (O j : Int) := funext h.num
  obtain ⟨h1, h2, h3⟩ := finds (b := 0) h.plan h.rows h.nums (by omega) h.le h.lt h.inj (X := X) (fun j hj r hr => by rw [h.val j hj r hr]; exact shv_num _ _ _ _ _) (fun j _ hj r hr => h.val j hj r hr)
  rw [hN, mostE_L (L' := fun _ => R) h.len, mostB_L (L' := fun _ => R) h.len]
  refine ⟨h1, h2, ?_⟩
  rw [h3]
  have e : badL d s R 0 (fun j => (O j : Int)) X D = [] := rfl
  rw [e]
  simp [srt]

theorem RightS.few {d m s R c : Nat} {O : Nat → Nat} {D : Nat → Int} {N : Nat → Int} {L : Nat → Nat} {X : Nat → Nat → Int} (h : RightS d m s R c O D N L X) (hc : c < d) : mostE (d : Int) (m : Int) (s : Int) c N L X = 7 := by
  obtain ⟨b1, b2, b3⟩ := planOk_spec h.plan
  have hsc : scanS (d : Int) (m : Int) (s : Int) N L X c 0 = 0 := scanS_mk c 0 fun j _ hj => by
    have hj' : j < c := by omega
    refine ⟨?_, ?_⟩
    · unfold oneE
      have hl := h.lt j hj'
      rw [if_pos h.plan, h.num j, if_pos ⟨by omega, by omega⟩, h.len j hj', if_pos (by rw [h.rows]), if_pos]
      unfold numsB
      refine decide_eq_true fun r hr => ?_
      rw [h.val j hj' r hr]
      exact decide_eq_true (shv_num _ _ _ _ _)
    · rw [Bool.eq_false_iff]
      intro hb
      obtain ⟨i, hi, e⟩ := (hasB_iff _ _ _).1 hb
      rw [h.num, h.num] at e
      have := h.inj i j (by omega) hj' (by omega)
      omega
  have e : checksE (d : Int) (m : Int) (s : Int) c N L X = 7 := by
    unfold checksE
    rw [if_pos h.plan, if_pos (by have := h.le; omega), if_pos hsc, if_neg (by omega)]
  unfold mostE
  rw [e, if_neg (by decide)]

end Go.Proofs.YtcpgojhacfckhaeGreat

/- What the walk of Keep's reference leans on. -/
namespace Go.Proofs.YtcpgojhacfckhaeGreat
open Go.RowKit
set_option linter.unusedVariables false

theorem anyL_readsO {P : Program} {D : World → Prop} {l lq : List Oper} {md : Region.Mode} {R : Act → World → Prop} {f : Nat} {sE : Array Bool} {w : World} {c : Nat} {q : List Nat} {seen : Array Bool} {a : Act} (hp : pickO l q = lq) (hs : Region.noSelect l.toArray = true) (hE : Region.ready md l.toArray sE = [c]) (hD : D w) (hw : waitsB md l.toArray c q = true) (ho : ordQ md l.toArray q seen = true)
    (hb : (q.all (fun i => match l[i]? with | some o => plainB o | none => false)) = true) (h : wpQuiet P l.toArray (fun w' => ∃ u : Of D, w' = u.val) (fun a' => anyL P md l.toArray D sE R f (seenQ q seen) a' w) lq a) : anyL P md l.toArray D sE R (f + q.length) seen a w :=
  anyL_reads hs hE hD q seen a hw ho hb (by rw [hp]; exact h)

def snocU (m : Nat) (UV : Nat → Value) (uv : Value) : Nat → Value := fun j => if j = m then uv else UV j

theorem flatI_congr {UV UV' : Nat → Value} {t t' : Kt} {l : List Nat} (h : ∀ i, i ∈ l → t.V i = t'.V i ∧ t.N i = t'.N i ∧ UV i = UV' i) : flatI UV t l = flatI UV' t' l := by
  induction l with
  | nil => rfl
  | cons a l ih =>
    obtain ⟨h1, h2, h3⟩ := h a (by simp)
    have h4 := ih fun i hi => h i (by simp [hi])
    unfold flatI at h4 ⊢
    simp only [List.flatMap_cons]
    rw [h1, h2, h3, h4]

theorem OwnT.snoc {w0 wr w1 : World} {v v' : Value} {m : Nat} {UV : Nat → Value} {t : Kt} {ver N : Int} {uv : Value} {L : Nat} {X : Nat → Int} (h : OwnT w0 wr v UV t (List.range m))
    (ho : w1.ownsRow w0.heap.size 55 3 v' (m + 1) (flatI UV t (List.range m) ++ [.int .i64 ver, .int .i64 N, uv])) (hg : wr.grownBy w1 v.ownBlock) : OwnT w0 w1 v' (snocU m UV uv) (snocT m t ver N L X) (List.range (m + 1)) := by
  refine ⟨?_, h.2.grown hg h.2.size (fun g hgg => (h.1.lt g hgg).1)⟩
  rw [List.length_range, List.range_succ, flatI_snoc]
  have e : flatI (snocU m UV uv) (snocT m t ver N L X) (List.range m) = flatI UV t (List.range m) := flatI_congr fun i hi => by
    have hne : i ≠ m := by have := List.mem_range.1 hi; omega
    simp [snocU, snocT, hne]
  rw [e]
  simp only [snocU, snocT, if_true]
  exact ho

/-- the cells of a row of kept ones, told by places -/
def RowC (wr : World) (g K : Nat) (UV : Nat → Value) (t : Kt) (l : List Nat) : Prop :=
  ∀ j, j < K → wr.cell? ⟨g, j * 3, none⟩ = some (.int .i64 (t.V (l.getD j 0))) ∧ wr.cell? ⟨g, j * 3 + 1, none⟩ = some (.int .i64 (t.N (l.getD j 0))) ∧ wr.cell? ⟨g, j * 3 + 2, none⟩ = some (UV (l.getD j 0))

theorem RowC.keep {wr w' : World} {g K : Nat} {UV : Nat → Value} {t : Kt} {l : List Nat} (h : RowC wr g K UV t l) (he : w'.heap[g]? = wr.heap[g]?) : RowC w' g K UV t l := fun j hj => by
  obtain ⟨h1, h2, h3⟩ := h j hj
  exact ⟨by rw [World.cell?_of_block he]; exact h1, by rw [World.cell?_of_block he]; exact h2, by rw [World.cell?_of_block he]; exact h3⟩

theorem RowK.keep {wr w' : World} {g K : Nat} {UV : Nat → Value} {t : Kt} {l : List Nat} (h : RowK wr g K UV t l) (he : w'.heap[g]? = wr.heap[g]?) (hs : wr.heap.size ≤ w'.heap.size) : RowK w' g K UV t l :=
  ⟨h.len, RowC.keep h.cell he, fun i hi => by rw [← h.free i hi]; unfold World.frozen?; simp only [he], Nat.lt_of_lt_of_le h.lt hs⟩

end Go.Proofs.YtcpgojhacfckhaeGreat

/- What chapter 7's reference answers: one more is kept (the walk). -/
namespace Go.Proofs.YtcpgojhacfckhaeGreat
open Go.RowKit
set_option linter.unusedVariables false

end Go.Proofs.YtcpgojhacfckhaeGreat

/- What package peer owes, as plain facts of its five functions; the kept one of the closed facts; what Keep comes to is one thing. -/
namespace Go.Proofs.YtcpgojhacfckhaeGreat
open Go.RowKit
set_option linter.unusedVariables false

/-- what Drop comes to -/
def DropsTo (n : Nat) (b : Bk) (th : Bool) (room : Int) (m : Nat) (t : Kt) (ver : Int) (er : Int) (th' : Bool) (room' : Int) (m' : Nat) (t' : Kt) : Prop :=
  (peerE n b room m t ≠ 0 ∧ er = peerE n b room m t ∧ th' = false ∧ room' = 0 ∧ m' = 0) ∨
  (peerE n b room m t = 0 ∧ er = 0 ∧ th' = th ∧ room' = room ∧ m' = (butL t ver m).length ∧ t' = selT t (butL t ver m))

def DropPost (w : World) (n : Nat) (b : Bk) (th : Bool) (room : Int) (m : Nat) (t : Kt) (ver : Int) (e : Ending) (w' : World) : Prop :=
  Below w.heap.size w w' ∧ ∃ (er : Int) (th' : Bool) (room' : Int) (r : Value) (m' : Nat) (UV' : Nat → Value) (t' : Kt), e = .returned (.tuple #[peerV th' room' r, .int .i64 er]) ∧ KeSl w' w'.heap.size r m' UV' t' ∧ DropsTo n b th room m t ver er th' room' m' t'

theorem keptB_refl (m : Nat) (t : Kt) : keptB m m t t = true := by
  have h : ∀ f k, restK t t f k = true := by
    intro f
    induction f with
    | zero => intro k; rfl
    | succ f ih => intro k; simp only [restK, ih, Bool.and_true]; unfold verK sameB eqB; simp
  unfold keptB
  simp [h]

theorem peerB_refl (th : Bool) (room : Int) (m : Nat) (t : Kt) : peerB th th room room m m t t = true := by
  unfold peerB
  rw [keptB_refl]; simp

end Go.Proofs.YtcpgojhacfckhaeGreat

/- Chapter 7's second law, in plain words: what is kept is found; dropped again it is as it was. -/
namespace Go.Proofs.YtcpgojhacfckhaeGreat
open Go.RowKit
set_option linter.unusedVariables false

theorem keptB_of {m : Nat} {t u : Kt} (h : ∀ j, j < m → t.V j = u.V j ∧ t.N j = u.N j ∧ t.L j = u.L j ∧ t.X j = u.X j) : keptB m m t u = true := by
  have h2 : ∀ f k, k + f ≤ m → restK t u f k = true := by
    intro f
    induction f with
    | zero => intro k _; rfl
    | succ f ih =>
      intro k hk
      obtain ⟨h1, h2, h3, h4⟩ := h k (by omega)
      simp only [restK, ih (k + 1) (by omega), Bool.and_true]
      unfold verK sameB eqB
      simp [h1, h2, h3, h4]
  unfold keptB
  rw [h2 m 0 (by omega)]; simp

theorem peerB_of {th : Bool} {room : Int} {m m' : Nat} {t u : Kt} (hm : m = m') (h : ∀ j, j < m → t.V j = u.V j ∧ t.N j = u.N j ∧ t.L j = u.L j ∧ t.X j = u.X j) : peerB th th room room m m' t u = true := by
  subst hm
  unfold peerB
  rw [keptB_of h]; simp

theorem butL_none {t : Kt} {ver : Int} {m : Nat} (h : ∀ j, j < m → t.V j ≠ ver) : butL t ver m = List.range m := by
  unfold butL
  refine List.filter_eq_self.2 fun j hj => ?_
  have := h j (List.mem_range.1 hj)
  simpa using this

theorem getN_mem {l : List Nat} {j : Nat} (h : j < l.length) : l.getD j 0 ∈ l := by
  rw [List.getD_eq_getElem?_getD, List.getElem?_eq_getElem h]
  exact List.getElem_mem h

theorem map_getD_range (l : List Nat) : (List.range l.length).map (fun j => l.getD j 0) = l := by
  refine List.ext_getElem (by simp) fun i h1 h2 => ?_
  simp [List.getD_eq_getElem?_getD, h2]

/-- without what was just kept: the places that were there -/
theorem but_back {t : Kt} {ver N : Int} {L m : Nat} {X : Nat → Int} {l : List Nat} (hl : InOrder (snocT m t ver N L X) (m + 1) l) (hr : ∀ i j, i < j → j < m → t.V i < t.V j) (hn : ∀ j, j < m → t.V j ≠ ver) :
    (butL (selT (snocT m t ver N L X) l) ver (m + 1)).map (fun j => l.getD j 0) = List.range m := by
  have hlen : l.length = m + 1 := by rw [hl.1.length_eq]; simp
  have e1 : (butL (selT (snocT m t ver N L X) l) ver (m + 1)).map (fun j => l.getD j 0) = l.filter fun i => i != m := by
    unfold butL
    have h1 : (l.filter fun i => i != m) = ((List.range l.length).map (fun j => l.getD j 0)).filter fun i => i != m := by rw [map_getD_range]
    rw [h1, List.filter_map, hlen]
    congr 1
    refine List.filter_congr fun j hj => ?_
    have hj2 := List.mem_range.1 hj
    have hm := List.mem_range.1 (hl.1.mem_iff.1 (getN_mem (l := l) (j := j) (by omega)))
    simp only [selT, snocT, Function.comp]
    by_cases e : l.getD j 0 = m
    · rw [e]; simp
    · rw [if_neg e]
      have := hn _ (show l.getD j 0 < m by omega)
      simp only [bne, beq_eq_false_iff_ne.2 this, beq_eq_false_iff_ne.2 e]
  rw [e1]
  refine List.Perm.eq_of_pairwise (le := fun a c => (snocT m t ver N L X).V a < (snocT m t ver N L X).V c) (fun a c _ _ h1 h2 => by omega) (hl.2.filter _) ?_ ?_
  · refine (List.pairwise_lt_range (n := m)).imp_of_mem fun {a c} ha hc hac => ?_
    have h1 := List.mem_range.1 ha
    have h2 := List.mem_range.1 hc
    simp only [snocT, if_neg (show a ≠ m by omega), if_neg (show c ≠ m by omega)]
    exact hr a c hac h2
  · refine (hl.1.filter _).trans ?_
    rw [List.range_succ, List.filter_append]
    have h3 : (List.range m).filter (fun i => i != m) = List.range m := List.filter_eq_self.2 fun j hj => by have := List.mem_range.1 hj; simp; omega
    rw [h3]; simp

theorem fstAt_at (X : Nat → Int) (v : Int) : ∀ (m k : Nat), 0 ≤ fstAt X v m k → ∃ i : Nat, fstAt X v m k = (i : Int) ∧ k ≤ i ∧ i < k + m ∧ X i = v := by
  intro m
  induction m with
  | zero => intro k h; simp [fstAt] at h
  | succ m ih =>
    intro k h
    simp only [fstAt] at h ⊢
    by_cases e : v = X k
    · rw [if_pos e]; exact ⟨k, rfl, Nat.le_refl _, by omega, e.symm⟩
    · rw [if_neg e] at h ⊢
      obtain ⟨i, h1, h2, h3, h4⟩ := ih (k + 1) h
      exact ⟨i, h1, by omega, by omega, h4⟩

/-- what was kept is found, as it was kept -/
theorem found_alike {t : Kt} {ver N : Int} {L m : Nat} {X : Nat → Int} {l : List Nat} (hl : InOrder (snocT m t ver N L X) (m + 1) l) (hn : ∀ j, j < m → t.V j ≠ ver) :
    ∃ i : Nat, fstAt (selT (snocT m t ver N L X) l).V ver (m + 1) 0 = (i : Int) ∧ i < m + 1 ∧ (selT (snocT m t ver N L X) l).N i = N ∧ (selT (snocT m t ver N L X) l).L i = L ∧ (selT (snocT m t ver N L X) l).X i = X := by
  have hlen : l.length = m + 1 := by rw [hl.1.length_eq]; simp
  have hmm : m ∈ l := hl.1.mem_iff.2 (List.mem_range.2 (by omega))
  obtain ⟨k, hk, hke⟩ := List.getElem_of_mem hmm
  have hex : 0 ≤ fstAt (selT (snocT m t ver N L X) l).V ver (m + 1) 0 := (fstAt_neg _ _ _ _).2 ⟨k, Nat.zero_le _, by omega, by simp [selT, snocT, List.getD_eq_getElem?_getD, hk, hke]⟩
  obtain ⟨i, h1, _, h2, h3⟩ := fstAt_at _ _ _ _ hex
  have hi := List.mem_range.1 (hl.1.mem_iff.1 (getN_mem (l := l) (j := i) (by omega)))
  have he : l.getD i 0 = m := by
    by_cases e : l.getD i 0 = m
    · exact e
    · simp only [selT, snocT, if_neg e] at h3
      exact absurd h3 (hn _ (by omega))
  exact ⟨i, h1, by omega, by simp only [selT, snocT, he, if_true], by simp only [selT, snocT, he, if_true], by simp only [selT, snocT, he, if_true]⟩

end Go.Proofs.YtcpgojhacfckhaeGreat
