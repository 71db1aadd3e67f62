/- Several texts of one proof, in their order. -/
import Derived.Test.YtikchpffkhohlaaGreatSSum10
import Derived.Test.YtikchpffkhohlaaGreatSSum9
import Derived.Test.YtikchpffkhohlaaGreatSSum5
import Derived.Laws.ResultCell
import Derived.Laws.Rows
import Derived.Test.YtikchpffkhohlaaGreatSSum6
import Derived.Test.YtikchpffkhohlaaGreatSSum4
import Derived.Test.YtikchpffkhohlaaGreatSSum2

namespace Go.Proofs.YtikchpffkhohlaaGreat
open Go.RowKit CurveMath
set_option linter.unusedVariables false
section
variable {P : Ps} {ver : Int} {R : Nat} {S : Nat → Nat → Int} {k : Nat}
theorem repP_at : (repP P ver R S k).m k = P.m k ∧ (repP P ver R S k).t k = P.t k := by
 simp only [repP]
 rw [if_neg (by simp), if_neg (by simp)]
 exact ⟨rfl, rfl⟩
theorem repP_keep (h : dropK P ver R S k = false) : repP P ver R S (k + 1) = repP P ver R S k := by
 have e : ∀ j, (decide (j < k + 1) && dropK P ver R S j) = (decide (j < k) && dropK P ver R S j) := fun j => by
  by_cases ej : j = k
  ·subst ej; rw [h]; simp
  ·congr 1
   exact decide_eq_decide.2 (by omega)
 unfold repP
 simp only [e]
theorem repP_drop (h : dropK P ver R S k = true) : ((repP P ver R S (k + 1)).m k = (butL (P.t k) ver (P.m k)).length ∧ (repP P ver R S (k + 1)).t k = selT (P.t k) (butL (P.t k) ver (P.m k))) ∧ ∀ j, j ≠ k → (repP P ver R S (k + 1)).m j = (repP P ver R S k).m j ∧ (repP P ver R S (k + 1)).t j = (repP P ver R S k).t j := by
 refine ⟨?_, fun j hj => ?_⟩
 ·simp only [repP]
  rw [if_pos (by rw [h]; simp), if_pos (by rw [h]; simp)]
  exact ⟨rfl, rfl⟩
 ·have e : (decide (j < k + 1) && dropK P ver R S j) = (decide (j < k) && dropK P ver R S j) := by
   congr 1
   exact decide_eq_decide.2 (by omega)
  simp only [repP, e]
  exact ⟨trivial, trivial⟩
theorem rep_none (h : hasK P ver k = false) : dropK P ver R S k = false ∧ repS P ver R S (k + 1) = repS P ver R S k := by
 refine ⟨by unfold dropK; rw [h, Bool.false_and], ?_⟩
 simp only [repS]
 rw [h, Bool.false_and, if_neg (by decide)]
theorem rep_good (h : hasK P ver k = true) (hg : goodK P ver R S k = true) (hs : (repS P ver R S k).contains (numK P ver k) = false) : dropK P ver R S k = false ∧ repS P ver R S (k + 1) = repS P ver R S k ++ [numK P ver k] := by
 refine ⟨by unfold dropK; rw [h, hg, hs]; rfl, ?_⟩
 simp only [repS]
 rw [h, hg, hs, if_pos (by rfl)]
theorem rep_bad (h : hasK P ver k = true) (hb : (goodK P ver R S k && !(repS P ver R S k).contains (numK P ver k)) = false) : dropK P ver R S k = true ∧ repS P ver R S (k + 1) = repS P ver R S k := by
 refine ⟨by unfold dropK; rw [h, hb]; rfl, ?_⟩
 simp only [repS]
 rw [h, hb, if_neg (by decide)]
end
theorem oneE_ok {nd of sz N : Int} {L : Nat} {X : Nat → Int} (h : oneE nd of sz N L X = 0) : planOk nd of sz = true ∧ (0 ≤ N ∧ N < of) ∧ (L : Int) = rowsN nd sz ∧ numsB L X = true := by
 unfold oneE at h
 by_cases h1 : planOk nd of sz = true
 ·rw [if_pos h1] at h
  by_cases h2 : 0 ≤ N ∧ N < of
  ·rw [if_pos h2] at h
   by_cases h3 : (L : Int) = rowsN nd sz
   ·rw [if_pos h3] at h
    by_cases h4 : numsB L X = true
    ·exact ⟨h1, h2, h3, h4⟩
    ·rw [if_neg h4] at h; omega
   ·rw [if_neg h3] at h; omega
  ·rw [if_neg h2] at h; omega
 ·rw [if_neg h1] at h; omega
theorem MeshR.num {n : Nat} {b : Bk} {np : Nat} {P : Ps} (h : MeshR n b np P) : ∀ k i, k < np → i < P.m k → 0 ≤ (P.t k).N i ∧ (P.t k).N i < 8 := fun k i hk hi => by
 obtain ⟨h1, h2, _, _⟩ := oneE_ok ((h.peer k hk).right i hi).2
 have := (planOk_spec h1).2.1
 omega
theorem MeshR.small {n : Nat} {b : Bk} {np : Nat} {P : Ps} (h : MeshR n b np P) : ∀ k, k < np → P.m k ≤ 20 := fun k hk => by
 have h1 := (h.peer k hk).room_
 have h2 := (h.peer k hk).few
 omega
theorem verM_ok {n : Nat} {b : Bk} {np : Nat} {P : Ps} {k : Int} (h : verM n b np P k = 0) : MeshR n b np P ∧ 0 ≤ k ∧ k < (n : Int) := by
 unfold verM at h
 by_cases h1 : peersE n b np P = 0
 ·rw [if_pos h1] at h
  by_cases h2 : 0 ≤ k ∧ k < (n : Int)
  ·exact ⟨meshR_of h1, h2⟩
  ·rw [if_neg h2] at h; omega
 ·rw [if_neg h1] at h; exact absurd h h1
theorem fstAt_place (X : Nat → Int) (v : Int) : ∀ (m k : Nat), 0 ≤ fstAt X v m k → ∃ i : Nat, fstAt X v m k = (i : Int) ∧ k ≤ i ∧ i < k + m ∧ X i = v := by
 intro m
 induction m with
 | zero => intro k h; simp [fstAt] at h
 | succ m ih =>
  intro k h
  simp only [fstAt] at h ⊢
  by_cases e : v = X k
  ·rw [if_pos e]; exact ⟨k, rfl, Nat.le_refl _, by omega, e.symm⟩
  ·rw [if_neg e] at h ⊢
   obtain ⟨i, h1, h2, h3, h4⟩ := ih (k + 1) h
   exact ⟨i, h1, by omega, by omega, h4⟩
theorem rsE_ok {n : Nat} {b : Bk} {np : Nat} {P : Ps} {k : Int} (h : rsE n b np P k = 0) : verM n b np P k = 0 ∧ ∃ d m s : Nat, b.nd k.toNat = d ∧ b.of k.toNat = m ∧ b.sz k.toNat = s ∧ planOk (d : Int) (m : Int) (s : Int) = true := by
 unfold rsE at h
 by_cases h1 : verM n b np P k = 0
 ·rw [if_pos h1] at h
  refine ⟨h1, ?_⟩
  unfold mostE at h
  by_cases h2 : checksE (b.nd k.toNat) (b.of k.toNat) (b.sz k.toNat) (thereL P k np).length (nT P (thereL P k np)) (lT P (thereL P k np)) (xT P (thereL P k np)) = 0
  ·obtain ⟨d, m, s, R, e1, e2, e3, hS⟩ := checks_ok h2
   exact ⟨d, m, s, e1, e2, e3, hS.plan⟩
  ·rw [if_neg h2] at h; exact absurd h h2
 ·rw [if_neg h1] at h; exact absurd h h1
theorem rsD_num (b : Bk) (np : Nat) (P : Ps) (k : Int) (j : Nat) : 0 ≤ rsD b np P k j ∧ rsD b np P k j ≤ 30 := crv_num _ _ _ _
theorem split_right {need of : Int} {len : Nat} {D : Nat → Int} (h : splitE need of (len : Int) len D = 0) {k : Nat} (hk : (k : Int) < of) : oneE need of (len : Int) (k : Int) (rowsN need (len : Int)) (fun r => shv need.toNat len D k r) = 0 := by
 obtain ⟨h1, _, _⟩ := splitE_ok h
 unfold oneE
 rw [if_pos h1, if_pos ⟨by omega, hk⟩, if_pos rfl, if_pos]
 unfold numsB
 refine decide_eq_true fun j _ => ?_
 have := shv_num need.toNat len D k j
 unfold isNum
 simp
 omega
theorem MeshR.snoc {n : Nat} {b : Bk} {np : Nat} {P : Ps} {lp : Nat} {X : Nat → Int} {nd of sz : Int} (h : MeshR n b np P) (hb : bookE (n + 1) (snocB n b lp X nd of sz) = 0) : MeshR (n + 1) (snocB n b lp X nd of sz) np P :=
 ⟨hb, h.few, fun k hk => (h.peer k hk).snoc hb⟩
theorem PeerR.but {n : Nat} {b : Bk} {room : Int} {m : Nat} {t : Kt} (h : PeerR n b room m t) (ver : Int) : PeerR n b room (butL t ver m).length (selT t (butL t ver m)) := by
 have hl := butL_len t ver m
 have hp : (butL t ver m).Pairwise (fun a c : Nat => a < c) := List.Pairwise.filter _ List.pairwise_lt_range
 refine ⟨h.book, h.room_, by have := h.few; omega, fun j hj => ?_, fun i j hij hj => ?_⟩
 ·exact h.right _ (butL_lt (getD_in hj))
 ·exact h.rise _ _ (pairwise_getD hp hij hj) (butL_lt (getD_in hj))
theorem MeshR.rep {n : Nat} {b : Bk} {np : Nat} {P : Ps} (h : MeshR n b np P) (ver : Int) (R : Nat) (S : Nat → Nat → Int) (f : Nat) : MeshR n b np (repP P ver R S f) := by
 refine ⟨h.book, h.few, fun k hk => ?_⟩
 simp only [repP]
 by_cases c : (decide (k < f) && dropK P ver R S k) = true
 ·rw [if_pos c, if_pos c]; exact (h.peer k hk).but ver
 ·rw [if_neg c, if_neg c]; exact h.peer k hk
def lackK (T : List Int) (f : Nat) : List Nat := (List.range f).filter fun q => !T.contains (q : Int)
theorem lackK_succ (T : List Int) (f : Nat) : lackK T (f + 1) = lackK T f ++ (if (!T.contains (f : Int)) = true then [f] else []) := by
 unfold lackK
 rw [List.range_succ, List.filter_append, List.filter_cons, List.filter_nil]
theorem lackK_len (T : List Int) (f : Nat) : (lackK T f).length ≤ f := by
 unfold lackK
 refine Nat.le_trans (List.length_filter_le _ _) ?_
 simp
theorem lackK_lt {T : List Int} {f q : Nat} (h : q ∈ lackK T f) : q < f := by
 unfold lackK at h
 exact List.mem_range.1 (List.mem_filter.1 h).1
def noB : Bk := ⟨fun _ => 0, fun _ _ => 0, fun _ => 0, fun _ => 0, fun _ => 0⟩
def newE (len : Nat) (X : Nat → Int) : Int := peersE 0 noB len (freshP X)
end Go.Proofs.YtikchpffkhohlaaGreat

namespace Go.Proofs.YtikchpffkhohlaaGreat
open Go.RowKit
set_option linter.unusedVariables false
theorem anyL_readsO {P : Program} {D : World → Prop} {l lq : List Oper} {md : Region.Mode} {R : Act → World → Prop} {f : Nat} {sE : Array Bool} {w : World} {c : Nat} {q : List Nat} {seen : Array Bool} {a : Act} (hp : pickO l q = lq) (hs : Region.noSelect l.toArray = true) (hE : Region.ready md l.toArray sE = [c]) (hD : D w) (hw : waitsB md l.toArray c q = true) (ho : ordQ md l.toArray q seen = true)
  (hb : (q.all (fun i => match l[i]? with | some o => plainB o | none => false)) = true) (h : wpQuiet P l.toArray (fun w' => ∃ u : Of D, w' = u.val) (fun a' => anyL P md l.toArray D sE R f (seenQ q seen) a' w) lq a) : anyL P md l.toArray D sE R (f + q.length) seen a w :=
 anyL_reads hs hE hD q seen a hw ho hb (by rw [hp]; exact h)
def snocU (m : Nat) (UV : Nat → Value) (uv : Value) : Nat → Value := fun j => if j = m then uv else UV j
theorem flatI_congr {UV UV' : Nat → Value} {t t' : Kt} {l : List Nat} (h : ∀ i, i ∈ l → t.V i = t'.V i ∧ t.N i = t'.N i ∧ UV i = UV' i) : flatI UV t l = flatI UV' t' l := by
 induction l with
 | nil => rfl
 | cons a l ih =>
  obtain ⟨h1, h2, h3⟩ := h a (by simp)
  have h4 := ih fun i hi => h i (by simp [hi])
  unfold flatI at h4 ⊢
  simp only [List.flatMap_cons]
  rw [h1, h2, h3, h4]
theorem OwnT.snoc {w0 wr w1 : World} {v v' : Value} {m : Nat} {UV : Nat → Value} {t : Kt} {ver N : Int} {uv : Value} {L : Nat} {X : Nat → Int} (h : OwnT w0 wr v UV t (List.range m))
  (ho : w1.ownsRow w0.heap.size 55 3 v' (m + 1) (flatI UV t (List.range m) ++ [.int .i64 ver, .int .i64 N, uv])) (hg : wr.grownBy w1 v.ownBlock) : OwnT w0 w1 v' (snocU m UV uv) (snocT m t ver N L X) (List.range (m + 1)) := by
 refine ⟨?_, h.2.grown hg h.2.size (fun g hgg => (h.1.lt g hgg).1)⟩
 rw [List.length_range, List.range_succ, flatI_snoc]
 have e : flatI (snocU m UV uv) (snocT m t ver N L X) (List.range m) = flatI UV t (List.range m) := flatI_congr fun i hi => by
  have hne : i ≠ m := by have := List.mem_range.1 hi; omega
  simp [snocU, snocT, hne]
 rw [e]
 simp only [snocU, snocT, if_true]
 exact ho
def RowC (wr : World) (g K : Nat) (UV : Nat → Value) (t : Kt) (l : List Nat) : Prop :=
 ∀ j, j < K → wr.cell? ⟨g, j * 3, none⟩ = some (.int .i64 (t.V (l.getD j 0))) ∧ wr.cell? ⟨g, j * 3 + 1, none⟩ = some (.int .i64 (t.N (l.getD j 0))) ∧ wr.cell? ⟨g, j * 3 + 2, none⟩ = some (UV (l.getD j 0))
theorem RowC.keep {wr w' : World} {g K : Nat} {UV : Nat → Value} {t : Kt} {l : List Nat} (h : RowC wr g K UV t l) (he : w'.heap[g]? = wr.heap[g]?) : RowC w' g K UV t l := fun j hj => by
 obtain ⟨h1, h2, h3⟩ := h j hj
 exact ⟨by rw [World.cell?_of_block he]; exact h1, by rw [World.cell?_of_block he]; exact h2, by rw [World.cell?_of_block he]; exact h3⟩
theorem own_row {w0 wr : World} {v : Value} {K : Nat} {UV : Nat → Value} {t : Kt} (h : OwnT w0 wr v UV t (List.range K)) (hK : 1 ≤ K) :
  ∃ g cap, v = .slice (some ⟨g, 0, none⟩) K cap ∧ w0.heap.size ≤ g ∧ K ≤ cap ∧ RowK wr g K UV t (List.range K) := by
 obtain ⟨⟨hl, h2⟩, hb⟩ := h
 rw [List.length_range] at h2 hl
 rcases h2 with ⟨rfl, h0⟩ | ⟨g, cap, cur, rfl, hg, hh, hc1, hc2, hsz, hcur⟩
 ·omega
 ·have key : ∀ i u, i < K * 3 → (flatI UV t (List.range K))[i]? = some u → wr.cell? ⟨g, i, none⟩ = some u := fun i u hi h3 => by
   rw [← hcur, List.getElem?_take, if_pos hi] at h3
   exact cell_at hh (by simpa using h3)
  refine ⟨g, cap, rfl, hg, hc1, by simp, fun j hj => ?_, fun i hi => frozen_at hh, (Array.getElem?_eq_some_iff.1 hh).1⟩
  obtain ⟨q1, q2, q3⟩ := flatI_get UV t (List.range K) j (by simpa using hj)
  exact ⟨key _ _ (by omega) q1, key _ _ (by omega) q2, key _ _ (by omega) q3⟩
theorem RowK.keep {wr w' : World} {g K : Nat} {UV : Nat → Value} {t : Kt} {l : List Nat} (h : RowK wr g K UV t l) (he : w'.heap[g]? = wr.heap[g]?) (hs : wr.heap.size ≤ w'.heap.size) : RowK w' g K UV t l :=
 ⟨h.len, RowC.keep h.cell he, fun i hi => by rw [← h.free i hi]; unfold World.frozen?; simp only [he], Nat.lt_of_lt_of_le h.lt hs⟩
theorem rowC_kel {wr : World} {g K cap : Nat} {UV : Nat → Value} {t : Kt} {l : List Nat} (h : RowC wr g K UV t l) (hl : l.length = K) (hg : g < wr.heap.size) (hc : K ≤ cap) (hr : K * 40 ≤ 140737488351232) (hi : ∀ i, i ∈ l → IntSl wr wr.heap.size (UV i) (t.L i) (t.X i)) :
  KeSl wr wr.heap.size (.slice (some ⟨g, 0, none⟩) K cap) K (fun j => UV (l.getD j 0)) (selT t l) := by
 refine ⟨_, cap, rfl, ⟨hc, hr⟩, Or.inr ⟨g, 0, rfl, hg, fun j hj => ?_⟩⟩
 obtain ⟨q1, q2, q3⟩ := h j hj
 rw [Nat.zero_add]
 refine ⟨q1, q2, q3, hi _ ?_⟩
 rw [List.getD_eq_getElem?_getD, List.getElem?_eq_getElem (by omega)]
 exact List.getElem_mem (by omega)
theorem snoc_ints {w : World} {v : Value} {m : Nat} {UV : Nat → Value} {t : Kt} {ver N : Int} {uv : Value} {L : Nat} {X : Nat → Int} (hk : KeSl w w.heap.size v m UV t) (hu : IntSl w w.heap.size uv L X) {w' : World} (hb : Below w.heap.size w w') {l : List Nat} (hl : l.Perm (List.range (m + 1))) : ∀ i, i ∈ l → IntSl w' w'.heap.size (snocU m UV uv i) ((snocT m t ver N L X).L i) ((snocT m t ver N L X).X i) := fun i hi => by
 have hi2 := List.mem_range.1 (hl.mem_iff.1 hi)
 by_cases e : i = m
 ·subst e; simp only [snocU, snocT, if_true]; exact hu.up hb
 ·simp only [snocU, snocT, if_neg e]
  obtain ⟨_, _, _, _, h2⟩ := hk
  rcases h2 with h0 | ⟨_, _, _, _, h5⟩
  ·omega
  ·exact (h5 i (by omega)).2.2.2.up hb
theorem snoc_slices {w : World} {v : Value} {m : Nat} {UV : Nat → Value} {t : Kt} {uv : Value} {L : Nat} {X : Nat → Int} (hk : KeSl w w.heap.size v m UV t) (hu : IntSl w w.heap.size uv L X) : ∀ i, i < m + 1 → ∃ a n c, snocU m UV uv i = .slice a n c := fun i hi => by
 obtain ⟨a, c, h, _⟩ := snoc_ints (ver := 0) (N := 0) hk hu (Below.refl _ _) (List.Perm.refl _) i (List.mem_range.2 hi)
 exact ⟨_, _, _, h⟩
theorem keeps_err {w w5 : World} {n : Nat} {b : Bk} {th : Bool} {room : Int} {m : Nat} {t t' : Kt} {ver N : Int} {L : Nat} {X : Nat → Int} {c : Int} (hc : KeepsTo n b th room m t ver N L X c false 0 0 t') (hb : Below w.heap.size w w5) :
  KeepPost w n b th room m t ver N L X (.returned (.tuple #[.agg #[.bool false, .int .i64 0, .slice none 0 0], .int .i64 c])) (put3 w5 (w.heap.size + 3) (.bool false) (.int .i64 0) (.slice none 0 0)) :=
 ⟨put3_below hb (by omega), c, false, 0, .slice none 0 0, 0, fun _ => .int .i64 0, t', rfl, ⟨none, 0, rfl, ⟨Nat.le_refl _, by omega⟩, Or.inl rfl⟩, hc⟩
theorem keeps_ok {w w5 : World} {n : Nat} {b : Bk} {th : Bool} {room : Int} {m : Nat} {t : Kt} {ver N : Int} {L : Nat} {X : Nat → Int} {v uv : Value} {UV : Nat → Value} {g cap : Nat} {l : List Nat} (hk : KeSl w w.heap.size v m UV t) (hu : IntSl w w.heap.size uv L X) (hr : RowC w5 g (m + 1) (snocU m UV uv) (snocT m t ver N L X) l) (hl : l.Perm (List.range (m + 1))) (hg : g < w5.heap.size) (hg2 : g ≠ w.heap.size + 3) (hcap : m + 1 ≤ cap) (hm : m ≤ 1000)
  (hc : KeepsTo n b th room m t ver N L X 0 th room (m + 1) (selT (snocT m t ver N L X) l)) (hb : Below w.heap.size w w5) :
  KeepPost w n b th room m t ver N L X (.returned (.tuple #[.agg #[.bool th, .int .i64 room, .slice (some ⟨g, 0, none⟩) (m + 1) cap], .int .i64 0])) (put3 w5 (w.heap.size + 3) (.bool th) (.int .i64 room) (.slice (some ⟨g, 0, none⟩) (m + 1) cap)) := by
 have hB : Below w.heap.size w (put3 w5 (w.heap.size + 3) (.bool th) (.int .i64 room) (.slice (some ⟨g, 0, none⟩) (m + 1) cap)) := put3_below hb (by omega)
 refine ⟨hB, 0, th, room, _, m + 1, _, _, rfl, rowC_kel (hr.keep (put3_other hg2)) (by rw [hl.length_eq]; simp) ?_ hcap (by omega) (snoc_ints hk hu hB hl), hc⟩
 simpa [put3, World.setCell] using hg
end Go.Proofs.YtikchpffkhohlaaGreat

namespace Go.Proofs.YtikchpffkhohlaaGreat
open Go.RowKit
set_option linter.unusedVariables false
set_option maxHeartbeats 8000000 in
set_option maxRecDepth 10000 in
theorem keeps_any (vb : Value) (n : Nat) (PV : Nat → Value) (b : Bk) (th : Bool) (room : Int) (vk : Value) (m : Nat) (UV : Nat → Value) (t : Kt) (ver N : Int) (uv : Value) (L : Nat) (X : Nat → Int) (w : World) (hv : VeSl w w.heap.size vb n PV b) (hk : KeSl w w.heap.size vk m UV t) (hu : IntSl w w.heap.size uv L X) :
  Calls Tryz.prog 99 #[bookV vb, peerV th room vk, keptV ver N uv] w (KeepPost w n b th room m t ver N L X) := by
 have HV := hid hv
 have HK := hid hk
 have HU := hid hu
 obtain ⟨ad, cap, rfl, _, _⟩ := hv
 obtain ⟨ak, capk, rfl, _, _⟩ := hk
 obtain ⟨au, cu, rfl, _, _⟩ := hu
 obtain ⟨ii, hii, hz0, hz1, hz2⟩ := info_parts Tryz.infoKept
 have hb0 := ((((Below.refl w.heap.size w).alloc (Nat.le_refl _) (.cells #[.slice ad n cap] 24)).alloc (by simp) (.cells #[.bool th, .int .i64 room, .slice ak m capk] 47)).alloc (by simp <;> omega) (.cells #[.int .i64 ver, .int .i64 N, .slice au L cu] 55)).alloc (by simp <;> omega) (.cells #[.bool false, .int .i64 0, .slice none 0 0] 47)
 have c0 : ((((w.alloc (.cells #[.slice ad n cap] 24)).alloc (.cells #[.bool th, .int .i64 room, .slice ak m capk] 47)).alloc (.cells #[.int .i64 ver, .int .i64 N, .slice au L cu] 55)).alloc (.cells #[.bool false, .int .i64 0, .slice none 0 0] 47)).heap[w.heap.size]? = some (.cells #[.slice ad n cap] 24 (0, 0)) := by
  rw [Below.heap_alloc _ _ _ (by simp <;> omega), Below.heap_alloc _ _ _ (by simp <;> omega), Below.heap_alloc _ _ _ (by simp)]; exact heap_alloc_new _ _
 have c1 : ((((w.alloc (.cells #[.slice ad n cap] 24)).alloc (.cells #[.bool th, .int .i64 room, .slice ak m capk] 47)).alloc (.cells #[.int .i64 ver, .int .i64 N, .slice au L cu] 55)).alloc (.cells #[.bool false, .int .i64 0, .slice none 0 0] 47)).heap[w.heap.size + 1]? = some (.cells #[.bool th, .int .i64 room, .slice ak m capk] 47 (0, 0)) := by
  rw [Below.heap_alloc _ _ _ (by simp <;> omega), Below.heap_alloc _ _ _ (by simp)]
  have := heap_alloc_new (w.alloc (.cells #[.slice ad n cap] 24)) (.cells #[.bool th, .int .i64 room, .slice ak m capk] 47)
  simpa using this
 have c2 : ((((w.alloc (.cells #[.slice ad n cap] 24)).alloc (.cells #[.bool th, .int .i64 room, .slice ak m capk] 47)).alloc (.cells #[.int .i64 ver, .int .i64 N, .slice au L cu] 55)).alloc (.cells #[.bool false, .int .i64 0, .slice none 0 0] 47)).heap[w.heap.size + 2]? = some (.cells #[.int .i64 ver, .int .i64 N, .slice au L cu] 55 (0, 0)) := by
  rw [Below.heap_alloc _ _ _ (by simp)]
  have := heap_alloc_new ((w.alloc (.cells #[.slice ad n cap] 24)).alloc (.cells #[.bool th, .int .i64 room, .slice ak m capk] 47)) (.cells #[.int .i64 ver, .int .i64 N, .slice au L cu] 55)
  simpa using this
 have c3 : ((((w.alloc (.cells #[.slice ad n cap] 24)).alloc (.cells #[.bool th, .int .i64 room, .slice ak m capk] 47)).alloc (.cells #[.int .i64 ver, .int .i64 N, .slice au L cu] 55)).alloc (.cells #[.bool false, .int .i64 0, .slice none 0 0] 47)).heap[w.heap.size + 3]? = some (.cells #[.bool false, .int .i64 0, .slice none 0 0] 47 (0, 0)) := by
  have := heap_alloc_new (((w.alloc (.cells #[.slice ad n cap] 24)).alloc (.cells #[.bool th, .int .i64 room, .slice ak m capk] 47)).alloc (.cells #[.int .i64 ver, .int .i64 N, .slice au L cu] 55)) (.cells #[.bool false, .int .i64 0, .slice none 0 0] 47)
  simpa using this
 obtain ⟨W0, hW0⟩ : ∃ W, (((w.alloc (.cells #[.slice ad n cap] 24)).alloc (.cells #[.bool th, .int .i64 room, .slice ak m capk] 47)).alloc (.cells #[.int .i64 ver, .int .i64 N, .slice au L cu] 55)).alloc (.cells #[.bool false, .int .i64 0, .slice none 0 0] 47) = W := ⟨_, rfl⟩
 rw [hW0] at hb0 c0 c1 c2 c3
 have B0 := hid hb0
 have HCk := hid (checkPeer_any _ n PV b th room _ m UV t W0 (HV.out.up hb0) (HK.out.up hb0))
 have C0 := hid c0
 have C1 := hid c1
 have C2 := hid c2
 have C3 := hid c3
 have p0 : W0.cell? ⟨w.heap.size, 0, none⟩ = some (.slice ad n cap) := cell_at c0 rfl
 obtain ⟨p1, p2, p3⟩ := three_at c1
 clear hb0 c0 c1 c2 c3
 obtain ⟨c, hcc⟩ : ∃ c, peerE n b room m t = c := ⟨_, rfl⟩
 rw [hcc] at HCk
 unfold bookV peerV at HCk
 unfold bookV peerV keptV
 go_enter Tryz.func99, Tryz.ntmps99
 go_wp2_with fail
 refine Calls.mono HCk.out ?_
 rintro e W ⟨rfl, hbW⟩
 have d0 : W.heap[w.heap.size]? = some (.cells #[.slice ad n cap] 24 (0, 0)) := by rw [hbW.block _ (Array.getElem?_eq_some_iff.1 C0.out).1]; exact C0.out
 have d1 : W.heap[w.heap.size + 1]? = some (.cells #[.bool th, .int .i64 room, .slice ak m capk] 47 (0, 0)) := by rw [hbW.block _ (Array.getElem?_eq_some_iff.1 C1.out).1]; exact C1.out
 have d2 : W.heap[w.heap.size + 2]? = some (.cells #[.int .i64 ver, .int .i64 N, .slice au L cu] 55 (0, 0)) := by rw [hbW.block _ (Array.getElem?_eq_some_iff.1 C2.out).1]; exact C2.out
 have d3 : W.heap[w.heap.size + 3]? = some (.cells #[.bool false, .int .i64 0, .slice none 0 0] 47 (0, 0)) := by rw [hbW.block _ (Array.getElem?_eq_some_iff.1 C3.out).1]; exact C3.out
 have B1 := hid (B0.out.trans (hbW.mono B0.out.size))
 clear hbW HCk C0 C1 C2 C3 p0 p1 p2 p3 hW0
 have D0 := hid d0
 have D1 := hid d1
 have D2 := hid d2
 have D3 := hid d3
 by_cases hc0 : c = 0
 ·subst hc0
  obtain ⟨p1, p2, p3⟩ := three_at d1
  obtain ⟨k1, k2, k3⟩ := three_at d2
  obtain ⟨r1, r2, r3⟩ := three_at d3
  have f1 := frozen_at (i := 0) d3
  have f2 := frozen_at (i := 1) d3
  have f3 := frozen_at (i := 2) d3
  clear d0 d1 d2 d3
  have HOk := hid (peerE_ok hcc)
  have hm20 : m ≤ 20 := by have := (peerE_ok hcc); omega
  have HE := hid hcc
  clear hcc
  by_cases hfull : room ≤ (m : Int)
  ·go_wp2
   refine bodyPost_ret (results_cell2 rfl _ _ (w.heap.size + 3) 47 #[.bool false, .int .i64 0, .slice none 0 0] (0, 0) _ rfl (put3_whole D3.out _ _ _) Tryz.underlying47 rfl (by kernel_rfl)) rfl ?_
   exact keeps_err (t' := t) (Or.inr (Or.inl ⟨HE.out, hfull, rfl, rfl, rfl, rfl⟩)) B1.out
  ·have HAt := hid (atPeer_any th room _ m UV t ver W (HK.out.up B1.out))
   obtain ⟨at9, hat⟩ : ∃ a, fstAt t.V ver m 0 = a := ⟨_, rfl⟩
   rw [hat] at HAt
   unfold peerV at HAt
   have hfl : ¬ (m : Int) ≥ room := hfull
   go_wp2_with fail
   refine Calls.mono HAt.out ?_
   rintro e W2 ⟨rfl, hb2⟩
   have B2 := hid (B1.out.trans (hb2.mono B1.out.size))
   have g1 : W2.heap[w.heap.size + 1]? = some (.cells #[.bool th, .int .i64 room, .slice ak m capk] 47 (0, 0)) := by rw [hb2.block _ (Array.getElem?_eq_some_iff.1 D1.out).1]; exact D1.out
   have g2 : W2.heap[w.heap.size + 2]? = some (.cells #[.int .i64 ver, .int .i64 N, .slice au L cu] 55 (0, 0)) := by rw [hb2.block _ (Array.getElem?_eq_some_iff.1 D2.out).1]; exact D2.out
   have g3 : W2.heap[w.heap.size + 3]? = some (.cells #[.bool false, .int .i64 0, .slice none 0 0] 47 (0, 0)) := by rw [hb2.block _ (Array.getElem?_eq_some_iff.1 D3.out).1]; exact D3.out
   have g0 : W2.heap[w.heap.size]? = some (.cells #[.slice ad n cap] 24 (0, 0)) := by rw [hb2.block _ (Array.getElem?_eq_some_iff.1 D0.out).1]; exact D0.out
   clear p1 p2 p3 k1 k2 k3 r1 r2 r3 f1 f2 f3 hb2 HAt D0 D1 D2 D3
   have G0 := hid g0
   have G1 := hid g1
   have G2 := hid g2
   have G3 := hid g3
   by_cases hge : at9 ≥ 0
   ·obtain ⟨r1, r2, r3⟩ := three_at g3
    have f1 := frozen_at (i := 0) g3
    have f2 := frozen_at (i := 1) g3
    have f3 := frozen_at (i := 2) g3
    clear g0 g1 g2 g3
    go_wp2
    refine bodyPost_ret (results_cell2 rfl _ _ (w.heap.size + 3) 47 #[.bool false, .int .i64 0, .slice none 0 0] (0, 0) _ rfl (put3_whole G3.out _ _ _) Tryz.underlying47 rfl (by kernel_rfl)) rfl ?_
    exact keeps_err (t' := t) (Or.inr (Or.inr (Or.inl ⟨HE.out, by omega, by rw [hat]; exact hge, rfl, rfl, rfl, rfl⟩))) B2.out
   ·obtain ⟨p1, p2, p3⟩ := three_at g1
    obtain ⟨k1, k2, k3⟩ := three_at g2
    have hw3 : w.heap.size + 3 < W2.heap.size := (Array.getElem?_eq_some_iff.1 g3).1
    clear g0 g1 g2 g3
    have hne : Nonempty (Of (Below W2.heap.size W2)) := ⟨⟨W2, Below.refl _ _⟩⟩
    have F1 : ∀ u : Of (Below W2.heap.size W2), u.val.cell? ⟨w.heap.size + 1, 2, none⟩ = some (.slice ak m capk) := fun u => by rw [u.is.cell (cell_lt p3)]; exact p3
    have F2 : ∀ u : Of (Below W2.heap.size W2), u.val.cell? ⟨w.heap.size + 2, 0, none⟩ = some (.int .i64 ver) := fun u => by rw [u.is.cell (cell_lt k1)]; exact k1
    have F3 : ∀ u : Of (Below W2.heap.size W2), u.val.cell? ⟨w.heap.size + 2, 1, none⟩ = some (.int .i64 N) := fun u => by rw [u.is.cell (cell_lt k2)]; exact k2
    have F4 : ∀ u : Of (Below W2.heap.size W2), u.val.cell? ⟨w.heap.size + 2, 2, none⟩ = some (.slice au L cu) := fun u => by rw [u.is.cell (cell_lt k3)]; exact k3
    clear p1 p2 p3 k1 k2 k3
    go_wp2_with fail
    refine region_tree_last (Below W2.heap.size W2) 7 #[true, true, true, true, true, true, true, false] 7 (by kernel_rfl) (by kernel_rfl) (by kernel_rfl) rfl (by simp only [pickO, List.getElem?_cons_zero, List.getElem?_cons_succ]; exact rfl) rfl ?_
    obtain ⟨U0, hU0⟩ : ∃ U, W2.drew = U := ⟨_, rfl⟩
    have HD0 : Hid (Below W2.heap.size W2 U0) := by rw [← hU0]; exact ⟨rfl, rfl, rfl, Nat.le_refl _, fun _ _ => rfl⟩
    have HW0 : Hid (Below w.heap.size w U0) := B2.out.trans (HD0.out.mono B2.out.size)
    rw [hU0]
    clear hU0
    have HInj := hid (snocT_inj (ver := ver) (N := N) (L := L) (X := X) HE.out (by rw [hat]; omega))
    refine anyL_readsO (f := 4) (c := 7) (q := [0, 1, 3]) (by simp only [pickO, List.getElem?_cons_zero, List.getElem?_cons_succ]; exact rfl) (by kernel_rfl) (by kernel_rfl) HD0.out (by kernel_rfl) (by kernel_rfl) (by kernel_rfl) ?_
    repeat (go_big_quiet_step (fail))
    refine wpQuiet_nil ?_
    refine anyL_pick (f := 3) [2, 4] (by kernel_rfl) (by decide) ?_
    intro i hi
    simp only [List.mem_cons, List.not_mem_nil, or_false] at hi
    rcases hi with rfl | rfl
    ·refine ⟨_, rfl, ?_⟩
     intro K hK
     go_wp2_with fail
     refine Calls.mono (cloneT (HK.out.up HW0.out) (by omega)) ?_
     rintro e U1 ⟨v', rfl, ho⟩
     have HOw := hid ho
     have HD1 : Hid (Below W2.heap.size W2 U1) := HD0.out.trans (ho.2.mono HD0.out.size)
     clear ho
     go_wp2
     refine ⟨rfl, hK _ _ HD1.out ?_⟩
     clear hK K
     refine anyL_pick (f := 2) [4] (by kernel_rfl) (by decide) ?_
     intro i hi
     simp only [List.mem_cons, List.not_mem_nil, or_false] at hi
     subst hi
     refine ⟨_, rfl, ?_⟩
     intro K hK
     go_wp2
     have hb := below_alloc U1 (.cells #[.int .i64 ver, .int .i64 N, .slice au L cu] 55)
     refine ⟨rfl, hK _ _ (HD1.out.trans (hb.mono HD1.out.size)) ?_⟩
     clear hK K
     have HCe := hid (cells_three U1 (.int .i64 ver) (.int .i64 N) (.slice au L cu) 55)
     obtain ⟨U2, hU2⟩ : ∃ U, World.alloc U1 (.cells #[.int .i64 ver, .int .i64 N, .slice au L cu] 55) = U := ⟨_, rfl⟩
     rw [hU2] at hb HCe ⊢
     have HOn := hid (HOw.out.up hb)
     clear hb hU2
     refine anyL_pick (f := 1) [5] (by kernel_rfl) (by decide) ?_
     intro i hi
     simp only [List.mem_cons, List.not_mem_nil, or_false] at hi
     subst hi
     refine ⟨_, rfl, ?_⟩
     intro K hK
     have hbs := HOn.out.2.size
     have HOm : Hid (U2.ownsRow U0.heap.size 55 3 v' m (flatI UV t (List.range m))) := by have h9 := HOn.out.1; rw [List.length_range] at h9; exact h9
     go_wp2_with (at_builtin; go_must (refine wpList_append_own _ rfl (.tmp 32) (.tmp 34) 45 rfl U0.heap.size 55 ii (.agg #[.int .i64 0, .int .i64 0, .slice none 0 0]) 3 40 Tryz.underlying45 hii hz0 hz1 hz2 rfl (by decide) _ _ _ rfl HOm.out ⟨_, 0, none⟩ 1 1 [.int .i64 ver, .int .i64 N, .slice au L cu] rfl rfl HCe.out (by intro u hu; simp at hu; rcases hu with rfl | rfl | rfl <;> rfl) (by unfold maxLen; omega) (by omega) (by omega) ?_; intro v9 U3 ho9 hg9 _; have HO9 := hid ho9; have HG9 := hid hg9; clear ho9 hg9))
     have HVn : Hid (OwnT U0 U3 v9 (snocU m UV (.slice au L cu)) (snocT m t ver N L X) (List.range (m + 1))) := HOn.out.snoc HO9.out HG9.out
     clear HCe HOw HD1 HOm HO9 HG9 HOn
     obtain ⟨g9, c9, hs9, hg9, hc9, hr9⟩ := own_row HVn.out (by omega)
     subst hs9
     have HD3 : Hid (Below W2.heap.size W2 U3) := HD0.out.trans (HVn.out.2.mono HD0.out.size)
     refine ⟨rfl, hK _ _ HD3.out ?_⟩
     clear hK K
     refine anyL_readsO (f := 0) (c := 7) (q := [6]) (by simp only [pickO, List.getElem?_cons_zero, List.getElem?_cons_succ]; exact rfl) (by kernel_rfl) (by kernel_rfl) HD3.out (by kernel_rfl) (by kernel_rfl) (by kernel_rfl) ?_
     repeat (go_big_quiet_step (fail))
     refine wpQuiet_nil ?_
     refine anyL_end (by kernel_rfl) ?_
     have y1 : U3.heap[w.heap.size + 1]? = some (.cells #[.bool th, .int .i64 room, .slice ak m capk] 47 (0, 0)) := by rw [HD3.out.block _ (Array.getElem?_eq_some_iff.1 G1.out).1]; exact G1.out
     have hs0 : W2.heap.size ≤ U0.heap.size := HD0.out.size
     have yc := (three_at y1).2.2
     have yf := frozen_at (i := 2) y1
     obtain ⟨Y, hY⟩ : ∃ Y, U3.setCell ⟨w.heap.size + 1, 2, none⟩ (.slice (some ⟨g9, 0, none⟩) (m + 1) c9) = Y := ⟨_, rfl⟩
     have HYo : Hid (∀ k, k ≠ w.heap.size + 1 → Y.heap[k]? = U3.heap[k]?) := fun k hk => by rw [← hY, Below.heap_setCell _ _ _ _ hk]
     have HYs : Hid (Y.heap.size = U3.heap.size) := by show _ = _; rw [← hY]; simp [World.setCell]
     have HYp : Hid (Y.heap[w.heap.size + 1]? = some (.cells #[.bool th, .int .i64 room, .slice (some ⟨g9, 0, none⟩) (m + 1) c9] 47 (0, 0))) := by show _ = _; rw [← hY]; exact set_three y1 _
     have HYw : Hid (Below w.heap.size w Y) := by show Below _ _ _; rw [← hY]; exact (HW0.out.trans (HVn.out.2.mono HW0.out.size)).setCell (p := ⟨w.heap.size + 1, 2, none⟩) (by show w.heap.size ≤ w.heap.size + 1; omega) _
     have HYr : Hid (RowK Y g9 (m + 1) (snocU m UV (.slice au L cu)) (snocT m t ver N L X) (List.range (m + 1))) := hr9.keep (HYo.out g9 (by omega)) (Nat.le_of_eq HYs.out.symm)
     have yp := (three_at HYp.out).2.2
     have HSo := hid (sortT (cap := c9) HYr.out (by omega) (by omega) HInj.out (snoc_slices HK.out HU.out))
     clear hr9 y1 HVn
     go_wp2_with fail
     refine Calls.mono HSo.out ?_
     rintro e Z ⟨rfl, hZb, hZc, hZs, l9, hp9, hs9, hR9⟩
     have hBz := hZb U0.heap.size Y (Below.refl _ _) hg9
     have HZw := hid (hZb w.heap.size w HYw.out (by omega))
     have z1 : Z.heap[w.heap.size + 1]? = some (.cells #[.bool th, .int .i64 room, .slice (some ⟨g9, 0, none⟩) (m + 1) c9] 47 (0, 0)) := by rw [hBz.block _ (by omega)]; exact HYp.out
     have z0 : Z.heap[w.heap.size]? = some (.cells #[.slice ad n cap] 24 (0, 0)) := by rw [hBz.block _ (by omega), HYo.out _ (by omega), HD3.out.block _ (by omega)]; exact G0.out
     have z3 : Z.heap[w.heap.size + 3]? = some (.cells #[.bool false, .int .i64 0, .slice none 0 0] 47 (0, 0)) := by rw [hBz.block _ (by omega), HYo.out _ (by omega), HD3.out.block _ (by omega)]; exact G3.out
     have HCk := hid (checkPeer_any _ n PV b th room _ (m + 1) _ (selT (snocT m t ver N L X) l9) Z (HV.out.up HZw.out) (rowC_kel hR9.cell (by rw [hp9.length_eq]; simp) hR9.lt hc9 (by omega) (snoc_ints HK.out HU.out HZw.out hp9)))
     unfold bookV peerV at HCk
     have q0 : Z.cell? ⟨w.heap.size, 0, none⟩ = some (.slice ad n cap) := cell_at z0 rfl
     obtain ⟨q1, q2, q3⟩ := three_at z1
     have HZ1 := hid z1
     have HZ3 := hid z3
     have HR9 := hid hR9
     have HIn : Hid (InOrder (snocT m t ver N L X) (m + 1) l9) := ⟨hp9, hs9⟩
     clear yc yf yp hY HSo hZb hZc hZs hp9 hs9 hR9 hBz z0 z1 z3
     obtain ⟨er, her⟩ : ∃ c, peerE n b room (m + 1) (selT (snocT m t ver N L X) l9) = c := ⟨_, rfl⟩
     rw [her] at HCk
     have HEr := hid her
     clear her
     go_wp2_with fail
     refine Calls.mono HCk.out ?_
     rintro e W5 ⟨rfl, hb5⟩
     have t1 : W5.heap[w.heap.size + 1]? = some (.cells #[.bool th, .int .i64 room, .slice (some ⟨g9, 0, none⟩) (m + 1) c9] 47 (0, 0)) := by rw [hb5.block _ (Array.getElem?_eq_some_iff.1 HZ1.out).1]; exact HZ1.out
     have t3 : W5.heap[w.heap.size + 3]? = some (.cells #[.bool false, .int .i64 0, .slice none 0 0] 47 (0, 0)) := by rw [hb5.block _ (Array.getElem?_eq_some_iff.1 HZ3.out).1]; exact HZ3.out
     have HRc : Hid (RowC W5 g9 (m + 1) (snocU m UV (.slice au L cu)) (snocT m t ver N L X) l9) := RowC.keep HR9.out.cell (hb5.block _ HR9.out.lt)
     have HGl : Hid (g9 < W5.heap.size) := Nat.lt_of_lt_of_le HR9.out.lt hb5.size
     have HB5 := hid (HZw.out.trans (hb5.mono HZw.out.size))
     have HT3 := hid t3
     obtain ⟨q1, q2, q3⟩ := three_at t1
     obtain ⟨r1, r2, r3⟩ := three_at t3
     have f1 := frozen_at (i := 0) t3
     have f2 := frozen_at (i := 1) t3
     have f3 := frozen_at (i := 2) t3
     clear t1 t3 hb5 HCk
     by_cases he0 : er = 0
     ·subst he0
      go_wp2
      refine bodyPost_ret (results_cell2 rfl _ _ (w.heap.size + 3) 47 #[.bool th, .int .i64 room, .slice (some ⟨g9, 0, none⟩) (m + 1) c9] (0, 0) _ rfl (put3_whole HT3.out _ _ _) Tryz.underlying47 rfl (by kernel_rfl)) rfl ?_
      exact keeps_ok HK.out HU.out HRc.out HIn.out.1 HGl.out (by omega) hc9 (by omega) (Or.inr (Or.inr (Or.inr ⟨HE.out, by omega, by rw [hat]; omega, l9, HIn.out, HEr.out.symm, Or.inl ⟨rfl, rfl, rfl, rfl, rfl⟩⟩))) HB5.out
     ·have heb : (er != 0) = true := by simpa using he0
      have HE0 := hid he0
      clear he0
      go_wp2
      refine bodyPost_ret (results_cell2 rfl _ _ (w.heap.size + 3) 47 #[.bool false, .int .i64 0, .slice none 0 0] (0, 0) _ rfl (put3_whole HT3.out _ _ _) Tryz.underlying47 rfl (by kernel_rfl)) rfl ?_
      exact keeps_err (t' := t) (Or.inr (Or.inr (Or.inr ⟨HE.out, by omega, by rw [hat]; omega, l9, HIn.out, HEr.out.symm, Or.inr ⟨HE0.out, rfl, rfl, rfl⟩⟩))) HB5.out
    ·refine ⟨_, rfl, ?_⟩
     intro K hK
     go_wp2
     have hb := below_alloc U0 (.cells #[.int .i64 ver, .int .i64 N, .slice au L cu] 55)
     refine ⟨rfl, hK _ _ (HD0.out.trans (hb.mono HD0.out.size)) ?_⟩
     clear hK K
     have HCe := hid (cells_three U0 (.int .i64 ver) (.int .i64 N) (.slice au L cu) 55)
     obtain ⟨U1, hU1⟩ : ∃ U, World.alloc U0 (.cells #[.int .i64 ver, .int .i64 N, .slice au L cu] 55) = U := ⟨_, rfl⟩
     rw [hU1] at hb HCe ⊢
     have HD1 : Hid (Below W2.heap.size W2 U1) := HD0.out.trans (hb.mono HD0.out.size)
     have HW1 : Hid (Below w.heap.size w U1) := HW0.out.trans (hb.mono HW0.out.size)
     clear hb hU1
     refine anyL_pick (f := 2) [2] (by kernel_rfl) (by decide) ?_
     intro i hi
     simp only [List.mem_cons, List.not_mem_nil, or_false] at hi
     subst hi
     refine ⟨_, rfl, ?_⟩
     intro K hK
     go_wp2_with fail
     refine Calls.mono (cloneT (HK.out.up HW1.out) (by omega)) ?_
     rintro e U2 ⟨v', rfl, ho⟩
     have HOn := hid ho
     have HD2 : Hid (Below W2.heap.size W2 U2) := HD1.out.trans (ho.2.mono HD1.out.size)
     have HCf : Hid (∀ j u, ([.int .i64 ver, .int .i64 N, .slice au L cu] : List Value)[j]? = some u → U2.cell? (Addr.add ⟨U0.heap.size, 0, none⟩ j) = some u) := fun j u hu => by have h9 := HCe.out j u hu; rw [Addr.add_lit] at h9 ⊢; rw [ho.2.cell (cell_lt h9)]; exact h9
     clear ho
     go_wp2
     refine ⟨rfl, hK _ _ HD2.out ?_⟩
     clear hK K
     refine anyL_pick (f := 1) [5] (by kernel_rfl) (by decide) ?_
     intro i hi
     simp only [List.mem_cons, List.not_mem_nil, or_false] at hi
     subst hi
     refine ⟨_, rfl, ?_⟩
     intro K hK
     have hbs := HOn.out.2.size
     have HOm : Hid (U2.ownsRow U1.heap.size 55 3 v' m (flatI UV t (List.range m))) := by have h9 := HOn.out.1; rw [List.length_range] at h9; exact h9
     go_wp2_with (at_builtin; go_must (refine wpList_append_own _ rfl (.tmp 32) (.tmp 34) 45 rfl U1.heap.size 55 ii (.agg #[.int .i64 0, .int .i64 0, .slice none 0 0]) 3 40 Tryz.underlying45 hii hz0 hz1 hz2 rfl (by decide) _ _ _ rfl HOm.out ⟨_, 0, none⟩ 1 1 [.int .i64 ver, .int .i64 N, .slice au L cu] rfl rfl HCf.out (by intro u hu; simp at hu; rcases hu with rfl | rfl | rfl <;> rfl) (by unfold maxLen; omega) (by omega) (by omega) ?_; intro v9 U3 ho9 hg9 _; have HO9 := hid ho9; have HG9 := hid hg9; clear ho9 hg9))
     have HVn : Hid (OwnT U1 U3 v9 (snocU m UV (.slice au L cu)) (snocT m t ver N L X) (List.range (m + 1))) := HOn.out.snoc HO9.out HG9.out
     clear HCe HCf HD2 HOm HO9 HG9 HOn
     obtain ⟨g9, c9, hs9, hg9, hc9, hr9⟩ := own_row HVn.out (by omega)
     subst hs9
     have HD3 : Hid (Below W2.heap.size W2 U3) := HD1.out.trans (HVn.out.2.mono HD1.out.size)
     refine ⟨rfl, hK _ _ HD3.out ?_⟩
     clear hK K
     refine anyL_readsO (f := 0) (c := 7) (q := [6]) (by simp only [pickO, List.getElem?_cons_zero, List.getElem?_cons_succ]; exact rfl) (by kernel_rfl) (by kernel_rfl) HD3.out (by kernel_rfl) (by kernel_rfl) (by kernel_rfl) ?_
     repeat (go_big_quiet_step (fail))
     refine wpQuiet_nil ?_
     refine anyL_end (by kernel_rfl) ?_
     have y1 : U3.heap[w.heap.size + 1]? = some (.cells #[.bool th, .int .i64 room, .slice ak m capk] 47 (0, 0)) := by rw [HD3.out.block _ (Array.getElem?_eq_some_iff.1 G1.out).1]; exact G1.out
     have hs0 : W2.heap.size ≤ U1.heap.size := HD1.out.size
     have yc := (three_at y1).2.2
     have yf := frozen_at (i := 2) y1
     obtain ⟨Y, hY⟩ : ∃ Y, U3.setCell ⟨w.heap.size + 1, 2, none⟩ (.slice (some ⟨g9, 0, none⟩) (m + 1) c9) = Y := ⟨_, rfl⟩
     have HYo : Hid (∀ k, k ≠ w.heap.size + 1 → Y.heap[k]? = U3.heap[k]?) := fun k hk => by rw [← hY, Below.heap_setCell _ _ _ _ hk]
     have HYs : Hid (Y.heap.size = U3.heap.size) := by show _ = _; rw [← hY]; simp [World.setCell]
     have HYp : Hid (Y.heap[w.heap.size + 1]? = some (.cells #[.bool th, .int .i64 room, .slice (some ⟨g9, 0, none⟩) (m + 1) c9] 47 (0, 0))) := by show _ = _; rw [← hY]; exact set_three y1 _
     have HYw : Hid (Below w.heap.size w Y) := by show Below _ _ _; rw [← hY]; exact (HW1.out.trans (HVn.out.2.mono HW1.out.size)).setCell (p := ⟨w.heap.size + 1, 2, none⟩) (by show w.heap.size ≤ w.heap.size + 1; omega) _
     have HYr : Hid (RowK Y g9 (m + 1) (snocU m UV (.slice au L cu)) (snocT m t ver N L X) (List.range (m + 1))) := hr9.keep (HYo.out g9 (by omega)) (Nat.le_of_eq HYs.out.symm)
     have yp := (three_at HYp.out).2.2
     have HSo := hid (sortT (cap := c9) HYr.out (by omega) (by omega) HInj.out (snoc_slices HK.out HU.out))
     clear hr9 y1 HVn
     go_wp2_with fail
     refine Calls.mono HSo.out ?_
     rintro e Z ⟨rfl, hZb, hZc, hZs, l9, hp9, hs9, hR9⟩
     have hBz := hZb U1.heap.size Y (Below.refl _ _) hg9
     have HZw := hid (hZb w.heap.size w HYw.out (by omega))
     have z1 : Z.heap[w.heap.size + 1]? = some (.cells #[.bool th, .int .i64 room, .slice (some ⟨g9, 0, none⟩) (m + 1) c9] 47 (0, 0)) := by rw [hBz.block _ (by omega)]; exact HYp.out
     have z0 : Z.heap[w.heap.size]? = some (.cells #[.slice ad n cap] 24 (0, 0)) := by rw [hBz.block _ (by omega), HYo.out _ (by omega), HD3.out.block _ (by omega)]; exact G0.out
     have z3 : Z.heap[w.heap.size + 3]? = some (.cells #[.bool false, .int .i64 0, .slice none 0 0] 47 (0, 0)) := by rw [hBz.block _ (by omega), HYo.out _ (by omega), HD3.out.block _ (by omega)]; exact G3.out
     have HCk := hid (checkPeer_any _ n PV b th room _ (m + 1) _ (selT (snocT m t ver N L X) l9) Z (HV.out.up HZw.out) (rowC_kel hR9.cell (by rw [hp9.length_eq]; simp) hR9.lt hc9 (by omega) (snoc_ints HK.out HU.out HZw.out hp9)))
     unfold bookV peerV at HCk
     have q0 : Z.cell? ⟨w.heap.size, 0, none⟩ = some (.slice ad n cap) := cell_at z0 rfl
     obtain ⟨q1, q2, q3⟩ := three_at z1
     have HZ1 := hid z1
     have HZ3 := hid z3
     have HR9 := hid hR9
     have HIn : Hid (InOrder (snocT m t ver N L X) (m + 1) l9) := ⟨hp9, hs9⟩
     clear yc yf yp hY HSo hZb hZc hZs hp9 hs9 hR9 hBz z0 z1 z3
     obtain ⟨er, her⟩ : ∃ c, peerE n b room (m + 1) (selT (snocT m t ver N L X) l9) = c := ⟨_, rfl⟩
     rw [her] at HCk
     have HEr := hid her
     clear her
     go_wp2_with fail
     refine Calls.mono HCk.out ?_
     rintro e W5 ⟨rfl, hb5⟩
     have t1 : W5.heap[w.heap.size + 1]? = some (.cells #[.bool th, .int .i64 room, .slice (some ⟨g9, 0, none⟩) (m + 1) c9] 47 (0, 0)) := by rw [hb5.block _ (Array.getElem?_eq_some_iff.1 HZ1.out).1]; exact HZ1.out
     have t3 : W5.heap[w.heap.size + 3]? = some (.cells #[.bool false, .int .i64 0, .slice none 0 0] 47 (0, 0)) := by rw [hb5.block _ (Array.getElem?_eq_some_iff.1 HZ3.out).1]; exact HZ3.out
     have HRc : Hid (RowC W5 g9 (m + 1) (snocU m UV (.slice au L cu)) (snocT m t ver N L X) l9) := RowC.keep HR9.out.cell (hb5.block _ HR9.out.lt)
     have HGl : Hid (g9 < W5.heap.size) := Nat.lt_of_lt_of_le HR9.out.lt hb5.size
     have HB5 := hid (HZw.out.trans (hb5.mono HZw.out.size))
     have HT3 := hid t3
     obtain ⟨q1, q2, q3⟩ := three_at t1
     obtain ⟨r1, r2, r3⟩ := three_at t3
     have f1 := frozen_at (i := 0) t3
     have f2 := frozen_at (i := 1) t3
     have f3 := frozen_at (i := 2) t3
     clear t1 t3 hb5 HCk
     by_cases he0 : er = 0
     ·subst he0
      go_wp2
      refine bodyPost_ret (results_cell2 rfl _ _ (w.heap.size + 3) 47 #[.bool th, .int .i64 room, .slice (some ⟨g9, 0, none⟩) (m + 1) c9] (0, 0) _ rfl (put3_whole HT3.out _ _ _) Tryz.underlying47 rfl (by kernel_rfl)) rfl ?_
      exact keeps_ok HK.out HU.out HRc.out HIn.out.1 HGl.out (by omega) hc9 (by omega) (Or.inr (Or.inr (Or.inr ⟨HE.out, by omega, by rw [hat]; omega, l9, HIn.out, HEr.out.symm, Or.inl ⟨rfl, rfl, rfl, rfl, rfl⟩⟩))) HB5.out
     ·have heb : (er != 0) = true := by simpa using he0
      have HE0 := hid he0
      clear he0
      go_wp2
      refine bodyPost_ret (results_cell2 rfl _ _ (w.heap.size + 3) 47 #[.bool false, .int .i64 0, .slice none 0 0] (0, 0) _ rfl (put3_whole HT3.out _ _ _) Tryz.underlying47 rfl (by kernel_rfl)) rfl ?_
      exact keeps_err (t' := t) (Or.inr (Or.inr (Or.inr ⟨HE.out, by omega, by rw [hat]; omega, l9, HIn.out, HEr.out.symm, Or.inr ⟨HE0.out, rfl, rfl, rfl⟩⟩))) HB5.out
 ·have hcb : (c != 0) = true := by simpa using hc0
  obtain ⟨r1, r2, r3⟩ := three_at d3
  have f1 := frozen_at (i := 0) d3
  have f2 := frozen_at (i := 1) d3
  have f3 := frozen_at (i := 2) d3
  have HC0 := hid hc0
  have HCc := hid hcc
  clear d0 d1 d2 d3 hc0 hcc
  go_wp2
  refine bodyPost_ret (results_cell2 rfl _ _ (w.heap.size + 3) 47 #[.bool false, .int .i64 0, .slice none 0 0] (0, 0) _ rfl (put3_whole D3.out _ _ _) Tryz.underlying47 rfl (by kernel_rfl)) rfl ?_
  exact keeps_err (t' := t) (Or.inl ⟨by rw [HCc.out]; exact HC0.out, HCc.out.symm, rfl, rfl, rfl⟩) B1.out
end Go.Proofs.YtikchpffkhohlaaGreat

namespace Go.Proofs.YtikchpffkhohlaaGreat
open Go.RowKit
set_option linter.unusedVariables false
def DropsTo (n : Nat) (b : Bk) (th : Bool) (room : Int) (m : Nat) (t : Kt) (ver : Int) (er : Int) (th' : Bool) (room' : Int) (m' : Nat) (t' : Kt) : Prop :=
 (peerE n b room m t ≠ 0 ∧ er = peerE n b room m t ∧ th' = false ∧ room' = 0 ∧ m' = 0) ∨
 (peerE n b room m t = 0 ∧ er = 0 ∧ th' = th ∧ room' = room ∧ m' = (butL t ver m).length ∧ t' = selT t (butL t ver m))
theorem keptB_refl (m : Nat) (t : Kt) : keptB m m t t = true := by
 have h : ∀ f k, restK t t f k = true := by
  intro f
  induction f with
  | zero => intro k; rfl
  | succ f ih => intro k; simp only [restK, ih, Bool.and_true]; unfold verK sameB eqB; simp
 unfold keptB
 simp [h]
theorem peerB_refl (th : Bool) (room : Int) (m : Nat) (t : Kt) : peerB th th room room m m t t = true := by
 unfold peerB
 rw [keptB_refl]; simp
end Go.Proofs.YtikchpffkhohlaaGreat

namespace Go.Proofs.YtikchpffkhohlaaGreat
open Go.RowKit
set_option linter.unusedVariables false
def NewV (B : Nat) (w : World) (v : Value) : Prop := ∀ ad n c, v = .slice (some ad) n c → B ≤ ad.block ∧ ad.block < w.heap.size ∧ ∀ i, w.frozen? ⟨ad.block, i, none⟩ = false
theorem NewV.none (B : Nat) (w : World) (n c : Nat) : NewV B w (.slice .none n c) := fun ad n' c' e => by cases e
theorem NewV.up {B : Nat} {w w' : World} {v : Value} (h : NewV B w v) (hb : Below w.heap.size w w') : NewV B w' v := fun ad n c e => by
 obtain ⟨h1, h2, h3⟩ := h ad n c e
 exact ⟨h1, Nat.lt_of_lt_of_le h2 hb.size, fun i => by rw [← h3 i]; exact World.frozen?_of_block (hb.block _ h2)⟩
theorem NewV.mono {B B' : Nat} {w : World} {v : Value} (h : NewV B w v) (hb : B' ≤ B) : NewV B' w v := fun ad n c e => ⟨Nat.le_trans hb (h ad n c e).1, (h ad n c e).2⟩
theorem frozen_setN {w : World} {a b : Addr} {u : Value} : (w.setCell a u).frozen? b = w.frozen? b := by
 unfold World.frozen? World.setCell
 simp only [Array.getElem?_modify]
 by_cases h : a.block = b.block
 ·rw [if_pos h]
  cases hb : w.heap[b.block]? with
  | none => rfl
  | some x => cases x <;> rfl
 ·rw [if_neg h]
theorem NewV.set {B : Nat} {w : World} {v : Value} (h : NewV B w v) (a : Addr) (u : Value) : NewV B (w.setCell a u) v := fun ad n c e => by
 obtain ⟨h1, h2, h3⟩ := h ad n c e
 exact ⟨h1, by simpa [World.setCell] using h2, fun i => by rw [frozen_setN]; exact h3 i⟩
theorem NewV.above {B : Nat} {w : World} {v : Value} (h : NewV B w v) : Above B v := fun ad n c e => (h ad n c e).1
theorem NewV.grown {B : Nat} {w w' : World} {v : Value} {row : Option Nat} (h : NewV B w v) (hg : w.grownBy w' row) (hne : ∀ ad n c, v = .slice (some ad) n c → some ad.block ≠ row) : NewV B w' v := fun ad n c e => by
 obtain ⟨h1, h2, h3⟩ := h ad n c e
 exact ⟨h1, Nat.lt_of_lt_of_le h2 hg.size, fun i => by rw [← h3 i]; exact World.frozen?_of_block (hg.block _ h2 (hne ad n c e))⟩
theorem newV_block {B : Nat} {w : World} {g n c : Nat} {cs : Array Value} {T : TypeId} (h : w.heap[g]? = some (.cells cs T (0, 0))) (hB : B ≤ g) : NewV B w (.slice (some ⟨g, 0, .none⟩) n c) := fun ad n' c' e => by
 injection e with e1
 injection e1 with e1
 subst e1
 exact ⟨hB, (Array.getElem?_eq_some_iff.1 h).1, fun i => frozen_at h⟩
theorem owns_new {w : World} {base : Nat} {e : TypeId} {size : Nat} {v : Value} {n : Nat} {xs : List Value} (h : w.ownsRow base e size v n xs) : NewV base w v := by
 rcases h.2 with ⟨rfl, _⟩ | ⟨g, cap, cur, rfl, hg, hh, _⟩
 ·exact NewV.none base w _ _
 ·exact newV_block hh hg
end Go.Proofs.YtikchpffkhohlaaGreat

namespace Go.Proofs.YtikchpffkhohlaaGreat
open Go.RowKit
set_option linter.unusedVariables false
def OfB (s m : Nat) (v : Value) : Prop := m = 0 ∨ ∀ ad n c, v = .slice (some ad) n c → ad.block ≠ s
theorem OfB.above {s m : Nat} {v : Value} (h : Above (s + 1) v) : OfB s m v := Or.inr fun ad n c e h9 => by
 have := h ad n c e
 omega
theorem offB_isl {w : World} {B s m : Nat} {v : Value} {X : Nat → Int} (h : IntSl w B v m X) (hs : B ≤ s) : OfB s m v := by
 obtain ⟨ad, cap, rfl, _, h2⟩ := h
 rcases h2 with h2 | ⟨b, off, rfl, h4, _⟩
 ·exact Or.inl h2
 ·refine Or.inr fun a n c e => ?_
  injection e with e1
  injection e1 with e1
  subst e1
  show b ≠ s
  omega
theorem cell_off {w : World} {s o b o' : Nat} {u : Value} (h : b ≠ s) : (w.setCell ⟨s, o, none⟩ u).cell? ⟨b, o', none⟩ = w.cell? ⟨b, o', none⟩ :=
 World.cell?_setCell_other _ _ _ _ (by intro e; injection e with e1; exact h e1.symm)
section
variable {w w' : World} {B s o : Nat} {v : Value} {u : Value}
theorem IntSl.off {m : Nat} {X : Nat → Int} (h : IntSl w B v m X) (hs : OfB s m v) (u : Value) : IntSl (w.setCell ⟨s, o, none⟩ u) B v m X := by
 obtain ⟨ad, cap, rfl, h0, h2⟩ := h
 refine ⟨ad, cap, rfl, h0, ?_⟩
 rcases h2 with h2 | ⟨b, off, rfl, h4, h5⟩
 ·exact Or.inl h2
 ·rcases hs with h9 | h9
  ·exact Or.inl h9
  ·exact Or.inr ⟨b, off, rfl, h4, fun j hj => by rw [cell_off (show b ≠ s from h9 _ _ _ rfl)]; exact h5 j hj⟩
def VeOff (s : Nat) (vb : Value) (n : Nat) (PV : Nat → Value) (b : Bk) : Prop := OfB s n vb ∧ ∀ j, j < n → OfB s (b.PL j) (PV j)
def KeOff (s : Nat) (vk : Value) (m : Nat) (UV : Nat → Value) (t : Kt) : Prop := OfB s m vk ∧ ∀ i, i < m → OfB s (t.L i) (UV i)
def PsOff (s : Nat) (vl : Value) (np : Nat) (KV : Nat → Value) (UV : Nat → Nat → Value) (P : Ps) : Prop := OfB s np vl ∧ ∀ k, k < np → KeOff s (KV k) (P.m k) (UV k) (P.t k)
theorem VeSl.off {n : Nat} {PV : Nat → Value} {b : Bk} (h : VeSl w B v n PV b) (hs : VeOff s v n PV b) (u : Value) : VeSl (w.setCell ⟨s, o, none⟩ u) B v n PV b := by
 obtain ⟨ad, cap, rfl, h0, h2⟩ := h
 refine ⟨ad, cap, rfl, h0, ?_⟩
 rcases h2 with h2 | ⟨bl, off, rfl, h4, h5⟩
 ·exact Or.inl h2
 ·rcases hs.1 with h9 | h9
  ·exact Or.inl h9
  ·have hb : bl ≠ s := h9 _ _ _ rfl
   refine Or.inr ⟨bl, off, rfl, h4, fun j hj => ?_⟩
   obtain ⟨x0, x1, x2, x3, x4⟩ := h5 j hj
   exact ⟨by rw [cell_off hb]; exact x0, by rw [cell_off hb]; exact x1, by rw [cell_off hb]; exact x2, by rw [cell_off hb]; exact x3, x4.off (hs.2 j hj) u⟩
theorem KeSl.off {m : Nat} {UV : Nat → Value} {t : Kt} (h : KeSl w B v m UV t) (hs : KeOff s v m UV t) (u : Value) : KeSl (w.setCell ⟨s, o, none⟩ u) B v m UV t := by
 obtain ⟨ad, cap, rfl, h0, h2⟩ := h
 refine ⟨ad, cap, rfl, h0, ?_⟩
 rcases h2 with h2 | ⟨bl, off, rfl, h4, h5⟩
 ·exact Or.inl h2
 ·rcases hs.1 with h9 | h9
  ·exact Or.inl h9
  ·have hb : bl ≠ s := h9 _ _ _ rfl
   refine Or.inr ⟨bl, off, rfl, h4, fun j hj => ?_⟩
   obtain ⟨x0, x1, x2, x4⟩ := h5 j hj
   exact ⟨by rw [cell_off hb]; exact x0, by rw [cell_off hb]; exact x1, by rw [cell_off hb]; exact x2, x4.off (hs.2 j hj) u⟩
end
end Go.Proofs.YtikchpffkhohlaaGreat
