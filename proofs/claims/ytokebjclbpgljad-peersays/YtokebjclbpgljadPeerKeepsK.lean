/- What the walk of Keep's reference leans on. -/
import Derived.Test.YtokebjclbpgljadPeerKeeps0
import Derived.Laws.ResultCell
import Derived.Laws.Rows
namespace Go.Proofs.Ytokebjclbpgljad
open Go.RowKit
set_option linter.unusedVariables false

theorem anyL_readsO {P : Program} {D : World → Prop} {l lq : List Oper} {md : Region.Mode} {R : Act → World → Prop} {f : Nat} {sE : Array Bool} {w : World} {c : Nat} {q : List Nat} {seen : Array Bool} {a : Act} (hp : pickO l q = lq) (hs : Region.noSelect l.toArray = true) (hE : Region.ready md l.toArray sE = [c]) (hD : D w) (hw : waitsB md l.toArray c q = true) (ho : ordQ md l.toArray q seen = true)
    (hb : (q.all (fun i => match l[i]? with | some o => plainB o | none => false)) = true) (h : wpQuiet P l.toArray (fun w' => ∃ u : Of D, w' = u.val) (fun a' => anyL P md l.toArray D sE R f (seenQ q seen) a' w) lq a) : anyL P md l.toArray D sE R (f + q.length) seen a w :=
  anyL_reads hs hE hD q seen a hw ho hb (by rw [hp]; exact h)

def snocU (m : Nat) (UV : Nat → Value) (uv : Value) : Nat → Value := fun j => if j = m then uv else UV j

theorem flatI_congr {UV UV' : Nat → Value} {t t' : Kt} {l : List Nat} (h : ∀ i, i ∈ l → t.V i = t'.V i ∧ t.N i = t'.N i ∧ UV i = UV' i) : flatI UV t l = flatI UV' t' l := by
  induction l with
  | nil => rfl
  | cons a l ih =>
    obtain ⟨h1, h2, h3⟩ := h a (by simp)
    have h4 := ih fun i hi => h i (by simp [hi])
    unfold flatI at h4 ⊢
    simp only [List.flatMap_cons]
    rw [h1, h2, h3, h4]

theorem OwnT.snoc {w0 wr w1 : World} {v v' : Value} {m : Nat} {UV : Nat → Value} {t : Kt} {ver N : Int} {uv : Value} {L : Nat} {X : Nat → Int} (h : OwnT w0 wr v UV t (List.range m))
    (ho : w1.ownsRow w0.heap.size 58 3 v' (m + 1) (flatI UV t (List.range m) ++ [.int .i64 ver, .int .i64 N, uv])) (hg : wr.grownBy w1 v.ownBlock) : OwnT w0 w1 v' (snocU m UV uv) (snocT m t ver N L X) (List.range (m + 1)) := by
  refine ⟨?_, h.2.grown hg h.2.size (fun g hgg => (h.1.lt g hgg).1)⟩
  rw [List.length_range, List.range_succ, flatI_snoc]
  have e : flatI (snocU m UV uv) (snocT m t ver N L X) (List.range m) = flatI UV t (List.range m) := flatI_congr fun i hi => by
    have hne : i ≠ m := by have := List.mem_range.1 hi; omega
    simp [snocU, snocT, hne]
  rw [e]
  simp only [snocU, snocT, if_true]
  exact ho

/-- the cells of a row of kept ones, told by places -/
def RowC (wr : World) (g K : Nat) (UV : Nat → Value) (t : Kt) (l : List Nat) : Prop :=
  ∀ j, j < K → wr.cell? ⟨g, j * 3, none⟩ = some (.int .i64 (t.V (l.getD j 0))) ∧ wr.cell? ⟨g, j * 3 + 1, none⟩ = some (.int .i64 (t.N (l.getD j 0))) ∧ wr.cell? ⟨g, j * 3 + 2, none⟩ = some (UV (l.getD j 0))

theorem RowC.keep {wr w' : World} {g K : Nat} {UV : Nat → Value} {t : Kt} {l : List Nat} (h : RowC wr g K UV t l) (he : w'.heap[g]? = wr.heap[g]?) : RowC w' g K UV t l := fun j hj => by
  obtain ⟨h1, h2, h3⟩ := h j hj
  exact ⟨by rw [World.cell?_of_block he]; exact h1, by rw [World.cell?_of_block he]; exact h2, by rw [World.cell?_of_block he]; exact h3⟩

theorem own_row {w0 wr : World} {v : Value} {K : Nat} {UV : Nat → Value} {t : Kt} (h : OwnT w0 wr v UV t (List.range K)) (hK : 1 ≤ K) :
    ∃ g cap, v = .slice (some ⟨g, 0, none⟩) K cap ∧ w0.heap.size ≤ g ∧ K ≤ cap ∧ RowK wr g K UV t (List.range K) := by
  obtain ⟨⟨hl, h2⟩, hb⟩ := h
  rw [List.length_range] at h2 hl
  rcases h2 with ⟨rfl, h0⟩ | ⟨g, cap, cur, rfl, hg, hh, hc1, hc2, hsz, hcur⟩
  · omega
  · have key : ∀ i u, i < K * 3 → (flatI UV t (List.range K))[i]? = some u → wr.cell? ⟨g, i, none⟩ = some u := fun i u hi h3 => by
      rw [← hcur, List.getElem?_take, if_pos hi] at h3
      exact cell_at hh (by simpa using h3)
    refine ⟨g, cap, rfl, hg, hc1, by simp, fun j hj => ?_, fun i hi => frozen_at hh, (Array.getElem?_eq_some_iff.1 hh).1⟩
    obtain ⟨q1, q2, q3⟩ := flatI_get UV t (List.range K) j (by simpa using hj)
    exact ⟨key _ _ (by omega) q1, key _ _ (by omega) q2, key _ _ (by omega) q3⟩

theorem RowK.keep {wr w' : World} {g K : Nat} {UV : Nat → Value} {t : Kt} {l : List Nat} (h : RowK wr g K UV t l) (he : w'.heap[g]? = wr.heap[g]?) (hs : wr.heap.size ≤ w'.heap.size) : RowK w' g K UV t l :=
  ⟨h.len, RowC.keep h.cell he, fun i hi => by rw [← h.free i hi]; unfold World.frozen?; simp only [he], Nat.lt_of_lt_of_le h.lt hs⟩

theorem rowC_kel {wr : World} {g K cap : Nat} {UV : Nat → Value} {t : Kt} {l : List Nat} (h : RowC wr g K UV t l) (hl : l.length = K) (hg : g < wr.heap.size) (hc : K ≤ cap) (hr : K * 40 ≤ 140737488351232) (hi : ∀ i, i ∈ l → IntSl wr wr.heap.size (UV i) (t.L i) (t.X i)) :
    KeSl wr wr.heap.size (.slice (some ⟨g, 0, none⟩) K cap) K (fun j => UV (l.getD j 0)) (selT t l) := by
  refine ⟨_, cap, rfl, ⟨hc, hr⟩, Or.inr ⟨g, 0, rfl, hg, fun j hj => ?_⟩⟩
  obtain ⟨q1, q2, q3⟩ := h j hj
  rw [Nat.zero_add]
  refine ⟨q1, q2, q3, hi _ ?_⟩
  rw [List.getD_eq_getElem?_getD, List.getElem?_eq_getElem (by omega)]
  exact List.getElem_mem (by omega)

theorem snoc_ints {w : World} {v : Value} {m : Nat} {UV : Nat → Value} {t : Kt} {ver N : Int} {uv : Value} {L : Nat} {X : Nat → Int} (hk : KeSl w w.heap.size v m UV t) (hu : IntSl w w.heap.size uv L X) {w' : World} (hb : Below w.heap.size w w') {l : List Nat} (hl : l.Perm (List.range (m + 1))) : ∀ i, i ∈ l → IntSl w' w'.heap.size (snocU m UV uv i) ((snocT m t ver N L X).L i) ((snocT m t ver N L X).X i) := fun i hi => by
  have hi2 := List.mem_range.1 (hl.mem_iff.1 hi)
  by_cases e : i = m
  · subst e; simp only [snocU, snocT, if_true]; exact hu.up hb
  · simp only [snocU, snocT, if_neg e]
    obtain ⟨_, _, _, _, h2⟩ := hk
    rcases h2 with h0 | ⟨_, _, _, _, h5⟩
    · omega
    · exact (h5 i (by omega)).2.2.2.up hb

theorem snoc_slices {w : World} {v : Value} {m : Nat} {UV : Nat → Value} {t : Kt} {uv : Value} {L : Nat} {X : Nat → Int} (hk : KeSl w w.heap.size v m UV t) (hu : IntSl w w.heap.size uv L X) : ∀ i, i < m + 1 → ∃ a n c, snocU m UV uv i = .slice a n c := fun i hi => by
  obtain ⟨a, c, h, _⟩ := snoc_ints (ver := 0) (N := 0) hk hu (Below.refl _ _) (List.Perm.refl _) i (List.mem_range.2 hi)
  exact ⟨_, _, _, h⟩

theorem keeps_err {w w5 : World} {n : Nat} {b : Bk} {th : Bool} {room : Int} {m : Nat} {t t' : Kt} {ver N : Int} {L : Nat} {X : Nat → Int} {c : Int} (hc : KeepsTo n b th room m t ver N L X c false 0 0 t') (hb : Below w.heap.size w w5) :
    KeepPost w n b th room m t ver N L X (.returned (.tuple #[.agg #[.bool false, .int .i64 0, .slice none 0 0], .int .i64 c])) (put3 w5 (w.heap.size + 3) (.bool false) (.int .i64 0) (.slice none 0 0)) :=
  ⟨put3_below hb (by omega), c, false, 0, .slice none 0 0, 0, fun _ => .int .i64 0, t', rfl, ⟨none, 0, rfl, ⟨Nat.le_refl _, by omega⟩, Or.inl rfl⟩, hc⟩

theorem keeps_ok {w w5 : World} {n : Nat} {b : Bk} {th : Bool} {room : Int} {m : Nat} {t : Kt} {ver N : Int} {L : Nat} {X : Nat → Int} {v uv : Value} {UV : Nat → Value} {g cap : Nat} {l : List Nat} (hk : KeSl w w.heap.size v m UV t) (hu : IntSl w w.heap.size uv L X) (hr : RowC w5 g (m + 1) (snocU m UV uv) (snocT m t ver N L X) l) (hl : l.Perm (List.range (m + 1))) (hg : g < w5.heap.size) (hg2 : g ≠ w.heap.size + 3) (hcap : m + 1 ≤ cap) (hm : m ≤ 1000)
    (hc : KeepsTo n b th room m t ver N L X 0 th room (m + 1) (selT (snocT m t ver N L X) l)) (hb : Below w.heap.size w w5) :
    KeepPost w n b th room m t ver N L X (.returned (.tuple #[.agg #[.bool th, .int .i64 room, .slice (some ⟨g, 0, none⟩) (m + 1) cap], .int .i64 0])) (put3 w5 (w.heap.size + 3) (.bool th) (.int .i64 room) (.slice (some ⟨g, 0, none⟩) (m + 1) cap)) := by
  have hB : Below w.heap.size w (put3 w5 (w.heap.size + 3) (.bool th) (.int .i64 room) (.slice (some ⟨g, 0, none⟩) (m + 1) cap)) := put3_below hb (by omega)
  refine ⟨hB, 0, th, room, _, m + 1, _, _, rfl, rowC_kel (hr.keep (put3_other hg2)) (by rw [hl.length_eq]; simp) ?_ hcap (by omega) (snoc_ints hk hu hB hl), hc⟩
  simpa [put3, World.setCell] using hg

end Go.Proofs.Ytokebjclbpgljad
