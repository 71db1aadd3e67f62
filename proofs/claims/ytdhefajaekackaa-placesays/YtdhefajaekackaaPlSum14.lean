/- Several texts of one proof, in their order. -/
import Derived.Test.YtdhefajaekackaaPlSum9
import Derived.Test.YtdhefajaekackaaPlSum13
import Derived.Shelf.SlLaysF
import Derived.Test.YtdhefajaekackaaProg

/- Who gets a share, in plain words: each once, the most room first, nobody who might have had it with more room left than the last one. Plain: it speaks of no program. -/
namespace Go.Proofs.Ytdhefajaekackaa

open Go.RowKit
set_option linter.unusedVariables false

/-- might it get a share, with whatever room is left? -/
def mayK (P : Ps) (ver : Int) (k : Nat) : Prop := P.th k = true ∧ fstAt (P.t k).V ver (P.m k) 0 < 0

theorem fitK_iff (P : Ps) (ver left : Int) (k : Nat) : fitK P ver left k = true ↔ mayK P ver k ∧ leftK P k = left := by
  unfold fitK noneK mayK
  rw [Bool.and_eq_true, Bool.and_eq_true, decide_eq_true_iff, decide_eq_true_iff]
  constructor
  · rintro ⟨h1, h2, h3⟩; exact ⟨⟨h1, h3⟩, h2⟩
  · rintro ⟨⟨h1, h3⟩, h2⟩; exact ⟨h1, h2, h3⟩

theorem mem_lefts {P : Ps} {ver : Int} {np r : Nat} {x : Int} : x ∈ lefts P ver np r ↔ ∃ k : Nat, x = k ∧ k < np ∧ mayK P ver k ∧ 1 ≤ leftK P k ∧ leftK P k ≤ r := by
  induction r with
  | zero =>
    simp only [lefts, List.not_mem_nil, false_iff]
    rintro ⟨k, _, _, _, h1, h2⟩
    omega
  | succ r ih =>
    simp only [lefts, List.mem_append]
    rw [ih, mem_pickL]
    constructor
    · rintro (⟨k, h1, h2, e⟩ | ⟨k, e, h1, h2, h3, h4⟩)
      · obtain ⟨g1, g2⟩ := (fitK_iff _ _ _ _).1 h2
        exact ⟨k, e, h1, g1, by omega, by omega⟩
      · exact ⟨k, e, h1, h2, h3, by omega⟩
    · rintro ⟨k, e, h1, h2, h3, h4⟩
      by_cases c : leftK P k = ((r + 1 : Nat) : Int)
      · exact Or.inl ⟨k, h1, (fitK_iff _ _ _ _).2 ⟨h2, c⟩, e⟩
      · exact Or.inr ⟨k, e, h1, h2, h3, by omega⟩

/-- ahead of another one: not the same, no less room -/
def AheadK (P : Ps) (x y : Int) : Prop := x ≠ y ∧ leftK P y.toNat ≤ leftK P x.toNat

theorem lefts_ahead (P : Ps) (ver : Int) (np r : Nat) : List.Pairwise (AheadK P) (lefts P ver np r) := by
  induction r with
  | zero => exact List.Pairwise.nil
  | succ r ih =>
    simp only [lefts]
    rw [List.pairwise_append]
    have hl : ∀ x, x ∈ pickL (fitK P ver ((r + 1 : Nat) : Int)) np → leftK P x.toNat = ((r + 1 : Nat) : Int) := fun x hx => by
      obtain ⟨k, _, h2, rfl⟩ := mem_pickL.1 hx
      rw [Int.toNat_natCast]
      exact ((fitK_iff _ _ _ _).1 h2).2
    refine ⟨?_, ih, fun x hx y hy => ?_⟩
    · refine (pickL_rise (fitK P ver ((r + 1 : Nat) : Int)) np).imp_of_mem fun {x y} hx hy hxy => ?_
      exact ⟨by omega, by rw [hl x hx, hl y hy]; exact Int.le_refl _⟩
    · have h1 := hl x hx
      obtain ⟨k, rfl, _, _, _, h4⟩ := mem_lefts.1 hy
      have h2 : leftK P (k : Int).toNat ≤ (r : Int) := by rw [Int.toNat_natCast]; exact h4
      refine ⟨fun e => ?_, by omega⟩
      rw [e] at h1
      omega

section

variable {P : Ps} {ver : Int} {np q : Nat}

/-- what is so of each of those who get a share -/
theorem take_each {i : Nat} (hi : i < ((orderL P ver np).take q).length) : ∃ k : Nat, ((orderL P ver np).take q).getD i 0 = (k : Int) ∧ k < np ∧ mayK P ver k ∧ 1 ≤ leftK P k ∧ leftK P k ≤ 20 := by
  have hm : ((orderL P ver np).take q).getD i 0 ∈ orderL P ver np := List.mem_of_mem_take (getD_mem.1 ((hasB_iff _ _ _).2 ⟨i, hi, rfl⟩))
  obtain ⟨k, e, h1, h2, h3, h4⟩ := mem_lefts.1 hm
  exact ⟨k, e, h1, h2, h3, h4⟩

/-- those ahead: another one, with no less room -/
theorem take_ahead {i j : Nat} (hij : i < j) (hj : j < ((orderL P ver np).take q).length) : AheadK P (((orderL P ver np).take q).getD i 0) (((orderL P ver np).take q).getD j 0) := by
  have hp : List.Pairwise (AheadK P) ((orderL P ver np).take q) := (lefts_ahead P ver np 20).sublist (List.take_sublist _ _)
  have h := List.pairwise_iff_getElem.1 hp i j (by omega) hj hij
  rw [List.getD_eq_getElem?_getD, List.getD_eq_getElem?_getD, List.getElem?_eq_getElem (by omega), List.getElem?_eq_getElem hj]
  exact h

/-- who might have had it, and has it not: no more room than any who has -/
theorem take_rest {k i : Nat} (hk : k < np) (hm : mayK P ver k) (h20 : leftK P k ≤ 20) (hnot : ∀ j, j < ((orderL P ver np).take q).length → ((orderL P ver np).take q).getD j 0 ≠ (k : Int)) (hi : i < ((orderL P ver np).take q).length) : leftK P k ≤ leftK P (((orderL P ver np).take q).getD i 0).toNat := by
  by_cases h1 : 1 ≤ leftK P k
  · have hmem : (k : Int) ∈ orderL P ver np := mem_lefts.2 ⟨k, rfl, hk, hm, h1, h20⟩
    have hnt : (k : Int) ∉ (orderL P ver np).take q := fun h => by
      obtain ⟨j, hj, e⟩ := (hasB_iff _ _ _).1 (getD_mem.2 h)
      exact hnot j hj e
    have hd : (k : Int) ∈ (orderL P ver np).drop q := by
      rw [← List.take_append_drop q (orderL P ver np)] at hmem
      exact (List.mem_append.1 hmem).resolve_left hnt
    have hp : List.Pairwise (AheadK P) ((orderL P ver np).take q ++ (orderL P ver np).drop q) := by rw [List.take_append_drop]; exact lefts_ahead P ver np 20
    have h := (List.pairwise_append.1 hp).2.2 _ (getD_mem.1 ((hasB_iff _ _ _).2 ⟨i, hi, rfl⟩)) _ hd
    have h2 := h.2
    rw [Int.toNat_natCast] at h2
    exact h2
  · obtain ⟨y, e, _, _, h3, _⟩ := take_each hi
    rw [e, Int.toNat_natCast]
    omega

end

/-- how many get a share -/
theorem forL_len {P : Ps} {ver : Int} {np : Nat} {many : Int} (h : manyE P ver np many = 0) : forL P ver np many = (orderL P ver np).take many.toNat ∧ 0 ≤ many ∧ (((orderL P ver np).take many.toNat).length : Int) = many := by
  unfold forL
  rw [if_pos h]
  unfold manyE at h
  by_cases h1 : 0 ≤ many ∧ many ≤ 8
  · rw [if_pos h1] at h
    by_cases h2 : ((orderL P ver np).length : Int) < many
    · rw [if_pos h2] at h; omega
    · refine ⟨rfl, h1.1, ?_⟩
      rw [List.length_take]
      omega
  · rw [if_neg h1] at h; omega

end Go.Proofs.Ytdhefajaekackaa

/- Contracts of the library as they lie at this program: laid by the guide's own command, in plain words. -/
namespace Go.Proofs

open Go.Shelf
def Try.insInts_ren : Go.Shelf.Ren := ⟨fun | 20 => 123 | n => n, fun | 24 => 3 | 22 => 25 | 3 => 3 | 25 => 48 | 4 => 4 | 0 => 0 | n => n, fun | n => n⟩
theorem Try.insInts : Go.Proofs.SlLaysF.n20 Try.prog Try.insInts_ren := {
  mixed := by kernel_rfl
  f20 := ⟨Try.f123.name, by decide, Try.func123.trans (congrArg some (by kernel_rfl))⟩
  t0 := Try.underlying0
  a0 := Try.isAgg0
  z0 := Try.sizeOf0
  v0 := Try.zeroValue0
  t3 := Try.underlying3
  a3 := Try.isAgg3
  z3 := Try.sizeOf3
  v3 := Try.zeroValue3
  t4 := Try.underlying4
  a4 := Try.isAgg4
  z4 := Try.sizeOf4
  v4 := Try.zeroValue4
  t22 := Try.underlying25
  a22 := Try.isAgg25
  z22 := Try.sizeOf25
  v22 := Try.zeroValue25
  a24 := Try.isAgg3
  z24 := Try.sizeOf3
  t25 := Try.underlying48
  a25 := Try.isAgg48
  z25 := Try.sizeOf48
  v25 := Try.zeroValue48 }

end Go.Proofs
