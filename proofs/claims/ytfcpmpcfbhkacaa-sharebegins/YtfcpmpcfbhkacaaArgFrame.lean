/- How the laws' arguments are read: plans, lists of ints inside of others. -/
import Derived.Test.YtfcpmpcfbhkacaaBase
import Derived.Deep.Strs
namespace Go.Proofs.Ytfcpmpcfbhkacaa
open Go.ChangeShapes Go.WideShapes Go.ChangeAt Go.RowKit Go.Deep
set_option linter.unusedVariables false

variable {H : Type} {enc : TypeId × Value → H} {W : World}

theorem Try.cellsInts : Try.prog.cellsOf 24 = 1 := by kernel_rfl
theorem Try.cellsPlan : Try.prog.cellsOf 23 = 3 := by kernel_rfl

theorem agg_of {v : Value} {n : Nat} (hn : n ≠ 1) (h : v.cells.toList.length = n) : v = .agg v.cells := by
  cases v <;> first | rfl | (simp [Value.cells] at h; omega)

/-- a plan that came in -/
theorem plan_open {v : Value} {d : DataW H} {p : List MemPlace} (h : DataW.Trod enc Try.prog W 0 (fun _ => true) true 23 v d p) :
    ∃ nd of sz : Int, v = planV nd of sz ∧ (Lit.int .i64 nd).wf = true ∧ (Lit.int .i64 of).wf = true ∧ (Lit.int .i64 sz).wf = true := by
  obtain ⟨fuel, hf⟩ := h
  obtain ⟨y0, y1, y2, n, hx, hl, h0, h1, h2⟩ := trod_struct3 Try.underlying23 hf
  rw [Try.cellsPlan] at hl
  have hv := agg_of (by omega) hl
  rw [Try.cellsInt] at h0 h1 h2
  obtain ⟨a, e0, _, b0⟩ := DataW.trod_int Try.underlying3 h0
  obtain ⟨b, e1, _, b1⟩ := DataW.trod_int Try.underlying3 h1
  obtain ⟨c, e2, _, b2⟩ := DataW.trod_int Try.underlying3 h2
  refine ⟨a, b, c, ?_, b0, b1, b2⟩
  rw [hv]
  generalize v.cells = cs at *
  obtain ⟨l⟩ := cs
  match l, hl with
  | [u0, u1, u2], _ =>
    simp at e0 e1 e2
    subst e0 e1 e2
    rfl

/-- a list of ints, by its one cell -/
theorem isl_cell {fuel : Nat} {cs : List Value} {x : DataW H × List MemPlace} (h : DataW.trod enc Try.prog W 0 (fun _ => true) true fuel 24 cs = some x) (hs : ∀ y ∈ x.1.weights Try.prog 24, y ≤ reachBytes) :
    ∃ a len cap X, cs = [.slice a len cap] ∧ SlArg W a len cap X := by
  have key : ∃ a len cap, cs = [.slice a len cap] := by
    rcases open_ints Try.underlying24 Try.underlying3 Try.cellsInt h with ⟨hcs, _⟩ | ⟨x, l, c, zs, hcs, _⟩
    · exact ⟨_, _, _, hcs⟩
    · exact ⟨_, _, _, hcs⟩
  obtain ⟨a, len, cap, rfl⟩ := key
  obtain ⟨X, hX⟩ := slArg_open (enc := enc) (W := W) (a := a) (len := len) (cap := cap) (d := x.1) (p := x.2) Try.underlying24 ⟨fuel, by simpa [Value.cells] using h⟩ (fun elems spare hd => by
    refine hs _ ?_
    rw [hd]
    simp [DataW.weights, Try.underlying24])
  exact ⟨a, len, cap, X, rfl, hX⟩

theorem weightsAll_mem {P : Program} {e : TypeId} {l : List (DataW H)} {d : DataW H} (h : d ∈ l) {y : Nat} (hy : y ∈ d.weights P e) : y ∈ DataW.weightsAll P e l := by
  induction l with
  | nil => cases h
  | cons x l ih =>
    simp only [DataW.weightsAll, List.mem_append]
    rcases List.mem_cons.1 h with rfl | h
    · exact Or.inl hy
    · exact Or.inr (ih h)

end Go.Proofs.Ytfcpmpcfbhkacaa
