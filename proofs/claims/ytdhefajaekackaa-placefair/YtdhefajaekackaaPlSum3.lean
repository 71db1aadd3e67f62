/- Several texts of one proof, in their order. -/
import Derived.Test.YtdhefajaekackaaPlSum2
import Derived.Test.YtdhefajaekackaaRows
import Derived.WalkKit
import Derived.WalkSpells
import Derived.Handy
import Derived.StillTail
import Derived.Deep.Quiet
import Derived.Deep.QuietTactic
import Derived.BigQuiet

/- Chapter 5 in plain words: books of versions, checked; what is behind a version. -/
namespace Go.Proofs.Ytdhefajaekackaa

open Go.RowKit
set_option linter.unusedVariables false

/-- the versions of a book: how many parents, which, and the plan -/
structure Bk where
  PL : Nat → Nat
  PX : Nat → Nat → Int
  nd : Nat → Int
  of : Nat → Int
  sz : Nat → Int

/-- the slice value v, of n versions, lies below block B of the world w -/
def VeSl (w : World) (B : Nat) (v : Value) (n : Nat) (PV : Nat → Value) (b : Bk) : Prop :=
  ∃ (ad : Option Addr) (cap : Nat), v = .slice ad n cap ∧ (n ≤ cap ∧ n * 48 ≤ 140737488351232) ∧ (n = 0 ∨ ∃ bl off, ad = some ⟨bl, off, none⟩ ∧ bl < B ∧ ∀ j, j < n →
    w.cell? ⟨bl, off + j * 4, none⟩ = some (PV j) ∧ w.cell? ⟨bl, off + j * 4 + 1, none⟩ = some (.int .i64 (b.nd j)) ∧ w.cell? ⟨bl, off + j * 4 + 2, none⟩ = some (.int .i64 (b.of j)) ∧ w.cell? ⟨bl, off + j * 4 + 3, none⟩ = some (.int .i64 (b.sz j)) ∧ IntSl w B (PV j) (b.PL j) (b.PX j))

theorem VeSl.below {w w' : World} {B : Nat} {v : Value} {n : Nat} {PV : Nat → Value} {b : Bk} (h : VeSl w B v n PV b) (hb : Below B w w') : VeSl w' B v n PV b := by
  obtain ⟨ad, cap, h1, h0, h2⟩ := h
  refine ⟨ad, cap, h1, h0, ?_⟩
  rcases h2 with h2 | ⟨bl, off, h3, h4, h5⟩
  · exact Or.inl h2
  · refine Or.inr ⟨bl, off, h3, h4, fun j hj => ?_⟩
    obtain ⟨g1, g2, g3, g4, g5⟩ := h5 j hj
    exact ⟨by rw [hb.cell h4]; exact g1, by rw [hb.cell h4]; exact g2, by rw [hb.cell h4]; exact g3, by rw [hb.cell h4]; exact g4, g5.below hb⟩

theorem VeSl.mono {w : World} {B B' : Nat} {v : Value} {n : Nat} {PV : Nat → Value} {b : Bk} (h : VeSl w B v n PV b) (hb : B ≤ B') : VeSl w B' v n PV b := by
  obtain ⟨ad, cap, h1, h0, h2⟩ := h
  refine ⟨ad, cap, h1, h0, ?_⟩
  rcases h2 with h2 | ⟨bl, off, h3, h4, h5⟩
  · exact Or.inl h2
  · refine Or.inr ⟨bl, off, h3, by omega, fun j hj => ?_⟩
    obtain ⟨g1, g2, g3, g4, g5⟩ := h5 j hj
    exact ⟨g1, g2, g3, g4, g5.mono hb⟩

theorem VeSl.up {w w' : World} {v : Value} {n : Nat} {PV : Nat → Value} {b : Bk} (h : VeSl w w.heap.size v n PV b) (hb : Below w.heap.size w w') : VeSl w' w'.heap.size v n PV b := (h.below hb).mono hb.size

/-- a version, as a value -/
def verV (pv : Value) (nd of sz : Int) : Value := .agg #[pv, .int .i64 nd, .int .i64 of, .int .i64 sz]
/-- a book, as a value -/
def bookV (v : Value) : Value := .agg #[v]

/-- parents of version k, one by one, from number i on, behind the one last: the first error -/
def parE (k : Int) (X : Nat → Int) : Nat → Nat → Int → Int
  | 0, _, _ => 0
  | f + 1, i, last => if X i < 0 ∨ k ≤ X i then 4 else if X i ≤ last then 5 else parE k X f (i + 1) (X i)

/-- a version's error -/
def verE (b : Bk) (k : Nat) : Int := if parE k (b.PX k) (b.PL k) 0 (-1) = 0 then chkP (b.nd k) (b.of k) (b.sz k) else parE k (b.PX k) (b.PL k) 0 (-1)

/-- versions from number k on, f of them: the first error -/
def scanV (b : Bk) : Nat → Nat → Int
  | 0, _ => 0
  | f + 1, k => if verE b k = 0 then scanV b f (k + 1) else verE b k

/-- a book's error -/
def bookE (n : Nat) (b : Bk) : Int := if n ≤ 12 then scanV b n 0 else 1

end Go.Proofs.Ytdhefajaekackaa

/- Is it a number: what package field answers, and what the reference answers. -/
namespace Go.Proofs.Ytdhefajaekackaa

open Go.RowKit
set_option linter.unusedVariables false

theorem check_ok (a : Int) (ha : 0 ≤ a ∧ a ≤ 30) (w : World) :
    Calls Try.prog 130 #[.int .i64 a] w fun e w' => e = .returned (.int .i64 0) ∧ w' = w := by
  go_enter Try.func130, Try.ntmps130
  go_wp2
  go_ret
  exact ⟨rfl, rfl⟩

theorem check_bad (a : Int) (ha : ¬ (0 ≤ a ∧ a ≤ 30)) (w : World) :
    Calls Try.prog 130 #[.int .i64 a] w fun e w' => e = .returned (.int .i64 2) ∧ w' = w := by
  by_cases h0 : a < 0
  · go_enter Try.func130, Try.ntmps130
    go_wp2
    go_ret
    exact ⟨rfl, rfl⟩
  · have h1 : 31 ≤ a := by omega
    clear ha
    go_enter Try.func130, Try.ntmps130
    go_wp2
    go_ret
    exact ⟨rfl, rfl⟩

theorem isNumber_ok (a : Int) (ha : 0 ≤ a ∧ a ≤ 30) (w : World) :
    Calls Try.prog 108 #[.int .i64 a] w fun e w' => e = .returned (.bool true) ∧ w' = w := by
  go_enter Try.func108, Try.ntmps108
  go_wp2
  go_ret
  exact ⟨rfl, rfl⟩

theorem isNumber_bad (a : Int) (ha : ¬ (0 ≤ a ∧ a ≤ 30)) (w : World) :
    Calls Try.prog 108 #[.int .i64 a] w fun e w' => e = .returned (.bool false) ∧ w' = w := by
  by_cases h0 : a < 0
  · clear ha
    go_enter Try.func108, Try.ntmps108
    go_wp2
    go_ret
    exact ⟨rfl, rfl⟩
  · have h1 : 31 ≤ a := by omega
    clear ha
    have hd : decide (a ≤ 30) = false := decide_eq_false (by omega)
    go_enter Try.func108, Try.ntmps108
    go_wp2
    go_ret
    exact ⟨rfl, rfl⟩

/-- is it a number? -/
def isNum (a : Int) : Bool := decide (0 ≤ a ∧ a ≤ 30)

theorem isNumber_any (a : Int) (w : World) :
    Calls Try.prog 108 #[.int .i64 a] w fun e w' => e = .returned (.bool (isNum a)) ∧ w' = w := by
  by_cases h : 0 ≤ a ∧ a ≤ 30
  · have e : isNum a = true := decide_eq_true h
    rw [e]
    exact isNumber_ok a h w
  · have e : isNum a = false := decide_eq_false h
    rw [e]
    exact isNumber_bad a h w

theorem isNum_iff (a : Int) : isNum a = true ↔ 0 ≤ a ∧ a ≤ 30 := by unfold isNum; simp

end Go.Proofs.Ytdhefajaekackaa

/- A region that draws its order, whose first operations only read (or call what only reads and draws) and whose last ones are forced: one walk in the text's order serves every order. Plain: it speaks of no program. -/
namespace Go.Proofs.Ytdhefajaekackaa

variable {P : Program} {ops : Array Oper} {md : Region.Mode} {C : World → Prop}

end Go.Proofs.Ytdhefajaekackaa
