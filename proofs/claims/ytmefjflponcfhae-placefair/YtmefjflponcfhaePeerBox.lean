/- Boxes that stay: books, peers, kept ones. -/
import Derived.Test.YtmefjflponcfhaePut3
namespace Go.Proofs.Ytmefjflponcfhae
open Go.RowKit
set_option linter.unusedVariables false

theorem heap_four (w : World) (o1 o2 o3 o4 : Obj) : ((((w.alloc o1).alloc o2).alloc o3).alloc o4).heap[w.heap.size]? = some o1 ∧ ((((w.alloc o1).alloc o2).alloc o3).alloc o4).heap[w.heap.size + 1]? = some o2 ∧ ((((w.alloc o1).alloc o2).alloc o3).alloc o4).heap[w.heap.size + 2]? = some o3 ∧ ((((w.alloc o1).alloc o2).alloc o3).alloc o4).heap[w.heap.size + 3]? = some o4 := by
  refine ⟨?_, ?_, ?_, ?_⟩
  · rw [Below.heap_alloc _ _ _ (by simp <;> omega), Below.heap_alloc _ _ _ (by simp <;> omega), Below.heap_alloc _ _ _ (by simp)]; exact heap_alloc_new _ _
  · rw [Below.heap_alloc _ _ _ (by simp <;> omega), Below.heap_alloc _ _ _ (by simp)]
    have := heap_alloc_new (w.alloc o1) o2
    simpa using this
  · rw [Below.heap_alloc _ _ _ (by simp)]
    have := heap_alloc_new ((w.alloc o1).alloc o2) o3
    simpa using this
  · have := heap_alloc_new (((w.alloc o1).alloc o2).alloc o3) o4
    simpa using this

/-- block g holds this peer -/
def PrAt (w : World) (g : Nat) (th : Bool) (room : Int) (a : Option Addr) (m c : Nat) (UV : Nat → Value) (t : Kt) : Prop :=
  w.heap[g]? = some (.cells #[.bool th, .int .i64 room, .slice a m c] 37 (0, 0)) ∧ KeSl w w.heap.size (.slice a m c) m UV t

theorem PrAt.up {w w' : World} {g : Nat} {th : Bool} {room : Int} {a : Option Addr} {m c : Nat} {UV : Nat → Value} {t : Kt} (h : PrAt w g th room a m c UV t) (hb : Below w.heap.size w w') : PrAt w' g th room a m c UV t := ⟨stayB h.1 hb, h.2.up hb⟩

theorem PrAt.cells {w : World} {g : Nat} {th : Bool} {room : Int} {a : Option Addr} {m c : Nat} {UV : Nat → Value} {t : Kt} (h : PrAt w g th room a m c UV t) : w.cell? ⟨g, 0, none⟩ = some (.bool th) ∧ w.cell? ⟨g, 1, none⟩ = some (.int .i64 room) ∧ w.cell? ⟨g, 2, none⟩ = some (.slice a m c) := three_at h.1

theorem PrAt.box {w : World} {th : Bool} {room : Int} {a : Option Addr} {m c : Nat} {UV : Nat → Value} {t : Kt} (h : KeSl w w.heap.size (.slice a m c) m UV t) : PrAt (w.alloc (.cells #[.bool th, .int .i64 room, .slice a m c] 37)) w.heap.size th room a m c UV t := ⟨heap_alloc_new _ _, h.up (below_alloc _ _)⟩

/-- block g holds this book -/
def BkAt (w : World) (g : Nat) (a : Option Addr) (n c : Nat) (PV : Nat → Value) (b : Bk) : Prop :=
  w.heap[g]? = some (.cells #[.slice a n c] 24 (0, 0)) ∧ VeSl w w.heap.size (.slice a n c) n PV b

theorem BkAt.up {w w' : World} {g : Nat} {a : Option Addr} {n c : Nat} {PV : Nat → Value} {b : Bk} (h : BkAt w g a n c PV b) (hb : Below w.heap.size w w') : BkAt w' g a n c PV b := ⟨stayB h.1 hb, h.2.up hb⟩

theorem BkAt.cell {w : World} {g : Nat} {a : Option Addr} {n c : Nat} {PV : Nat → Value} {b : Bk} (h : BkAt w g a n c PV b) : w.cell? ⟨g, 0, none⟩ = some (.slice a n c) := cell_at h.1 rfl

/-- block g holds this kept one -/
def KpAt (w : World) (g : Nat) (ver N : Int) (a : Option Addr) (l c : Nat) (X : Nat → Int) : Prop :=
  w.heap[g]? = some (.cells #[.int .i64 ver, .int .i64 N, .slice a l c] 51 (0, 0)) ∧ IntSl w w.heap.size (.slice a l c) l X

theorem KpAt.up {w w' : World} {g : Nat} {ver N : Int} {a : Option Addr} {l c : Nat} {X : Nat → Int} (h : KpAt w g ver N a l c X) (hb : Below w.heap.size w w') : KpAt w' g ver N a l c X := ⟨stayB h.1 hb, h.2.up hb⟩

theorem KpAt.cells {w : World} {g : Nat} {ver N : Int} {a : Option Addr} {l c : Nat} {X : Nat → Int} (h : KpAt w g ver N a l c X) : w.cell? ⟨g, 0, none⟩ = some (.int .i64 ver) ∧ w.cell? ⟨g, 1, none⟩ = some (.int .i64 N) ∧ w.cell? ⟨g, 2, none⟩ = some (.slice a l c) := three_at h.1

/-- one of those that are kept -/
theorem KeSl.at {w : World} {B : Nat} {a : Option Addr} {m c : Nat} {UV : Nat → Value} {t : Kt} (h : KeSl w B (.slice a m c) m UV t) {i : Nat} (hi : i < m) :
    ∃ bl off, a = some ⟨bl, off, none⟩ ∧ m ≤ c ∧ w.cell? ⟨bl, off + i * 3, none⟩ = some (.int .i64 (t.V i)) ∧ w.cell? ⟨bl, off + i * 3 + 1, none⟩ = some (.int .i64 (t.N i)) ∧ w.cell? ⟨bl, off + i * 3 + 2, none⟩ = some (UV i) ∧ IntSl w B (UV i) (t.L i) (t.X i) := by
  obtain ⟨ad, cap, he, ⟨h0, _⟩, h2⟩ := h
  injection he with e1 _ e3
  subst e1 e3
  rcases h2 with h2 | ⟨bl, off, rfl, _, h5⟩
  · omega
  · obtain ⟨g1, g2, g3, g4⟩ := h5 i hi
    exact ⟨bl, off, rfl, h0, g1, g2, g3, g4⟩

end Go.Proofs.Ytmefjflponcfhae
