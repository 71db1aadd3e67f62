/- As QuietTail, where some moves need not wait: they are taken first, whatever comes. Plain: it speaks of no program. -/
import Derived.Test.YtfcpmpcfbhkacaaQuietTail
import Derived.RegionTactic
namespace Go.Proofs.Ytfcpmpcfbhkacaa

variable {P : Program} {ops : Array Oper} {md : Region.Mode} {C : World → Prop}

/-- every operation below n, but those in pre, is waited for by a later one up to n -/
def sinkP (md : Region.Mode) (ops : Array Oper) (n : Nat) (pre : List Nat) : Bool :=
  (List.range n).all fun i => pre.contains i || (List.range (n + 1)).any fun j => decide (i < j) && Region.waitsFor md ops j i

def PreSeen (pre : List Nat) (seen : Array Bool) : Prop := ∀ i, i ∈ pre → seen.getD i false = true

theorem PreSeen.set {pre : List Nat} {seen : Array Bool} (h : PreSeen pre seen) (j : Nat) : PreSeen pre (seen.setIfInBounds j true) := fun i hi => getD_set_true (h i hi)

theorem tail_waitsP {n : Nat} {pre : List Nat} {seen : Array Bool} (hs : sinkP md ops n pre = true) (hc : Region.chainB md ops n = true) (hn : n < ops.size) (inv : HeadInv md ops n seen) (hp : PreSeen pre seen) :
    ∀ (d i : Nat), n - i = d → i < n → seen.getD i true = false → ∀ t, n ≤ t → t ∉ Region.ready md ops seen := by
  intro d
  induction d using Nat.strongRecOn with
  | _ d ih =>
    intro i hd hi hun t ht hr
    obtain ⟨_, ot, hot, hall⟩ := mem_ready.1 hr
    have htlt : t < ops.size := (Array.getElem?_eq_some_iff.1 hot).1
    by_cases htn : t = n
    · subst htn
      have h1 := List.all_eq_true.1 hs i (List.mem_range.2 hi)
      rw [Bool.or_eq_true] at h1
      rcases h1 with h1 | h1
      · have h2 := hp i (by simpa using h1)
        rw [getD_both hun] at h2
        cases h2
      · obtain ⟨j, hj, hj2⟩ := List.any_eq_true.1 h1
        rw [Bool.and_eq_true, decide_eq_true_eq] at hj2
        obtain ⟨oj, hoj, e, he, hb, hon⟩ := Region.waitsFor_spec hj2.2
        have hjle : j ≤ t := by have := List.mem_range.1 hj; omega
        by_cases hjt : j = t
        · subst hjt
          have e1 : oj = ot := Option.some.inj (hoj.symm.trans hot)
          subst e1
          have h2 := hall e he hb
          rw [hon, getD_both hun] at h2
          cases h2
        · cases hl : seen.getD j false with
          | true =>
            have h2 := inv.closed j oj hoj hl e he hb
            rw [hon, getD_both hun] at h2
            cases h2
          | false =>
            have hjs : j < seen.size := by rw [inv.size]; omega
            exact ih (t - j) (by omega) j rfl (by omega) (getD_in hjs hl) t (Nat.le_refl _) hr
    · have h1 := List.all_eq_true.1 hc t (List.mem_range.2 htlt)
      rw [Bool.or_eq_true, decide_eq_true_eq] at h1
      rcases h1 with h1 | h1
      · omega
      · obtain ⟨o2, ho2, e, he, hb, hon⟩ := Region.waitsFor_spec h1
        have e1 : o2 = ot := Option.some.inj (ho2.symm.trans hot)
        subst e1
        have h2 := hall e he hb
        rw [hon, getD_both (inv.tail (t - 1) (by omega) (by omega))] at h2
        cases h2

theorem headQ_firstP {n i : Nat} {pre : List Nat} {oi : Oper} {v : Value} {L : Array Bool → Act → Prop} (hi : ops[i]? = some oi)
    (hsel : ∀ (j : Nat) (o : Oper) cs b, ops[j]? = some o → o.op ≠ .select cs b)
    (hs : sinkP md ops n pre = true) (hc : Region.chainB md ops n = true) (hn : n < ops.size) (hin : i < n)
    (hdone : ∀ seen a, L seen a → ∀ j ∈ Region.ready md ops seen, n ≤ j) (f : Nat) :
    ∀ (seen : Array Bool) (a : Act), HeadInv md ops n seen → PreSeen pre seen →
      (∀ j oj, ops[j]? = some oj → j ≠ i → seen.getD j true = false → (∀ e ∈ oj.after, Region.binds md e = true → e.on ≠ i) → oi.apart ops oj = true) →
      i ∈ Region.ready md ops seen → YieldsIn P ops C oi v a →
      headQ P md ops C n L f (seen.setIfInBounds i true) (a.put oi.dst v) → headQ P md ops C n L (f + 1) seen a := by
  induction f with
  | zero =>
    intro seen a inv hp _ hr hy H
    have hun := (mem_ready.1 hr).1
    refine ⟨List.ne_nil_of_mem hr, fun j hj => ?_⟩
    have hjn : j < n := Nat.lt_of_not_le fun h => tail_waitsP hs hc hn inv hp _ i rfl hin hun j h hj
    refine ⟨hjn, ?_⟩
    by_cases hji : j = i
    · subst hji
      exact hy.qOp hi H
    · have := hdone _ _ H j (ready_mono hj hji)
      omega
  | succ f ih =>
    intro seen a inv hp hfree hr hy H
    have hun := (mem_ready.1 hr).1
    refine ⟨List.ne_nil_of_mem hr, fun j hj => ?_⟩
    have hjn : j < n := Nat.lt_of_not_le fun h => tail_waitsP hs hc hn inv hp _ i rfl hin hun j h hj
    refine ⟨hjn, ?_⟩
    by_cases hji : j = i
    · subst hji
      exact hy.qOp hi H
    · have h1 := (H.2 j (ready_mono hj hji)).2
      obtain ⟨hjun, oj, hoj, hall⟩ := mem_ready.1 hj
      have hnot : ∀ e ∈ oj.after, Region.binds md e = true → e.on ≠ i := by
        intro e he hb heq
        have h2 := hall e he hb
        rw [heq, getD_both hun] at h2
        cases h2
      have h2 := qOp_put hoj (hfree j oj hoj hji hjun hnot) (fun cs b => hsel i oi cs b hi) (fun cs b => hsel j oj cs b hoj) hy h1
      refine qOp_mono (fun a' h3 => ih (seen.setIfInBounds j true) a' (inv.set hj hjn) (hp.set j) ?_ (ready_mono hr (Ne.symm hji)) h3.1 ?_) h2
      · intro k ok hk hki hunk hno
        refine hfree k ok hk hki ?_ hno
        by_cases hjk : j = k
        · subst hjk
          exact hjun
        · rw [getD_set_ne true hjk] at hunk
          exact hunk
      · rw [Array.setIfInBounds_comm _ _ hji]
        exact h3.2

/-- the operations at these places -/
def opsAt (l : List Oper) (is : List Nat) : List Oper := is.map fun i => (l[i]?).getD default

/-- each may come up, and stands apart from what is left; then the forced tail -/
def headB (md : Region.Mode) (ops : Array Oper) (n : Nat) : List Nat → Array Bool → Bool
  | [], seen => Region.seqB md ops (ops.size - n) n seen
  | k :: r, seen => decide (k < n) && (Region.ready md ops seen).contains k && Region.free md ops seen k && headB md ops n r (seen.setIfInBounds k true)

theorem headQ_lexP {n : Nat} {pre : List Nat} {l : List Oper} {G : Act → Prop} (hsel : Region.noSelect l.toArray = true) (hs : sinkP md l.toArray n pre = true) (hc : Region.chainB md l.toArray n = true) (hn : n < l.toArray.size) (is : List Nat) :
    ∀ (seen : Array Bool) (a : Act), HeadInv md l.toArray n seen → PreSeen pre seen →
    headB md l.toArray n is seen = true → wpQuiet P l.toArray C G (opsAt l is) a →
    headQ P md l.toArray C n (fun seen' a' => Region.seqB md l.toArray (l.toArray.size - n) n seen' = true ∧ G a') is.length seen a := by
  induction is with
  | nil => intro seen a _ _ hB h; exact ⟨hB, h⟩
  | cons k is ih =>
    intro seen a inv hp hB h
    simp only [headB, Bool.and_eq_true, decide_eq_true_eq] at hB
    obtain ⟨⟨⟨hkn, hr⟩, hf⟩, hB'⟩ := hB
    have hr' : k ∈ Region.ready md l.toArray seen := by simpa using hr
    obtain ⟨_, o, h0, _⟩ := mem_ready.1 hr'
    have ho : (l[k]?).getD default = o := by
      have : l[k]? = some o := by simpa using h0
      rw [this]; rfl
    have hst : qOp P l.toArray C k (wpQuiet P l.toArray C G (opsAt l is)) a := by
      unfold qOp
      simp only [h0]
      have h' : wpQuiet P l.toArray C G ((l[k]?).getD default :: opsAt l is) a := h
      rw [ho] at h'
      exact h'
    obtain ⟨v, hy, hK⟩ := yieldsIn_of_qOp h0 hst
    exact headQ_firstP h0 (Region.noSelect_spec hsel) hs hc hn hkn (fun seen' a' hL => seqB_ready hL.1) is.length seen a inv hp (Region.free_spec h0 hf) hr' hy
      (ih _ _ (inv.set hr' hkn) (hp.set k) hB' hK)

def isMove (o : Oper) : Bool := match o.op with
  | .move _ => o.guard.isNone && o.dst.isSome
  | _ => false

/-- the moves that are taken first -/
def preB (md : Region.Mode) (ops : Array Oper) (n : Nat) (rest : Array Bool → Bool) : List Nat → Array Bool → Bool
  | [], seen => rest seen
  | k :: r, seen => decide (k < n) && (Region.ready md ops seen).contains k && Region.free md ops seen k && ((ops[k]?).map isMove).getD false && preB md ops n rest r (seen.setIfInBounds k true)

def lexPreB (l : List Oper) (n : Nat) (pre is : List Nat) : Bool :=
  Region.noSelect l.toArray && decide (n < l.toArray.size) && sinkP .any l.toArray n pre && Region.chainB .any l.toArray n && decide (pre.length + is.length = n) &&
    preB .any l.toArray n (headB .any l.toArray n is) pre (Array.replicate l.toArray.size false)

theorem any_of_pre {Q : Exit → Act → World → Prop} {n f : Nat} {l : List Oper} {rest : Array Bool → Bool} {G : Act → Prop} {tl : List Oper} (hsel : Region.noSelect l.toArray = true)
    (hQ : ∀ c a (d : Nat) v w, Q (.panic c) (Act.put a (some d) v) w → Q (.panic c) a w) (all pre : List Nat) :
    ∀ (seen : Array Bool) (a : Act) (w : World), C w → HeadInv md l.toArray n seen → (∀ i, i ∈ all → i ∈ pre ∨ seen.getD i false = true) →
    preB md l.toArray n rest pre seen = true → wpQuiet P l.toArray C G (opsAt l pre ++ tl) a →
    (∀ seen a, HeadInv md l.toArray n seen → PreSeen all seen → rest seen = true → wpQuiet P l.toArray C G tl a → wpAny P md l.toArray Q f seen a w) →
    wpAny P md l.toArray Q (pre.length + f) seen a w := by
  induction pre with
  | nil =>
    intro seen a w hw inv hall hB h hK
    simp only [List.length_nil, Nat.zero_add]
    exact hK seen a inv (fun i hi => (hall i hi).resolve_left (by simp)) hB h
  | cons k pre ih =>
    intro seen a w hw inv hall hB h hK
    simp only [preB, Bool.and_eq_true, decide_eq_true_eq] at hB
    obtain ⟨⟨⟨⟨hkn, hr⟩, hf⟩, hm⟩, hB'⟩ := hB
    have hr' : k ∈ Region.ready md l.toArray seen := by simpa using hr
    obtain ⟨_, o, h0, _⟩ := mem_ready.1 hr'
    have ho : (l[k]?).getD default = o := by
      have : l[k]? = some o := by simpa using h0
      rw [this]; rfl
    rw [h0] at hm
    simp only [Option.map_some, Option.getD_some] at hm
    have h' : wpQuiet P l.toArray C G ((l[k]?).getD default :: (opsAt l pre ++ tl)) a := h
    rw [ho] at h'
    have hst : qOp P l.toArray C k (wpQuiet P l.toArray C G (opsAt l pre ++ tl)) a := by
      unfold qOp
      simp only [h0]
      exact h'
    obtain ⟨v, hy, hnext⟩ := yieldsIn_of_qOp h0 hst
    have hyy : Yields P l.toArray o v a := by
      rcases hy with ⟨h1, h2⟩ | h1
      · left
        refine ⟨h1, ?_⟩
        unfold isMove at hm
        split at hm
        · rename_i x hx
          have h3 := h2 w hw
          unfold Oper.quietAt at h3
          rw [BigFrame.run_move x hx] at h3
          intro w'
          rw [BigFrame.run_move x hx, h3.2]
        · cases hm
      · exact Or.inr h1
    rw [List.length_cons, show pre.length + 1 + f = (pre.length + f) + 1 by omega]
    obtain ⟨d, hd⟩ : ∃ d, o.dst = some d := by
      unfold isMove at hm
      split at hm
      · rw [Bool.and_eq_true] at hm
        exact Option.isSome_iff_exists.1 hm.2
      · cases hm
    refine wpAny_take h0 hsel hf hr (fun c a' w' hq => by rw [hd] at hq; exact hQ c a' d v w' hq) hyy ?_
    refine ih _ _ w hw (inv.set hr' hkn) (fun i hi => ?_) hB' hnext hK
    rcases hall i hi with h1 | h1
    · rcases List.mem_cons.1 h1 with h2 | h2
      · right
        subst h2
        have hlt : i < seen.size := by
          rw [inv.size]
          exact (Array.getElem?_eq_some_iff.1 h0).1
        simp [hlt]
      · exact Or.inl h2
    · exact Or.inr (getD_set_true h1)

/-- moves first, the head quiet, the tail in its one order -/
theorem region_pre_tail {id : Nat} {Q : Exit → Act → World → Prop} {a : Act} {w : World} {l : List Oper} (n : Nat) (pre is : List Nat) (hm : P.follows .mixedOrders = true) (hB : lexPreB l n pre is = true)
    (hQ : ∀ c a (d : Nat) v w, Q (.panic c) (Act.put a (some d) v) w → Q (.panic c) a w)
    (h : wpQuiet P l.toArray (fun w' => ∃ m, w' = w.drewN m) (fun a' => ∀ w', (∃ m, w' = w.drewN m) → wpList P l.toArray Q (l.drop n) a' w') (opsAt l pre ++ opsAt l is) a) : (Code.region id l.toArray true).wp P Q a w := by
  simp only [lexPreB, Bool.and_eq_true, decide_eq_true_eq] at hB
  obtain ⟨⟨⟨⟨⟨hsel, hn⟩, hs⟩, hc⟩, hlen⟩, hpre⟩ := hB
  have hn' : n < l.length := by simpa using hn
  have hdl : (l.drop n).length = l.toArray.size - n := by simp
  have inv0 : HeadInv .any l.toArray n (Array.replicate l.toArray.size false) := by
    refine ⟨by simp, fun j oj _ hl => ?_, fun t _ ht => getD_in (by simpa using ht) (getD_replicate_false _ _)⟩
    rw [getD_replicate_false] at hl
    cases hl
  refine wp_region_any hm ?_
  have key := any_of_pre (Q := Q) (f := is.length + (l.toArray.size - n)) hsel hQ pre pre (Array.replicate l.toArray.size false) a { w with drawn := w.drawn + 1 } ⟨1, rfl⟩ inv0 (fun i hi => Or.inl hi) hpre h
    (fun seen a' inv hp hr hq => by
      have H := headQ_lexP (md := .any) hsel hs hc hn is seen a' inv hp hr hq
      exact any_of_headQ (Q := Q) (g := l.toArray.size - n) (fun seen2 a2 hL w2 hw2 => by
        have := wpAny_of_seq (md := .any) (Q' := Q) (l.drop n) n seen2 a2 w2 (fun j => by simp [List.getElem?_drop]) (by rw [hdl]; exact hL.1) (hL.2 w2 hw2)
        rwa [hdl] at this) _ _ _ _ ⟨1, rfl⟩ H)
  rw [show pre.length + (is.length + (l.toArray.size - n)) = l.toArray.size by omega] at key
  exact key

end Go.Proofs.Ytfcpmpcfbhkacaa
