/- Several texts of one proof, in their order. -/
import Derived.Test.YtajmnlhfnhbleaaGreatRSum35
namespace Go.Proofs.YtajmnlhfnhbleaaGreat
open Go.RowKit
set_option linter.unusedVariables false
def OffV(r u:Value)(m:Nat):Prop:=m=0∨∀a n c a' n' c',r=.slice (some a) n c→u=.slice (some a') n' c'→a.block≠a'.block
def LtV(g:Nat)(u:Value)(m:Nat):Prop:=m=0∨∀ad n c,u=.slice (some ad) n c→ad.block<g
def PartK(ver:Int)(r:Value)(m:Nat)(UV:Nat→Value)(t:Kt):Prop :=
 ∃s,∀j,j<m→OffV r (UV j) (t.L j)∧(t.V j=ver→Above s (UV j))∧(t.V j≠ver→LtV s (UV j) (t.L j))
theorem fresh_ltV{w:World}{B g m:Nat}{v:Value}{X:Nat→Int}(h:IntSl w B v m X)(hg:B≤g):LtV g v m:=by
 obtain⟨ad2,cap,rfl,h0,h2⟩:=h;rcases h2 with h2|⟨b,off,rfl,h4,h5⟩;·exact Or.inl h2
 refine Or.inr fun ad n c e=>?_;injection e with e1;injection e1 with e1;subst e1;show b<g;omega
theorem offV_lt{g m L:Nat}{r u:Value}(h:LtV g r m)(ha:Above g u):m=0∨OffV r u L:=by
 rcases h with h|h;·exact Or.inl h
 exact Or.inr (Or.inr fun a n c a' n' c' e e' e9=>by
  have h1:=h a n c e;have h2:=ha a' n' c' e';omega)
theorem offV_gt{g L:Nat}{r u:Value}(ha:Above g r)(h:LtV g u L):OffV r u L:=by
 rcases h with h|h;·exact Or.inl h
 exact Or.inr fun a n c a' n' c' e e' e9=>by
  have h1:=ha a n c e;have h2:=h a' n' c' e';omega
theorem offV_of{w:World}{base:Nat}{e:TypeId}{size n L:Nat}{xs:List Value}{v u:Value}(h:OffK v u L)(ho:w.ownsRow base e size v n xs):OffV v u L:=by
 rcases h with h|h;·exact Or.inl h
 refine Or.inr fun a m c a' m' c' e1 e2 e3=>?_;rcases ho.2 with⟨rfl,_⟩|⟨g,cap,cur,rfl,_⟩;·cases e1
 injection e1 with e1;injection e1 with e1;subst e1;exact h a' m' c' e2 (by show some a'.block=some g;rw[←e3])
theorem ag_ahead{t:Kt}{ver:Int}{m i:Nat}(h:i∈agL (ahB t ver) m):t.V i≠ver:=by
 have h2:t.V i<ver:=of_decide_eq_true (List.mem_filter.1 h).2;omega
theorem ag_behind{t:Kt}{ver:Int}{m i:Nat}(h:i∈agL (bhB t ver) m):t.V i≠ver:=by
 have h2:ver<t.V i:=of_decide_eq_true (List.mem_filter.1 h).2;omega
theorem partK_of{w0 wr:World}{v:Value}{UV:Nat→Value}{t:Kt}{l:List Nat}{ver:Int}{s k:Nat}(h:KsIn w0 wr v UV t l)(hs:∀i,i∈l→(t.V i=ver→Above s (UV i))∧(t.V i≠ver→LtV s (UV i) (t.L i)))(hl:l.length=k):
 PartK ver v k (fun j=>UV (l.getD j 0)) (selT t l) :=
 ⟨s,fun j hj=>by
  have hi:=getD_inK (l:=l) (j:=j) (by omega);exact⟨offV_of (h.at_ _ hi).2.2.1 h.own.1,(hs _ hi).1,(hs _ hi).2⟩⟩
def KeepPostW(w:World)(n:Nat)(b:Bk)(th:Bool)(room:Int)(m:Nat)(t:Kt)(ver N:Int)(L:Nat)(X:Nat→Int)(e:Ending)(w':World):Prop :=
 Below w.heap.size w w'∧∃(er:Int) (th':Bool) (room':Int) (r:Value) (m':Nat) (UV':Nat→Value) (t':Kt),e=.returned (.tuple #[peerV th' room' r,.int .i64 er])∧KeSl w' w'.heap.size r m' UV' t'∧KeepsTo n b th room m t ver N L X er th' room' m' t'∧NewK w.heap.size w' r m' UV' t'∧PartK ver r m' UV' t'
theorem keeps_errW{w w5:World}{n:Nat}{b:Bk}{th:Bool}{room:Int}{m:Nat}{t t':Kt}{ver N:Int}{L:Nat}{X:Nat→Int}{c:Int}(hc:KeepsTo n b th room m t ver N L X c false 0 0 t')(hb:Below w.heap.size w w5):
 KeepPostW w n b th room m t ver N L X (.returned (.tuple #[.agg #[.bool false,.int .i64 0,.slice none 0 0],.int .i64 c])) (put3 w5 (w.heap.size+3) (.bool false) (.int .i64 0) (.slice none 0 0)) :=
 ⟨put3_below hb (by omega),c,false,0,.slice none 0 0,0,fun _=>.int .i64 0,t',rfl,⟨none,0,rfl,⟨Nat.le_refl _,by omega⟩,Or.inl rfl⟩,hc,⟨NewV.none _ _ _ _,fun i hi=>by omega⟩,0,fun j hj=>by omega⟩
end Go.Proofs.YtajmnlhfnhbleaaGreat
