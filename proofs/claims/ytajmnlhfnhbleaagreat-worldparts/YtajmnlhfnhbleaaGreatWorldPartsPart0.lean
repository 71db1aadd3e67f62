/- Several texts of one proof, in their order. -/
import Derived.Test.YtajmnlhfnhbleaaGreatKw40
namespace Go.Proofs.YtajmnlhfnhbleaaGreat
open Go.RowKit CurveMath
set_option linter.unusedVariables false
theorem at_more(k n:Int)(hn:1≤n∧n≤1000)(w:World):
 Calls Tryz.prog 20 #[.int .i64 k,.int .i64 n] w fun e w'=>e=.returned (.int .i64 (k%n))∧w'=w:=by
 obtain⟨h1,h2,h3⟩:=tmod_bd k n hn.1
 rw[←h3]
 clear h3
 by_cases h0:k.tmod n<0
 ·rw[if_pos h0]
  go_enter Tryz.func20,Tryz.ntmps20;go_wp2;go_ret;exact⟨rfl,rfl⟩
 ·rw[if_neg h0]
  go_enter Tryz.func20,Tryz.ntmps20;go_wp2;go_ret;exact⟨rfl,rfl⟩
def RunOpen(w':World)(m:Ms)(said:List Int)(e:Ending):Prop :=
 ∃(ab:Option Addr) (cb:Nat) (PV:Nat→Value) (al:Option Addr) (cl:Nat) (KV:Nat→Value) (UV:Nat→Nat→Value) (gs:Nat),e=.returned (.tuple #[.agg #[.slice ab m.n cb,.slice al m.np cl],.slice (some ⟨gs,0,none⟩) said.length said.length,.int .i64 0]) ∧
  VeSl w' w'.heap.size (.slice ab m.n cb) m.n PV m.b∧PsSl w' w'.heap.size (.slice al m.np cl) m.np KV UV m.P∧IntSl w' w'.heap.size (.slice (some ⟨gs,0,none⟩) said.length said.length) said.length (fun j=>said.getD j 0)
theorem run_said{w w':World}{m:Ms}{said:List Int}{e:Ending}(h:RunPostS w 0 m said e w'):Below w.heap.size w w'∧RunOpen w' m said e:=by
 obtain⟨⟨hb,vb,vl,vo,n',np',k,PV,KV,UV,e1,h1,h2,h3,h4,h5,h6⟩,hs⟩:=h;obtain⟨vm,gs,e2⟩:=hs rfl;rw[if_pos rfl]at h1 h2 h3;subst h1 h2 h3;rw[e1]at e2;injection e2 with e2;injection e2 with e2;have ev:vo=.slice (some ⟨gs,0,none⟩) said.length said.length:=by
  have:=congrArg (fun x=>x[1]?) e2;simpa using this
 subst ev;obtain⟨ab,cb,rfl,z1,z2⟩:=id h4;obtain⟨al,cl,rfl,z3,z4⟩:=id h5;exact⟨hb,ab,cb,PV,al,cl,KV,UV,gs,e1,h4,h5,h6⟩
theorem run_none{w w':World}{er:Int}{m:Ms}{said:List Int}{e:Ending}(h:RunPostS w er m said e w'):Below w.heap.size w w'∧∃(a1:Option Addr) (n1 c1:Nat) (a2:Option Addr) (n2 c2:Nat) (a3:Option Addr) (n3 c3:Nat),e=.returned (.tuple #[.agg #[.slice a1 n1 c1,.slice a2 n2 c2],.slice a3 n3 c3,.int .i64 er]):=by
 obtain⟨⟨hb,vb,vl,vo,n',np',k,PV,KV,UV,e1,h1,h2,h3,h4,h5,h6⟩,hs⟩:=h;obtain⟨ab,cb,rfl,z1,z2⟩:=h4;obtain⟨al,cl,rfl,z3,z4⟩:=h5;obtain⟨ao,co,rfl,z5,z6⟩:=h6;exact⟨hb,_,_,_,_,_,_,_,_,_,e1⟩
theorem hapL_cut(H:Nat→Hp)(n k:Nat)(hk:k≤n):hapL H n=hapL H k++hapL (fun j=>H (k+j)) (n-k):=by
 unfold hapL;obtain⟨d,rfl⟩:∃d,n=k+d:=⟨n-k,by omega⟩;rw[Nat.add_sub_cancel_left,List.range_add,List.map_append,List.map_map];rfl
theorem runE_of{m:Ms}{len:Nat}(h:msE m=0)(hl:len≤100):runE m len=0:=by unfold runE;rw[if_pos h,if_pos hl]
theorem runE_zero{m:Ms}{len:Nat}(h:runE m len=0):msE m=0∧len≤100:=by
 unfold runE at h;by_cases h0:msE m=0
 ·rw[if_pos h0]at h
  refine⟨h0,Classical.byContradiction fun h1=>?_⟩;rw[if_neg h1]at h;omega
 rw[if_neg h0]at h;exact absurd h h0
theorem pt_store{V:World}{g:Nat}{ab:Option Addr}{n cb:Nat}{PV:Nat→Value}{b:Bk}{al:Option Addr}{np cl:Nat}{KV:Nat→Value}{UV:Nat→Nat→Value}{P:Ps}(k0:V.heap[g]?=some (.cells #[.slice none 0 0,.slice none 0 0] 27 (0,0)))(hv:VeSl V V.heap.size (.slice ab n cb) n PV b)(hl:PsSl V V.heap.size (.slice al np cl) np KV UV P):MsAt (put2 V g (.slice ab n cb) (.slice al np cl)) g ab n cb PV b al np cl KV UV P :=
 ⟨put2_whole k0 _ _,ve_put2 k0 hv _,ps_put2 k0 hl _ _⟩
end Go.Proofs.YtajmnlhfnhbleaaGreat
