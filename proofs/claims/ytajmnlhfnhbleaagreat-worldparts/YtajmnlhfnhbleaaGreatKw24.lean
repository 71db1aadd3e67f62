/- Several texts of one proof, in their order. -/
import Derived.Test.YtajmnlhfnhbleaaGreatKw23
import Derived.Test.YtajmnlhfnhbleaaGreatKw20
namespace Go.Proofs.YtajmnlhfnhbleaaGreat
open Go.RowKit
set_option linter.unusedVariables false
set_option maxHeartbeats 4000000
theorem peAhead(bx:Nat)(ver V N:Int)(uv:Value)(w:World)(hx:w.cell? ⟨bx,0,none⟩=some (.int .i64 ver))(hu:∃a l c,uv=.slice a l c):
 Calls Tryz.prog 154 #[keptV V N uv,.pointer (some ⟨bx,0,none⟩)] w fun e w'=>e=.returned (.bool (decide (V<ver)))∧Below w.heap.size w w':=by
 obtain⟨a,l,c,rfl⟩:=hu
 have hb:=below_alloc w (.cells #[.int .i64 V,.int .i64 N,.slice a l c] 83)
 have HB:=hid hb
 have c1:(w.alloc (.cells #[.int .i64 V,.int .i64 N,.slice a l c] 83)).cell? ⟨bx,0,none⟩=some (.int .i64 ver):=by rw[hb.cell (cell_lt hx)];exact hx
 clear hb
 unfold keptV
 go_enter Tryz.func154,Tryz.ntmps154
 go_wp2
 go_ret
 exact⟨rfl,HB.out⟩
theorem peBehind(bx:Nat)(ver V N:Int)(uv:Value)(w:World)(hx:w.cell? ⟨bx,0,none⟩=some (.int .i64 ver))(hu:∃a l c,uv=.slice a l c):
 Calls Tryz.prog 155 #[keptV V N uv,.pointer (some ⟨bx,0,none⟩)] w fun e w'=>e=.returned (.bool (decide (ver<V)))∧Below w.heap.size w w':=by
 obtain⟨a,l,c,rfl⟩:=hu
 have hb:=below_alloc w (.cells #[.int .i64 V,.int .i64 N,.slice a l c] 83)
 have HB:=hid hb
 have c1:(w.alloc (.cells #[.int .i64 V,.int .i64 N,.slice a l c] 83)).cell? ⟨bx,0,none⟩=some (.int .i64 ver):=by rw[hb.cell (cell_lt hx)];exact hx
 clear hb
 unfold keptV
 go_enter Tryz.func155,Tryz.ntmps155
 go_wp2
 go_ret
 exact⟨rfl,HB.out⟩
theorem peOther(bx:Nat)(ver V N:Int)(uv:Value)(w:World)(hx:w.cell? ⟨bx,0,none⟩=some (.int .i64 ver))(hu:∃a l c,uv=.slice a l c):
 Calls Tryz.prog 122 #[keptV V N uv,.pointer (some ⟨bx,0,none⟩)] w fun e w'=>e=.returned (.bool (V != ver))∧Below w.heap.size w w':=by
 obtain⟨a,l,c,rfl⟩:=hu
 have hb:=below_alloc w (.cells #[.int .i64 V,.int .i64 N,.slice a l c] 83)
 have HB:=hid hb
 have c1:(w.alloc (.cells #[.int .i64 V,.int .i64 N,.slice a l c] 83)).cell? ⟨bx,0,none⟩=some (.int .i64 ver):=by rw[hb.cell (cell_lt hx)];exact hx
 clear hb
 unfold keptV
 go_enter Tryz.func122,Tryz.ntmps122
 go_wp2
 go_ret
 exact⟨rfl,HB.out⟩
theorem kel_slices{w:World}{v:Value}{m:Nat}{UV:Nat→Value}{t:Kt}(h:KeSl w w.heap.size v m UV t):∀i,i<m→∃a l c,UV i=.slice a l c:=fun i hi=>by
 obtain⟨_,_,_,_,h2⟩:=h;rcases h2 with h0|⟨_,_,_,_,h5⟩;·omega
 obtain⟨a,c,e,_⟩:=(h5 i hi).2.2.2;exact⟨_,_,_,e⟩
theorem getD_inK{l:List Nat}{j:Nat}(h:j<l.length):l.getD j 0∈l:=by
 rw[List.getD_eq_getElem?_getD,List.getElem?_eq_getElem h];exact List.getElem_mem h
theorem peDrop(vb:Value)(n:Nat)(PV:Nat→Value)(b:Bk)(th:Bool)(room:Int)(vk:Value)(m:Nat)(UV:Nat→Value)(t:Kt)(ver:Int)(w:World)(hv:VeSl w w.heap.size vb n PV b)(hk:KeSl w w.heap.size vk m UV t):
 Calls Tryz.prog 84 #[bookV vb,peerV th room vk,.int .i64 ver] w (DropPostN w n b th room m t ver):=by
 have HV:=hid hv
 have HK:=hid hk
 obtain⟨ad,cap,rfl,_,_⟩:=hv
 obtain⟨ak,capk,rfl,_,_⟩:=hk
 have hb0:=((((Below.refl w.heap.size w).alloc (Nat.le_refl _) (.cells #[.slice ad n cap] 24)).alloc (by simp) (.cells #[.bool th,.int .i64 room,.slice ak m capk] 41)).alloc (by simp<;>omega) (.cells #[.int .i64 ver] 3)).alloc (by simp<;>omega) (.cells #[.bool false,.int .i64 0,.slice none 0 0] 41)
 have c0:((((w.alloc (.cells #[.slice ad n cap] 24)).alloc (.cells #[.bool th,.int .i64 room,.slice ak m capk] 41)).alloc (.cells #[.int .i64 ver] 3)).alloc (.cells #[.bool false,.int .i64 0,.slice none 0 0] 41)).heap[w.heap.size]?=some (.cells #[.slice ad n cap] 24 (0,0)):=by
  rw[Below.heap_alloc _ _ _ (by simp<;>omega),Below.heap_alloc _ _ _ (by simp<;>omega),Below.heap_alloc _ _ _ (by simp)];exact heap_alloc_new _ _
 have c1:((((w.alloc (.cells #[.slice ad n cap] 24)).alloc (.cells #[.bool th,.int .i64 room,.slice ak m capk] 41)).alloc (.cells #[.int .i64 ver] 3)).alloc (.cells #[.bool false,.int .i64 0,.slice none 0 0] 41)).heap[w.heap.size+1]?=some (.cells #[.bool th,.int .i64 room,.slice ak m capk] 41 (0,0)):=by
  rw[Below.heap_alloc _ _ _ (by simp<;>omega),Below.heap_alloc _ _ _ (by simp<;>omega),show w.heap.size+1=(w.alloc (.cells #[.slice ad n cap] 24)).heap.size by simp];exact heap_alloc_new _ _
 have c2:((((w.alloc (.cells #[.slice ad n cap] 24)).alloc (.cells #[.bool th,.int .i64 room,.slice ak m capk] 41)).alloc (.cells #[.int .i64 ver] 3)).alloc (.cells #[.bool false,.int .i64 0,.slice none 0 0] 41)).heap[w.heap.size+2]?=some (.cells #[.int .i64 ver] 3 (0,0)):=by
  rw[Below.heap_alloc _ _ _ (by simp<;>omega),show w.heap.size+2=((w.alloc (.cells #[.slice ad n cap] 24)).alloc (.cells #[.bool th,.int .i64 room,.slice ak m capk] 41)).heap.size by simp];exact heap_alloc_new _ _
 have c3:((((w.alloc (.cells #[.slice ad n cap] 24)).alloc (.cells #[.bool th,.int .i64 room,.slice ak m capk] 41)).alloc (.cells #[.int .i64 ver] 3)).alloc (.cells #[.bool false,.int .i64 0,.slice none 0 0] 41)).heap[w.heap.size+3]?=some (.cells #[.bool false,.int .i64 0,.slice none 0 0] 41 (0,0)):=by
  rw[show w.heap.size+3=(((w.alloc (.cells #[.slice ad n cap] 24)).alloc (.cells #[.bool th,.int .i64 room,.slice ak m capk] 41)).alloc (.cells #[.int .i64 ver] 3)).heap.size by simp];exact heap_alloc_new _ _
 obtain⟨W0,hW0⟩:∃W,(((w.alloc (.cells #[.slice ad n cap] 24)).alloc (.cells #[.bool th,.int .i64 room,.slice ak m capk] 41)).alloc (.cells #[.int .i64 ver] 3)).alloc (.cells #[.bool false,.int .i64 0,.slice none 0 0] 41)=W:=⟨_,rfl⟩
 rw[hW0]at hb0 c0 c1 c2 c3
 have B0:=hid hb0
 have C1:=hid c1
 have C2:=hid c2
 have C3:=hid c3
 have HC:=hid (peChecked _ n PV b th room _ m UV t W0 (HV.out.up hb0) (HK.out.up hb0))
 unfold bookV peerV at HC
 obtain⟨c,hcc⟩:∃c,peerE n b room m t=c:=⟨_,rfl⟩
 rw[hcc]at HC
 have a0:W0.cell? ⟨w.heap.size,0,none⟩=some (.slice ad n cap):=cell_at c0 rfl
 obtain⟨a1,a2,a3⟩:=three_at c1
 have HCc:=hid hcc
 clear hb0 c0 c1 c2 c3 hcc
 unfold bookV peerV
 go_enter Tryz.func84,Tryz.ntmps84
 go_wp2_with fail
 refine Calls.mono HC.out ?_
 rintro e W2 ⟨rfl,hb2⟩
 have B2:=hid (B0.out.trans (hb2.mono B0.out.size))
 have d1:=stayB C1.out hb2
 have d2:=stayB C2.out hb2
 have d3:=stayB C3.out hb2
 clear a0 a1 a2 a3 hb2
 by_cases hc0:c=0
 ·subst hc0
  have hm:m≤20:=by
   obtain⟨_,h1,h2,_⟩:=peerE_ok HCc.out;omega
  obtain⟨a1,a2,a3⟩:=three_at d1;have hbM:=below_alloc W2 (.cells #[.bool th,.int .i64 room,.slice ak m capk] 41);have km:=heap_alloc_new W2 (.cells #[.bool th,.int .i64 room,.slice ak m capk] 41);obtain⟨W3,hW3⟩:∃W,W2.alloc (.cells #[.bool th,.int .i64 room,.slice ak m capk] 41)=W:=⟨_,rfl⟩;rw[hW3]at hbM km;have B3:=hid (B2.out.trans (hbM.mono B2.out.size));have e1:=stayB d1 hbM;have e2:=stayB d2 hbM;have e3:=stayB d3 hbM;obtain⟨b1,b2,b3⟩:=three_at e1;have hs3:w.heap.size+3<W2.heap.size:=(Array.getElem?_eq_some_iff.1 d3).1;have hsM:W2.heap.size<W3.heap.size:=(Array.getElem?_eq_some_iff.1 km).1;have HS3:=hid hs3;have HSM:=hid hsM
  have HCt:=hid (peThoseD (w.heap.size+2) (.slice ak m capk) m UV t (fun j=>t.V j != ver) (by omega) W3 (HK.out.up B3.out) (fun i hi w' hb'=>peOther (w.heap.size+2) ver (t.V i) (t.N i) (UV i) w' (by rw[hb'.cell (Array.getElem?_eq_some_iff.1 e2).1];exact cell_at e2 rfl) (kel_slices HK.out i hi)));have E3:=hid e3;have KM:=hid km;have hmf:∀(fn:Fn) (first cap:Array Value) (w:World),(Instr.makeFunc fn first cap).run Tryz.prog w=.ok (.func fn first cap) w:=fun _ _ _ _=>rfl;clear d1 d2 d3 hbM km e1 e2 e3 hs3 hsM;go_wp2_with fail
  refine Calls.mono HCt.out ?_;rintro e W4 ⟨hb4,vo,UVo,rfl,hks⟩;have HKs:=hid hks;have B4:=hid (B3.out.trans (hb4.mono B3.out.size));have g3:=stayB E3.out hb4;have gm:=stayB KM.out hb4;obtain⟨ao,co,hvo⟩:=owns_sliceV hks.own.1;subst hvo;have KM4:=hid gm;have E34:=hid g3;obtain⟨r1,r2,r3⟩:=three_at g3;have f1:=frozen_at (i:=0) g3;have f2:=frozen_at (i:=1) g3;have f3:=frozen_at (i:=2) g3;obtain⟨s1,s2,s3⟩:=three_at gm;have fm:=frozen_at (i:=2) gm;have hne:w.heap.size+3≠W2.heap.size:=by have:=HS3.out;omega
  have hll:=agL_len (fun j=>t.V j != ver) m;clear b1 b2 b3 hb4 hks g3 gm HCt;go_wp2;have hY3:(W4.setCell ⟨W2.heap.size,2,none⟩ (.slice ao (agL (fun j=>t.V j != ver) m).length co)).heap[w.heap.size+3]?=some (.cells #[.bool false,.int .i64 0,.slice none 0 0] 41 (0,0)):=by
   rw[Below.heap_setCell _ _ _ _ (by show w.heap.size+3≠W2.heap.size;exact hne)];exact E34.out
  refine ret2 (put3_whole hY3 _ _ _) Tryz.underlying41 ?_;have hs3:=HS3.out;have hsM:=HSM.out;have hof:∀g,g<W3.heap.size→(Value.slice ao (agL (fun j=>t.V j != ver) m).length co).ownBlock≠some g:=fun g hg e=>by have:=(HKs.out.own.1.lt g e).1;omega
  have hon:∀g,g<W3.heap.size→∀i,i∈agL (fun j=>t.V j != ver) m→OffN g (UVo i) (t.L i):=fun g hg i hi=>above_offN (HKs.out.at_ i hi).2.1 hg;have hA:=(HKs.out.out.set (hof _ hsM) (hon _ hsM) 2 (.slice ao (agL (fun j=>t.V j != ver) m).length co)).put3 (hof (w.heap.size+3) (by omega)) (hon (w.heap.size+3) (by omega)) (.bool th) (.int .i64 room) (.slice ao (agL (fun j=>t.V j != ver) m).length co);refine⟨put3_below (B4.out.setCell (p:=⟨W2.heap.size,2,none⟩) (by show w.heap.size≤W2.heap.size;omega) _) (by omega),0,th,room,_,_,_,_,rfl,hA.kel (by omega),Or.inr ⟨HCc.out,rfl,rfl,rfl,rfl,rfl⟩,(owns_new hA.row).mono B3.out.size,fun i hi=>((HKs.out.at_ _ (getD_inK hi)).2.2.2).imp id fun h=>(((((h.mono B3.out.size).set _ _).set _ _).set _ _).set _ _)⟩
 ·have hcb:(c != 0)=true:=by simpa using hc0
  obtain⟨r1,r2,r3⟩:=three_at d3;have f1:=frozen_at (i:=0) d3;have f2:=frozen_at (i:=1) d3;have f3:=frozen_at (i:=2) d3;have HC0:=hid hc0;have D3:=hid d3;clear d1 d2 d3 hc0;go_wp2;refine ret2 (put3_whole D3.out _ _ _) Tryz.underlying41 ?_;exact⟨put3_below B2.out (by omega),c,false,0,.slice none 0 0,0,fun _=>.int .i64 0,t,rfl,⟨none,0,rfl,⟨Nat.le_refl _,by omega⟩,Or.inl rfl⟩,Or.inl ⟨by rw[HCc.out];exact HC0.out,HCc.out.symm,rfl,rfl,rfl⟩,NewV.none _ _ _ _,fun i hi=>by omega⟩
def OffV(r u:Value)(m:Nat):Prop:=m=0∨∀a n c a' n' c',r=.slice (some a) n c→u=.slice (some a') n' c'→a.block≠a'.block
def LtV(g:Nat)(u:Value)(m:Nat):Prop:=m=0∨∀ad n c,u=.slice (some ad) n c→ad.block<g
def PartK(ver:Int)(r:Value)(m:Nat)(UV:Nat→Value)(t:Kt):Prop :=
 ∃s,∀j,j<m→OffV r (UV j) (t.L j)∧(t.V j=ver→Above s (UV j))∧(t.V j≠ver→LtV s (UV j) (t.L j))
theorem fresh_ltV{w:World}{B g m:Nat}{v:Value}{X:Nat→Int}(h:IntSl w B v m X)(hg:B≤g):LtV g v m:=by
 obtain⟨ad2,cap,rfl,h0,h2⟩:=h;rcases h2 with h2|⟨b,off,rfl,h4,h5⟩;·exact Or.inl h2
 refine Or.inr fun ad n c e=>?_;injection e with e1;injection e1 with e1;subst e1;show b<g;omega
theorem offV_lt{g m L:Nat}{r u:Value}(h:LtV g r m)(ha:Above g u):m=0∨OffV r u L:=by
 rcases h with h|h;·exact Or.inl h
 exact Or.inr (Or.inr fun a n c a' n' c' e e' e9=>by
  have h1:=h a n c e;have h2:=ha a' n' c' e';omega)
theorem offV_gt{g L:Nat}{r u:Value}(ha:Above g r)(h:LtV g u L):OffV r u L:=by
 rcases h with h|h;·exact Or.inl h
 exact Or.inr fun a n c a' n' c' e e' e9=>by
  have h1:=ha a n c e;have h2:=h a' n' c' e';omega
theorem offV_of{w:World}{base:Nat}{e:TypeId}{size n L:Nat}{xs:List Value}{v u:Value}(h:OffK v u L)(ho:w.ownsRow base e size v n xs):OffV v u L:=by
 rcases h with h|h;·exact Or.inl h
 refine Or.inr fun a m c a' m' c' e1 e2 e3=>?_;rcases ho.2 with⟨rfl,_⟩|⟨g,cap,cur,rfl,_⟩;·cases e1
 injection e1 with e1;injection e1 with e1;subst e1;exact h a' m' c' e2 (by show some a'.block=some g;rw[←e3])
theorem ag_ahead{t:Kt}{ver:Int}{m i:Nat}(h:i∈agL (ahB t ver) m):t.V i≠ver:=by
 have h2:t.V i<ver:=of_decide_eq_true (List.mem_filter.1 h).2;omega
theorem ag_behind{t:Kt}{ver:Int}{m i:Nat}(h:i∈agL (bhB t ver) m):t.V i≠ver:=by
 have h2:ver<t.V i:=of_decide_eq_true (List.mem_filter.1 h).2;omega
theorem partK_of{w0 wr:World}{v:Value}{UV:Nat→Value}{t:Kt}{l:List Nat}{ver:Int}{s k:Nat}(h:KsIn w0 wr v UV t l)(hs:∀i,i∈l→(t.V i=ver→Above s (UV i))∧(t.V i≠ver→LtV s (UV i) (t.L i)))(hl:l.length=k):
 PartK ver v k (fun j=>UV (l.getD j 0)) (selT t l) :=
 ⟨s,fun j hj=>by
  have hi:=getD_inK (l:=l) (j:=j) (by omega);exact⟨offV_of (h.at_ _ hi).2.2.1 h.own.1,(hs _ hi).1,(hs _ hi).2⟩⟩
def KeepPostW(w:World)(n:Nat)(b:Bk)(th:Bool)(room:Int)(m:Nat)(t:Kt)(ver N:Int)(L:Nat)(X:Nat→Int)(e:Ending)(w':World):Prop :=
 Below w.heap.size w w'∧∃(er:Int) (th':Bool) (room':Int) (r:Value) (m':Nat) (UV':Nat→Value) (t':Kt),e=.returned (.tuple #[peerV th' room' r,.int .i64 er])∧KeSl w' w'.heap.size r m' UV' t'∧KeepsTo n b th room m t ver N L X er th' room' m' t'∧NewK w.heap.size w' r m' UV' t'∧PartK ver r m' UV' t'
theorem KeepPostW.n{w:World}{n:Nat}{b:Bk}{th:Bool}{room:Int}{m:Nat}{t:Kt}{ver N:Int}{L:Nat}{X:Nat→Int}{e:Ending}{w':World}(h:KeepPostW w n b th room m t ver N L X e w'):KeepPostN w n b th room m t ver N L X e w':=by
 obtain⟨h1,er,th',room',r,m',UV',t',h2,h3,h4,h5,_⟩:=h;exact⟨h1,er,th',room',r,m',UV',t',h2,h3,h4,h5⟩
theorem keeps_errW{w w5:World}{n:Nat}{b:Bk}{th:Bool}{room:Int}{m:Nat}{t t':Kt}{ver N:Int}{L:Nat}{X:Nat→Int}{c:Int}(hc:KeepsTo n b th room m t ver N L X c false 0 0 t')(hb:Below w.heap.size w w5):
 KeepPostW w n b th room m t ver N L X (.returned (.tuple #[.agg #[.bool false,.int .i64 0,.slice none 0 0],.int .i64 c])) (put3 w5 (w.heap.size+3) (.bool false) (.int .i64 0) (.slice none 0 0)) :=
 ⟨put3_below hb (by omega),c,false,0,.slice none 0 0,0,fun _=>.int .i64 0,t',rfl,⟨none,0,rfl,⟨Nat.le_refl _,by omega⟩,Or.inl rfl⟩,hc,⟨NewV.none _ _ _ _,fun i hi=>by omega⟩,0,fun j hj=>by omega⟩
end Go.Proofs.YtajmnlhfnhbleaaGreat
