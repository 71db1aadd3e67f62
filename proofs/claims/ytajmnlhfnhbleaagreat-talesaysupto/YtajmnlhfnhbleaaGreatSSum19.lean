/- Several texts of one proof, in their order. -/
import Derived.Test.YtajmnlhfnhbleaaGreatSSum18
namespace Go.Proofs.YtajmnlhfnhbleaaGreat
open Go.RowKit CurveMath
set_option linter.unusedVariables false
set_option maxHeartbeats 8000000
set_option maxRecDepth 10000
section
theorem heap_threeW(w:World)(o1 o2 o3:Obj):(((w.alloc o1).alloc o2).alloc o3).heap[w.heap.size]?=some o1∧(((w.alloc o1).alloc o2).alloc o3).heap[w.heap.size+1]?=some o2∧(((w.alloc o1).alloc o2).alloc o3).heap[w.heap.size+2]?=some o3:=by
 have h1:(w.alloc o1).heap.size=w.heap.size+1:=by simp
 have h2:((w.alloc o1).alloc o2).heap.size=w.heap.size+2:=by simp
 refine⟨?_,?_,?_⟩;·rw[Below.heap_alloc _ _ _ (by rw[h2];omega)];exact heap_two_old w o1 o2
 ·rw[Below.heap_alloc _ _ _ (by rw[h2];omega)];exact heap_two_new w o1 o2
 rw[←h2];exact heap_alloc_new _ _
theorem seven_at{w:World}{g:Nat}{T:TypeId}{v0 v1 v2 v3 v4 v5 v6:Value}(h:w.heap[g]?=some (.cells #[v0,v1,v2,v3,v4,v5,v6] T (0,0))):
 w.cell? ⟨g,0,none⟩=some v0∧w.cell? ⟨g,1,none⟩=some v1∧w.cell? ⟨g,2,none⟩=some v2∧w.cell? ⟨g,3,none⟩=some v3∧w.cell? ⟨g,4,none⟩=some v4∧w.cell? ⟨g,5,none⟩=some v5∧w.cell? ⟨g,6,none⟩=some v6 :=
 ⟨cell_at h rfl,cell_at h rfl,cell_at h rfl,cell_at h rfl,cell_at h rfl,cell_at h rfl,cell_at h rfl⟩
theorem happBad(e0:Int)(w:World):Calls Tryz.prog 51 #[.int .i64 e0] w fun e w'=>e=.returned (.tuple #[.agg #[.slice none 0 0,.slice none 0 0],.int .i64 e0])∧Below w.heap.size w w':=by
 have hb:=below_alloc w (.cells #[.slice none 0 0,.slice none 0 0] 27);have k0:=heap_alloc_new w (.cells #[.slice none 0 0,.slice none 0 0] 27);obtain⟨U,hU⟩:∃u,w.alloc (.cells #[.slice none 0 0,.slice none 0 0] 27)=u:=⟨_,rfl⟩;rw[hU]at hb k0;obtain⟨r1,r2⟩:=two_at k0;have f1:=frozen_at (i:=0) k0;have f2:=frozen_at (i:=1) k0;have HB:=hid hb;have K0:=hid k0;clear hb k0;go_enter Tryz.func51,Tryz.ntmps51;go_wp2;refine ret2 (put2_whole K0.out _ _) Tryz.underlying27 ?_;exact⟨rfl,put2_below HB.out (Nat.le_refl _)⟩
theorem RowP.other{wr:World}{g np g' o:Nat}{KV:Nat→Value}{P:Ps}(h:RowP wr g np KV P)(hne:g≠g')(u:Value):RowP (wr.setCell ⟨g',o,none⟩ u) g np KV P :=
 ⟨fun k hk=>by
  obtain⟨h1,h2,h3⟩:=h.cell k hk;exact⟨by rw[cell_set_lit (Or.inl hne)];exact h1,by rw[cell_set_lit (Or.inl hne)];exact h2,by rw[cell_set_lit (Or.inl hne)];exact h3⟩,
  fun i hi=>by rw[frozen_set];exact h.free i hi,by simpa[World.setCell]using h.lt⟩
theorem RowP.all3{wr:World}{g np q:Nat}{KV:Nat→Value}{P P':Ps}(h:RowP wr g np KV P)(hq:q<np)(tv:Bool)(rv:Int)(u:Value)(e1:∀k,k<np→P'.th k=if k=q then tv else P.th k)(e2:∀k,k<np→P'.rm k=if k=q then rv else P.rm k):
 RowP (((wr.setCell ⟨g,q*3,none⟩ (.bool tv)).setCell ⟨g,q*3+1,none⟩ (.int .i64 rv)).setCell ⟨g,q*3+2,none⟩ u) g np (fun k=>if k=q then u else KV k) P' :=
 ⟨fun k hk=>by
  obtain⟨h1,h2,h3⟩:=h.cell k hk;rw[e1 k hk,e2 k hk];show _=some (Value.bool (if k=q then tv else P.th k))∧_=some (Value.int .i64 (if k=q then rv else P.rm k))∧_=some (if k=q then u else KV k);by_cases e:k=q
  ·subst e
   rw[if_pos rfl,if_pos rfl,if_pos rfl];refine⟨by rw[cell_set_lit (Or.inr (by omega)),cell_set_lit (Or.inr (by omega))];exact cell_set_same h1 _,?_,?_⟩
   ·rw[cell_set_lit (Or.inr (by omega))]
    exact cell_set_same (by rw[cell_set_lit (Or.inr (by omega))];exact h2) _
   exact cell_set_same (by rw[cell_set_lit (Or.inr (by omega)),cell_set_lit (Or.inr (by omega))];exact h3) _
  rw[if_neg e,if_neg e,if_neg e];exact⟨by rw[cell_set_lit (Or.inr (by omega)),cell_set_lit (Or.inr (by omega)),cell_set_lit (Or.inr (by omega))];exact h1,by rw[cell_set_lit (Or.inr (by omega)),cell_set_lit (Or.inr (by omega)),cell_set_lit (Or.inr (by omega))];exact h2,by rw[cell_set_lit (Or.inr (by omega)),cell_set_lit (Or.inr (by omega)),cell_set_lit (Or.inr (by omega))];exact h3⟩,
  fun i hi=>by rw[frozen_set,frozen_set,frozen_set];exact h.free i hi,by simpa[World.setCell]using h.lt⟩
theorem own_shapeH{w:World}{base:Nat}{e:TypeId}{v:Value}{n:Nat}{xs:List Value}(h:w.ownsRow base e 1 v n xs):∃a c,v=.slice a n c:=by
 obtain⟨_,h2⟩:=h;rcases h2 with⟨h1,h0⟩|⟨g,cap,cur,h1,_⟩;·exact⟨none,0,by rw[h0];exact h1⟩
 exact⟨_,_,h1⟩
theorem peerR_small{n:Nat}{b:Bk}{room:Int}{m:Nat}{t:Kt}(h:PeerR n b room m t):m≤1000:=by
 have h1:=h.few;have h2:=h.room_;omega
theorem oneK_some{b:Bk}{t:Kt}{i:Nat}(h:oneK b t i=0):1≤t.L i∧(0≤t.X i 0∧t.X i 0≤30):=by
 unfold oneK at h;obtain⟨g1,g2,g3,g4⟩:=oneE_ok h;obtain⟨b1,b2,b3⟩:=planOk_spec g1;have hr:=rowsN_bd b1 b3;have hl:1≤t.L i:=by omega
 have h5:=of_decide_eq_true g4 0 (by omega);unfold isNum at h5;rw[decide_eq_true_iff]at h5;exact⟨hl,h5⟩
theorem hasB_memW(l:List Int)(x:Int):hasB (fun j=>l.getD j 0) l.length x=decide (x∈l):=by
 rw[Bool.eq_iff_iff,hasB_iff,decide_eq_true_iff];constructor
 ·rintro⟨j,hj,rfl⟩
  rw[List.getD_eq_getElem?_getD,List.getElem?_eq_getElem hj];exact List.getElem_mem hj
 intro h;obtain⟨j,hj,rfl⟩:=List.mem_iff_getElem.1 h;exact⟨j,hj,by rw[List.getD_eq_getElem?_getD,List.getElem?_eq_getElem hj];rfl⟩
def fgM(P:Ps)(N:Int)(i k:Nat):Nat:=if k<i then(forgP P N).m k else P.m k
def fgT(P:Ps)(N:Int)(i k:Nat):Kt:=if k<i then(forgP P N).t k else P.t k
structure FgInv(w wr:World)(a0 a1:Option Addr)(n cb np cap gp:Nat)(hv:Array Value)(KV:Nat→Value)(UV:Nat→Nat→Value)(P:Ps)(N:Int)(KVi:Nat→Value)(UVi:Nat→Nat→Value)(i:Nat):Prop where
 below:Below w.heap.size w wr
 box:wr.heap[w.heap.size]?=some (.cells #[.slice a0 n cb,.slice (some ⟨gp,0,none⟩) np cap] 27 (0,0))
 hap:wr.heap[w.heap.size+1]?=some (.cells hv 30 (0,0))
 out:wr.heap[w.heap.size+2]?=some (.cells #[.slice none 0 0,.slice none 0 0] 27 (0,0))
 row:RowP wr gp np KVi P
 kept:∀k,k<np→KeSl wr wr.heap.size (KVi k) (fgM P N i k) (UVi k) (fgT P N i k)
 rest:∀k,i≤k→k<np→KVi k=KV k∧UVi k=UV k
 ge:w.heap.size+2<gp
section
variable {w wr w' : World} {a0 a1 : Option Addr} {n cb np cap gp : Nat} {hv : Array Value} {KV : Nat → Value} {UV : Nat → Nat → Value} {P : Ps} {N : Int} {KVi : Nat → Value} {UVi : Nat → Nat → Value} {i : Nat}
theorem FgInv.up(h:FgInv w wr a0 a1 n cb np cap gp hv KV UV P N KVi UVi i)(hb:Below wr.heap.size wr w'):FgInv w w' a0 a1 n cb np cap gp hv KV UV P N KVi UVi i :=
 ⟨h.below.trans (hb.mono h.below.size),stayB h.box hb,stayB h.hap hb,stayB h.out hb,h.row.up hb,fun k hk=>(h.kept k hk).up hb,h.rest,h.ge⟩
theorem FgInv.skip(h:FgInv w wr a0 a1 n cb np cap gp hv KV UV P N KVi UVi i)(ht:P.th i=false):FgInv w wr a0 a1 n cb np cap gp hv KV UV P N KVi UVi (i+1):=by
 refine⟨h.below,h.box,h.hap,h.out,h.row,fun k hk=>?_,fun k h1 h2=>h.rest k (by omega) h2,h.ge⟩;have h9:=h.kept k hk;unfold fgM fgT at h9 ⊢;by_cases e:k=i
 ·subst e
  rw[if_neg (Nat.lt_irrefl _),if_neg (Nat.lt_irrefl _)]at h9;rw[if_pos (Nat.lt_succ_self _),if_pos (Nat.lt_succ_self _)];simp only[forgP,ht,Bool.false_eq_true,if_false];exact h9
 by_cases e2:k<i
 ·rw[if_pos e2,if_pos e2]at h9
  rw[if_pos (by omega),if_pos (by omega)];exact h9
 rw[if_neg e2,if_neg e2]at h9;rw[if_neg (by omega),if_neg (by omega)];exact h9
theorem FgInv.put(h:FgInv w wr a0 a1 n cb np cap gp hv KV UV P N KVi UVi i)(hi:i<np)(ht:P.th i=true){r:Value}{UR:Nat→Value}(hr:KeSl wr wr.heap.size r (butL (P.t i) N (P.m i)).length UR (selT (P.t i) (butL (P.t i) N (P.m i)))):
 FgInv w (wr.setCell ⟨gp,i*3+2,none⟩ r) a0 a1 n cb np cap gp hv KV UV P N (fun k=>if k=i then r else KVi k) (fun k=>if k=i then UR else UVi k) (i+1):=by
 have hge:=h.ge
 obtain⟨c1,c2,c3⟩:=h.row.cell i hi
 obtain⟨ak,ck,hsl,_⟩:=h.kept i hi
 rw[hsl]at c3
 have hz:(wr.setCell ⟨gp,i*3+2,none⟩ r).heap.size=wr.heap.size:=by simp[World.setCell]
 refine⟨h.below.setCell (p:=⟨gp,i*3+2,none⟩) (by show w.heap.size≤gp;omega) r,?_,?_,?_,h.row.put hi r (fun k _=>rfl) (fun k _=>rfl),fun k hk=>?_,fun k h1 h2=>?_,hge⟩
 ·rw[Below.heap_setCell _ _ _ _ (by show w.heap.size≠gp;omega)];exact h.box
 ·rw[Below.heap_setCell _ _ _ _ (by show w.heap.size+1≠gp;omega)];exact h.hap
 ·rw[Below.heap_setCell _ _ _ _ (by show w.heap.size+2≠gp;omega)];exact h.out
 ·rw[hz]
  have h9:=h.kept k hk;unfold fgM fgT at h9 ⊢;by_cases e:k=i
  ·subst e
   simp only[if_true];rw[if_pos (Nat.lt_succ_self _),if_pos (Nat.lt_succ_self _)];simp only[forgP,ht,if_true];exact kel_slice hr c3 c1 r
  simp only[if_neg e];have e3:(k<i+1)=(k<i):=propext ⟨fun _=>by omega,fun _=>by omega⟩;simp only[e3];exact kel_slice h9 c3 c1 r
 ·have e:¬k=i:=by omega
  simp only[if_neg e];exact h.rest k (by omega) h2
end
end
def KeepPostO(w:World)(n:Nat)(b:Bk)(th:Bool)(room:Int)(m:Nat)(UV:Nat→Value)(t:Kt)(ver N:Int)(uv:Value)(L:Nat)(X:Nat→Int)(e:Ending)(w':World):Prop :=
 Below w.heap.size w w'∧∃(er:Int) (th':Bool) (room':Int) (r:Value) (m':Nat) (UV':Nat→Value) (t':Kt),e=.returned (.tuple #[peerV th' room' r,.int .i64 er])∧KeSl w' w'.heap.size r m' UV' t'∧KeepsTo n b th room m t ver N L X er th' room' m' t' ∧
  ∀s,s<w.heap.size→(∀i,i<m→OfB s (t.L i) (UV i))→OfB s L uv→KeOff s r m' UV' t'
theorem keeps_errO{w w5:World}{n:Nat}{b:Bk}{th:Bool}{room:Int}{m:Nat}{UV:Nat→Value}{t t':Kt}{ver N:Int}{uv:Value}{L:Nat}{X:Nat→Int}{c:Int}(hc:KeepsTo n b th room m t ver N L X c false 0 0 t')(hb:Below w.heap.size w w5):
 KeepPostO w n b th room m UV t ver N uv L X (.returned (.tuple #[.agg #[.bool false,.int .i64 0,.slice none 0 0],.int .i64 c])) (put3 w5 (w.heap.size+3) (.bool false) (.int .i64 0) (.slice none 0 0)) :=
 ⟨put3_below hb (by omega),c,false,0,.slice none 0 0,0,fun _=>.int .i64 0,t',rfl,⟨none,0,rfl,⟨Nat.le_refl _,by omega⟩,Or.inl rfl⟩,hc,fun s _ _ _=>⟨Or.inl rfl,fun i hi=>absurd hi (Nat.not_lt_zero _)⟩⟩
theorem keeps_okO{w w5:World}{n:Nat}{b:Bk}{th:Bool}{room:Int}{m:Nat}{t:Kt}{ver N:Int}{L:Nat}{X:Nat→Int}{v uv:Value}{UV:Nat→Value}{g cap:Nat}{l:List Nat}(hk:KeSl w w.heap.size v m UV t)(hu:IntSl w w.heap.size uv L X)(hr:RowC w5 g (m+1) (snocU m UV uv) (snocT m t ver N L X) l)(hl:l.Perm (List.range (m+1)))(hg:g<w5.heap.size)(hgw:w.heap.size≤g)(hg2:g≠w.heap.size+3)(hcap:m+1≤cap)(hm:m≤1000)
 (hc:KeepsTo n b th room m t ver N L X 0 th room (m+1) (selT (snocT m t ver N L X) l)) (hb:Below w.heap.size w w5) :
 KeepPostO w n b th room m UV t ver N uv L X (.returned (.tuple #[.agg #[.bool th,.int .i64 room,.slice (some ⟨g,0,none⟩) (m+1) cap],.int .i64 0])) (put3 w5 (w.heap.size+3) (.bool th) (.int .i64 room) (.slice (some ⟨g,0,none⟩) (m+1) cap)):=by
 have hB:Below w.heap.size w (put3 w5 (w.heap.size+3) (.bool th) (.int .i64 room) (.slice (some ⟨g,0,none⟩) (m+1) cap)):=put3_below hb (by omega)
 refine⟨hB,0,th,room,_,m+1,_,_,rfl,rowC_kel (hr.keep (put3_other hg2)) (by rw[hl.length_eq];simp) ?_ hcap (by omega) (snoc_ints hk hu hB hl),hc,fun s hs hU hu9=>⟨Or.inr fun ad n' c' e=>?_,fun j hj=>?_⟩⟩
 ·simpa[put3,World.setCell]using hg
 ·injection e with e
  injection e with e;subst e;show g≠s;omega
 ·have hi:l.getD j 0<m+1:=by
   have h9:j<l.length:=by rw[hl.length_eq];simpa using hj
   have h8:l.getD j 0∈l:=by
    rw[List.getD_eq_getElem?_getD,List.getElem?_eq_getElem h9];exact List.getElem_mem h9
   exact List.mem_range.1 (hl.mem_iff.1 h8)
  show OfB s ((snocT m t ver N L X).L (l.getD j 0)) (snocU m UV uv (l.getD j 0));generalize l.getD j 0=i at hi;by_cases e:i=m
  ·subst e
   simp only[snocU,snocT,if_true];exact hu9
  simp only[snocU,snocT,if_neg e];exact hU i (by omega)
theorem keeps_anyO(vb:Value)(n:Nat)(PV:Nat→Value)(b:Bk)(th:Bool)(room:Int)(vk:Value)(m:Nat)(UV:Nat→Value)(t:Kt)(ver N:Int)(uv:Value)(L:Nat)(X:Nat→Int)(w:World)(hv:VeSl w w.heap.size vb n PV b)(hk:KeSl w w.heap.size vk m UV t)(hu:IntSl w w.heap.size uv L X):
 Calls Tryz.prog 129 #[bookV vb,peerV th room vk,keptV ver N uv] w (KeepPostO w n b th room m UV t ver N uv L X):=by
 have HV:=hid hv
 have HK:=hid hk
 have HU:=hid hu
 obtain⟨ad,cap,rfl,_,_⟩:=hv
 obtain⟨ak,capk,rfl,_,_⟩:=hk
 obtain⟨au,cu,rfl,_,_⟩:=hu
 obtain⟨ii,hii,hz0,hz1,hz2⟩:=info_parts Tryz.infoKept
 have hb0:=((((Below.refl w.heap.size w).alloc (Nat.le_refl _) (.cells #[.slice ad n cap] 24)).alloc (by simp) (.cells #[.bool th,.int .i64 room,.slice ak m capk] 41)).alloc (by simp<;>omega) (.cells #[.int .i64 ver,.int .i64 N,.slice au L cu] 83)).alloc (by simp<;>omega) (.cells #[.bool false,.int .i64 0,.slice none 0 0] 41)
 have c0:((((w.alloc (.cells #[.slice ad n cap] 24)).alloc (.cells #[.bool th,.int .i64 room,.slice ak m capk] 41)).alloc (.cells #[.int .i64 ver,.int .i64 N,.slice au L cu] 83)).alloc (.cells #[.bool false,.int .i64 0,.slice none 0 0] 41)).heap[w.heap.size]?=some (.cells #[.slice ad n cap] 24 (0,0)):=by
  rw[Below.heap_alloc _ _ _ (by simp<;>omega),Below.heap_alloc _ _ _ (by simp<;>omega),Below.heap_alloc _ _ _ (by simp)];exact heap_alloc_new _ _
 have c1:((((w.alloc (.cells #[.slice ad n cap] 24)).alloc (.cells #[.bool th,.int .i64 room,.slice ak m capk] 41)).alloc (.cells #[.int .i64 ver,.int .i64 N,.slice au L cu] 83)).alloc (.cells #[.bool false,.int .i64 0,.slice none 0 0] 41)).heap[w.heap.size+1]?=some (.cells #[.bool th,.int .i64 room,.slice ak m capk] 41 (0,0)):=by
  rw[Below.heap_alloc _ _ _ (by simp<;>omega),Below.heap_alloc _ _ _ (by simp)];have:=heap_alloc_new (w.alloc (.cells #[.slice ad n cap] 24)) (.cells #[.bool th,.int .i64 room,.slice ak m capk] 41);simpa using this
 have c2:((((w.alloc (.cells #[.slice ad n cap] 24)).alloc (.cells #[.bool th,.int .i64 room,.slice ak m capk] 41)).alloc (.cells #[.int .i64 ver,.int .i64 N,.slice au L cu] 83)).alloc (.cells #[.bool false,.int .i64 0,.slice none 0 0] 41)).heap[w.heap.size+2]?=some (.cells #[.int .i64 ver,.int .i64 N,.slice au L cu] 83 (0,0)):=by
  rw[Below.heap_alloc _ _ _ (by simp)];have:=heap_alloc_new ((w.alloc (.cells #[.slice ad n cap] 24)).alloc (.cells #[.bool th,.int .i64 room,.slice ak m capk] 41)) (.cells #[.int .i64 ver,.int .i64 N,.slice au L cu] 83);simpa using this
 have c3:((((w.alloc (.cells #[.slice ad n cap] 24)).alloc (.cells #[.bool th,.int .i64 room,.slice ak m capk] 41)).alloc (.cells #[.int .i64 ver,.int .i64 N,.slice au L cu] 83)).alloc (.cells #[.bool false,.int .i64 0,.slice none 0 0] 41)).heap[w.heap.size+3]?=some (.cells #[.bool false,.int .i64 0,.slice none 0 0] 41 (0,0)):=by
  have:=heap_alloc_new (((w.alloc (.cells #[.slice ad n cap] 24)).alloc (.cells #[.bool th,.int .i64 room,.slice ak m capk] 41)).alloc (.cells #[.int .i64 ver,.int .i64 N,.slice au L cu] 83)) (.cells #[.bool false,.int .i64 0,.slice none 0 0] 41);simpa using this
 obtain⟨W0,hW0⟩:∃W,(((w.alloc (.cells #[.slice ad n cap] 24)).alloc (.cells #[.bool th,.int .i64 room,.slice ak m capk] 41)).alloc (.cells #[.int .i64 ver,.int .i64 N,.slice au L cu] 83)).alloc (.cells #[.bool false,.int .i64 0,.slice none 0 0] 41)=W:=⟨_,rfl⟩
 rw[hW0]at hb0 c0 c1 c2 c3
 have B0:=hid hb0
 have HCk:=hid (checkPeer_any _ n PV b th room _ m UV t W0 (HV.out.up hb0) (HK.out.up hb0))
 have C0:=hid c0
 have C1:=hid c1
 have C2:=hid c2
 have C3:=hid c3
 have p0:W0.cell? ⟨w.heap.size,0,none⟩=some (.slice ad n cap):=cell_at c0 rfl
 obtain⟨p1,p2,p3⟩:=three_at c1
 clear hb0 c0 c1 c2 c3
 obtain⟨c,hcc⟩:∃c,peerE n b room m t=c:=⟨_,rfl⟩
 rw[hcc]at HCk
 unfold bookV peerV at HCk
 unfold bookV peerV keptV
 go_enter Tryz.func129,Tryz.ntmps129
 go_wp2_with fail
 refine Calls.mono HCk.out ?_
 rintro e W ⟨rfl,hbW⟩
 have d0:W.heap[w.heap.size]?=some (.cells #[.slice ad n cap] 24 (0,0)):=by rw[hbW.block _ (Array.getElem?_eq_some_iff.1 C0.out).1];exact C0.out
 have d1:W.heap[w.heap.size+1]?=some (.cells #[.bool th,.int .i64 room,.slice ak m capk] 41 (0,0)):=by rw[hbW.block _ (Array.getElem?_eq_some_iff.1 C1.out).1];exact C1.out
 have d2:W.heap[w.heap.size+2]?=some (.cells #[.int .i64 ver,.int .i64 N,.slice au L cu] 83 (0,0)):=by rw[hbW.block _ (Array.getElem?_eq_some_iff.1 C2.out).1];exact C2.out
 have d3:W.heap[w.heap.size+3]?=some (.cells #[.bool false,.int .i64 0,.slice none 0 0] 41 (0,0)):=by rw[hbW.block _ (Array.getElem?_eq_some_iff.1 C3.out).1];exact C3.out
 have B1:=hid (B0.out.trans (hbW.mono B0.out.size))
 clear hbW HCk C0 C1 C2 C3 p0 p1 p2 p3 hW0
 have D0:=hid d0
 have D1:=hid d1
 have D2:=hid d2
 have D3:=hid d3
 by_cases hc0:c=0
 ·subst hc0
  obtain⟨p1,p2,p3⟩:=three_at d1;obtain⟨k1,k2,k3⟩:=three_at d2;obtain⟨r1,r2,r3⟩:=three_at d3;have f1:=frozen_at (i:=0) d3;have f2:=frozen_at (i:=1) d3;have f3:=frozen_at (i:=2) d3;clear d0 d1 d2 d3;have HOk:=hid (peerE_ok hcc);have hm20:m≤20:=by have:=(peerE_ok hcc);omega
  have HE:=hid hcc;clear hcc;by_cases hfull:room≤(m:Int)
  ·go_wp2
   refine ret2 (put3_whole D3.out _ _ _) Tryz.underlying41 ?_;exact keeps_errO (t':=t) (Or.inr (Or.inl ⟨HE.out,hfull,rfl,rfl,rfl,rfl⟩)) B1.out
  have HAt:=hid (atPeer_any th room _ m UV t ver W (HK.out.up B1.out));obtain⟨at9,hat⟩:∃a,fstAt t.V ver m 0=a:=⟨_,rfl⟩;rw[hat]at HAt;unfold peerV at HAt;have hfl:¬(m:Int)≥room:=hfull;go_wp2_with fail
  refine Calls.mono HAt.out ?_;rintro e W2 ⟨rfl,hb2⟩;have B2:=hid (B1.out.trans (hb2.mono B1.out.size));have g1:W2.heap[w.heap.size+1]?=some (.cells #[.bool th,.int .i64 room,.slice ak m capk] 41 (0,0)):=by rw[hb2.block _ (Array.getElem?_eq_some_iff.1 D1.out).1];exact D1.out
  have g2:W2.heap[w.heap.size+2]?=some (.cells #[.int .i64 ver,.int .i64 N,.slice au L cu] 83 (0,0)):=by rw[hb2.block _ (Array.getElem?_eq_some_iff.1 D2.out).1];exact D2.out
  have g3:W2.heap[w.heap.size+3]?=some (.cells #[.bool false,.int .i64 0,.slice none 0 0] 41 (0,0)):=by rw[hb2.block _ (Array.getElem?_eq_some_iff.1 D3.out).1];exact D3.out
  have g0:W2.heap[w.heap.size]?=some (.cells #[.slice ad n cap] 24 (0,0)):=by rw[hb2.block _ (Array.getElem?_eq_some_iff.1 D0.out).1];exact D0.out
  clear p1 p2 p3 k1 k2 k3 r1 r2 r3 f1 f2 f3 hb2 HAt D0 D1 D2 D3;have G0:=hid g0;have G1:=hid g1;have G2:=hid g2;have G3:=hid g3;by_cases hge:at9≥0
  ·obtain⟨r1,r2,r3⟩:=three_at g3
   have f1:=frozen_at (i:=0) g3;have f2:=frozen_at (i:=1) g3;have f3:=frozen_at (i:=2) g3;clear g0 g1 g2 g3;go_wp2;refine ret2 (put3_whole G3.out _ _ _) Tryz.underlying41 ?_;exact keeps_errO (t':=t) (Or.inr (Or.inr (Or.inl ⟨HE.out,by omega,by rw[hat];exact hge,rfl,rfl,rfl,rfl⟩))) B2.out
  obtain⟨p1,p2,p3⟩:=three_at g1;obtain⟨k1,k2,k3⟩:=three_at g2;have hw3:w.heap.size+3<W2.heap.size:=(Array.getElem?_eq_some_iff.1 g3).1;clear g0 g1 g2 g3;have hne:Nonempty (Of (Below W2.heap.size W2)):=⟨⟨W2,Below.refl _ _⟩⟩;have F1:∀u:Of (Below W2.heap.size W2),u.val.cell? ⟨w.heap.size+1,2,none⟩=some (.slice ak m capk):=fun u=>by rw[u.is.cell (cell_lt p3)];exact p3
  have F2:∀u:Of (Below W2.heap.size W2),u.val.cell? ⟨w.heap.size+2,0,none⟩=some (.int .i64 ver):=fun u=>by rw[u.is.cell (cell_lt k1)];exact k1
  have F3:∀u:Of (Below W2.heap.size W2),u.val.cell? ⟨w.heap.size+2,1,none⟩=some (.int .i64 N):=fun u=>by rw[u.is.cell (cell_lt k2)];exact k2
  have F4:∀u:Of (Below W2.heap.size W2),u.val.cell? ⟨w.heap.size+2,2,none⟩=some (.slice au L cu):=fun u=>by rw[u.is.cell (cell_lt k3)];exact k3
  clear p1 p2 p3 k1 k2 k3;go_wp2_with fail
  refine region_tree_last (Below W2.heap.size W2) 7 #[true,true,true,true,true,true,true,false] 7 (by kernel_rfl) (by kernel_rfl) (by kernel_rfl) rfl (by simp only[pickO,List.getElem?_cons_zero,List.getElem?_cons_succ];exact rfl) rfl ?_;obtain⟨U0,hU0⟩:∃U,W2.drew=U:=⟨_,rfl⟩;have HD0:Hid (Below W2.heap.size W2 U0):=by rw[←hU0];exact⟨rfl,rfl,rfl,Nat.le_refl _,fun _ _=>rfl⟩
  have HW0:Hid (Below w.heap.size w U0):=B2.out.trans (HD0.out.mono B2.out.size);rw[hU0];clear hU0;have HInj:=hid (snocT_inj (ver:=ver) (N:=N) (L:=L) (X:=X) HE.out (by rw[hat];omega));refine anyL_readsO (f:=4) (c:=7) (q:=[0,1,3]) HD0.out ?_;repeat(go_big_quiet_step (fail))
  refine wpQuiet_nil ?_;refine anyL_pick (f:=3) [2,4] (by kernel_rfl) (by decide) ?_;intro i hi;simp only[List.mem_cons,List.not_mem_nil,or_false]at hi;rcases hi with rfl|rfl
  ·refine⟨_,rfl,?_⟩
   intro K hK;go_wp2_with fail
   refine Calls.mono (cloneT (HK.out.up HW0.out) (by omega)) ?_;rintro e U1 ⟨v',rfl,ho⟩;have HOw:=hid ho;have HD1:Hid (Below W2.heap.size W2 U1):=HD0.out.trans (ho.2.mono HD0.out.size);clear ho;go_wp2;refine⟨rfl,hK _ _ HD1.out ?_⟩;clear hK K;refine anyL_pick (f:=2) [4] (by kernel_rfl) (by decide) ?_;intro i hi;simp only[List.mem_cons,List.not_mem_nil,or_false]at hi;subst hi;refine⟨_,rfl,?_⟩;intro K hK;go_wp2;have hb:=below_alloc U1 (.cells #[.int .i64 ver,.int .i64 N,.slice au L cu] 83);refine⟨rfl,hK _ _ (HD1.out.trans (hb.mono HD1.out.size)) ?_⟩;clear hK K;have HCe:=hid (cells_three U1 (.int .i64 ver) (.int .i64 N) (.slice au L cu) 83);obtain⟨U2,hU2⟩:∃U,World.alloc U1 (.cells #[.int .i64 ver,.int .i64 N,.slice au L cu] 83)=U:=⟨_,rfl⟩;rw[hU2]at hb HCe ⊢;have HOn:=hid (HOw.out.up hb);clear hb hU2
   refine anyL_pick (f:=1) [5] (by kernel_rfl) (by decide) ?_;intro i hi;simp only[List.mem_cons,List.not_mem_nil,or_false]at hi;subst hi;refine⟨_,rfl,?_⟩;intro K hK;have hbs:=HOn.out.2.size;have HOm:Hid (U2.ownsRow U0.heap.size 83 3 v' m (flatI UV t (List.range m))):=by have h9:=HOn.out.1;rw[List.length_range]at h9;exact h9
   go_wp2_with(at_builtin;go_must(refine wpList_append_own _ rfl (.tmp 32) (.tmp 34) 39 rfl U0.heap.size 83 ii (.agg #[.int .i64 0,.int .i64 0,.slice none 0 0]) 3 40 Tryz.underlying39 hii hz0 hz1 hz2 rfl (by decide) _ _ _ rfl HOm.out ⟨_,0,none⟩ 1 1 [.int .i64 ver,.int .i64 N,.slice au L cu] rfl rfl HCe.out (by intro u hu;simp at hu;rcases hu with rfl|rfl|rfl<;>rfl) (by unfold maxLen;omega) (by omega) (by omega) ?_;intro v9 U3 ho9 hg9 _;have HO9:=hid ho9;have HG9:=hid hg9;clear ho9 hg9))
   have HVn:Hid (OwnT U0 U3 v9 (snocU m UV (.slice au L cu)) (snocT m t ver N L X) (List.range (m+1))):=HOn.out.snoc HO9.out HG9.out;clear HCe HOw HD1 HOm HO9 HG9 HOn;obtain⟨g9,c9,hs9,hg9,hc9,hr9⟩:=own_row HVn.out (by omega);subst hs9;have HD3:Hid (Below W2.heap.size W2 U3):=HD0.out.trans (HVn.out.2.mono HD0.out.size);refine⟨rfl,hK _ _ HD3.out ?_⟩;clear hK K;refine anyL_readsO (f:=0) (c:=7) (q:=[6]) HD3.out ?_;repeat(go_big_quiet_step (fail))
   refine wpQuiet_nil ?_;refine anyL_end (by kernel_rfl) ?_;have y1:U3.heap[w.heap.size+1]?=some (.cells #[.bool th,.int .i64 room,.slice ak m capk] 41 (0,0)):=by rw[HD3.out.block _ (Array.getElem?_eq_some_iff.1 G1.out).1];exact G1.out
   have hs0:W2.heap.size≤U0.heap.size:=HD0.out.size;have yc:=(three_at y1).2.2;have yf:=frozen_at (i:=2) y1;obtain⟨Y,hY⟩:∃Y,U3.setCell ⟨w.heap.size+1,2,none⟩ (.slice (some ⟨g9,0,none⟩) (m+1) c9)=Y:=⟨_,rfl⟩;have HYo:Hid (∀k,k≠w.heap.size+1→Y.heap[k]?=U3.heap[k]?):=fun k hk=>by rw[←hY,Below.heap_setCell _ _ _ _ hk]
   have HYs:Hid (Y.heap.size=U3.heap.size):=by show _=_;rw[←hY];simp[World.setCell]
   have HYp:Hid (Y.heap[w.heap.size+1]?=some (.cells #[.bool th,.int .i64 room,.slice (some ⟨g9,0,none⟩) (m+1) c9] 41 (0,0))):=by show _=_;rw[←hY];exact set_three y1 _
   have HYw:Hid (Below w.heap.size w Y):=by show Below _ _ _;rw[←hY];exact(HW0.out.trans (HVn.out.2.mono HW0.out.size)).setCell (p:=⟨w.heap.size+1,2,none⟩) (by show w.heap.size≤w.heap.size+1;omega) _
   have HYr:Hid (RowK Y g9 (m+1) (snocU m UV (.slice au L cu)) (snocT m t ver N L X) (List.range (m+1))):=hr9.keep (HYo.out g9 (by omega)) (Nat.le_of_eq HYs.out.symm);have yp:=(three_at HYp.out).2.2;have HSo:=hid (sortT (cap:=c9) HYr.out (by omega) (by omega) HInj.out (snoc_slices HK.out HU.out));clear hr9 y1 HVn;go_wp2_with fail
   refine Calls.mono HSo.out ?_;rintro e Z ⟨rfl,hZb,hZc,hZs,l9,hp9,hs9,hR9⟩;have hBz:=hZb U0.heap.size Y (Below.refl _ _) hg9;have HZw:=hid (hZb w.heap.size w HYw.out (by omega));have z1:Z.heap[w.heap.size+1]?=some (.cells #[.bool th,.int .i64 room,.slice (some ⟨g9,0,none⟩) (m+1) c9] 41 (0,0)):=by rw[hBz.block _ (by omega)];exact HYp.out
   have z0:Z.heap[w.heap.size]?=some (.cells #[.slice ad n cap] 24 (0,0)):=by rw[hBz.block _ (by omega),HYo.out _ (by omega),HD3.out.block _ (by omega)];exact G0.out
   have z3:Z.heap[w.heap.size+3]?=some (.cells #[.bool false,.int .i64 0,.slice none 0 0] 41 (0,0)):=by rw[hBz.block _ (by omega),HYo.out _ (by omega),HD3.out.block _ (by omega)];exact G3.out
   have HCk:=hid (checkPeer_any _ n PV b th room _ (m+1) _ (selT (snocT m t ver N L X) l9) Z (HV.out.up HZw.out) (rowC_kel hR9.cell (by rw[hp9.length_eq];simp) hR9.lt hc9 (by omega) (snoc_ints HK.out HU.out HZw.out hp9)));unfold bookV peerV at HCk;have q0:Z.cell? ⟨w.heap.size,0,none⟩=some (.slice ad n cap):=cell_at z0 rfl;obtain⟨q1,q2,q3⟩:=three_at z1;have HZ1:=hid z1;have HZ3:=hid z3;have HR9:=hid hR9;have HIn:Hid (InOrder (snocT m t ver N L X) (m+1) l9):=⟨hp9,hs9⟩;clear yc yf yp hY HSo hZb hZc hZs hp9 hs9 hR9 hBz z0 z1 z3;obtain⟨er,her⟩:∃c,peerE n b room (m+1) (selT (snocT m t ver N L X) l9)=c:=⟨_,rfl⟩;rw[her]at HCk;have HEr:=hid her;clear her;go_wp2_with fail
   refine Calls.mono HCk.out ?_;rintro e W5 ⟨rfl,hb5⟩;have t1:W5.heap[w.heap.size+1]?=some (.cells #[.bool th,.int .i64 room,.slice (some ⟨g9,0,none⟩) (m+1) c9] 41 (0,0)):=by rw[hb5.block _ (Array.getElem?_eq_some_iff.1 HZ1.out).1];exact HZ1.out
   have t3:W5.heap[w.heap.size+3]?=some (.cells #[.bool false,.int .i64 0,.slice none 0 0] 41 (0,0)):=by rw[hb5.block _ (Array.getElem?_eq_some_iff.1 HZ3.out).1];exact HZ3.out
   have HRc:Hid (RowC W5 g9 (m+1) (snocU m UV (.slice au L cu)) (snocT m t ver N L X) l9):=RowC.keep HR9.out.cell (hb5.block _ HR9.out.lt);have HGl:Hid (g9<W5.heap.size):=Nat.lt_of_lt_of_le HR9.out.lt hb5.size;have HB5:=hid (HZw.out.trans (hb5.mono HZw.out.size));have HT3:=hid t3;obtain⟨q1,q2,q3⟩:=three_at t1;obtain⟨r1,r2,r3⟩:=three_at t3;have f1:=frozen_at (i:=0) t3;have f2:=frozen_at (i:=1) t3;have f3:=frozen_at (i:=2) t3;clear t1 t3 hb5 HCk;by_cases he0:er=0
   ·subst he0
    go_wp2;refine ret2 (put3_whole HT3.out _ _ _) Tryz.underlying41 ?_;exact keeps_okO HK.out HU.out HRc.out HIn.out.1 HGl.out (by omega) (by omega) hc9 (by omega) (Or.inr (Or.inr (Or.inr ⟨HE.out,by omega,by rw[hat];omega,l9,HIn.out,HEr.out.symm,Or.inl ⟨rfl,rfl,rfl,rfl,rfl⟩⟩))) HB5.out
   have heb:(er != 0)=true:=by simpa using he0
   have HE0:=hid he0;clear he0;go_wp2;refine ret2 (put3_whole HT3.out _ _ _) Tryz.underlying41 ?_;exact keeps_errO (t':=t) (Or.inr (Or.inr (Or.inr ⟨HE.out,by omega,by rw[hat];omega,l9,HIn.out,HEr.out.symm,Or.inr ⟨HE0.out,rfl,rfl,rfl⟩⟩))) HB5.out
  refine⟨_,rfl,?_⟩;intro K hK;go_wp2;have hb:=below_alloc U0 (.cells #[.int .i64 ver,.int .i64 N,.slice au L cu] 83);refine⟨rfl,hK _ _ (HD0.out.trans (hb.mono HD0.out.size)) ?_⟩;clear hK K;have HCe:=hid (cells_three U0 (.int .i64 ver) (.int .i64 N) (.slice au L cu) 83);obtain⟨U1,hU1⟩:∃U,World.alloc U0 (.cells #[.int .i64 ver,.int .i64 N,.slice au L cu] 83)=U:=⟨_,rfl⟩;rw[hU1]at hb HCe ⊢;have HD1:Hid (Below W2.heap.size W2 U1):=HD0.out.trans (hb.mono HD0.out.size);have HW1:Hid (Below w.heap.size w U1):=HW0.out.trans (hb.mono HW0.out.size);clear hb hU1;refine anyL_pick (f:=2) [2] (by kernel_rfl) (by decide) ?_;intro i hi;simp only[List.mem_cons,List.not_mem_nil,or_false]at hi;subst hi;refine⟨_,rfl,?_⟩;intro K hK;go_wp2_with fail
  refine Calls.mono (cloneT (HK.out.up HW1.out) (by omega)) ?_;rintro e U2 ⟨v',rfl,ho⟩;have HOn:=hid ho;have HD2:Hid (Below W2.heap.size W2 U2):=HD1.out.trans (ho.2.mono HD1.out.size);have HCf:Hid (∀j u,([.int .i64 ver,.int .i64 N,.slice au L cu]:List Value)[j]?=some u→U2.cell? (Addr.add ⟨U0.heap.size,0,none⟩ j)=some u):=fun j u hu=>by have h9:=HCe.out j u hu;rw[Addr.add_lit]at h9 ⊢;rw[ho.2.cell (cell_lt h9)];exact h9
  clear ho;go_wp2;refine⟨rfl,hK _ _ HD2.out ?_⟩;clear hK K;refine anyL_pick (f:=1) [5] (by kernel_rfl) (by decide) ?_;intro i hi;simp only[List.mem_cons,List.not_mem_nil,or_false]at hi;subst hi;refine⟨_,rfl,?_⟩;intro K hK;have hbs:=HOn.out.2.size;have HOm:Hid (U2.ownsRow U1.heap.size 83 3 v' m (flatI UV t (List.range m))):=by have h9:=HOn.out.1;rw[List.length_range]at h9;exact h9
  go_wp2_with(at_builtin;go_must(refine wpList_append_own _ rfl (.tmp 32) (.tmp 34) 39 rfl U1.heap.size 83 ii (.agg #[.int .i64 0,.int .i64 0,.slice none 0 0]) 3 40 Tryz.underlying39 hii hz0 hz1 hz2 rfl (by decide) _ _ _ rfl HOm.out ⟨_,0,none⟩ 1 1 [.int .i64 ver,.int .i64 N,.slice au L cu] rfl rfl HCf.out (by intro u hu;simp at hu;rcases hu with rfl|rfl|rfl<;>rfl) (by unfold maxLen;omega) (by omega) (by omega) ?_;intro v9 U3 ho9 hg9 _;have HO9:=hid ho9;have HG9:=hid hg9;clear ho9 hg9))
  have HVn:Hid (OwnT U1 U3 v9 (snocU m UV (.slice au L cu)) (snocT m t ver N L X) (List.range (m+1))):=HOn.out.snoc HO9.out HG9.out;clear HCe HCf HD2 HOm HO9 HG9 HOn;obtain⟨g9,c9,hs9,hg9,hc9,hr9⟩:=own_row HVn.out (by omega);subst hs9;have HD3:Hid (Below W2.heap.size W2 U3):=HD1.out.trans (HVn.out.2.mono HD1.out.size);refine⟨rfl,hK _ _ HD3.out ?_⟩;clear hK K;refine anyL_readsO (f:=0) (c:=7) (q:=[6]) HD3.out ?_;repeat(go_big_quiet_step (fail))
  refine wpQuiet_nil ?_;refine anyL_end (by kernel_rfl) ?_;have y1:U3.heap[w.heap.size+1]?=some (.cells #[.bool th,.int .i64 room,.slice ak m capk] 41 (0,0)):=by rw[HD3.out.block _ (Array.getElem?_eq_some_iff.1 G1.out).1];exact G1.out
  have hs0:W2.heap.size≤U1.heap.size:=HD1.out.size;have yc:=(three_at y1).2.2;have yf:=frozen_at (i:=2) y1;obtain⟨Y,hY⟩:∃Y,U3.setCell ⟨w.heap.size+1,2,none⟩ (.slice (some ⟨g9,0,none⟩) (m+1) c9)=Y:=⟨_,rfl⟩;have HYo:Hid (∀k,k≠w.heap.size+1→Y.heap[k]?=U3.heap[k]?):=fun k hk=>by rw[←hY,Below.heap_setCell _ _ _ _ hk]
  have HYs:Hid (Y.heap.size=U3.heap.size):=by show _=_;rw[←hY];simp[World.setCell]
  have HYp:Hid (Y.heap[w.heap.size+1]?=some (.cells #[.bool th,.int .i64 room,.slice (some ⟨g9,0,none⟩) (m+1) c9] 41 (0,0))):=by show _=_;rw[←hY];exact set_three y1 _
  have HYw:Hid (Below w.heap.size w Y):=by show Below _ _ _;rw[←hY];exact(HW1.out.trans (HVn.out.2.mono HW1.out.size)).setCell (p:=⟨w.heap.size+1,2,none⟩) (by show w.heap.size≤w.heap.size+1;omega) _
  have HYr:Hid (RowK Y g9 (m+1) (snocU m UV (.slice au L cu)) (snocT m t ver N L X) (List.range (m+1))):=hr9.keep (HYo.out g9 (by omega)) (Nat.le_of_eq HYs.out.symm);have yp:=(three_at HYp.out).2.2;have HSo:=hid (sortT (cap:=c9) HYr.out (by omega) (by omega) HInj.out (snoc_slices HK.out HU.out));clear hr9 y1 HVn;go_wp2_with fail
  refine Calls.mono HSo.out ?_;rintro e Z ⟨rfl,hZb,hZc,hZs,l9,hp9,hs9,hR9⟩;have hBz:=hZb U1.heap.size Y (Below.refl _ _) hg9;have HZw:=hid (hZb w.heap.size w HYw.out (by omega));have z1:Z.heap[w.heap.size+1]?=some (.cells #[.bool th,.int .i64 room,.slice (some ⟨g9,0,none⟩) (m+1) c9] 41 (0,0)):=by rw[hBz.block _ (by omega)];exact HYp.out
  have z0:Z.heap[w.heap.size]?=some (.cells #[.slice ad n cap] 24 (0,0)):=by rw[hBz.block _ (by omega),HYo.out _ (by omega),HD3.out.block _ (by omega)];exact G0.out
  have z3:Z.heap[w.heap.size+3]?=some (.cells #[.bool false,.int .i64 0,.slice none 0 0] 41 (0,0)):=by rw[hBz.block _ (by omega),HYo.out _ (by omega),HD3.out.block _ (by omega)];exact G3.out
  have HCk:=hid (checkPeer_any _ n PV b th room _ (m+1) _ (selT (snocT m t ver N L X) l9) Z (HV.out.up HZw.out) (rowC_kel hR9.cell (by rw[hp9.length_eq];simp) hR9.lt hc9 (by omega) (snoc_ints HK.out HU.out HZw.out hp9)));unfold bookV peerV at HCk;have q0:Z.cell? ⟨w.heap.size,0,none⟩=some (.slice ad n cap):=cell_at z0 rfl;obtain⟨q1,q2,q3⟩:=three_at z1;have HZ1:=hid z1;have HZ3:=hid z3;have HR9:=hid hR9;have HIn:Hid (InOrder (snocT m t ver N L X) (m+1) l9):=⟨hp9,hs9⟩;clear yc yf yp hY HSo hZb hZc hZs hp9 hs9 hR9 hBz z0 z1 z3;obtain⟨er,her⟩:∃c,peerE n b room (m+1) (selT (snocT m t ver N L X) l9)=c:=⟨_,rfl⟩;rw[her]at HCk;have HEr:=hid her;clear her;go_wp2_with fail
  refine Calls.mono HCk.out ?_;rintro e W5 ⟨rfl,hb5⟩;have t1:W5.heap[w.heap.size+1]?=some (.cells #[.bool th,.int .i64 room,.slice (some ⟨g9,0,none⟩) (m+1) c9] 41 (0,0)):=by rw[hb5.block _ (Array.getElem?_eq_some_iff.1 HZ1.out).1];exact HZ1.out
  have t3:W5.heap[w.heap.size+3]?=some (.cells #[.bool false,.int .i64 0,.slice none 0 0] 41 (0,0)):=by rw[hb5.block _ (Array.getElem?_eq_some_iff.1 HZ3.out).1];exact HZ3.out
  have HRc:Hid (RowC W5 g9 (m+1) (snocU m UV (.slice au L cu)) (snocT m t ver N L X) l9):=RowC.keep HR9.out.cell (hb5.block _ HR9.out.lt);have HGl:Hid (g9<W5.heap.size):=Nat.lt_of_lt_of_le HR9.out.lt hb5.size;have HB5:=hid (HZw.out.trans (hb5.mono HZw.out.size));have HT3:=hid t3;obtain⟨q1,q2,q3⟩:=three_at t1;obtain⟨r1,r2,r3⟩:=three_at t3;have f1:=frozen_at (i:=0) t3;have f2:=frozen_at (i:=1) t3;have f3:=frozen_at (i:=2) t3;clear t1 t3 hb5 HCk;by_cases he0:er=0
  ·subst he0
   go_wp2;refine ret2 (put3_whole HT3.out _ _ _) Tryz.underlying41 ?_;exact keeps_okO HK.out HU.out HRc.out HIn.out.1 HGl.out (by omega) (by omega) hc9 (by omega) (Or.inr (Or.inr (Or.inr ⟨HE.out,by omega,by rw[hat];omega,l9,HIn.out,HEr.out.symm,Or.inl ⟨rfl,rfl,rfl,rfl,rfl⟩⟩))) HB5.out
  have heb:(er != 0)=true:=by simpa using he0
  have HE0:=hid he0;clear he0;go_wp2;refine ret2 (put3_whole HT3.out _ _ _) Tryz.underlying41 ?_;exact keeps_errO (t':=t) (Or.inr (Or.inr (Or.inr ⟨HE.out,by omega,by rw[hat];omega,l9,HIn.out,HEr.out.symm,Or.inr ⟨HE0.out,rfl,rfl,rfl⟩⟩))) HB5.out
 ·have hcb:(c != 0)=true:=by simpa using hc0
  obtain⟨r1,r2,r3⟩:=three_at d3;have f1:=frozen_at (i:=0) d3;have f2:=frozen_at (i:=1) d3;have f3:=frozen_at (i:=2) d3;have HC0:=hid hc0;have HCc:=hid hcc;clear d0 d1 d2 d3 hc0 hcc;go_wp2;refine ret2 (put3_whole D3.out _ _ _) Tryz.underlying41 ?_;exact keeps_errO (t':=t) (Or.inl ⟨by rw[HCc.out];exact HC0.out,HCc.out.symm,rfl,rfl,rfl⟩) B1.out
def MeshPostO(w:World)(er:Int)(n:Nat)(b:Bk)(np:Nat)(P:Ps)(I:Nat→Prop)(e:Ending)(w':World):Prop :=
 Below w.heap.size w w'∧∃(vb vl:Value) (n' np':Nat) (PV KV:Nat→Value) (UV:Nat→Nat→Value),e=.returned (.tuple #[meshV vb vl,.int .i64 er])∧n'=(if er=0 then n else 0)∧np'=(if er=0 then np else 0) ∧
  VeSl w' w'.heap.size vb n' PV b∧PsSl w' w'.heap.size vl np' KV UV P∧∀s,s<w.heap.size→I s→MsOff s vb n' PV b vl np' KV UV P
end Go.Proofs.YtajmnlhfnhbleaaGreat
