/- Several texts of one proof, in their order. -/
import Derived.Test.YtajmnlhfnhbleaaGreatRSum15
import Derived.Test.YtajmnlhfnhbleaaGreatRSum22
namespace Go.Proofs.YtajmnlhfnhbleaaGreat
open Go.RowKit CurveMath
set_option linter.unusedVariables false
set_option maxHeartbeats 2000000
theorem restored_any(vb:Value)(n:Nat)(PV:Nat→Value)(b:Bk)(vl:Value)(np:Nat)(KV:Nat→Value)(UV:Nat→Nat→Value)(P:Ps)(k:Int)(w:World)(hv:VeSl w w.heap.size vb n PV b)(hl:PsSl w w.heap.size vl np KV UV P):
 Calls Tryz.prog 94 #[meshV vb vl,.int .i64 k] w (RestPost w n b np P k):=by
 have hb:=below_alloc w (.cells #[vb,vl] 27)
 have CK:=hid (version_any _ n PV b _ np KV UV P k _ (hv.up hb) (hl.up hb))
 have HB:=hid hb
 have HK:=hid (heap_alloc_new w (.cells #[vb,vl] 27))
 have HV:=hid hv
 have HL:=hid hl
 obtain⟨ad,cap,rfl,_,hx⟩:=hv
 obtain⟨al,cl,rfl,_,_⟩:=hl
 obtain⟨c,hc⟩:∃c,verM n b np P k=c:=⟨_,rfl⟩
 rw[hc]at CK
 have HC:=hid hc
 have HX:=hid hx
 clear hb hc hx
 unfold meshV at CK
 unfold meshV
 go_enter Tryz.func94,Tryz.ntmps94
 go_wp2_with fail
 refine Calls.mono CK.out ?_
 rintro e W ⟨rfl,hbW⟩
 have BW:=hid (HB.out.trans (hbW.mono HB.out.size))
 obtain⟨c0,c1⟩:=two_at (stayB HK.out hbW)
 clear hbW CK
 by_cases h0:c=0
 ·subst h0
  obtain⟨hR,hk0,hkn⟩:=verM_ok HC.out;obtain⟨q,rfl⟩:∃q:Nat,k=q:=⟨k.toNat,by omega⟩;have hqn:q<n:=by omega
  have HR:=hid hR;rcases HX.out with h0|⟨bv,ov,rfl,hbv,hxv⟩;·omega
  obtain⟨_,v1,v2,v3,_⟩:=hxv q hqn;have q1:W.cell? ⟨bv,ov+q*4+1,none⟩=some (.int .i64 (b.nd q)):=by rw[BW.out.cell hbv];exact v1
  have q2:W.cell? ⟨bv,ov+q*4+2,none⟩=some (.int .i64 (b.of q)):=by rw[BW.out.cell hbv];exact v2
  have q3:W.cell? ⟨bv,ov+q*4+3,none⟩=some (.int .i64 (b.sz q)):=by rw[BW.out.cell hbv];exact v3
  have hne:Nonempty (Of (Below W.heap.size W)):=⟨⟨W,Below.refl _ _⟩⟩;have F0:∀u:Of (Below W.heap.size W),u.val.cell? ⟨w.heap.size,0,none⟩=some (.slice (some ⟨bv,ov,none⟩) n cap):=fun u=>by rw[u.is.cell (cell_lt c0)];exact c0
  have F1:∀u:Of (Below W.heap.size W),u.val.cell? ⟨w.heap.size,1,none⟩=some (.slice al np cl):=fun u=>by rw[u.is.cell (cell_lt c1)];exact c1
  have F2:∀u:Of (Below W.heap.size W),u.val.cell? ⟨bv,ov+q*4+1,none⟩=some (.int .i64 (b.nd q)):=fun u=>by rw[u.is.cell (cell_lt q1)];exact q1
  have F3:∀u:Of (Below W.heap.size W),u.val.cell? ⟨bv,ov+q*4+2,none⟩=some (.int .i64 (b.of q)):=fun u=>by rw[u.is.cell (cell_lt q2)];exact q2
  have F4:∀u:Of (Below W.heap.size W),u.val.cell? ⟨bv,ov+q*4+3,none⟩=some (.int .i64 (b.sz q)):=fun u=>by rw[u.is.cell (cell_lt q3)];exact q3
  have CT:Hid (∀u,Below W.heap.size W u→Calls Tryz.prog 70 #[meshV (.slice (some ⟨bv,ov,none⟩) n cap) (.slice al np cl),.int .i64 (q:Int)] u fun e w'=>Below u.heap.size u w'∧∃vo,e=.returned vo∧ShSl w' w'.heap.size vo (thereL P q np).length (nL P (thereL P q np)) (vaL UV (thereL P q np)) (lL P (thereL P q np)) (xL P (thereL P q np))):=fun u hbu =>
   there_any _ _ np KV UV P q u ⟨_,_,_,rfl⟩ (HL.out.up (BW.out.trans (hbu.mono BW.out.size))) HR.out.few HR.out.small HR.out.num
  unfold meshV at CT;have hki:(q:Int)<(n:Int):=by omega
  clear hR hxv v1 v2 v3 q1 q2 q3 c0 c1;go_wp2_with fail
  have HD1:Hid (Below W.heap.size W W.drew):=drew_below W;refine region_mixed (Below W.heap.size W) [([0,1,2,3,4,5,6,7,8],9),([],10)] [11,12,13,14,15,16] (by kernel_rfl) (by kernel_rfl) HD1.out ?_;refine mixO_cons ?_;repeat(go_big_quiet_step (fail))
  refine wpQuiet_nil ?_;intro K hK;go_wp2_with fail
  refine Calls.mono (CT.out _ HD1.out) ?_;rintro e W5 ⟨hb5,vo,rfl,hsh0⟩;have hsh:=hsh0.agree fun j hj=>tT_eq P (thereL P (q:Int) np) hj;clear hsh0;have H5:Hid (Below W.heap.size W W5):=HD1.out.trans (hb5.mono HD1.out.size);have CE:=hid (elect_any (b.nd q) (b.of q) (b.sz q) vo _ _ _ _ _ W5 hsh);unfold planV at CE;obtain⟨ao,co,rfl,_,_⟩:=hsh;clear hb5;go_wp2;refine⟨rfl,hK _ _ H5.out ?_⟩;clear hK K;refine mixO_cons (lq:=[]) ?_ rfl;refine wpQuiet_nil ?_;intro K hK;go_wp2_with fail
  refine Calls.mono CE.out ?_;rintro e W6 hM;have B5:=hid (BW.out.trans (H5.out.mono BW.out.size));have HRe:=hid (rest_of (n:=n) (b:=b) (np:=np) (P:=P) (k:=(q:Int)) B5.out HC.out (by rw[Int.toNat_natCast];exact hM));obtain⟨hb6,r,bb,m,rfl,_,hr,hbb⟩:=hM;have H6:Hid (Below W.heap.size W W6):=H5.out.trans (hb6.mono H5.out.size);obtain⟨ar,cr,rfl,_,_⟩:=hr;obtain⟨ab,cb,rfl,_,_⟩:=hbb;clear hb6;go_wp2;refine⟨rfl,hK _ _ H6.out ?_⟩;clear hK K;refine mixO_nil ?_;repeat(go_big_quiet_step (fail))
  refine wpQuiet_nil ?_;clear F0 F1 F2 F3 F4 hne;go_wp2;go_ret3
  exact HRe.out
 ·have hcb:(c != 0)=true:=by simpa using h0
  have H0:=hid h0;clear h0;go_wp2;go_ret3
  exact rest_err BW.out HC.out H0.out
section
structure RpInv(w wr:World)(vb:Value)(av:Option Addr)(g np cap:Nat)(KV:Nat→Value)(UV:Nat→Nat→Value)(P:Ps)(gp gs:Nat)(nd of sz:Int)(T:List Int):Prop where
 gv:GvInv w wr vb av g np cap KV UV P
 plan:wr.heap[gp]?=some (.cells #[.int .i64 nd,.int .i64 of,.int .i64 sz] 59 (0,0))
 seen:∃cs:Array Value,wr.heap[gs]?=some (.cells cs 126 (0,0))∧cs.size=8∧∀q,q<8→cs[q]?=some (.bool (T.contains (q:Int)))
section
variable {w wr w' : World} {vb : Value} {av : Option Addr} {g np cap : Nat} {KV : Nat → Value} {UV : Nat → Nat → Value} {P P' : Ps} {gp gs : Nat} {nd of sz : Int} {T : List Int}
theorem RpInv.up(h:RpInv w wr vb av g np cap KV UV P gp gs nd of sz T)(hb:Below wr.heap.size wr w'):RpInv w w' vb av g np cap KV UV P gp gs nd of sz T:=by
 obtain⟨cs,h1,h2,h3⟩:=h.seen;exact⟨h.gv.up hb,stayB h.plan hb,cs,stayB h1 hb,h2,h3⟩
theorem RpInv.bit(h:RpInv w wr vb av g np cap KV UV P gp gs nd of sz T){q:Nat}(hq:q<8):wr.cell? ⟨gs,q,none⟩=some (.bool (T.contains (q:Int)))∧wr.frozen? ⟨gs,q,none⟩=false:=by
 obtain⟨cs,h1,h2,h3⟩:=h.seen;exact⟨cell_at h1 (h3 q hq),frozen_at h1⟩
theorem RpInv.put(h:RpInv w wr vb av g np cap KV UV P gp gs nd of sz T)(hg:w.heap.size+1<g)(hgp:gp≠g)(hgs:gs≠g){q:Nat}(hq:q<np){r:Value}{UR:Nat→Value}(hs:∃a n c,KV q=.slice a n c)(e1:P'.th=P.th)(e2:P'.rm=P.rm)(e3:∀k,k<np→k≠q→P'.m k=P.m k∧P'.t k=P.t k)
 (hr:KeSl wr wr.heap.size r (P'.m q) UR (P'.t q)):RpInv w (wr.setCell ⟨g,q*3+2,none⟩ r) vb av g np cap (fun k=>if k=q then r else KV k) (fun k=>if k=q then UR else UV k) P' gp gs nd of sz T:=by
 obtain⟨cs,h1,h2,h3⟩:=h.seen
 exact⟨h.gv.put hg hq hs e1 e2 e3 hr,by rw[Below.heap_setCell _ _ _ _ (by show gp≠g;exact hgp)];exact h.plan,cs,by rw[Below.heap_setCell _ _ _ _ (by show gs≠g;exact hgs)];exact h1,h2,h3⟩
theorem RpInv.see(h:RpInv w wr vb av g np cap KV UV P gp gs nd of sz T)(hs:w.heap.size+1<gs)(hgp:gp≠gs)(hgs:1≤np→g≠gs){q:Nat}(hq:q<8):RpInv w (wr.setCell ⟨gs,q,none⟩ (.bool true)) vb av g np cap KV UV P gp gs nd of sz (T++[(q:Int)]):=by
 obtain⟨cs,h1,h2,h3⟩:=h.seen;have hbit:=(h.bit hq).1;have hz:(wr.setCell ⟨gs,q,none⟩ (.bool true)).heap.size=wr.heap.size:=by simp[World.setCell]
 refine⟨⟨h.gv.below.setCell (p:=⟨gs,q,none⟩) (by show w.heap.size≤gs;omega) _,?_,?_,?_,fun k hk=>?_⟩,?_,cs.setIfInBounds q (.bool true),?_,?_,fun j hj=>?_⟩;·rw[Below.heap_setCell _ _ _ _ (by show w.heap.size≠gs;omega)];exact h.gv.box
 ·rw[Below.heap_setCell _ _ _ _ (by show w.heap.size+1≠gs;omega)];exact h.gv.out
 ·refine⟨fun k hk=>?_,fun i hi=>by rw[frozen_set];exact h.gv.row.free i hi,by rw[hz];exact h.gv.row.lt⟩
  have hne:=hgs (by omega);obtain⟨q1,q2,q3⟩:=h.gv.row.cell k hk;exact⟨by rw[cell_set_lit (Or.inl hne)];exact q1,by rw[cell_set_lit (Or.inl hne)];exact q2,by rw[cell_set_lit (Or.inl hne)];exact q3⟩
 ·rw[hz];exact kel_bool (h.gv.kept k hk) hbit _
 ·rw[Below.heap_setCell _ _ _ _ (by show gp≠gs;exact hgp)];exact h.plan
 ·simp[World.setCell,Array.getElem?_modify,h1]
 ·simpa using h2
 rw[Array.getElem?_setIfInBounds];by_cases e:q=j
 ·subst e
  rw[if_pos rfl,if_pos (by omega)];simp
 rw[if_neg e,h3 j hj];have hne:¬(j:Int)=(q:Int):=by omega
 simp[hne]
end
end
section
theorem heap_threeW(w:World)(o1 o2 o3:Obj):(((w.alloc o1).alloc o2).alloc o3).heap[w.heap.size]?=some o1∧(((w.alloc o1).alloc o2).alloc o3).heap[w.heap.size+1]?=some o2∧(((w.alloc o1).alloc o2).alloc o3).heap[w.heap.size+2]?=some o3:=by
 have h1:(w.alloc o1).heap.size=w.heap.size+1:=by simp
 have h2:((w.alloc o1).alloc o2).heap.size=w.heap.size+2:=by simp
 refine⟨?_,?_,?_⟩;·rw[Below.heap_alloc _ _ _ (by rw[h2];omega)];exact heap_two_old w o1 o2
 ·rw[Below.heap_alloc _ _ _ (by rw[h2];omega)];exact heap_two_new w o1 o2
 rw[←h2];exact heap_alloc_new _ _
theorem seven_at{w:World}{g:Nat}{T:TypeId}{v0 v1 v2 v3 v4 v5 v6:Value}(h:w.heap[g]?=some (.cells #[v0,v1,v2,v3,v4,v5,v6] T (0,0))):
 w.cell? ⟨g,0,none⟩=some v0∧w.cell? ⟨g,1,none⟩=some v1∧w.cell? ⟨g,2,none⟩=some v2∧w.cell? ⟨g,3,none⟩=some v3∧w.cell? ⟨g,4,none⟩=some v4∧w.cell? ⟨g,5,none⟩=some v5∧w.cell? ⟨g,6,none⟩=some v6 :=
 ⟨cell_at h rfl,cell_at h rfl,cell_at h rfl,cell_at h rfl,cell_at h rfl,cell_at h rfl,cell_at h rfl⟩
theorem happBad(e0:Int)(w:World):Calls Tryz.prog 51 #[.int .i64 e0] w fun e w'=>e=.returned (.tuple #[.agg #[.slice none 0 0,.slice none 0 0],.int .i64 e0])∧Below w.heap.size w w':=by
 have hb:=below_alloc w (.cells #[.slice none 0 0,.slice none 0 0] 27);have k0:=heap_alloc_new w (.cells #[.slice none 0 0,.slice none 0 0] 27);obtain⟨U,hU⟩:∃u,w.alloc (.cells #[.slice none 0 0,.slice none 0 0] 27)=u:=⟨_,rfl⟩;rw[hU]at hb k0;obtain⟨r1,r2⟩:=two_at k0;have f1:=frozen_at (i:=0) k0;have f2:=frozen_at (i:=1) k0;have HB:=hid hb;have K0:=hid k0;clear hb k0;go_enter Tryz.func51,Tryz.ntmps51;go_wp2;refine ret2 (put2_whole K0.out _ _) Tryz.underlying27 ?_;exact⟨rfl,put2_below HB.out (Nat.le_refl _)⟩
theorem RowP.other{wr:World}{g np g' o:Nat}{KV:Nat→Value}{P:Ps}(h:RowP wr g np KV P)(hne:g≠g')(u:Value):RowP (wr.setCell ⟨g',o,none⟩ u) g np KV P :=
 ⟨fun k hk=>by
  obtain⟨h1,h2,h3⟩:=h.cell k hk;exact⟨by rw[cell_set_lit (Or.inl hne)];exact h1,by rw[cell_set_lit (Or.inl hne)];exact h2,by rw[cell_set_lit (Or.inl hne)];exact h3⟩,
  fun i hi=>by rw[frozen_set];exact h.free i hi,by simpa[World.setCell]using h.lt⟩
theorem RowP.all3{wr:World}{g np q:Nat}{KV:Nat→Value}{P P':Ps}(h:RowP wr g np KV P)(hq:q<np)(tv:Bool)(rv:Int)(u:Value)(e1:∀k,k<np→P'.th k=if k=q then tv else P.th k)(e2:∀k,k<np→P'.rm k=if k=q then rv else P.rm k):
 RowP (((wr.setCell ⟨g,q*3,none⟩ (.bool tv)).setCell ⟨g,q*3+1,none⟩ (.int .i64 rv)).setCell ⟨g,q*3+2,none⟩ u) g np (fun k=>if k=q then u else KV k) P' :=
 ⟨fun k hk=>by
  obtain⟨h1,h2,h3⟩:=h.cell k hk;rw[e1 k hk,e2 k hk];show _=some (Value.bool (if k=q then tv else P.th k))∧_=some (Value.int .i64 (if k=q then rv else P.rm k))∧_=some (if k=q then u else KV k);by_cases e:k=q
  ·subst e
   rw[if_pos rfl,if_pos rfl,if_pos rfl];refine⟨by rw[cell_set_lit (Or.inr (by omega)),cell_set_lit (Or.inr (by omega))];exact cell_set_same h1 _,?_,?_⟩
   ·rw[cell_set_lit (Or.inr (by omega))]
    exact cell_set_same (by rw[cell_set_lit (Or.inr (by omega))];exact h2) _
   exact cell_set_same (by rw[cell_set_lit (Or.inr (by omega)),cell_set_lit (Or.inr (by omega))];exact h3) _
  rw[if_neg e,if_neg e,if_neg e];exact⟨by rw[cell_set_lit (Or.inr (by omega)),cell_set_lit (Or.inr (by omega)),cell_set_lit (Or.inr (by omega))];exact h1,by rw[cell_set_lit (Or.inr (by omega)),cell_set_lit (Or.inr (by omega)),cell_set_lit (Or.inr (by omega))];exact h2,by rw[cell_set_lit (Or.inr (by omega)),cell_set_lit (Or.inr (by omega)),cell_set_lit (Or.inr (by omega))];exact h3⟩,
  fun i hi=>by rw[frozen_set,frozen_set,frozen_set];exact h.free i hi,by simpa[World.setCell]using h.lt⟩
theorem own_shapeH{w:World}{base:Nat}{e:TypeId}{v:Value}{n:Nat}{xs:List Value}(h:w.ownsRow base e 1 v n xs):∃a c,v=.slice a n c:=by
 obtain⟨_,h2⟩:=h;rcases h2 with⟨h1,h0⟩|⟨g,cap,cur,h1,_⟩;·exact⟨none,0,by rw[h0];exact h1⟩
 exact⟨_,_,h1⟩
theorem peerR_small{n:Nat}{b:Bk}{room:Int}{m:Nat}{t:Kt}(h:PeerR n b room m t):m≤1000:=by
 have h1:=h.few;have h2:=h.room_;omega
theorem oneK_some{b:Bk}{t:Kt}{i:Nat}(h:oneK b t i=0):1≤t.L i∧(0≤t.X i 0∧t.X i 0≤30):=by
 unfold oneK at h;obtain⟨g1,g2,g3,g4⟩:=oneE_ok h;obtain⟨b1,b2,b3⟩:=planOk_spec g1;have hr:=rowsN_bd b1 b3;have hl:1≤t.L i:=by omega
 have h5:=of_decide_eq_true g4 0 (by omega);unfold isNum at h5;rw[decide_eq_true_iff]at h5;exact⟨hl,h5⟩
theorem hasB_memW(l:List Int)(x:Int):hasB (fun j=>l.getD j 0) l.length x=decide (x∈l):=by
 rw[Bool.eq_iff_iff,hasB_iff,decide_eq_true_iff];constructor
 ·rintro⟨j,hj,rfl⟩
  rw[List.getD_eq_getElem?_getD,List.getElem?_eq_getElem hj];exact List.getElem_mem hj
 intro h;obtain⟨j,hj,rfl⟩:=List.mem_iff_getElem.1 h;exact⟨j,hj,by rw[List.getD_eq_getElem?_getD,List.getElem?_eq_getElem hj];rfl⟩
def fgM(P:Ps)(N:Int)(i k:Nat):Nat:=if k<i then(forgP P N).m k else P.m k
def fgT(P:Ps)(N:Int)(i k:Nat):Kt:=if k<i then(forgP P N).t k else P.t k
structure FgInv(w wr:World)(a0 a1:Option Addr)(n cb np cap gp:Nat)(hv:Array Value)(KV:Nat→Value)(UV:Nat→Nat→Value)(P:Ps)(N:Int)(KVi:Nat→Value)(UVi:Nat→Nat→Value)(i:Nat):Prop where
 below:Below w.heap.size w wr
 box:wr.heap[w.heap.size]?=some (.cells #[.slice a0 n cb,.slice (some ⟨gp,0,none⟩) np cap] 27 (0,0))
 hap:wr.heap[w.heap.size+1]?=some (.cells hv 30 (0,0))
 out:wr.heap[w.heap.size+2]?=some (.cells #[.slice none 0 0,.slice none 0 0] 27 (0,0))
 row:RowP wr gp np KVi P
 kept:∀k,k<np→KeSl wr wr.heap.size (KVi k) (fgM P N i k) (UVi k) (fgT P N i k)
 rest:∀k,i≤k→k<np→KVi k=KV k∧UVi k=UV k
 ge:w.heap.size+2<gp
section
variable {w wr w' : World} {a0 a1 : Option Addr} {n cb np cap gp : Nat} {hv : Array Value} {KV : Nat → Value} {UV : Nat → Nat → Value} {P : Ps} {N : Int} {KVi : Nat → Value} {UVi : Nat → Nat → Value} {i : Nat}
theorem FgInv.up(h:FgInv w wr a0 a1 n cb np cap gp hv KV UV P N KVi UVi i)(hb:Below wr.heap.size wr w'):FgInv w w' a0 a1 n cb np cap gp hv KV UV P N KVi UVi i :=
 ⟨h.below.trans (hb.mono h.below.size),stayB h.box hb,stayB h.hap hb,stayB h.out hb,h.row.up hb,fun k hk=>(h.kept k hk).up hb,h.rest,h.ge⟩
theorem FgInv.skip(h:FgInv w wr a0 a1 n cb np cap gp hv KV UV P N KVi UVi i)(ht:P.th i=false):FgInv w wr a0 a1 n cb np cap gp hv KV UV P N KVi UVi (i+1):=by
 refine⟨h.below,h.box,h.hap,h.out,h.row,fun k hk=>?_,fun k h1 h2=>h.rest k (by omega) h2,h.ge⟩;have h9:=h.kept k hk;unfold fgM fgT at h9 ⊢;by_cases e:k=i
 ·subst e
  rw[if_neg (Nat.lt_irrefl _),if_neg (Nat.lt_irrefl _)]at h9;rw[if_pos (Nat.lt_succ_self _),if_pos (Nat.lt_succ_self _)];simp only[forgP,ht,Bool.false_eq_true,if_false];exact h9
 by_cases e2:k<i
 ·rw[if_pos e2,if_pos e2]at h9
  rw[if_pos (by omega),if_pos (by omega)];exact h9
 rw[if_neg e2,if_neg e2]at h9;rw[if_neg (by omega),if_neg (by omega)];exact h9
theorem FgInv.put(h:FgInv w wr a0 a1 n cb np cap gp hv KV UV P N KVi UVi i)(hi:i<np)(ht:P.th i=true){r:Value}{UR:Nat→Value}(hr:KeSl wr wr.heap.size r (butL (P.t i) N (P.m i)).length UR (selT (P.t i) (butL (P.t i) N (P.m i)))):
 FgInv w (wr.setCell ⟨gp,i*3+2,none⟩ r) a0 a1 n cb np cap gp hv KV UV P N (fun k=>if k=i then r else KVi k) (fun k=>if k=i then UR else UVi k) (i+1):=by
 have hge:=h.ge
 obtain⟨c1,c2,c3⟩:=h.row.cell i hi
 obtain⟨ak,ck,hsl,_⟩:=h.kept i hi
 rw[hsl]at c3
 have hz:(wr.setCell ⟨gp,i*3+2,none⟩ r).heap.size=wr.heap.size:=by simp[World.setCell]
 refine⟨h.below.setCell (p:=⟨gp,i*3+2,none⟩) (by show w.heap.size≤gp;omega) r,?_,?_,?_,h.row.put hi r (fun k _=>rfl) (fun k _=>rfl),fun k hk=>?_,fun k h1 h2=>?_,hge⟩
 ·rw[Below.heap_setCell _ _ _ _ (by show w.heap.size≠gp;omega)];exact h.box
 ·rw[Below.heap_setCell _ _ _ _ (by show w.heap.size+1≠gp;omega)];exact h.hap
 ·rw[Below.heap_setCell _ _ _ _ (by show w.heap.size+2≠gp;omega)];exact h.out
 ·rw[hz]
  have h9:=h.kept k hk;unfold fgM fgT at h9 ⊢;by_cases e:k=i
  ·subst e
   simp only[if_true];rw[if_pos (Nat.lt_succ_self _),if_pos (Nat.lt_succ_self _)];simp only[forgP,ht,if_true];exact kel_slice hr c3 c1 r
  simp only[if_neg e];have e3:(k<i+1)=(k<i):=propext ⟨fun _=>by omega,fun _=>by omega⟩;simp only[e3];exact kel_slice h9 c3 c1 r
 ·have e:¬k=i:=by omega
  simp only[if_neg e];exact h.rest k (by omega) h2
end
end
end Go.Proofs.YtajmnlhfnhbleaaGreat
