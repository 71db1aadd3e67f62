/- Several texts of one proof, in their order. -/
import Derived.Test.YtajmnlhfnhbleaaGreatKw39
import Derived.Deep.Strs
namespace Go.Proofs.YtajmnlhfnhbleaaGreat
open Go.RowKit Go.Maps CurveMath Go.ChangeShapes Go.WideShapes Go.ChangeAt Go.Deep
set_option linter.unusedVariables false
set_option maxHeartbeats 8000000
set_option maxRecDepth 10000
theorem heap_threeC(w:World)(o1 o2 o3:Obj):(((w.alloc o1).alloc o2).alloc o3).heap[w.heap.size]?=some o1∧(((w.alloc o1).alloc o2).alloc o3).heap[w.heap.size+1]?=some o2∧(((w.alloc o1).alloc o2).alloc o3).heap[w.heap.size+2]?=some o3:=by
 refine⟨?_,?_,?_⟩;·rw[Below.heap_alloc _ _ _ (by simp<;>omega),Below.heap_alloc _ _ _ (by simp)];exact heap_alloc_new _ _
 ·rw[Below.heap_alloc _ _ _ (by simp)]
  have:=heap_alloc_new (w.alloc o1) o2;simpa using this
 have:=heap_alloc_new ((w.alloc o1).alloc o2) o3;simpa using this
theorem seven_atC{w:World}{g:Nat}{T:TypeId}{v0 v1 v2 v3 v4 v5 v6:Value}(h:w.heap[g]?=some (.cells #[v0,v1,v2,v3,v4,v5,v6] T (0,0))):
 w.cell? ⟨g,0,none⟩=some v0∧w.cell? ⟨g,1,none⟩=some v1∧w.cell? ⟨g,2,none⟩=some v2∧w.cell? ⟨g,3,none⟩=some v3∧w.cell? ⟨g,4,none⟩=some v4∧w.cell? ⟨g,5,none⟩=some v5∧w.cell? ⟨g,6,none⟩=some v6 :=
 ⟨cell_at h rfl,cell_at h rfl,cell_at h rfl,cell_at h rfl,cell_at h rfl,cell_at h rfl,cell_at h rfl⟩
def MsPostN(w:World)(er:Int)(m:Ms)(e:Ending)(w':World):Prop:=MeshPostN w er m.n m.b m.np m.P e w'
theorem wdDo(vb:Value)(n:Nat)(PV:Nat→Value)(b:Bk)(vl:Value)(np:Nat)(KV:Nat→Value)(UV:Nat→Nat→Value)(P:Ps)(x:Hp)(vd vp:Value)(w:World)(hv:VeSl w w.heap.size vb n PV b)(hl:PsSl w w.heap.size vl np KV UV P)(hx:HpAt w w.heap.size x vd vp):
 Calls Tryz.prog 12 #[meshV vb vl,hapV x vd vp] w (MsPostN w (doE ⟨n,b,np,P⟩ x) (happM ⟨n,b,np,P⟩ x)):=by
 obtain⟨kd,N,M,len,D,lp,X,need,of⟩:=x
 obtain⟨hd,hp⟩:=hx
 have HV:=hid hv
 have HL:=hid hl
 have HD:=hid hd
 have HP:=hid hp
 obtain⟨ab,cb,rfl,_,_⟩:=hv
 obtain⟨al,cl,rfl,_,_⟩:=hl
 obtain⟨ad,cd,rfl,_,_⟩:=hd
 obtain⟨ap,cp,rfl,_,_⟩:=hp
 have hb0:Below w.heap.size w (((w.alloc (.cells #[.slice ab n cb,.slice al np cl] 27)).alloc (.cells #[.int .i64 kd,.int .i64 N,.int .i64 M,.slice ad len cd,.slice ap lp cp,.int .i64 need,.int .i64 of] 30)).alloc (.cells #[.slice none 0 0,.slice none 0 0] 27)):=(((Below.refl w.heap.size w).alloc (Nat.le_refl _) _).alloc (by simp) _).alloc (by simp<;>omega) _
 obtain⟨k0,k1,k2⟩:=heap_threeC w (.cells #[.slice ab n cb,.slice al np cl] 27) (.cells #[.int .i64 kd,.int .i64 N,.int .i64 M,.slice ad len cd,.slice ap lp cp,.int .i64 need,.int .i64 of] 30) (.cells #[.slice none 0 0,.slice none 0 0] 27)
 obtain⟨U,hU⟩:∃u,((w.alloc (.cells #[.slice ab n cb,.slice al np cl] 27)).alloc (.cells #[.int .i64 kd,.int .i64 N,.int .i64 M,.slice ad len cd,.slice ap lp cp,.int .i64 need,.int .i64 of] 30)).alloc (.cells #[.slice none 0 0,.slice none 0 0] 27)=u:=⟨_,rfl⟩
 rw[hU]at hb0 k0 k1 k2
 obtain⟨er,her⟩:∃c,doE ⟨n,b,np,P⟩ ⟨kd,N,M,len,D,lp,X,need,of⟩=c:=⟨_,rfl⟩
 obtain⟨mz,hmz⟩:∃m,happM ⟨n,b,np,P⟩ ⟨kd,N,M,len,D,lp,X,need,of⟩=m:=⟨_,rfl⟩
 rw[her,hmz]
 have HEr:=hid her
 have HMz:=hid hmz
 have B0:=hid hb0
 have D0:=hid k0
 have D1:=hid k1
 have D2:=hid k2
 have CK:=hid (msCheck _ n PV b _ np KV UV P U (HV.out.up hb0) (HL.out.up hb0))
 obtain⟨c,hc⟩:∃c,peersE n b np P=c:=⟨_,rfl⟩
 rw[hc]at CK
 have HC:=hid hc
 obtain⟨c0,c1⟩:=two_at k0
 unfold meshV at CK
 clear hb0 k0 k1 k2 her hmz hc
 unfold meshV hapV
 go_enter Tryz.func12,Tryz.ntmps12
 go_wp2_with fail
 refine Calls.mono CK.out ?_
 rintro e W ⟨rfl,hbW⟩
 have B1:=hid (B0.out.trans (hbW.mono B0.out.size))
 have E0:=hid (stayB D0.out hbW)
 have E1:=hid (stayB D1.out hbW)
 have E2:=hid (stayB D2.out hbW)
 clear hbW c0 c1 CK hU
 by_cases h0:c=0
 ·subst h0
  have HE:Hid (er=happE ⟨n,b,np,P⟩ ⟨kd,N,M,len,D,lp,X,need,of⟩):=by
   show er=_;rw[←HEr.out];unfold doE msE;rw[if_pos HC.out]
  have hR:MeshR n b np P:=meshR_of HC.out;have HRr:=hid hR;obtain⟨c0,c1⟩:=two_at E0.out;obtain⟨x0,x1,x2,x3,x4,x5,x6⟩:=seven_atC E1.out;clear hR;by_cases hk9:kd<1∨7<kd
  ·have q1:(kd==1)=false:=by rw[beq_eq_false_iff_ne];omega
   have q2:(kd==2)=false:=by rw[beq_eq_false_iff_ne];omega
   have q3:(kd==3)=false:=by rw[beq_eq_false_iff_ne];omega
   have q4:(kd==4)=false:=by rw[beq_eq_false_iff_ne];omega
   have q5:(kd==5)=false:=by rw[beq_eq_false_iff_ne];omega
   have q6:(kd==6)=false:=by rw[beq_eq_false_iff_ne];omega
   have q7:(kd==7)=false:=by rw[beq_eq_false_iff_ne];omega
   have HE3:Hid (er=3):=by
    show er=3;rw[HE.out];unfold happE;simp only;rw[if_neg (by omega),if_neg (by omega),if_neg (by omega),if_neg (by omega)]
   obtain⟨r1,r2⟩:=two_at E2.out;have f1:=frozen_at (i:=0) E2.out;have f2:=frozen_at (i:=1) E2.out;go_wp2;refine ret2 (put2_whole E2.out _ _) Tryz.underlying27 ?_;rw[HE3.out];exact meshN_none (put2_below B1.out (by omega)) (by omega)
  have up:∀e w',MsPostN W (happE ⟨n,b,np,P⟩ ⟨kd,N,M,len,D,lp,X,need,of⟩) (happM ⟨n,b,np,P⟩ ⟨kd,N,M,len,D,lp,X,need,of⟩) e w'→MsPostN W er mz e w':=fun e w' h=>by rw[HE.out,←HMz.out];exact h
  have v:=HV.out.up B1.out;have l:=HL.out.up B1.out;rcases(show kd=1∨kd=2∨kd=3∨kd=4∨kd=5∨kd=6∨kd=7 by omega)with rfl|rfl|rfl|rfl|rfl|rfl|rfl;have CS:=hid ((msSave _ n PV b _ np KV UV P _ len D _ lp X need of W v l (HD.out.up B1.out) (HP.out.up B1.out)).mono fun e w' h=>up e w' (MeshPostW.n h));rotate_left
  have CS:=hid ((wdChange_leave _ n PV b _ np KV UV P N M len D lp X need of W v l HRr.out).mono fun e w' h=>up e w' h);rotate_left
  have CS:=hid ((wdChange_come _ n PV b _ np KV UV P N M len D lp X need of W v l HRr.out).mono fun e w' h=>up e w' h);rotate_left
  have CS:=hid ((wdChange_lose _ n PV b _ np KV UV P N M len D lp X need of W v l HRr.out).mono fun e w' h=>up e w' h);rotate_left
  have CS:=hid ((wdChange_bend _ n PV b _ np KV UV P N M len D lp X need of (w.heap.size+1) W v l HRr.out x2).mono fun e w' h=>up e w' h);rotate_left
  have CS:=hid ((msRepair _ n PV b _ np KV UV P N W v l).mono fun e w' h=>up e w' h);rotate_left
  have CS:=hid ((wdForget _ n PV b _ np KV UV P N W v l HRr.out).mono fun e w' h=>up e w' h);rotate_left
  all_goals
   unfold meshV at CS
   clear v l up hk9
   go_wp2_with fail
   refine Calls.mono CS.out ?_
   rintro e W5 hM
   have HM:=hid hM
   obtain⟨hb5,gb,gl,n5,np5,PV5,KV5,UV5,rfl,hn5,hnp5,hv5,hl5,_⟩:=hM
   clear hn5 hnp5
   obtain⟨a5,c5,rfl,_,_⟩:=hv5
   obtain⟨a6,c6,rfl,_,_⟩:=hl5
   unfold meshV at HM
   have o5:=stayB E2.out hb5
   have HO5:=hid o5
   obtain⟨r1,r2⟩:=two_at o5
   have f1:=frozen_at (i:=0) o5
   have f2:=frozen_at (i:=1) o5
   unfold meshV
   clear hb5 o5 c0 c1 x0 x1 x2 x3 x4 x5 x6 CS
   go_wp2
   refine ret2 (put2_whole HO5.out _ _) Tryz.underlying27 ?_
   exact meshN_out B1.out HM.out HO5.out (by omega)
 ·have hcb:(c != 0)=true:=by simpa using h0
  have HE:Hid (er=c):=by
   show er=c;rw[←HEr.out];unfold doE msE;rw[HC.out,if_neg h0]
  have H0:=hid h0;obtain⟨r1,r2⟩:=two_at E2.out;have f1:=frozen_at (i:=0) E2.out;have f2:=frozen_at (i:=1) E2.out;clear h0;go_wp2;refine ret2 (put2_whole E2.out _ _) Tryz.underlying27 ?_;rw[HE.out];exact meshN_none (put2_below B1.out (by omega)) H0.out
section
theorem results_cell_tmps{fn:Func}{p u v:Tmp}{ty:TypeId}(h:fn.results=#[.cell p ty,.tmp u,.tmp v])(tmps:Array Value)(P:Program)(w:World):
 (results fn tmps).run P w=((asAddr (tmps.getD p undef)).run P w).andThen fun a w₁=>((loadVar ty a).run P w₁).andThen fun x w₂=>.ok (.tuple #[x,tmps.getD u undef,tmps.getD v undef]) w₂:=by
 simp only[results,h]
 simp[Sem.run_bind,Result.andThen]
theorem results_cell3{P:Program}{fn:Func}{p u v:Tmp}{ty:TypeId}(h:fn.results=#[.cell p ty,.tmp u,.tmp v])(tmps:Array Value)(w:World)(g:Nat)(t:TypeId)(cs:Array Value)(fr:Nat×Nat)(d:TypeDesc)
 (hp:tmps.getD p undef=.pointer (some ⟨g,0,none⟩)) (hg:w.heap[g]?=some (.cells cs t fr))
 (hu:P.underlying ty=some d) (hd:(match d with | .struct _ | .array _ _=>true|_=>false)=true) (hi:(P.info? ty).map (·.size)=some cs.size) :
 (results fn tmps).run P w=.ok (.tuple #[.agg cs,tmps.getD u undef,tmps.getD v undef]) w:=by
 rw[results_cell_tmps h,hp]
 simp[asAddr,run_loadVar_row w g t ty cs fr d hg hu hd hi]
theorem Tryz.infoErr:(Tryz.prog.info? 31).map (fun i=>(i.zero,i.size,i.bytes))=some (some (.int .i64 0),1,8):=by kernel_rfl
theorem runM_next(m:Ms)(H:Nat→Hp)(i:Nat):runM m (hapL H (i+1))=stepM (runM m (hapL H i)) (H i):=by
 rw[hapL_succ,runM_parts];rfl
theorem runS_next(m:Ms)(H:Nat→Hp)(i:Nat):runS m (hapL H (i+1))=runS m (hapL H i)++[happE (runM m (hapL H i)) (H i)]:=by
 rw[hapL_succ,runS_parts];rfl
theorem runS_old(m:Ms)(H:Nat→Hp){i j:Nat}(hj:j<i):(runS m (hapL H (i+1))).getD j 0=(runS m (hapL H i)).getD j 0:=by
 rw[runS_next,List.getD_eq_getElem?_getD,List.getD_eq_getElem?_getD,List.getElem?_append_left (by rw[runS_len,hapL_len];exact hj)]
theorem runS_new(m:Ms)(H:Nat→Hp)(i:Nat):(runS m (hapL H (i+1))).getD i 0=happE (runM m (hapL H i)) (H i):=by
 have hl:(runS m (hapL H i)).length=i:=by rw[runS_len,hapL_len]
 rw[runS_next,List.getD_eq_getElem?_getD,List.getElem?_append_right (by omega),hl,Nat.sub_self];rfl
structure RnInv(w wr:World)(gm gs len:Nat)(Q:Ms)(S:Nat→Int)(i:Nat)(a0:Option Addr)(c0:Nat)(a1:Option Addr)(c1:Nat)(PV KV:Nat→Value)(UV:Nat→Nat→Value):Prop where
 below:Below w.heap.size w wr
 out:wr.heap[w.heap.size+1]?=some (.cells #[.slice none 0 0,.slice none 0 0] 27 (0,0))
 made:wr.heap[gm]?=some (.cells #[.slice a0 Q.n c0,.slice a1 Q.np c1] 27 (0,0))
 ver:VeSl wr wr.heap.size (.slice a0 Q.n c0) Q.n PV Q.b
 ps:PsSl wr wr.heap.size (.slice a1 Q.np c1) Q.np KV UV Q.P
 offV:VeOff gs (.slice a0 Q.n c0) Q.n PV Q.b
 offP:PsOff gs (.slice a1 Q.np c1) Q.np KV UV Q.P
 said:CRow wr gs 31 len i (fun j=>.int .i64 (S j))
 ge:w.heap.size+1<gm∧gm<gs
section
variable {w wr w' : World} {gm gs len : Nat} {Q Q' : Ms} {S S' : Nat → Int} {i : Nat} {a0 a2 : Option Addr} {c0 c2 : Nat} {a1 a3 : Option Addr} {c1 c3 : Nat} {PV KV PV2 KV2 : Nat → Value} {UV UV2 : Nat → Nat → Value}
theorem RnInv.up(h:RnInv w wr gm gs len Q S i a0 c0 a1 c1 PV KV UV)(hb:Below wr.heap.size wr w'):RnInv w w' gm gs len Q S i a0 c0 a1 c1 PV KV UV :=
 ⟨h.below.trans (hb.mono h.below.size),stayB h.out hb,stayB h.made hb,h.ver.up hb,h.ps.up hb,h.offV,h.offP,h.said.up hb,h.ge⟩
theorem RnInv.bad(h:RnInv w wr gm gs len Q S i a0 c0 a1 c1 PV KV UV)(hi:i<len){er:Int}(hS:∀j,j<i→S' j=S j)(hn:S' i=er):RnInv w (wr.setCell ⟨gs,i,none⟩ (.int .i64 er)) gm gs len Q S' (i+1) a0 c0 a1 c1 PV KV UV:=by
 obtain⟨g1,g2⟩:=h.ge;have hz:(wr.setCell ⟨gs,i,none⟩ (.int .i64 er)).heap.size=wr.heap.size:=by simp[World.setCell]
 refine⟨h.below.setCell (p:=⟨gs,i,none⟩) (by show w.heap.size≤gs;omega) _,?_,?_,by rw[hz];exact h.ver.off h.offV _,by rw[hz];exact h.ps.off h.offP _,h.offV,h.offP,?_,h.ge⟩;·rw[Below.heap_setCell _ _ _ _ (by show w.heap.size+1≠gs;omega)];exact h.out
 ·rw[Below.heap_setCell _ _ _ _ (by show gm≠gs;omega)];exact h.made
 refine CRow.put (h.said.congr fun j hj=>by rw[hS j hj]) hi ?_;rw[hn]
theorem RnInv.next(h:RnInv w wr gm gs len Q S i a0 c0 a1 c1 PV KV UV)(hv:VeSl wr wr.heap.size (.slice a2 Q'.n c2) Q'.n PV2 Q'.b)(hp:PsSl wr wr.heap.size (.slice a3 Q'.np c3) Q'.np KV2 UV2 Q'.P)(ov:VeOff gs (.slice a2 Q'.n c2) Q'.n PV2 Q'.b)(op:PsOff gs (.slice a3 Q'.np c3) Q'.np KV2 UV2 Q'.P):
 RnInv w (put2 wr gm (.slice a2 Q'.n c2) (.slice a3 Q'.np c3)) gm gs len Q' S i a2 c2 a3 c3 PV2 KV2 UV2:=by
 obtain⟨g1,g2⟩:=h.ge
 refine⟨put2_below h.below (by omega),?_,put2_whole h.made _ _,ve_put2 h.made hv _,ps_put2 h.made hp _ _,ov,op,(h.said.other (by omega) _).other (by omega) _,h.ge⟩
 unfold put2
 rw[Below.heap_setCell _ _ _ _ (by show w.heap.size+1≠gm;omega),Below.heap_setCell _ _ _ _ (by show w.heap.size+1≠gm;omega)]
 exact h.out
theorem RnInv.fin{m:Ms}{H:Nat→Hp}(h:RnInv w wr gm gs len (runM m (hapL H len)) (fun j=>(runS m (hapL H len)).getD j 0) len a0 c0 a1 c1 PV KV UV)(hl:len≤100){v0 v1:Value}(e0:v0=.slice a0 (runM m (hapL H len)).n c0)(e1:v1=.slice a1 (runM m (hapL H len)).np c1):
 RunPost w 0 (runM m (hapL H len)) (runS m (hapL H len)) (.returned (.tuple #[.agg #[v0,v1],.slice (some ⟨gs,0,none⟩) len len,.int .i64 0])) (put2 wr (w.heap.size+1) v0 v1):=by
 subst e0 e1
 obtain⟨g1,g2⟩:=h.ge
 have hsl:(runS m (hapL H len)).length=len:=by rw[runS_len,hapL_len]
 refine⟨put2_below h.below (by omega),_,_,_,_,_,len,PV,KV,UV,rfl,by rw[if_pos rfl],by rw[if_pos rfl],by rw[if_pos rfl,hsl],ve_put2 h.out h.ver _,ps_put2 h.out h.ps _ _,_,_,rfl,⟨Nat.le_refl _,by omega⟩,Or.inr ⟨gs,0,rfl,?_,fun j hj=>?_⟩⟩
 ·rw[put2_size];exact h.said.lt
 ·rw[Nat.zero_add]
  unfold put2;rw[cell_set_lit (Or.inl (by omega)),cell_set_lit (Or.inl (by omega))];exact h.said.cell hj
end
def RunPostS(w:World)(er:Int)(m:Ms)(said:List Int)(e:Ending)(w':World):Prop :=
 RunPost w er m said e w'∧(er=0→∃(vm:Value) (gs:Nat),e=.returned (.tuple #[vm,.slice (some ⟨gs,0,none⟩) said.length said.length,.int .i64 er]))
theorem RnInv.finS{w wr:World}{gm gs len:Nat}{a0:Option Addr}{c0:Nat}{a1:Option Addr}{c1:Nat}{PV KV:Nat→Value}{UV:Nat→Nat→Value}{m:Ms}{H:Nat→Hp}(h:RnInv w wr gm gs len (runM m (hapL H len)) (fun j=>(runS m (hapL H len)).getD j 0) len a0 c0 a1 c1 PV KV UV)(hl:len≤100){v0 v1:Value}(e0:v0=.slice a0 (runM m (hapL H len)).n c0)(e1:v1=.slice a1 (runM m (hapL H len)).np c1):
 RunPostS w 0 (runM m (hapL H len)) (runS m (hapL H len)) (.returned (.tuple #[.agg #[v0,v1],.slice (some ⟨gs,0,none⟩) len len,.int .i64 0])) (put2 wr (w.heap.size+1) v0 v1) :=
 ⟨h.fin hl e0 e1,fun _=>⟨_,gs,by rw[runS_len,hapL_len]⟩⟩
theorem runPost_none{w w':World}{er:Int}{m:Ms}{l:List Int}(hb:Below w.heap.size w w')(he:er≠0):RunPost w er m l (.returned (.tuple #[.agg #[.slice none 0 0,.slice none 0 0],.slice none 0 0,.int .i64 er])) w' :=
 ⟨hb,.slice none 0 0,.slice none 0 0,.slice none 0 0,0,0,0,fun _=>.int .i64 0,fun _=>.int .i64 0,fun _ _=>.int .i64 0,rfl,by rw[if_neg he],by rw[if_neg he],by rw[if_neg he],⟨none,0,rfl,⟨Nat.le_refl _,by omega⟩,Or.inl rfl⟩,⟨none,0,rfl,⟨Nat.le_refl _,by omega⟩,Or.inl rfl⟩,⟨none,0,rfl,⟨Nat.le_refl _,by omega⟩,Or.inl rfl⟩⟩
theorem runPost_noneS{w w':World}{er:Int}{m:Ms}{l:List Int}(hb:Below w.heap.size w w')(he:er≠0):RunPostS w er m l (.returned (.tuple #[.agg #[.slice none 0 0,.slice none 0 0],.slice none 0 0,.int .i64 er])) w':=⟨runPost_none hb he,fun h=>absurd h he⟩
theorem wdRunS(vb:Value)(n:Nat)(PV:Nat→Value)(b:Bk)(vl:Value)(np:Nat)(KV:Nat→Value)(UV:Nat→Nat→Value)(P:Ps)(vs:Value)(len:Nat)(DV QV:Nat→Value)(H:Nat→Hp)(w:World)(hv:VeSl w w.heap.size vb n PV b)(hl:PsSl w w.heap.size vl np KV UV P)(hs:HpSl w w.heap.size vs len DV QV H):
 Calls Tryz.prog 22 #[meshV vb vl,vs] w (RunPostS w (runE ⟨n,b,np,P⟩ len) (runM ⟨n,b,np,P⟩ (hapL H len)) (runS ⟨n,b,np,P⟩ (hapL H len))):=by
 have hb0:=((Below.refl w.heap.size w).alloc (Nat.le_refl _) (.cells #[vb,vl] 27)).alloc (by simp) (.cells #[.slice none 0 0,.slice none 0 0] 27)
 have k1:=heap_two_old w (.cells #[vb,vl] 27) (.cells #[.slice none 0 0,.slice none 0 0] 27)
 have k2:=heap_two_new w (.cells #[vb,vl] 27) (.cells #[.slice none 0 0,.slice none 0 0] 27)
 obtain⟨W,hW⟩:∃W,(w.alloc (.cells #[vb,vl] 27)).alloc (.cells #[.slice none 0 0,.slice none 0 0] 27)=W:=⟨_,rfl⟩
 rw[hW]at hb0 k1 k2
 have HV:=hid hv
 have HL:=hid hl
 have HS:=hid hs
 obtain⟨ad,cap0,rfl,_,_⟩:=hv
 obtain⟨al,cl,rfl,_,_⟩:=hl
 obtain⟨asl,csl,rfl,⟨hsc,hsb⟩,_⟩:=hs
 obtain⟨ie,hie,hez0,hez1,hez2⟩:=info_parts Tryz.infoErr
 have CK:=hid (msCheck _ n PV b _ np KV UV P W (HV.out.up hb0) (HL.out.up hb0))
 obtain⟨c,hc⟩:∃c,peersE n b np P=c:=⟨_,rfl⟩
 rw[hc]at CK
 obtain⟨er,her⟩:∃c,runE ⟨n,b,np,P⟩ len=c:=⟨_,rfl⟩
 rw[her]
 have HEr:=hid her
 have HC:=hid hc
 obtain⟨m0,m1⟩:=two_at k1
 have B0:=hid hb0
 have K1:=hid k1
 have K2:=hid k2
 unfold meshV at CK
 clear hb0 k1 k2 her hc
 unfold meshV
 go_enter Tryz.func22,Tryz.ntmps22
 go_wp2_with fail
 refine Calls.mono CK.out ?_
 rintro e W1 ⟨rfl,hb1⟩
 have K1b:=hid (stayB K1.out hb1)
 have K2b:=hid (stayB K2.out hb1)
 have B1:=hid (B0.out.trans (hb1.mono B0.out.size))
 clear hb1 CK m0 m1 hW
 by_cases h0:c=0
 ·subst h0
  have hM:msE ⟨n,b,np,P⟩=0:=HC.out;have hX:er=if len≤100 then 0 else 1:=by
   rw[←HEr.out];unfold runE;rw[if_pos hM]
  have HM:=hid hM;have HX:=hid hX;obtain⟨m0,m1⟩:=two_at K1b.out;clear hM hX;by_cases hlen:len≤100
  ·have HE:Hid (er=0):=by
    show er=0;rw[HX.out,if_pos hlen]
   have hng:¬(len:Int)>100:=by omega
   have hR:MeshR n b np P:=meshR_of HC.out;have h8:=hR.few;have hn12:n≤12:=(right_of hR.book).le;have CW:=hid (frMesh _ n PV b _ np KV UV P W1 (HV.out.up B1.out) (HL.out.up B1.out) (by omega) (by omega));unfold meshV at CW;clear hR;go_wp2_with fail
   refine Calls.mono CW.out ?_;rintro e W2 ⟨hb2,gv,gp,QW,LV,VV,rfl,w1,w2,w3,hv2,hrow,hnew,hkept,hqa,_⟩;unfold meshV;have hs1:w.heap.size+1<W1.heap.size:=(Array.getElem?_eq_some_iff.1 K2b.out).1;have hb3:=hb2.alloc hb2.size (.cells #[.slice (some ⟨gv,0,none⟩) n n,.slice (some ⟨gp,0,none⟩) np np] 27);have hb23:=below_alloc W2 (.cells #[.slice (some ⟨gv,0,none⟩) n n,.slice (some ⟨gp,0,none⟩) np np] 27);have k9:=heap_alloc_new W2 (.cells #[.slice (some ⟨gv,0,none⟩) n n,.slice (some ⟨gp,0,none⟩) np np] 27);obtain⟨Y,hY⟩:∃u,W2.alloc (.cells #[.slice (some ⟨gv,0,none⟩) n n,.slice (some ⟨gp,0,none⟩) np np] 27)=u:=⟨_,rfl⟩;rw[hY]at hb3 hb23 k9;have HB3:=hid (B1.out.trans (hb3.mono B1.out.size));have HO3:=hid (stayB K2b.out hb3);have HM3:=hid k9;have HV3:=hid (hv2.up hb23)
   have HP3:Hid (PsSl Y Y.heap.size (.slice (some ⟨gp,0,none⟩) np np) np LV VV P):=(hrow.up hb23).kel (Nat.le_refl _) (by omega) fun k hk=>(hkept k hk).1.up hb23;have HG3:Hid (w.heap.size+1<W2.heap.size):=by have:=hb2.size;show _<_;omega
   obtain⟨gm,hgm⟩:∃g,W2.heap.size=g:=⟨_,rfl⟩;rw[hgm]at HM3 HG3;clear hb2 hv2 hrow hnew hkept hqa hb3 hb23 k9 w1 w2 w3 hs1 CW m0 m1;go_wp2_with(at_make;refine wpList_make_full _ rfl (.tmp 27) (.tmp 27) 46 rfl _ 31 ie (.int .i64 0) 1 Tryz.underlying46 hie hez0 hez1 _ _ _ _ len rfl rfl rfl rfl (by rw[hez2];omega) (by unfold maxLen;omega) (Nat.le_refl _) ?_;intro Z ho1 hg1;have hb:=below_of_grown hg1;have RS:=hid (CRow.made ho1 (fun j=>Value.int .i64 ((fun j=>(runS ⟨n,b,np,P⟩ (hapL H 0)).getD j 0) j)));have HBZ:=hid hb;clear ho1 hg1 hb)
   have J0:Hid (RnInv w Z gm Y.heap.size len (runM ⟨n,b,np,P⟩ (hapL H 0)) (fun j=>(runS ⟨n,b,np,P⟩ (hapL H 0)).getD j 0) 0 (some ⟨gv,0,none⟩) n (some ⟨gp,0,none⟩) np QW LV VV):=by
    have hb:=HBZ.out;have hgmY:gm<Y.heap.size:=(Array.getElem?_eq_some_iff.1 HM3.out).1;refine⟨HB3.out.trans (hb.mono HB3.out.size),stayB HO3.out hb,stayB HM3.out hb,HV3.out.up hb,HP3.out.up hb,veOff_of HV3.out (Nat.le_refl _),psOff_of HP3.out (Nat.le_refl _),?_,HG3.out,hgmY⟩;have h9:=RS.out;rw[Nat.mul_one]at h9;exact h9
   obtain⟨gs,hgs⟩:∃g,Y.heap.size=g:=⟨_,rfl⟩;rw[hgs]at J0 ⊢;clear hY hgm RS HBZ HB3 HO3 HM3 HV3 HP3 HG3 hgs;go_wp2;go_loopw [31] (fun iv wr=>∃(i:Nat) (a0:Option Addr) (c0:Nat) (a1:Option Addr) (c1:Nat) (PVi KVi:Nat→Value) (UVi:Nat→Nat→Value),i≤len∧iv=.int .i64 i∧Hid (RnInv w wr gm gs len (runM ⟨n,b,np,P⟩ (hapL H i)) (fun j=>(runS ⟨n,b,np,P⟩ (hapL H i)).getD j 0) i a0 c0 a1 c1 PVi KVi UVi)) (fun iv _=>len-(intOf iv).toNat)
   case atStart=>exact⟨0,_,_,_,_,_,_,_,Nat.zero_le _,rfl,J0⟩
   case round =>
    obtain⟨i,a0,c0,a1,c1,PVi,KVi,UVi,hi,rfl,J⟩:=hrel;by_cases hlt:i<len
    ·have hii:(i:Int)<(len:Int):=by omega
     obtain⟨bl,off,rfl,hbl,⟨x0,x1,x2,x3,x4,x5,x6⟩,hat⟩:=(HS.out.up J.out.below).at hlt;have HAt:=hid hat;obtain⟨⟨avd,cvd,hvd,_,_⟩,⟨avp,cvp,hvp,_,_⟩⟩:=hat;rw[hvd]at x3 HAt;rw[hvp]at x4 HAt;obtain⟨x,hx⟩:∃x,H i=x:=⟨_,rfl⟩;obtain⟨Q,hQ⟩:∃Q,runM ⟨n,b,np,P⟩ (hapL H i)=Q:=⟨_,rfl⟩;rw[hx]at x0 x1 x2 x3 x4 x5 x6 HAt;rw[hQ]at J;have HQ:Hid (msE Q=0):=by
      show msE Q=0;rw[←hQ];exact run_right _ HM.out
     have HNx:Hid (runM ⟨n,b,np,P⟩ (hapL H (i+1))=stepM Q x):=by
      show _=_;rw[runM_next,hQ,hx]
     have HSn:Hid ((runS ⟨n,b,np,P⟩ (hapL H (i+1))).getD i 0=happE Q x):=by
      show _=_;rw[runS_new,hQ,hx]
     have hbU:=below_alloc wr (.cells #[.int .i64 x.kd,.int .i64 x.N,.int .i64 x.M,.slice avd x.len cvd,.slice avp x.lp cvp,.int .i64 x.need,.int .i64 x.of] 30);have kx:=heap_alloc_new wr (.cells #[.int .i64 x.kd,.int .i64 x.N,.int .i64 x.M,.slice avd x.len cvd,.slice avp x.lp cvp,.int .i64 x.need,.int .i64 x.of] 30);obtain⟨U,hU⟩:∃u,wr.alloc (.cells #[.int .i64 x.kd,.int .i64 x.N,.int .i64 x.M,.slice avd x.len cvd,.slice avp x.lp cvp,.int .i64 x.need,.int .i64 x.of] 30)=u:=⟨_,rfl⟩;rw[hU]at hbU kx;obtain⟨bx,hbx⟩:∃q,wr.heap.size=q:=⟨_,rfl⟩;rw[hbx]at kx;have JU:=hid (J.out.up hbU);obtain⟨y0,y1,y2,y3,y4,y5,y6⟩:=seven_atC kx;obtain⟨q0,q1⟩:=two_at JU.out.made;have CD:=hid (wdDo _ Q.n PVi Q.b _ Q.np KVi UVi Q.P x _ _ U JU.out.ver JU.out.ps (HAt.out.up hbU));unfold meshV hapV MsPostN at CD
     have hd9:doE ⟨Q.n,Q.b,Q.np,Q.P⟩ x=happE Q x:=by
      unfold doE;rw[if_pos HQ.out]
     rw[hd9]at CD;obtain⟨e9,he9⟩:∃c,happE Q x=c:=⟨_,rfl⟩;rw[he9]at CD HSn;have HE9:=hid he9;obtain⟨Q2,hQ2⟩:∃Q',happM ⟨Q.n,Q.b,Q.np,Q.P⟩ x=Q':=⟨_,rfl⟩;rw[hQ2]at CD;have HQ2:Hid (happM Q x=Q2):=hQ2;have HgU:Hid (gs<U.heap.size):=JU.out.said.lt;clear hbU kx hvd hvp hx hQ hd9 he9 hQ2;go_wp2_with fail
     refine Calls.mono CD.out ?_;rintro e W5 hM;obtain⟨hb5,gb,gl,n5,np5,PV5,KV5,UV5,rfl,hn5,hnp5,hv5,hl5,hnew5,hvo5⟩:=hM;have hv5c:=hv5;have hl5c:=hl5;obtain⟨a5,c5,rfl,_,_⟩:=hv5c;obtain⟨a6,c6,rfl,_,_⟩:=hl5c;have hb56:=below_alloc W5 (.cells #[.slice a5 n5 c5,.slice a6 np5 c6] 27);have k6:=heap_alloc_new W5 (.cells #[.slice a5 n5 c5,.slice a6 np5 c6] 27);obtain⟨V,hV⟩:∃u,W5.alloc (.cells #[.slice a5 n5 c5,.slice a6 np5 c6] 27)=u:=⟨_,rfl⟩;rw[hV]at hb56 k6;obtain⟨bm,hbm⟩:∃q,W5.heap.size=q:=⟨_,rfl⟩;rw[hbm]at k6;have J6:=hid ((JU.out.up hb5).up hb56);have HV6:=hid (hv5.up hb56);have HL6:=hid (hl5.up hb56);have HOv:Hid (VeOff gs (.slice a5 n5 c5) n5 PV5 Q2.b):=hvo5 gs HgU.out;have HOp:Hid (PsOff gs (.slice a6 np5 c6) np5 KV5 UV5 Q2.P):=hnew5.off HgU.out;have HN5:=hid hn5;have HP5:=hid hnp5
     obtain⟨z0,z1⟩:=two_at k6;obtain⟨⟨u0,s0⟩,t0⟩:=J6.out.said.room hlt;obtain⟨p0,p1⟩:=two_at J6.out.made;have pf0:=frozen_at (i:=0) J6.out.made;have pf1:=frozen_at (i:=1) J6.out.made;have hgg:=J6.out.ge.2;unfold meshV;clear hb5 hb56 hv5 hl5 hnew5 hvo5 hn5 hnp5 k6 y0 y1 y2 y3 y4 y5 y6 q0 q1 CD hU hbx;by_cases he0:e9=0
     ·subst he0
      have hn5:=HN5.out;have hnp5:=HP5.out;rw[if_pos rfl]at hn5 hnp5;subst hn5 hnp5;have J7:=hid (J6.out.next HV6.out HL6.out HOv.out HOp.out);have J8:=hid (J7.out.bad (S':=fun j=>(runS ⟨n,b,np,P⟩ (hapL H (i+1))).getD j 0) hlt (fun j hj=>runS_old _ _ hj) HSn.out);have s1:(put2 V gm (.slice a5 Q2.n c5) (.slice a6 Q2.np c6)).cell? ⟨gs,i,none⟩=some u0:=by
       unfold put2;rw[cell_set_lit (Or.inl (by omega)),cell_set_lit (Or.inl (by omega))];exact s0
      have t1:(put2 V gm (.slice a5 Q2.n c5) (.slice a6 Q2.np c6)).frozen? ⟨gs,i,none⟩=false:=by
       unfold put2;rw[frozen_set,frozen_set];exact t0
      unfold put2 at J8 s1 t1;clear s0 t0;go_wp2;go_roundw
      case rel =>
       refine⟨i+1,a5,c5,a6,c6,PV5,KV5,UV5,by omega,by go_num,?_⟩;have h9:runM ⟨n,b,np,P⟩ (hapL H (i+1))=Q2:=by
        rw[HNx.out];unfold stepM;rw[if_pos HE9.out,HQ2.out]
       rw[h9];exact J8
      case measure=>simp only[intOf];omega
     have heb:(e9==0)=false:=by rw[beq_eq_false_iff_ne];exact he0
     have J8:=hid (J6.out.bad (S':=fun j=>(runS ⟨n,b,np,P⟩ (hapL H (i+1))).getD j 0) hlt (fun j hj=>runS_old _ _ hj) HSn.out);have HN0:=hid he0;clear he0;go_wp2;go_roundw
     case rel =>
      refine⟨i+1,a0,c0,a1,c1,PVi,KVi,UVi,by omega,by go_num,?_⟩;have h9:runM ⟨n,b,np,P⟩ (hapL H (i+1))=Q:=by
       rw[HNx.out];unfold stepM;rw[if_neg (by rw[HE9.out];exact HN0.out)]
      rw[h9];exact J8
     case measure=>simp only[intOf];omega
    have hie:len=i:=by omega
    subst hie;have hjn:¬(len:Int)<(len:Int):=by omega
    obtain⟨m0,m1⟩:=two_at J.out.made;obtain⟨r1,r2⟩:=two_at J.out.out;have f1:=frozen_at (i:=0) J.out.out;have f2:=frozen_at (i:=1) J.out.out;go_wp2;refine bodyPost_ret (results_cell3 rfl _ _ (w.heap.size+1) 27 _ (0,0) _ rfl (put2_whole J.out.out _ _) Tryz.underlying27 rfl (by kernel_rfl)) rfl ?_;rw[HE.out];exact J.out.finS hlen rfl rfl
  have HE:Hid (er=1):=by
   show er=1;rw[HX.out,if_neg hlen]
  have hng:(len:Int)>100:=by omega
  obtain⟨r1,r2⟩:=two_at K2b.out;have f1:=frozen_at (i:=0) K2b.out;have f2:=frozen_at (i:=1) K2b.out;clear hlen;go_wp2;refine bodyPost_ret (results_cell3 rfl _ _ (w.heap.size+1) 27 #[.slice none 0 0,.slice none 0 0] (0,0) _ rfl (put2_whole K2b.out _ _) Tryz.underlying27 rfl (by kernel_rfl)) rfl ?_;rw[HE.out];exact runPost_noneS (put2_below B1.out (by omega)) (by omega)
 ·have hcb:(c != 0)=true:=by simpa using h0
  have HE:Hid (er=c):=by
   show er=c;rw[←HEr.out];unfold runE msE;rw[HC.out,if_neg h0]
  have H0:=hid h0;obtain⟨r1,r2⟩:=two_at K2b.out;have f1:=frozen_at (i:=0) K2b.out;have f2:=frozen_at (i:=1) K2b.out;clear h0;go_wp2;refine bodyPost_ret (results_cell3 rfl _ _ (w.heap.size+1) 27 #[.slice none 0 0,.slice none 0 0] (0,0) _ rfl (put2_whole K2b.out _ _) Tryz.underlying27 rfl (by kernel_rfl)) rfl ?_;rw[HE.out];exact runPost_noneS (put2_below B1.out (by omega)) H0.out
theorem worldOwes:WorldOwes where
 does vb n PV b vl np KV UV P x vd vp w hv hl hx:=(wdDo vb n PV b vl np KV UV P x vd vp w hv hl hx).mono fun e w' h=>MeshPostN.old h
 run vb n PV b vl np KV UV P vs len DV QV H w hv hl hs:=(wdRunS vb n PV b vl np KV UV P vs len DV QV H w hv hl hs).mono fun e w' h=>h.1
end
section
variable {H : Type} {enc : TypeId × Value → H} {W : World}
theorem Tryz.cellsInts:Tryz.prog.cellsOf 28=1:=by kernel_rfl
theorem Tryz.cellsPlan:Tryz.prog.cellsOf 59=3:=by kernel_rfl
theorem agg_of{v:Value}{n:Nat}(hn:n≠1)(h:v.cells.toList.length=n):v=.agg v.cells:=by
 cases v<;>first|rfl|(simp[Value.cells]at h;omega)
theorem isl_cell{fuel:Nat}{cs:List Value}{x:DataW H×List MemPlace}(h:DataW.trod enc Tryz.prog W 0 (fun _=>true) true fuel 28 cs=some x)(hs:∀y∈x.1.weights Tryz.prog 28,y≤reachBytes):
 ∃a len cap X,cs=[.slice a len cap]∧SlArg W a len cap X:=by
 have key:∃a len cap,cs=[.slice a len cap]:=by
  rcases open_ints Tryz.underlying28 Tryz.underlying3 Tryz.cellsInt h with⟨hcs,_⟩|⟨x,l,c,zs,hcs,_⟩;·exact⟨_,_,_,hcs⟩
  exact⟨_,_,_,hcs⟩
 obtain⟨a,len,cap,rfl⟩:=key
 obtain⟨X,hX⟩:=slArg_open (enc:=enc) (W:=W) (a:=a) (len:=len) (cap:=cap) (d:=x.1) (p:=x.2) Tryz.underlying28 ⟨fuel,by simpa[Value.cells]using h⟩ (fun elems spare hd=>by
  refine hs _ ?_;rw[hd];simp[DataW.weights,Tryz.underlying28])
 exact⟨a,len,cap,X,rfl,hX⟩
theorem weightsAll_mem{P:Program}{e:TypeId}{l:List (DataW H)}{d:DataW H}(h:d∈l){y:Nat}(hy:y∈d.weights P e):y∈DataW.weightsAll P e l:=by
 induction l with
 |nil=>cases h
 |cons x l ih =>
  simp only[DataW.weightsAll,List.mem_append];rcases List.mem_cons.1 h with rfl|h;·exact Or.inl hy
  exact Or.inr (ih h)
end
end Go.Proofs.YtajmnlhfnhbleaaGreat
