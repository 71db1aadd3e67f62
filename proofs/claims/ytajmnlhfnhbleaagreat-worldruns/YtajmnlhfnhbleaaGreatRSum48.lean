/- Several texts of one proof, in their order. -/
import Derived.Test.YtajmnlhfnhbleaaGreatRSum44
import Derived.Test.YtajmnlhfnhbleaaGreatRSum47
import Derived.Deep.Strs
namespace Go.Proofs.YtajmnlhfnhbleaaGreat
open Go.RowKit CurveMath Go.ChangeShapes Go.WideShapes Go.ChangeAt Go.Deep
set_option linter.unusedVariables false
set_option maxHeartbeats 8000000
set_option maxRecDepth 10000
section
theorem ownsRow_up{w w':World}{base e size:Nat}{v:Value}{n:Nat}{xs:List Value}(h:w.ownsRow base e size v n xs)(hb:Below w.heap.size w w'):w'.ownsRow base e size v n xs:=by
 obtain⟨h1,h2⟩:=h;refine⟨h1,?_⟩;rcases h2 with h2|⟨g,cap,cur,e1,e2,e3,e4⟩;·exact Or.inl h2
 exact Or.inr ⟨g,cap,cur,e1,e2,stayB e3 hb,e4⟩
theorem MsOff.of{w:World}{s:Nat}{vb:Value}{n:Nat}{PV:Nat→Value}{b:Bk}{vl:Value}{np:Nat}{KV:Nat→Value}{UV:Nat→Nat→Value}{P:Ps}(hv:VeSl w w.heap.size vb n PV b)(hl:PsSl w w.heap.size vl np KV UV P)(hs:w.heap.size≤s):MsOff s vb n PV b vl np KV UV P:=⟨veOff_of hv hs,psOff_of hl hs⟩
structure RsInv(w wr:World)(base gx gy:Nat)(Q:Ms)(a0:Option Addr)(c0:Nat)(a1:Option Addr)(c1:Nat)(PV KV:Nat→Value)(UV:Nat→Nat→Value)
 (mA:Ms) (ay:Option Addr) (cy:Nat) (ly:Option Addr) (dy:Nat) (PVy KVy:Nat→Value) (UVy:Nat→Nat→Value) (vs:Value) (sA:List Int) (v:Value) (S:List Int):Prop where
 below:Below w.heap.size w wr
 ge:w.heap.size≤gx∧w.heap.size≤base∧gx<base∧gy<base∧base≤wr.heap.size∧gx≠gy
 made:wr.heap[gx]?=some (.cells #[.slice a0 Q.n c0,.slice a1 Q.np c1] 27 (0,0))
 ver:VeSl wr wr.heap.size (.slice a0 Q.n c0) Q.n PV Q.b
 ps:PsSl wr wr.heap.size (.slice a1 Q.np c1) Q.np KV UV Q.P
 ymade:wr.heap[gy]?=some (.cells #[.slice ay mA.n cy,.slice ly mA.np dy] 27 (0,0))
 yver:VeSl wr wr.heap.size (.slice ay mA.n cy) mA.n PVy mA.b
 yps:PsSl wr wr.heap.size (.slice ly mA.np dy) mA.np KVy UVy mA.P
 said:IntSl wr wr.heap.size vs sA.length (fun j=>sA.getD j 0)
 own:wr.ownsRow base 31 1 v S.length (S.map (Value.int .i64))
 off:∀s,v.ownBlock=some s→MsOff s (.slice a0 Q.n c0) Q.n PV Q.b (.slice a1 Q.np c1) Q.np KV UV Q.P∧MsOff s (.slice ay mA.n cy) mA.n PVy mA.b (.slice ly mA.np dy) mA.np KVy UVy mA.P∧OfB s sA.length vs
section
variable {w wr w' : World} {base gx gy : Nat} {Q Q' : Ms} {a0 a2 : Option Addr} {c0 c2 : Nat} {a1 a3 : Option Addr} {c1 c3 : Nat} {PV KV PV2 KV2 : Nat → Value} {UV UV2 : Nat → Nat → Value}
  {mA:Ms} {ay:Option Addr} {cy:Nat} {ly:Option Addr} {dy:Nat} {PVy KVy:Nat→Value} {UVy:Nat→Nat→Value} {vs:Value} {sA:List Int} {v v':Value} {S:List Int}
theorem RsInv.up(h:RsInv w wr base gx gy Q a0 c0 a1 c1 PV KV UV mA ay cy ly dy PVy KVy UVy vs sA v S)(hb:Below wr.heap.size wr w'):RsInv w w' base gx gy Q a0 c0 a1 c1 PV KV UV mA ay cy ly dy PVy KVy UVy vs sA v S:=by
 obtain⟨g1,g2,g3,g4,g5,g6⟩:=h.ge;have:=hb.size;exact⟨h.below.trans (hb.mono h.below.size),⟨g1,g2,g3,g4,by omega,g6⟩,stayB h.made hb,h.ver.up hb,h.ps.up hb,stayB h.ymade hb,h.yver.up hb,h.yps.up hb,h.said.up hb,ownsRow_up h.own hb,h.off⟩
theorem RsInv.next(h:RsInv w wr base gx gy Q a0 c0 a1 c1 PV KV UV mA ay cy ly dy PVy KVy UVy vs sA v S)(hv:VeSl wr wr.heap.size (.slice a2 Q'.n c2) Q'.n PV2 Q'.b)(hp:PsSl wr wr.heap.size (.slice a3 Q'.np c3) Q'.np KV2 UV2 Q'.P)
 (ho:∀s,v.ownBlock=some s→MsOff s (.slice a2 Q'.n c2) Q'.n PV2 Q'.b (.slice a3 Q'.np c3) Q'.np KV2 UV2 Q'.P):RsInv w (put2 wr gx (.slice a2 Q'.n c2) (.slice a3 Q'.np c3)) base gx gy Q' a2 c2 a3 c3 PV2 KV2 UV2 mA ay cy ly dy PVy KVy UVy vs sA v S:=by
 obtain⟨g1,g2,g3,g4,g5,g6⟩:=h.ge
 refine⟨put2_below h.below g1,⟨g1,g2,g3,g4,by rw[put2_size];exact g5,g6⟩,put2_whole h.made _ _,ve_put2 h.made hv _,ps_put2 h.made hp _ _,?_,ve_put2 h.made h.yver _,ps_put2 h.made h.yps _ _,isl_put2D h.made h.said _ _,?_,fun s hs=>⟨ho s hs,(h.off s hs).2⟩⟩
 ·unfold put2
  rw[Below.heap_setCell _ _ _ _ (by show gy≠gx;omega),Below.heap_setCell _ _ _ _ (by show gy≠gx;omega)];exact h.ymade
 ·obtain⟨h1,h2⟩:=h.own
  refine⟨h1,?_⟩;rcases h2 with h2|⟨g,cap,cur,e1,e2,e3,e4⟩;·exact Or.inl h2
  refine Or.inr ⟨g,cap,cur,e1,e2,?_,e4⟩;unfold put2;rw[Below.heap_setCell _ _ _ _ (by show g≠gx;omega),Below.heap_setCell _ _ _ _ (by show g≠gx;omega)];exact e3
theorem RsInv.grow{x:Int}(h:RsInv w wr base gx gy Q a0 c0 a1 c1 PV KV UV mA ay cy ly dy PVy KVy UVy vs sA v S)(hg:wr.grownBy w' v.ownBlock)(ho:w'.ownsRow base 31 1 v' (S.length+1) (S.map (Value.int .i64)++[.int .i64 x]))(hat:v'.ownBlock=v.ownBlock∨v'.ownBlock=some wr.heap.size):
 RsInv w w' base gx gy Q a0 c0 a1 c1 PV KV UV mA ay cy ly dy PVy KVy UVy vs sA v' (S++[x]):=by
 obtain⟨g1,g2,g3,g4,g5,g6⟩:=h.ge
 have hsz:=hg.size
 have hlt:=h.own.lt
 have hblk:∀g,g<base→w'.heap[g]?=wr.heap[g]?:=fun g hgb=>hg.block g (by omega) fun e=>by
  have:=(hlt g e.symm).1;omega
 have hoff:∀s,v'.ownBlock=some s→MsOff s (.slice a0 Q.n c0) Q.n PV Q.b (.slice a1 Q.np c1) Q.np KV UV Q.P∧MsOff s (.slice ay mA.n cy) mA.n PVy mA.b (.slice ly mA.np dy) mA.np KVy UVy mA.P∧OfB s sA.length vs:=fun s hs=>by
  rcases hat with hat|hat;·exact h.off s (by rw[←hat];exact hs)
  rw[hat]at hs;injection hs with hs;subst hs;exact⟨MsOff.of h.ver h.ps (Nat.le_refl _),MsOff.of h.yver h.yps (Nat.le_refl _),offB_isl h.said (Nat.le_refl _)⟩
 have hown:w'.ownsRow base 31 1 v' (S++[x]).length ((S++[x]).map (Value.int .i64)):=by
  rw[List.length_append,List.map_append];exact ho
 have hbel:Below w.heap.size w w':=h.below.grown hg (by omega) fun k hk=>by
  have:=(hlt k hk).1;omega
 cases hrow:v.ownBlock with
 |none =>
  rw[hrow]at hg;have hb:=below_of_grown hg;exact⟨hbel,⟨g1,g2,g3,g4,by omega,g6⟩,by rw[hblk gx g3];exact h.made,h.ver.up hb,h.ps.up hb,by rw[hblk gy g4];exact h.ymade,h.yver.up hb,h.yps.up hb,h.said.up hb,hown,hoff⟩
 |some s =>
  rw[hrow]at hg;obtain⟨o1,o2,o3⟩:=h.off s hrow;exact⟨hbel,⟨g1,g2,g3,g4,by omega,g6⟩,by rw[hblk gx g3];exact h.made,h.ver.grownO hg o1.1,h.ps.grownO hg o1.2,by rw[hblk gy g4];exact h.ymade,h.yver.grownO hg o2.1,h.yps.grownO hg o2.2,h.said.grownO hg o3,hown,hoff⟩
end
theorem run_zero{w w':World}{er:Int}{m:Ms}{said:List Int}{e:Ending}(h:RunPostS w er m said e w')(h0:er≠0):Below w.heap.size w w'∧∃(a1:Option Addr) (c1:Nat) (a2:Option Addr) (c2:Nat) (a3:Option Addr) (c3:Nat),e=.returned (.tuple #[.agg #[.slice a1 0 c1,.slice a2 0 c2],.slice a3 0 c3,.int .i64 er]):=by
 obtain⟨⟨hb,vb,vl,vo,n',np',k,PV,KV,UV,e1,h1,h2,h3,h4,h5,h6⟩,hs⟩:=h;rw[if_neg h0]at h1 h2 h3;subst h1 h2 h3;obtain⟨ab,cb,rfl,z1,z2⟩:=h4;obtain⟨al,cl,rfl,z3,z4⟩:=h5;obtain⟨ao,co,rfl,z5,z6⟩:=h6;exact⟨hb,_,_,_,_,_,_,e1⟩
theorem ve_none(w:World)(a:Option Addr)(c:Nat)(PV:Nat→Value)(b:Bk):VeSl w w.heap.size (.slice a 0 c) 0 PV b:=⟨a,c,rfl,⟨Nat.zero_le _,by omega⟩,Or.inl rfl⟩
theorem ps_none(w:World)(a:Option Addr)(c:Nat)(KV:Nat→Value)(UV:Nat→Nat→Value)(P:Ps):PsSl w w.heap.size (.slice a 0 c) 0 KV UV P:=⟨a,c,rfl,⟨Nat.zero_le _,by omega⟩,Or.inl rfl⟩
end
theorem one_news{w:World}{g:Nat}{x:Value}{T:TypeId}(k:w.heap[g]?=some (.cells #[x] T (0,0))):∀j u,[x][j]?=some u→w.cell? ((⟨g,0,none⟩:Addr).add j)=some u:=by
 intro j u hj;cases j with
 |zero =>
  have e:x=u:=by simpa using hj
  rw[←e];exact cell_at (i:=0) k rfl
 |succ j=>simp at hj
theorem worldRuns_of(hO:MeshCore)(hW:WorldOwes)(vb:Value)(n:Nat)(PV:Nat→Value)(b:Bk)(vl:Value)(np:Nat)(KV:Nat→Value)(UV:Nat→Nat→Value)(P:Ps)(vs:Value)(len:Nat)(DV QV:Nat→Value)(H:Nat→Hp)(w:World)(hv:VeSl w w.heap.size vb n PV b)(hl:PsSl w w.heap.size vl np KV UV P)(hs:HpSl w w.heap.size vs len DV QV H):
 Calls Tryz.prog 6 #[meshV vb vl,vs] w fun e w'=>e=.returned (.bool true)∧Below w.heap.size w w':=by
 have HJ:Hid (∀u:World,_):=fun u=>done_any hO hW u
 have HS:=hid hs
 obtain⟨ab,cb,rfl,z1,z2⟩:=id hv
 clear z1 z2
 obtain⟨al,cl,rfl,z1,z2⟩:=id hl
 clear z1 z2
 obtain⟨av,cv,rfl,⟨hvc,hvb⟩,z2⟩:=id hs
 clear z2
 obtain⟨ie,hie,hez0,hez1,hez2⟩:=info_parts Tryz.infoErrC
 have hb0:=below_alloc w (.cells #[.slice ab n cb,.slice al np cl] 27)
 have A0:=hid (MsAt.box hv hl)
 obtain⟨U,hU⟩:∃u,w.alloc (.cells #[.slice ab n cb,.slice al np cl] 27)=u:=⟨_,rfl⟩
 rw[hU]at hb0 A0
 obtain⟨gx,hgx⟩:∃g,w.heap.size=g:=⟨_,rfl⟩
 have HGX:=hid hgx
 have HB:=hid hb0
 have HS1:=hid (HS.out.up hb0)
 have A1:Hid (MsAt U gx ab n cb PV b al np cl KV UV P):=by rw[←hgx];exact A0.out
 obtain⟨c0,c1⟩:=A1.out.cells
 obtain⟨er,her⟩:∃c,runE ⟨n,b,np,P⟩ len=c:=⟨_,rfl⟩
 have CD:=hid (wdRunS _ n PV b _ np KV UV P _ len DV QV H U A1.out.2.1 A1.out.2.2 HS1.out)
 rw[her]at CD
 unfold meshV at CD
 have HER:=hid her
 clear hb0 A0 hv hl hs hO hW her
 unfold meshV
 by_cases h0:er=0
 ·subst h0
  obtain⟨hm0,hl0⟩:=runE_zero HER.out;have HM0:=hid hm0;have HR:=hid (meshR_of (show peersE n b np P=0 from hm0));have hng:¬(len:Int)>100:=by omega
  clear hm0 HER;obtain⟨M,hMM⟩:∃q:Ms,(⟨n,b,np,P⟩:Ms)=q:=⟨_,rfl⟩;have HMM:=hid hMM;obtain⟨mA,hmA⟩:∃q,runM ⟨n,b,np,P⟩ (hapL H len)=q:=⟨_,rfl⟩;obtain⟨sA,hsA⟩:∃q,runS ⟨n,b,np,P⟩ (hapL H len)=q:=⟨_,rfl⟩;rw[hmA,hsA]at CD;have HMA:=hid hmA;have HSA:=hid hsA;clear hmA hsA hMM;go_enter Tryz.func6,Tryz.ntmps6;go_wp2_with fail
  refine Calls.mono CD.out ?_;rintro e u1 hM;obtain⟨hb,ay,cy,PVy,ly,dy,KVy,UVy,gsy,rfl,hv9,hl9,ho9⟩:=run_said hM;clear hM CD c0 c1 hU hgx HS1;have hb1:=below_alloc u1 (.cells #[.slice none 0 0,.slice none 0 0] 27);have k0:=heap_alloc_new u1 (.cells #[.slice none 0 0,.slice none 0 0] 27);replace hv9:=hv9.up hb1;replace hl9:=hl9.up hb1;obtain⟨V1,hV1⟩:∃v,World.alloc u1 (.cells #[.slice none 0 0,.slice none 0 0] 27)=v:=⟨_,rfl⟩;rw[hV1]at k0 hv9 hl9 hb1;have hb2:Below u1.heap.size u1 (put2 V1 u1.heap.size (.slice ay mA.n cy) (.slice ly mA.np dy)):=put2_below hb1 (Nat.le_refl _);obtain⟨gy,hgy⟩:∃g,u1.heap.size=g:=⟨_,rfl⟩;rw[hgy]at k0;rw[show put2 V1 u1.heap.size (.slice ay mA.n cy) (.slice ly mA.np dy)=put2 V1 gy (.slice ay mA.n cy) (.slice ly mA.np dy) by rw[hgy]]at hb2
  have bx:MsAt (put2 V1 gy (.slice ay mA.n cy) (.slice ly mA.np dy)) gy _ _ _ _ _ _ _ _ _ _ _:=⟨put2_whole k0 _ _,ve_put2 k0 hv9 _,ps_put2 k0 hl9 _ _⟩;obtain⟨q0,q1⟩:=two_at k0;have f0:=frozen_at (i:=0) k0;have f1:=frozen_at (i:=1) k0;have KB:=hid k0;obtain⟨Y1,hY1⟩:∃y,put2 V1 gy (.slice ay mA.n cy) (.slice ly mA.np dy)=y:=⟨_,rfl⟩;rw[hY1]at hb2 bx;have bo:=isl_put2D KB.out (ho9.up hb1) (.slice ay mA.n cy) (.slice ly mA.np dy);rw[hY1]at bo;unfold put2 at hY1;have hgxy:Hid (gx<gy):=by
   have h1:=(Array.getElem?_eq_some_iff.1 A1.out.1).1;have h2:=hb.size;show gx<gy;rw[←hgy];omega
  replace hb:=hb.trans (hb2.mono hb.size);have X0:=hid (A1.out.up hb);have Y0:=hid bx;have SY:=hid bo;have HB1:=hid (HB.out.trans (hb.mono HB.out.size));clear hb hb1 hb2 k0 hv9 hl9 ho9 bx bo KB A1;obtain⟨c0,c1⟩:=X0.out.cells;have CK:=hid (checkMesh_any _ n PV b _ np KV UV P Y1 X0.out.2.1 X0.out.2.2);rw[HR.out.e]at CK;unfold meshV at CK;go_wp2_with fail
  refine Calls.mono CK.out ?_;rintro e u2 ⟨rfl,hb⟩;clear q0 q1 f0 f1 hV1 hY1 hgy CK c0 c1;replace X0:=hid (X0.out.up hb);replace Y0:=hid (Y0.out.up hb);replace SY:=hid (SY.out.up hb);replace HB1:=hid (HB1.out.trans (hb.mono HB1.out.size));clear hb;go_wp2_with fail
  refine Calls.mono (HJ.out _) ?_;rintro e u3 ⟨rfl,hb⟩;replace X0:=hid (X0.out.up hb);replace Y0:=hid (Y0.out.up hb);replace SY:=hid (SY.out.up hb);replace HB1:=hid (HB1.out.trans (hb.mono HB1.out.size));clear hb;have J0:Hid (RsInv w u3 u3.heap.size gx gy (runM M (hapL H 0)) ab cb al cl PV KV UV mA ay cy ly dy PVy KVy UVy (.slice (some ⟨gsy,0,none⟩) sA.length sA.length) sA (.slice none 0 0) (runS M (hapL H 0))):=by
   have h1:=(Array.getElem?_eq_some_iff.1 X0.out.1).1;have h2:=(Array.getElem?_eq_some_iff.1 Y0.out.1).1;have h3:=HGX.out;have h4:=hgxy.out;rw[←HMM.out];exact⟨HB1.out,⟨by omega,HB1.out.size,h1,h2,Nat.le_refl _,by omega⟩,X0.out.1,X0.out.2.1,X0.out.2.2,Y0.out.1,Y0.out.2.1,Y0.out.2.2,SY.out,World.ownsRow_nil _ _ _ _,fun s hs=>by cases hs⟩
  obtain⟨base,hbase⟩:∃q,u3.heap.size=q:=⟨_,rfl⟩;rw[hbase]at J0;clear X0 Y0 SY HB1 hbase hgxy;have HRT:=hid HM0.out;rw[HMM.out]at HRT;go_wp2_with fail
  go_loopw [9,54] (fun v iv wr=>∃(i:Nat) (a0:Option Addr) (c0:Nat) (a1:Option Addr) (c1:Nat) (PVi KVi:Nat→Value) (UVi:Nat→Nat→Value),i≤len∧iv=.int .i64 i∧Hid (RsInv w wr base gx gy (runM M (hapL H i)) a0 c0 a1 c1 PVi KVi UVi mA ay cy ly dy PVy KVy UVy (.slice (some ⟨gsy,0,none⟩) sA.length sA.length) sA v (runS M (hapL H i)))) (fun _ iv _=>len-(intOf iv).toNat)
  case atStart=>exact⟨0,_,_,_,_,_,_,_,Nat.zero_le _,rfl,J0⟩
  case round =>
   clear J0;obtain⟨i,a0,c0,a1,c1,PVi,KVi,UVi,hi,rfl,J⟩:=hrel;by_cases hlt:i<len
   ·have hii:(i:Int)<(len:Int):=by omega
    obtain⟨bl,off,rfl,hbl,⟨x0,x1,x2,x3,x4,x5,x6⟩,hat⟩:=(HS.out.up J.out.below).at hlt;obtain⟨z5,z6,z7,z8,z9,hat0⟩:=HS.out.at hlt;have HAt:=hid hat;have HAt0:=hid hat0;obtain⟨⟨avd,cvd,hvd,z1,z2⟩,⟨avp,cvp,hvp,z3,z4⟩⟩:=hat;clear z1 z2 z3 z4 hat0 z7 z8 z9;rw[hvd]at x3 HAt HAt0;rw[hvp]at x4 HAt HAt0;obtain⟨x,hx⟩:∃x,H i=x:=⟨_,rfl⟩;obtain⟨Q,hQ⟩:∃Q,runM M (hapL H i)=Q:=⟨_,rfl⟩;obtain⟨S,hS⟩:∃S,runS M (hapL H i)=S:=⟨_,rfl⟩;rw[hx]at x0 x1 x2 x3 x4 x5 x6 HAt HAt0;rw[hQ,hS]at J;have HQR:Hid (MeshR Q.n Q.b Q.np Q.P):=by
     have h9:msE Q=0:=by rw[←hQ];exact run_right _ HRT.out
     exact meshR_of h9
    have HNx:Hid (runM M (hapL H (i+1))=stepM Q x):=by
     show _=_;rw[runM_next,hQ,hx]
    have HSn:Hid (runS M (hapL H (i+1))=S++[happE Q x]):=by
     show _=_;rw[runS_next,hQ,hx,hS]
    have HSl:Hid (S.length=i):=by
     show _=_;rw[←hS,runS_len,hapL_len]
    clear hx hQ hS hvd hvp;have hb1:=below_alloc wr (.cells #[.int .i64 0,.int .i64 0,.int .i64 0,.slice none 0 0,.slice none 0 0,.int .i64 0,.int .i64 0] 30);have k0:=heap_alloc_new wr (.cells #[.int .i64 0,.int .i64 0,.int .i64 0,.slice none 0 0,.slice none 0 0,.int .i64 0,.int .i64 0] 30);obtain⟨V2,hV2⟩:∃v,World.alloc wr (.cells #[.int .i64 0,.int .i64 0,.int .i64 0,.slice none 0 0,.slice none 0 0,.int .i64 0,.int .i64 0] 30)=v:=⟨_,rfl⟩;rw[hV2]at hb1 k0;have hb2:Below wr.heap.size wr (put7 V2 wr.heap.size (.int .i64 x.kd) (.int .i64 x.N) (.int .i64 x.M) (.slice avd x.len cvd) (.slice avp x.lp cvp) (.int .i64 x.need) (.int .i64 x.of)):=put7_below hb1 (Nat.le_refl _);obtain⟨g11,hg11⟩:∃g,wr.heap.size=g:=⟨_,rfl⟩;rw[hg11]at k0
    rw[show put7 V2 wr.heap.size (.int .i64 x.kd) (.int .i64 x.N) (.int .i64 x.M) (.slice avd x.len cvd) (.slice avp x.lp cvp) (.int .i64 x.need) (.int .i64 x.of)=put7 V2 g11 (.int .i64 x.kd) (.int .i64 x.N) (.int .i64 x.M) (.slice avd x.len cvd) (.slice avp x.lp cvp) (.int .i64 x.need) (.int .i64 x.of) by rw[hg11]]at hb2;have kx:=put7_whole k0 (.int .i64 x.kd) (.int .i64 x.N) (.int .i64 x.M) (.slice avd x.len cvd) (.slice avp x.lp cvp) (.int .i64 x.need) (.int .i64 x.of);obtain⟨p0,p1,p2,p3,p4,p5,p6⟩:=seven_at k0;have r0:=frozen_at (i:=0) k0;have r1:=frozen_at (i:=1) k0;have r2:=frozen_at (i:=2) k0;have r3:=frozen_at (i:=3) k0;have r4:=frozen_at (i:=4) k0;have r5:=frozen_at (i:=5) k0;have r6:=frozen_at (i:=6) k0
    obtain⟨Y2,hY2⟩:∃y,put7 V2 g11 (.int .i64 x.kd) (.int .i64 x.N) (.int .i64 x.M) (.slice avd x.len cvd) (.slice avp x.lp cvp) (.int .i64 x.need) (.int .i64 x.of)=y:=⟨_,rfl⟩;rw[hY2]at hb2 kx;unfold put7 at hY2;replace J:=hid (J.out.up hb2);replace HAt:=hid (HAt.out.up hb2);obtain⟨y0,y1,y2,y3,y4,y5,y6⟩:=seven_at kx;obtain⟨q0,q1⟩:=two_at J.out.made;have CH:=hid (happened_anyO (fun s=>u9.ownBlock=some s) _ Q.n PVi Q.b _ Q.np KVi UVi Q.P x _ _ Y2 J.out.ver J.out.ps HAt.out HQR.out (fun s _ hs=>(J.out.off s hs).1) (fun s _ hs=>offB_isl HAt0.out.2 (by have h1:=(J.out.own.lt s hs).1;have h2:=J.out.ge.2.1;omega)));obtain⟨e9,he9⟩:∃c,happE Q x=c:=⟨_,rfl⟩;rw[show happE ⟨Q.n,Q.b,Q.np,Q.P⟩ x=e9 from he9]at CH;rw[he9]at HSn;have HE9:=hid he9;unfold meshV hapV at CH;clear hb1 k0 hb2 kx he9;go_wp2_with fail
    refine Calls.mono CH.out ?_;rintro e u5 hM;obtain⟨hb,vb5,vl5,n5,np5,PV5,KV5,UV5,rfl,hn5,hp5,hv9,hl9,hmo⟩:=(show MeshPostO _ _ _ _ _ _ _ _ _ from hM);obtain⟨a5,c5,rfl,z1,z2⟩:=id hv9;clear z1 z2;obtain⟨l5,d5,rfl,z1,z2⟩:=id hl9;clear z1 z2;have HSz:=hid (J.out.own.lt);have HMO:=hid hmo;have HN5:=hid hn5;have HP5:=hid hp5;clear hM hmo hn5 hp5 CH y0 y1 y2 y3 y4 y5 y6 q0 q1 p0 p1 p2 p3 p4 p5 p6 r0 r1 r2 r3 r4 r5 r6 x0 x1 x2 x3 x4 x5 x6 hV2 hY2 hbl hg11;replace J:=hid (J.out.up hb);clear hb;unfold meshV;have hb1:=below_alloc u5 (.cells #[.slice none 0 0,.slice none 0 0] 27);have k0:=heap_alloc_new u5 (.cells #[.slice none 0 0,.slice none 0 0] 27);replace hv9:=hv9.up hb1;replace hl9:=hl9.up hb1;obtain⟨V5,hV5⟩:∃v,World.alloc u5 (.cells #[.slice none 0 0,.slice none 0 0] 27)=v:=⟨_,rfl⟩;rw[hV5]at k0 hv9 hl9 hb1
    have hb2:Below u5.heap.size u5 (put2 V5 u5.heap.size (.slice a5 n5 c5) (.slice l5 np5 d5)):=put2_below hb1 (Nat.le_refl _);obtain⟨g12,hg12⟩:∃g,u5.heap.size=g:=⟨_,rfl⟩;rw[hg12]at k0;rw[show put2 V5 u5.heap.size (.slice a5 n5 c5) (.slice l5 np5 d5)=put2 V5 g12 (.slice a5 n5 c5) (.slice l5 np5 d5) by rw[hg12]]at hb2;have bx:MsAt (put2 V5 g12 (.slice a5 n5 c5) (.slice l5 np5 d5)) g12 _ _ _ _ _ _ _ _ _ _ _:=⟨put2_whole k0 _ _,ve_put2 k0 hv9 _,ps_put2 k0 hl9 _ _⟩;obtain⟨q0,q1⟩:=two_at k0;have f0:=frozen_at (i:=0) k0;have f1:=frozen_at (i:=1) k0;have KB:=hid k0;obtain⟨Y5,hY5⟩:∃y,put2 V5 g12 (.slice a5 n5 c5) (.slice l5 np5 d5)=y:=⟨_,rfl⟩;rw[hY5]at hb2 bx;unfold put2 at hY5;replace J:=hid (J.out.up hb2);have X5:=hid bx;clear hb1 hb2 k0 hv9 hl9 bx KB;obtain⟨s0,s1⟩:=X5.out.cells;obtain⟨t0,t1⟩:=two_at J.out.made
    have tf0:=frozen_at (i:=0) J.out.made;have tf1:=frozen_at (i:=1) J.out.made;by_cases h9:e9=0
    ·subst h9
     have en:n5=(happM Q x).n:=by have:=HN5.out;rw[if_pos rfl]at this;exact this
     have ep:np5=(happM Q x).np:=by have:=HP5.out;rw[if_pos rfl]at this;exact this
     subst en ep;have hst:Hid (stepM Q x=happM Q x):=by
      show _=_;unfold stepM;rw[if_pos HE9.out]
     have J6:=hid (J.out.next (Q':=happM Q x) X5.out.2.1 X5.out.2.2 (fun s hs=>HMO.out s (HSz.out s hs).2 hs));obtain⟨Y6,hY6⟩:∃y,put2 Y5 gx (.slice a5 (happM Q x).n c5) (.slice l5 (happM Q x).np d5)=y:=⟨_,rfl⟩;rw[hY6]at J6;unfold put2 at hY6;clear J;have J:=J6;clear J6;have hb1:=below_alloc Y6 (.cells #[.int .i64 0] 31);have k0:=heap_alloc_new Y6 (.cells #[.int .i64 0] 31);obtain⟨V7,hV7⟩:∃v,World.alloc Y6 (.cells #[.int .i64 0] 31)=v:=⟨_,rfl⟩;obtain⟨g7,hg7⟩:∃g,Y6.heap.size=g:=⟨_,rfl⟩;rw[hV7]at hb1 k0;rw[hg7]at k0;replace J:=hid (J.out.up hb1);have KN:=hid k0;clear hb1 k0
     go_wp2_with(at_builtin;go_must(refine wpList_append_own_at _ rfl (.tmp 67) (.tmp 69) 46 rfl base 31 ie (.int .i64 0) 1 8 Tryz.underlying46 hie hez0 hez1 hez2 rfl (by decide) u9 S.length _ rfl J.out.own ⟨g7,0,none⟩ 1 1 [.int .i64 0] rfl rfl (one_news KN.out) (oneCell _) (by have:=HSl.out;unfold maxLen;omega) (by have:=HSl.out;omega) J.out.ge.2.2.2.2.1 ?_;intro v9 w9 ho9 hg9 _ hat9;have J9:=hid (J.out.grow hg9 ho9 hat9);clear ho9 hg9 hat9))
     go_roundw
     case rel=>exact⟨i+1,_,_,_,_,_,_,_,by omega,by go_num,by rw[HNx.out,HSn.out,hst.out];exact J9⟩
     case measure=>simp only[intOf];omega
    have hcb:(e9==0)=false:=by simpa using h9
    have hst:Hid (stepM Q x=Q):=by
     show _=_;unfold stepM;rw[HE9.out,if_neg h9]
    clear t0 t1 tf0 tf1;have hb1:=below_alloc Y5 (.cells #[.int .i64 e9] 31);have k0:=heap_alloc_new Y5 (.cells #[.int .i64 e9] 31);obtain⟨V7,hV7⟩:∃v,World.alloc Y5 (.cells #[.int .i64 e9] 31)=v:=⟨_,rfl⟩;obtain⟨g7,hg7⟩:∃g,Y5.heap.size=g:=⟨_,rfl⟩;rw[hV7]at hb1 k0;rw[hg7]at k0;replace J:=hid (J.out.up hb1);have KN:=hid k0;clear hb1 k0;go_wp2_with(at_builtin;go_must(refine wpList_append_own_at _ rfl (.tmp 67) (.tmp 69) 46 rfl base 31 ie (.int .i64 0) 1 8 Tryz.underlying46 hie hez0 hez1 hez2 rfl (by decide) u9 S.length _ rfl J.out.own ⟨g7,0,none⟩ 1 1 [.int .i64 e9] rfl rfl (one_news KN.out) (oneCell _) (by have:=HSl.out;unfold maxLen;omega) (by have:=HSl.out;omega) J.out.ge.2.2.2.2.1 ?_;intro v9 w9 ho9 hg9 _ hat9;have J9:=hid (J.out.grow hg9 ho9 hat9);clear ho9 hg9 hat9))
    go_roundw
    case rel=>exact⟨i+1,_,_,_,_,_,_,_,by omega,by go_num,by rw[HNx.out,HSn.out,hst.out];exact J9⟩
    case measure=>simp only[intOf];omega
   have hie':i=len:=by omega
   subst hie';have EM:Hid (runM M (hapL H i)=mA):=by
    show _=_;rw[←HMA.out,HMM.out]
   have ES:Hid (runS M (hapL H i)=sA):=by
    show _=_;rw[←HSA.out,HMM.out]
   rw[EM.out,ES.out]at J;obtain⟨q0,q1⟩:=two_at J.out.made;obtain⟨d0,d1⟩:=two_at J.out.ymade;have hsl:sA.length=i:=by rw[←ES.out,runS_len,hapL_len]
   have HSL:=hid hsl;clear hsl;have CE:=hid (equal_errs J.out.said (errs_isl J.out.own (by have:=HSL.out;omega)));rw[eqB_self]at CE;go_wp2_with fail
   refine Calls.mono CE.out ?_;rintro e u6 ⟨rfl,hb⟩;replace J:=hid (J.out.up hb);clear hb CE q0 q1 d0 d1;obtain⟨q0,q1⟩:=two_at J.out.made;obtain⟨d0,d1⟩:=two_at J.out.ymade;have CS:=hid (sameMesh_any J.out.yver J.out.yps J.out.ver J.out.ps);rw[meshB_self]at CS;unfold meshV at CS;go_wp2_with fail
   refine Calls.mono CS.out ?_;rintro e u7 ⟨rfl,hb⟩;replace J:=hid (J.out.up hb);clear hb CS q0 q1 d0 d1;go_wp2;go_ret;exact⟨rfl,J.out.below⟩
 ·obtain⟨bad,hbad⟩:∃c,peersE n b np P=c:=⟨_,rfl⟩
  have hre:er=if bad=0 then(if len≤100 then 0 else 1)else bad:=by
   rw[←HER.out];unfold runE;rw[show msE ⟨n,b,np,P⟩=bad from hbad]
  have HBad:=hid hbad;clear hbad;by_cases hb0:bad=0
  ·subst hb0
   have hlg:¬len≤100:=fun hh=>h0 (by rw[hre,if_pos rfl,if_pos hh]);have he1:er=1:=by rw[hre,if_pos rfl,if_neg hlg]
   subst he1;have hgt:(len:Int)>100:=by omega
   clear hre hlg HER;go_enter Tryz.func6,Tryz.ntmps6;go_wp2_with fail
   refine Calls.mono CD.out ?_;rintro e u1 hM;obtain⟨hb,ay,cy,ly,dy,so,co,rfl⟩:=run_zero hM h0;clear hM CD c0 c1 hU hgx HS1 h0;have hv9:=ve_none u1 ay cy PV b;have hl9:=ps_none u1 ly dy KV UV P;have hb1:=below_alloc u1 (.cells #[.slice none 0 0,.slice none 0 0] 27);have k0:=heap_alloc_new u1 (.cells #[.slice none 0 0,.slice none 0 0] 27);replace hv9:=hv9.up hb1;replace hl9:=hl9.up hb1;obtain⟨V1,hV1⟩:∃v,World.alloc u1 (.cells #[.slice none 0 0,.slice none 0 0] 27)=v:=⟨_,rfl⟩;rw[hV1]at k0 hv9 hl9 hb1;have hb2:Below u1.heap.size u1 (put2 V1 u1.heap.size (.slice ay 0 cy) (.slice ly 0 dy)):=put2_below hb1 (Nat.le_refl _);obtain⟨gy,hgy⟩:∃g,u1.heap.size=g:=⟨_,rfl⟩;rw[hgy]at k0;rw[show put2 V1 u1.heap.size (.slice ay 0 cy) (.slice ly 0 dy)=put2 V1 gy (.slice ay 0 cy) (.slice ly 0 dy) by rw[hgy]]at hb2
   have bx:MsAt (put2 V1 gy (.slice ay 0 cy) (.slice ly 0 dy)) gy _ _ _ _ _ _ _ _ _ _ _:=⟨put2_whole k0 _ _,ve_put2 k0 hv9 _,ps_put2 k0 hl9 _ _⟩;obtain⟨q0,q1⟩:=two_at k0;have f0:=frozen_at (i:=0) k0;have f1:=frozen_at (i:=1) k0;have KB:=hid k0;obtain⟨Y1,hY1⟩:∃y,put2 V1 gy (.slice ay 0 cy) (.slice ly 0 dy)=y:=⟨_,rfl⟩;rw[hY1]at hb2 bx;unfold put2 at hY1;replace hb:=hb.trans (hb2.mono hb.size);have X0:=hid (A1.out.up hb);have Y0:=hid bx;have HB1:=hid (HB.out.trans (hb.mono HB.out.size));clear hb hb1 hb2 k0 hv9 hl9 bx KB A1;obtain⟨c0,c1⟩:=X0.out.cells;have CK:=hid (checkMesh_any _ n PV b _ np KV UV P Y1 X0.out.2.1 X0.out.2.2);rw[HBad.out]at CK;unfold meshV at CK;go_wp2_with fail
   refine Calls.mono CK.out ?_;rintro e u2 ⟨rfl,hb⟩;clear q0 q1 f0 f1 hV1 hY1 hgy CK c0 c1;replace Y0:=hid (Y0.out.up hb);replace HB1:=hid (HB1.out.trans (hb.mono HB1.out.size));clear hb;go_wp2_with fail
   refine Calls.mono (HJ.out _) ?_;rintro e u3 ⟨rfl,hb⟩;replace Y0:=hid (Y0.out.up hb);replace HB1:=hid (HB1.out.trans (hb.mono HB1.out.size));clear hb;go_wp2_with fail
   refine Calls.mono (HJ.out _) ?_;rintro e u4 ⟨rfl,hb⟩;replace Y0:=hid (Y0.out.up hb);replace HB1:=hid (HB1.out.trans (hb.mono HB1.out.size));clear hb;obtain⟨d0,d1⟩:=Y0.out.cells;have CS:=hid (sameMesh_any Y0.out.2.1 Y0.out.2.2 (ve_none u4 none 0 PV b) (ps_none u4 none 0 KV UV P));rw[meshB_self]at CS;unfold meshV at CS;go_wp2_with fail
   refine Calls.mono CS.out ?_;rintro e u5 ⟨rfl,hb⟩;replace HB1:=hid (HB1.out.trans (hb.mono HB1.out.size));clear hb CS d0 d1;go_wp2;go_ret;exact⟨rfl,HB1.out⟩
  have he1:er=bad:=by rw[hre,if_neg hb0]
  subst he1;have hc1:(er==0)=false:=by simpa using hb0
  have hc2:(er != 0)=true:=by simpa using hb0
  clear hre HER hb0;go_enter Tryz.func6,Tryz.ntmps6;go_wp2_with fail
  refine Calls.mono CD.out ?_;rintro e u1 hM;obtain⟨hb,ay,cy,ly,dy,so,co,rfl⟩:=run_zero hM h0;clear hM CD c0 c1 hU hgx HS1 h0;have hv9:=ve_none u1 ay cy PV b;have hl9:=ps_none u1 ly dy KV UV P;have hb1:=below_alloc u1 (.cells #[.slice none 0 0,.slice none 0 0] 27);have k0:=heap_alloc_new u1 (.cells #[.slice none 0 0,.slice none 0 0] 27);replace hv9:=hv9.up hb1;replace hl9:=hl9.up hb1;obtain⟨V1,hV1⟩:∃v,World.alloc u1 (.cells #[.slice none 0 0,.slice none 0 0] 27)=v:=⟨_,rfl⟩;rw[hV1]at k0 hv9 hl9 hb1;have hb2:Below u1.heap.size u1 (put2 V1 u1.heap.size (.slice ay 0 cy) (.slice ly 0 dy)):=put2_below hb1 (Nat.le_refl _);obtain⟨gy,hgy⟩:∃g,u1.heap.size=g:=⟨_,rfl⟩;rw[hgy]at k0;rw[show put2 V1 u1.heap.size (.slice ay 0 cy) (.slice ly 0 dy)=put2 V1 gy (.slice ay 0 cy) (.slice ly 0 dy) by rw[hgy]]at hb2
  have bx:MsAt (put2 V1 gy (.slice ay 0 cy) (.slice ly 0 dy)) gy _ _ _ _ _ _ _ _ _ _ _:=⟨put2_whole k0 _ _,ve_put2 k0 hv9 _,ps_put2 k0 hl9 _ _⟩;obtain⟨q0,q1⟩:=two_at k0;have f0:=frozen_at (i:=0) k0;have f1:=frozen_at (i:=1) k0;have KB:=hid k0;obtain⟨Y1,hY1⟩:∃y,put2 V1 gy (.slice ay 0 cy) (.slice ly 0 dy)=y:=⟨_,rfl⟩;rw[hY1]at hb2 bx;unfold put2 at hY1;replace hb:=hb.trans (hb2.mono hb.size);have X0:=hid (A1.out.up hb);have Y0:=hid bx;have HB1:=hid (HB.out.trans (hb.mono HB.out.size));clear hb hb1 hb2 k0 hv9 hl9 bx KB A1;obtain⟨c0,c1⟩:=X0.out.cells;have CK:=hid (checkMesh_any _ n PV b _ np KV UV P Y1 X0.out.2.1 X0.out.2.2);rw[HBad.out]at CK;unfold meshV at CK;go_wp2_with fail
  refine Calls.mono CK.out ?_;rintro e u2 ⟨rfl,hb⟩;clear q0 q1 f0 f1 hV1 hY1 hgy CK c0 c1;replace Y0:=hid (Y0.out.up hb);replace HB1:=hid (HB1.out.trans (hb.mono HB1.out.size));clear hb;go_wp2_with fail
  refine Calls.mono (HJ.out _) ?_;rintro e u3 ⟨rfl,hb⟩;replace Y0:=hid (Y0.out.up hb);replace HB1:=hid (HB1.out.trans (hb.mono HB1.out.size));clear hb;go_wp2_with fail
  refine Calls.mono (HJ.out _) ?_;rintro e u4 ⟨rfl,hb⟩;replace Y0:=hid (Y0.out.up hb);replace HB1:=hid (HB1.out.trans (hb.mono HB1.out.size));clear hb;obtain⟨d0,d1⟩:=Y0.out.cells;have CS:=hid (sameMesh_any Y0.out.2.1 Y0.out.2.2 (ve_none u4 none 0 PV b) (ps_none u4 none 0 KV UV P));rw[meshB_self]at CS;unfold meshV at CS;go_wp2_with fail
  refine Calls.mono CS.out ?_;rintro e u5 ⟨rfl,hb⟩;replace HB1:=hid (HB1.out.trans (hb.mono HB1.out.size));clear hb CS d0 d1;go_wp2;go_ret;exact⟨rfl,HB1.out⟩
section
variable {H : Type} {enc : TypeId × Value → H} {W : World}
theorem Tryz.cellsInts:Tryz.prog.cellsOf 28=1:=by kernel_rfl
theorem Tryz.cellsPlan:Tryz.prog.cellsOf 59=3:=by kernel_rfl
theorem agg_of{v:Value}{n:Nat}(hn:n≠1)(h:v.cells.toList.length=n):v=.agg v.cells:=by
 cases v<;>first|rfl|(simp[Value.cells]at h;omega)
theorem isl_cell{fuel:Nat}{cs:List Value}{x:DataW H×List MemPlace}(h:DataW.trod enc Tryz.prog W 0 (fun _=>true) true fuel 28 cs=some x)(hs:∀y∈x.1.weights Tryz.prog 28,y≤reachBytes):
 ∃a len cap X,cs=[.slice a len cap]∧SlArg W a len cap X:=by
 have key:∃a len cap,cs=[.slice a len cap]:=by
  rcases open_ints Tryz.underlying28 Tryz.underlying3 Tryz.cellsInt h with⟨hcs,_⟩|⟨x,l,c,zs,hcs,_⟩;·exact⟨_,_,_,hcs⟩
  exact⟨_,_,_,hcs⟩
 obtain⟨a,len,cap,rfl⟩:=key
 obtain⟨X,hX⟩:=slArg_open (enc:=enc) (W:=W) (a:=a) (len:=len) (cap:=cap) (d:=x.1) (p:=x.2) Tryz.underlying28 ⟨fuel,by simpa[Value.cells]using h⟩ (fun elems spare hd=>by
  refine hs _ ?_;rw[hd];simp[DataW.weights,Tryz.underlying28])
 exact⟨a,len,cap,X,rfl,hX⟩
theorem weightsAll_mem{P:Program}{e:TypeId}{l:List (DataW H)}{d:DataW H}(h:d∈l){y:Nat}(hy:y∈d.weights P e):y∈DataW.weightsAll P e l:=by
 induction l with
 |nil=>cases h
 |cons x l ih =>
  simp only[DataW.weightsAll,List.mem_append];rcases List.mem_cons.1 h with rfl|h;·exact Or.inl hy
  exact Or.inr (ih h)
end
section
variable {H : Type} {enc : TypeId × Value → H} {W : World}
theorem Tryz.cellsVer:Tryz.prog.cellsOf 61=4:=by kernel_rfl
theorem Tryz.cellsVers:Tryz.prog.cellsOf 22=1:=by kernel_rfl
theorem Tryz.cellsBook:Tryz.prog.cellsOf 24=1:=by kernel_rfl
theorem Tryz.bytesVer:Tryz.prog.bytesOf 61=48:=by kernel_rfl
theorem plan_cells{fuel:Nat}{cs:List Value}{x:DataW H×List MemPlace}(h:DataW.trod enc Tryz.prog W 0 (fun _=>true) true fuel 59 cs=some x):
 ∃nd of sz:Int,cs=[.int .i64 nd,.int .i64 of,.int .i64 sz]:=by
 obtain⟨y0,y1,y2,n,hx,hl,h0,h1,h2⟩:=trod_struct3 Tryz.underlying59 h
 rw[Tryz.cellsPlan]at hl
 rw[Tryz.cellsInt]at h0 h1 h2
 obtain⟨a,e0,_,b0⟩:=DataW.trod_int Tryz.underlying3 h0
 obtain⟨b,e1,_,b1⟩:=DataW.trod_int Tryz.underlying3 h1
 obtain⟨c,e2,_,b2⟩:=DataW.trod_int Tryz.underlying3 h2
 refine⟨a,b,c,?_⟩
 match cs,hl with
 |[u0,u1,u2],_ =>
  simp at e0 e1 e2;subst e0 e1 e2;rfl
theorem ver_cells{fuel:Nat}{cs:List Value}{x:DataW H×List MemPlace}(h:DataW.trod enc Tryz.prog W 0 (fun _=>true) true fuel 61 cs=some x)(hs:∀y∈x.1.weights Tryz.prog 61,y≤reachBytes):
 ∃(a:Option Addr) (len cap:Nat) (X:Nat→Int) (nd of sz:Int),cs=[.slice a len cap,.int .i64 nd,.int .i64 of,.int .i64 sz]∧SlArg W a len cap X:=by
 obtain⟨y0,y1,n,hx,hl,h0,h1⟩:=trod_struct2 Tryz.underlying61 h
 rw[Tryz.cellsVer]at hl
 rw[Tryz.cellsInts]at h0
 rw[Tryz.cellsPlan]at h1
 have hd:x.1=.agg [y0.1,y1.1]:=congrArg Prod.fst hx
 obtain⟨a,len,cap,X,e0,hX⟩:=isl_cell h0 (fun y hy=>hs y (by
  rw[hd];simp only[DataW.weights,Tryz.underlying61,List.map_cons,List.map_nil,DataW.weightsEach,List.mem_append];exact Or.inl hy))
 obtain⟨nd,of,sz,e1⟩:=plan_cells h1
 refine⟨a,len,cap,X,nd,of,sz,?_,hX⟩
 match cs,hl with
 |[u0,u1,u2,u3],_ =>
  simp at e0 e1;obtain⟨rfl,rfl,rfl⟩:=e1;subst e0;rfl
theorem vers_cell{fuel:Nat}{cs:List Value}{x:DataW H×List MemPlace}(h:DataW.trod enc Tryz.prog W 0 (fun _=>true) true fuel 22 cs=some x)(hs:∀y∈x.1.weights Tryz.prog 22,y≤reachBytes):
 ∃v n PV b,cs=[v]∧VeSl W W.heap.size v n PV b:=by
 rcases open_slice Tryz.underlying22 h with⟨hcs,_⟩|⟨ad,len,cap,m,n,D,Pl,hcs,_,hl,hm,hmm,hx,hall⟩
 ·exact⟨_,0,fun _=>undef,⟨fun _=>0,fun _ _=>0,fun _=>0,fun _=>0,fun _=>0⟩,hcs,none,0,rfl,⟨Nat.le_refl _,by omega⟩,Or.inl rfl⟩
 ·simp only[if_true]at hmm
  subst hmm;have hd:x.1=.slice ((List.range len).map D) ((List.range (m-len)).map fun j=>D (len+j)):=congrArg Prod.fst hx;rw[Tryz.cellsVer]at hall;have each:∀i,i<len→∃q:Value×Nat×(Nat→Int)×Int×Int×Int,W.cell? (Addr.add ad (i*4))=some q.1∧W.cell? (Addr.add ad (i*4+1))=some (.int .i64 q.2.2.2.1)∧W.cell? (Addr.add ad (i*4+2))=some (.int .i64 q.2.2.2.2.1)∧W.cell? (Addr.add ad (i*4+3))=some (.int .i64 q.2.2.2.2.2)∧IntSl W W.heap.size q.1 q.2.1 q.2.2.1:=by
   intro i hi;obtain⟨cs',h1,h2⟩:=hall i (by omega);obtain⟨_,_,hcell⟩:=World.cells?_some h1;obtain⟨a1,l1,c1,X1,nd,of,sz,e,hX⟩:=ver_cells h2 (fun y hy=>hs y (by
    rw[hd];simp only[DataW.weights,Tryz.underlying22,List.mem_cons,List.mem_append];exact Or.inr (Or.inl (weightsAll_mem (d:=D i) (List.mem_map.2 ⟨i,List.mem_range.2 hi,rfl⟩) hy))))
   subst e;have e0:=hcell 0 (by omega);have e1:=hcell 1 (by omega);have e2:=hcell 2 (by omega);have e3:=hcell 3 (by omega);rw[add_add]at e0 e1 e2 e3;exact⟨⟨.slice a1 l1 c1,l1,X1,nd,of,sz⟩,e0,e1,e2,e3,hX.isl⟩
  obtain⟨q,hq⟩:=choose_lt each;have hr:(len+(m-len))*48≤140737488351232:=by
   have h1:=hs ((len+(m-len))*Tryz.prog.bytesOf 61) (by
    rw[hd];simp[DataW.weights,Tryz.underlying22])
   rw[Tryz.bytesVer]at h1;simpa[reachBytes]using h1
  refine⟨_,len,fun i=>(q i).1,⟨fun i=>(q i).2.1,fun i=>(q i).2.2.1,fun i=>(q i).2.2.2.1,fun i=>(q i).2.2.2.2.1,fun i=>(q i).2.2.2.2.2⟩,hcs,some ad,m,rfl,⟨hl,by omega⟩,?_⟩;by_cases h0:len=0;·exact Or.inl h0
  obtain⟨b,off,spot⟩:=ad;have hspot:spot=none:=by simpa[Addr.add]using World.cell?_spot (hq 0 (by omega)).1
  subst hspot;refine Or.inr ⟨b,off,rfl,?_,fun j hj=>?_⟩
  ·have h1:=cell_lt (hq 0 (by omega)).1
   simpa[Addr.add]using h1
  obtain⟨c0,c1,c2,c3,hi⟩:=hq j hj;rw[Go.WideShapes.add_plain]at c0 c1 c2 c3;exact⟨c0,by simpa[Nat.add_assoc]using c1,by simpa[Nat.add_assoc]using c2,by simpa[Nat.add_assoc]using c3,hi⟩
end
end Go.Proofs.YtajmnlhfnhbleaaGreat
